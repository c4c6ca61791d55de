/- What is proved here: the contracts of the laws' given and told (disk): a disk as the other package has it. Condition: at most 1000 files of at most 100000 writes. -/
import Derived.Test.YtpipgbjkkiheaaaMN10
import Derived.Test.YtpipgbjkkiheaaaR10p
namespace Go.Proofs.Ytpipgbjkkiheaaa.Gf
open Go Go.Joins Go.ChangeShapes Go.WideShapes Go.ChangeAt Go.RowKit Go.Deep Go.Proofs.Ytpipgbjkkiheaaa.By Go.Proofs.Ytpipgbjkkiheaaa.Qt

theorem takeW {p : List Wr} {k : Nat} (h : k < p.length) : p.take (k + 1) = p.take k ++ [p.getD k wr0] := take_snocW h
theorem takeF {p : List Fl} {k : Nat} (h : k < p.length) : p.take (k + 1) = p.take k ++ [p.getD k fl0] := by
  rw [List.take_add_one, List.getElem?_eq_getElem h, List.getD_eq_getElem?_getD, List.getElem?_eq_getElem h]
  rfl
set_option maxRecDepth 100000 in
set_option maxHeartbeats 12800000 in
theorem given10_any {B : Nat → Prop} (v : Value) (d : Dk) (w : World) (hv : DvB B w v d) (hlen : d.2.2.length ≤ 1000) (hpl : PnD d 100000) : Calls Try.prog 17 #[v] w (DvO B w d) := by
  obtain ⟨fv, rfl, hr, sf⟩ := hv
  have SF := Lib.hid (rd_mono (C := fun q => B q ∧ q < w.heap.size) sf fun _ h h2 => ⟨h, h2⟩)
  have HR := Lib.hid hr
  obtain ⟨af, cf, rfl, -, -⟩ := rd_sl sf
  obtain ⟨cap, left, L⟩ := d
  have HPL : Hid (∀ f ∈ L, f.2.2.length ≤ 100000) := Lib.hid hpl
  dsimp only at SF HR hlen ⊢
  obtain ⟨n, hn⟩ : ∃ z, z = L.length := ⟨_, rfl⟩
  rw [← hn] at SF hlen ⊢
  have HN := Lib.hid hn
  have HLEN := Lib.hid hlen
  have A1 := bel_al0 w (.cells #[.int .i64 cap, .int .i64 left, .slice af n cf] 24)
  have BX := Lib.hid (btA A1 (bel_al0 _ (.cells #[.int .i64 0, .int .i64 0, .slice none 0 0] 33)))
  have HX := Lib.hid (show ((w.alloc (.cells #[.int .i64 cap, .int .i64 left, .slice af n cf] 24)).alloc (.cells #[.int .i64 0, .int .i64 0, .slice none 0 0] 33)).heap[w.heap.size]? = some (.cells #[.int .i64 cap, .int .i64 left, .slice af n cf] 24 (0, 0)) from (al_old (by simp)).trans (heap_alloc_new w _))
  have HY := Lib.hid (heap_alloc2_new w (.cells #[.int .i64 cap, .int .i64 left, .slice af n cf] 24) (.cells #[.int .i64 0, .int .i64 0, .slice none 0 0] 33))
  have HS1 := Lib.hid (show ((w.alloc (.cells #[.int .i64 cap, .int .i64 left, .slice af n cf] 24)).alloc (.cells #[.int .i64 0, .int .i64 0, .slice none 0 0] 33)).heap.size = w.heap.size + 2 by simp)
  clear sf hr A1 hn hlen hpl
  go_enter Try.func17, Try.ntmps17
  go_upto_region 1 with fail
  generalize ((w.alloc (.cells #[.int .i64 cap, .int .i64 left, .slice af n cf] 24)).alloc (.cells #[.int .i64 0, .int .i64 0, .slice none 0 0] 33)) = W1 at *
  obtain ⟨x0, x1, x2⟩ := box3c HX.out
  go_upto_region 2 with fail
  clear x0 x1 x2
  have q3 := bel_al0 W1 (.cells #[.int .i64 cap, .int .i64 left, .slice none 0 0] 33)
  have HO3 := Lib.hid (heap_alloc_new W1 (.cells #[.int .i64 cap, .int .i64 left, .slice none 0 0] 33))
  have HX3 := Lib.hid ((q3.block _ (lt_of_some0 HX.out)).trans HX.out)
  have HY3 := Lib.hid ((q3.block _ (lt_of_some0 HY.out)).trans HY.out)
  have B3 := Lib.hid (btA BX.out q3)
  clear q3 HX HY BX
  rw [HS1.out] at HO3 ⊢
  generalize W1.alloc (.cells #[.int .i64 cap, .int .i64 left, .slice none 0 0] 33) = W3 at *
  clear HS1 W1
  obtain ⟨x0, x1, x2⟩ := box3c HX3.out
  go_wp2_with fail
  clear x0 x1 x2
  go_loopw [17] (fun t wr => ∃ (i : Nat) (ao : Option Addr) (co : Nat), i ≤ n ∧ t = .int .i64 (i : Int) ∧ Hid (wr.heap[w.heap.size + 2]? = some (.cells #[.int .i64 cap, .int .i64 left, .slice ao i co] 33 (0, 0))) ∧ Hid (OwG 59 tyF (fun q => (B q ∧ q < w.heap.size) ∨ w.heap.size + 3 ≤ q) wr (w.heap.size + 3) (.slice ao i co) (L.take i)) ∧ Hid (wr.heap[w.heap.size + 1]? = some (.cells #[.int .i64 0, .int .i64 0, .slice none 0 0] 33 (0, 0))) ∧ Hid (Below w.heap.size w wr)) (fun t _ => n - (intOf t).toNat)
  case atStart => exact ⟨0, none, 0, by omega, rfl, HO3, Lib.hid (og_nil _ _ _ _ _), HY3, B3⟩
  case round =>
    clear HO3 HY3 B3 HX3
    obtain ⟨i, ao, co, hi, rfl, HO, OO, HY, BB⟩ := hrel
    by_cases hlt : i < n
    case neg =>
      obtain rfl : i = n := by omega
      have l1 : decide ((i : Int) < (i : Int)) = false := decide_eq_false (by omega)
      have HT := Lib.hid (show L.take i = L by rw [List.take_of_length_le (by have := HN.out; omega)])
      rw [HT.out] at OO
      clear hlt hi
      obtain ⟨z0, z1, z2⟩ := box3c HO.out
      obtain ⟨y0, y1, y2⟩ := box3c HY.out
      have u0 := frozen_of_row wr (w.heap.size + 1) 0 _ _ HY.out
      have u1 := frozen_of_row wr (w.heap.size + 1) 1 _ _ HY.out
      have u2 := frozen_of_row wr (w.heap.size + 1) 2 _ _ HY.out
      go_wp2
      refine bodyPost_ret (results_cell_row Try.results17 _ _ (w.heap.size + 1) 33 _ (0, 0) _ rfl (set3c HY.out) Try.underlying33 rfl infoDi) rfl ?_
      exact ⟨⟨_, rfl, .slice ao i co, rfl, HR.out, rd_move (B := fun q => ((B q ∧ q < w.heap.size) ∨ w.heap.size + 3 ≤ q) ∨ w.heap.size + 3 ≤ q) (fun q hq _ => set3_other (by
        rcases hq with (hq | hq) | hq
        · have := hq.2; omega
        · omega
        · omega)) (fun q hq _ => by
        rcases hq with (hq | hq) | hq
        · exact Or.inl hq.1
        · exact Or.inr (by omega)
        · exact Or.inr (by omega)) (og_rdw OO.out)⟩, below_set3 BB.out (by omega)⟩
    have l1 : decide ((i : Int) < (n : Int)) = true := decide_eq_true (by omega)
    have hip : i < L.length := by have := HN.out; omega
    obtain ⟨b1, o1, bv, pv, rfl, -, k0, k1, k2, hsz, hbb, hpp⟩ := dv_at (rd_below SF.out BB.out) hip
    have HTF := Lib.hid (takeF hip)
    have HPX := Lib.hid (HPL.out (L.getD i fl0) (by rw [getD_F hip]; exact List.getElem_mem hip))
    generalize L.getD i fl0 = x at *
    obtain ⟨sa, xb, xp⟩ := x
    dsimp only at k0 k1 k2 hsz hbb hpp HPX
    obtain ⟨ab, cb, rfl, -, -⟩ := rd_sl hbb
    obtain ⟨ap, cp, rfl, -, -⟩ := rd_sl hpp
    have RB := Lib.hid hbb
    have RP := Lib.hid hpp
    have HSA := Lib.hid hsz
    obtain ⟨nb, hnb⟩ : ∃ z, z = xb.length := ⟨_, rfl⟩
    obtain ⟨np, hnp⟩ : ∃ z, z = xp.length := ⟨_, rfl⟩
    rw [← hnb] at k1 RB
    rw [← hnp] at k2 RP HPX
    have HNP := Lib.hid hnp
    have EW := Lib.hid (show wrap64 ((i : Int) + 1) = ((i + 1 : Nat) : Int) by have := HLEN.out; unfold wrap64; omega)
    have HI := Lib.hid hlt
    have p0 : (0 : Int) ≤ (i : Int) := by omega
    have p1 : (i : Int) < (n : Int) := by omega
    clear hip hsz hbb hpp hnb hnp hlt hi
    go_upto_region 5 with fail
    have q4 := bel_al0 wr (.cells #[.string sa, .slice ab nb cb, .slice ap np cp] 63)
    have HF4 := Lib.hid (heap_alloc_new wr (.cells #[.string sa, .slice ab nb cb, .slice ap np cp] 63))
    obtain ⟨f0, f1, f2⟩ := box3c HF4.out
    clear k0 k1 k2 p0 p1
    go_upto_region 6 with fail
    have q5 := bel_al0 (wr.alloc (.cells #[.string sa, .slice ab nb cb, .slice ap np cp] 63)) (.cells #[.string sa, .slice ab nb cb, .slice none 0 0] 59)
    have HX5 := Lib.hid (heap_alloc_new (wr.alloc (.cells #[.string sa, .slice ab nb cb, .slice ap np cp] 63)) (.cells #[.string sa, .slice ab nb cb, .slice none 0 0] 59))
    have HF5 := Lib.hid ((q5.block _ (lt_of_some0 HF4.out)).trans HF4.out)
    have q6 := btA q4 q5
    have LQ := Lib.hid (show (wr.alloc (.cells #[.string sa, .slice ab nb cb, .slice ap np cp] 63)).heap.size = wr.heap.size + 1 by simp)
    clear f0 f1 f2 q4 HF4 q5
    rw [LQ.out] at HX5
    have HO5 := Lib.hid ((q6.block _ (lt_of_some0 HO.out)).trans HO.out)
    have OO5 := Lib.hid (og_below (og_mono (C := fun q => ((B q ∧ q < w.heap.size) ∨ w.heap.size + 3 ≤ q) ∧ q < wr.heap.size) OO.out fun q hq hl => ⟨hq, hl⟩) q6)
    have HY5 := Lib.hid ((q6.block _ (lt_of_some0 HY.out)).trans HY.out)
    have RB5 := Lib.hid (rd_below RB.out q6)
    have RP5 := Lib.hid (rd_below RP.out q6)
    have B5 := Lib.hid (btA BB.out q6)
    have LO := Lib.hid (show w.heap.size + 3 ≤ wr.heap.size from lt_of_some0 HO.out)
    have LOW := Lib.hid (show ∀ k, (Value.slice ao i co).ownBlock = some k → k < wr.heap.size from fun k hk => (og_lt OO.out k hk).2)
    clear q6 LQ HO OO HY RB RP BB
    generalize (wr.alloc (.cells #[.string sa, .slice ab nb cb, .slice ap np cp] 63)).alloc (.cells #[.string sa, .slice ab nb cb, .slice none 0 0] 59) = W5 at *
    generalize wr.heap.size = gf at *
    obtain ⟨f0, f1, f2⟩ := box3c HF5.out
    go_wp2_with fail
    clear f0 f1 f2 HF5
    go_loopw [29] (fun t wl => ∃ (k : Nat) (ax : Option Addr) (cx : Nat), k ≤ np ∧ t = .int .i64 (k : Int) ∧ Hid (wl.heap[gf + 1]? = some (.cells #[.string sa, .slice ab nb cb, .slice ax k cx] 59 (0, 0))) ∧ Hid (OwG 96 tyW (fun q => (B q ∧ q < w.heap.size) ∨ gf + 2 ≤ q) wl (gf + 2) (.slice ax k cx) (xp.take k)) ∧ Hid (Below (gf + 1) W5 wl)) (fun t _ => np - (intOf t).toNat)
    case atStart => exact ⟨0, none, 0, by omega, rfl, HX5, Lib.hid (og_nil _ _ _ _ _), Lib.hid (Below.refl _ _)⟩
    case round =>
      clear HX5
      obtain ⟨k, ax, cx, hk, rfl, HXX, OX, BL⟩ := hrel
      have G5 := Lib.hid (show gf + 2 ≤ wr.heap.size from lt_of_some0 HXX.out)
      by_cases hkn : k < np
      case neg =>
        obtain rfl : k = np := by omega
        have l1 : decide ((k : Int) < (k : Int)) = false := decide_eq_false (by omega)
        have HT := Lib.hid (show xp.take k = xp by rw [List.take_of_length_le (by have := HNP.out; omega)])
        rw [HT.out] at OX
        have HO6 := Lib.hid ((BL.out.block _ (show w.heap.size + 2 < gf + 1 by have := LO.out; omega)).trans HO5.out)
        have HY6 := Lib.hid ((BL.out.block _ (show w.heap.size + 1 < gf + 1 by have := LO.out; omega)).trans HY5.out)
        have OO6 := Lib.hid (og_move (w' := wr) OO5.out fun q hq hl => BL.out.block q (by
          rcases hq with hq | hq
          · have := hq.2; omega
          · have := LOW.out q hq; omega))
        have RB6 := Lib.hid (rd_move (w' := wr) (fun q hq _ => BL.out.block q (by have := hq.2; have := LO.out; omega)) (fun q hq _ => hq) RB5.out)
        have RX6 := Lib.hid (rd_f_mk (B := fun q => (B q ∧ q < w.heap.size) ∨ gf + 2 ≤ q) (x := (sa, xb, xp)) HSA.out (rd_mono RB6.out fun q hq _ => Or.inl hq) (rd_mono (og_rdw OX.out) fun q hq _ => hq.elim id Or.inr))
        have B6 := Lib.hid (B5.out.trans (BL.out.mono (by have := LO.out; omega)))
        clear hk hkn HO5 HY5 OO5 RB5 RP5 B5 BL OX RB6
        obtain ⟨z0, z1, z2⟩ := box3c HO6.out
        obtain ⟨f0, f1, f2⟩ := box3c HXX.out
        have q7 := Lib.hid (bel_al0 wr (.cells #[.string sa, .slice ab nb cb, .slice ax k cx] 59))
        have SG7 := Lib.hid (rd_single (B := fun q => ((B q ∧ q < w.heap.size) ∨ gf + 2 ≤ q)) (rd_below RX6.out q7.out) (heap_alloc_new wr (.cells #[.string sa, .slice ab nb cb, .slice ax k cx] 59)) (Or.inr G5.out))
        have OO7 := Lib.hid (og_below OO6.out q7.out)
        have HO7 := Lib.hid ((q7.out.block _ (lt_of_some0 HO6.out)).trans HO6.out)
        have HLE7 : Hid ((L.take i).length + [(sa, xb, xp)].length ≤ 100000000) := Lib.hid (by have h1 := HLEN.out; have h2 := HI.out; rw [List.length_take]; simp only [List.length_cons, List.length_nil]; omega)
        have SY7 := Lib.hid (rd_mono (C := fun q => ((B q ∧ q < w.heap.size) ∨ w.heap.size + 3 ≤ q) ∧ (Value.slice ao i co).ownBlock ≠ some q) SG7.out fun q hq _ => ⟨hq.imp id (fun h => by have := LO.out; omega), fun e => by
          have h1 := LOW.out q e
          have h2 := (og_lt OO7.out q e).1
          rcases hq with hq | hq
          · have := hq.2; omega
          · omega⟩)
        have OO7b := Lib.hid (og_mono (C := fun q => (B q ∧ q < w.heap.size) ∨ w.heap.size + 3 ≤ q) OO7.out fun q hq _ => hq.1)
        have BS7 := Lib.hid (show w.heap.size + 3 ≤ (wr.alloc (.cells #[.string sa, .slice ab nb cb, .slice ax k cx] 59)).heap.size from by have h1 := q7.out.size; have h2 := LO.out; have h3 := G5.out; omega)
        go_upto_region 12 with (at_builtin; (refine app_g lsPF (dst := some 50) ?_ ?_ OO7b.out SY7.out HLE7.out BS7.out ?_; exact rfl; exact rfl; intro v9 w9 ho9 hg9 hat9; rw [← HTF.out] at ho9; have q9 := Lib.hid (below_grownG (Below.refl (w.heap.size + 3) _) hg9 OO7b.out BS7.out (Nat.le_refl _)); have HO9 := Lib.hid ((q9.out.block _ (show w.heap.size + 2 < w.heap.size + 3 by omega)).trans HO7.out); obtain ⟨a9, c9, rfl, -, -⟩ := og_form ho9; have hl9 := Lib.hid (show (L.take (i + 1)).length = i + 1 by rw [List.length_take]; have := HN.out; have := HI.out; omega); rw [hl9.out] at ho9 ⊢; have OO9 := Lib.hid ho9; obtain ⟨r0, r1, r2⟩ := box3c HO9.out; have v2 := frozen_of_row _ (w.heap.size + 2) 2 _ _ HO9.out; clear ho9 hg9 hat9))
        have HY9 := Lib.hid ((q9.out.block _ (show w.heap.size + 1 < w.heap.size + 3 by omega)).trans ((q7.out.block _ (lt_of_some0 HY6.out)).trans HY6.out))
        have B9 := Lib.hid ((btA B6.out q7.out).trans (q9.out.mono (by omega)))
        clear z0 z1 z2 f0 f1 f2 q7 SG7 OO7 HO7 HLE7 SY7 OO7b BS7 HO6 HY6 OO6 RX6 B6 HXX q9 r0 r1 r2 v2
        have HO10 := Lib.hid (show (w9.setCell ⟨w.heap.size + 2, 2, none⟩ (.slice a9 (i + 1) c9)).heap[w.heap.size + 2]? = some (.cells #[.int .i64 cap, .int .i64 left, .slice a9 (i + 1) c9] 33 (0, 0)) from (by simpa using heap_setCell_same w9 (w.heap.size + 2) 2 _ _ (.slice a9 (i + 1) c9) HO9.out))
        have HY10 := Lib.hid ((other1 (g := w.heap.size + 2) (o := 2) (v := .slice a9 (i + 1) c9) (by omega : w.heap.size + 1 ≠ w.heap.size + 2)).trans HY9.out)
        have B10 := Lib.hid (B9.out.setCell (p := ⟨w.heap.size + 2, 2, none⟩) (show w.heap.size ≤ w.heap.size + 2 by omega) (.slice a9 (i + 1) c9))
        have OO10 := Lib.hid (og_move (w' := w9.setCell ⟨w.heap.size + 2, 2, none⟩ (.slice a9 (i + 1) c9)) OO9.out fun q hq _ => other1 (by
          rcases hq with (hq | hq) | hq
          · have := hq.2; omega
          · omega
          · have := (og_lt OO9.out q hq).1; omega))
        clear HO9 HY9 B9 OO9
        generalize w9.setCell ⟨w.heap.size + 2, 2, none⟩ (.slice a9 (i + 1) c9) = W10 at *
        go_wp2
        go_roundw
        case rel =>
          have h1 := HI.out
          exact ⟨i + 1, a9, c9, by omega, by rw [EW.out], HO10, OO10, HY10, B10⟩
        case measure =>
          have h1 := HI.out
          rw [EW.out]
          simp [intOf]; omega
      have l1 : decide ((k : Int) < (np : Int)) = true := decide_eq_true (by omega)
      have hkp : k < xp.length := by have := HNP.out; omega
      have HTW := Lib.hid (takeW hkp)
      obtain ⟨b2, o2, c2, dv, hv2, k0, k1, k2, hyo, hd⟩ := rd_wat (rd_move (w' := wr) (fun q hq _ => BL.out.block q (by have := hq.2; have := LO.out; omega)) (fun q hq _ => hq) RP5.out) hkp
      obtain ⟨rfl, -, -⟩ : ap = some ⟨b2, o2, none⟩ ∧ np = xp.length ∧ cp = c2 := by simpa using hv2
      generalize xp.getD k wr0 = y at *
      obtain ⟨yo, yd, yc⟩ := y
      dsimp only at k0 k2 hd hyo
      obtain ⟨ad, cd, rfl, -, -⟩ := rd_sl hd
      generalize yd.length = nd at *
      have RD := Lib.hid hd
      have HYO := Lib.hid hyo
      have EK := Lib.hid (show wrap64 ((k : Int) + 1) = ((k + 1 : Nat) : Int) by have := HPX.out; unfold wrap64; omega)
      have HK := Lib.hid hkn
      have p0 : (0 : Int) ≤ (k : Int) := by omega
      have p1 : (k : Int) < (np : Int) := by omega
      clear hv2 hd hyo hkp hkn hk
      go_upto_region 9 with fail
      have q8 := bel_al0 wr (.cells #[.int .i64 yo, .slice ad nd cd, .bool yc] 94)
      have HH8 := Lib.hid (heap_alloc_new wr (.cells #[.int .i64 yo, .slice ad nd cd, .bool yc] 94))
      have HX8 := Lib.hid ((q8.block _ (lt_of_some0 HXX.out)).trans HXX.out)
      have OX8 := Lib.hid (og_below OX.out q8)
      have RD8 := Lib.hid (rd_below RD.out q8)
      have BL8 := Lib.hid (BL.out.trans (q8.mono (by have := G5.out; omega)))
      have G8 := Lib.hid (show gf + 2 ≤ (wr.alloc (.cells #[.int .i64 yo, .slice ad nd cd, .bool yc] 94)).heap.size from by have h1 := q8.size; have h2 := G5.out; omega)
      clear k0 k1 k2 p0 p1 q8 HXX OX BL RD G5
      generalize wr.alloc (.cells #[.int .i64 yo, .slice ad nd cd, .bool yc] 94) = W8 at *
      obtain ⟨h0, h1, h2⟩ := box3c HH8.out
      obtain ⟨f0, f1, f2⟩ := box3c HX8.out
      have q9 := Lib.hid (bel_al0 W8 (.cells #[.int .i64 yo, .slice ad nd cd, .bool yc] 96))
      have SG9 := Lib.hid (rd_single (B := fun q => (B q ∧ q < w.heap.size) ∨ q = W8.heap.size) (show Rd (fun q => (B q ∧ q < w.heap.size) ∨ q = W8.heap.size) (W8.alloc (.cells #[.int .i64 yo, .slice ad nd cd, .bool yc] 96)) tyW [.int .i64 yo, .slice ad nd cd, .bool yc] (yo, yd, yc) from ⟨[_], [.slice ad nd cd, .bool yc], rfl, ⟨HYO.out, rfl⟩, [.slice ad nd cd], [.bool yc], rfl, rd_mono (rd_below RD8.out q9.out) fun q hq _ => Or.inl hq, rfl⟩) (heap_alloc_new W8 (.cells #[.int .i64 yo, .slice ad nd cd, .bool yc] 96)) (Or.inr rfl))
      have OX9 := Lib.hid (og_mono (C := fun q => (B q ∧ q < w.heap.size) ∨ gf + 2 ≤ q) (og_below OX8.out q9.out) fun q hq _ => hq)
      have OXL := Lib.hid (show ∀ q, (Value.slice ax k cx).ownBlock = some q → gf + 2 ≤ q ∧ q < W8.heap.size from fun q hq => og_lt OX8.out q hq)
      have SY9 := Lib.hid (rd_mono (C := fun q => ((B q ∧ q < w.heap.size) ∨ gf + 2 ≤ q) ∧ (Value.slice ax k cx).ownBlock ≠ some q) SG9.out fun q hq _ => ⟨hq.imp id (fun h => by have := G8.out; omega), fun e => by
        have h1 := OXL.out q e
        have h2 := LO.out
        rcases hq with hq | hq
        · have := hq.2; omega
        · omega⟩)
      have HX9 := Lib.hid ((q9.out.block _ (lt_of_some0 HX8.out)).trans HX8.out)
      have BS9 := Lib.hid (show gf + 2 ≤ (W8.alloc (.cells #[.int .i64 yo, .slice ad nd cd, .bool yc] 96)).heap.size from by have h1 := q9.out.size; have h2 := G8.out; omega)
      have HLE9 : Hid ((xp.take k).length + [(yo, yd, yc)].length ≤ 100000000) := Lib.hid (by have h1 := HPX.out; have h2 := HK.out; rw [List.length_take]; simp only [List.length_cons, List.length_nil]; omega)
      go_upto_region 10 with (at_builtin; (refine app_g lsPW (dst := some 43) ?_ ?_ OX9.out SY9.out HLE9.out BS9.out ?_; exact rfl; exact rfl; intro v9 w9 ho9 hg9 hat9; rw [← HTW.out] at ho9; have qq := Lib.hid (below_grownG (Below.refl (gf + 2) _) hg9 OX9.out BS9.out (Nat.le_refl _)); have HXA := Lib.hid ((qq.out.block _ (show gf + 1 < gf + 2 by omega)).trans HX9.out); obtain ⟨a9, c9, rfl, -, -⟩ := og_form ho9; have hl9 := Lib.hid (show (xp.take (k + 1)).length = k + 1 by rw [List.length_take]; have := HNP.out; have := HK.out; omega); rw [hl9.out] at ho9 ⊢; have OXA := Lib.hid (og_mono (C := fun q => (B q ∧ q < w.heap.size) ∨ gf + 2 ≤ q) ho9 fun q hq _ => hq); obtain ⟨r0, r1, r2⟩ := box3c HXA.out; have v2 := frozen_of_row _ (gf + 1) 2 _ _ HXA.out; clear ho9 hg9 hat9))
      have BLA := Lib.hid ((BL8.out.trans (q9.out.mono (by have := G8.out; omega))).trans (qq.out.mono (by omega)))
      clear h0 h1 h2 f0 f1 f2 q9 SG9 OX9 OXL SY9 HX9 BS9 HLE9 r0 r1 r2 v2 qq HH8 HX8 OX8 RD8 BL8
      have HXB := Lib.hid (show (w9.setCell ⟨gf + 1, 2, none⟩ (.slice a9 (k + 1) c9)).heap[gf + 1]? = some (.cells #[.string sa, .slice ab nb cb, .slice a9 (k + 1) c9] 59 (0, 0)) from (by simpa using heap_setCell_same w9 (gf + 1) 2 _ _ (.slice a9 (k + 1) c9) HXA.out))
      have BLB := Lib.hid (BLA.out.setCell (p := ⟨gf + 1, 2, none⟩) (show gf + 1 ≤ gf + 1 from Nat.le_refl _) (.slice a9 (k + 1) c9))
      have OXB := Lib.hid (og_move (w' := w9.setCell ⟨gf + 1, 2, none⟩ (.slice a9 (k + 1) c9)) OXA.out fun q hq _ => other1 (by
        rcases hq with (hq | hq) | hq
        · have := hq.2; have := LO.out; omega
        · omega
        · have := (og_lt OXA.out q hq).1; omega))
      clear HXA BLA OXA G8
      generalize w9.setCell ⟨gf + 1, 2, none⟩ (.slice a9 (k + 1) c9) = W10 at *
      go_wp2
      go_roundw
      case rel =>
        have h1 := HK.out
        exact ⟨k + 1, a9, c9, by omega, by rw [EK.out], HXB, OXB, BLB⟩
      case measure =>
        have h1 := HK.out
        rw [EK.out]
        simp [intOf]; omega
set_option maxRecDepth 100000 in
set_option maxHeartbeats 12800000 in
theorem told10_any {B : Nat → Prop} (v : Value) (d : Dk) (w : World) (hv : DvB B w v d) (hlen : d.2.2.length ≤ 1000) (hpl : PnD d 100000) : Calls Try.prog 20 #[v] w (DvO B w d) := by
  obtain ⟨fv, rfl, hr, sf⟩ := hv
  have SF := Lib.hid (rd_mono (C := fun q => B q ∧ q < w.heap.size) sf fun _ h h2 => ⟨h, h2⟩)
  have HR := Lib.hid hr
  obtain ⟨af, cf, rfl, -, -⟩ := rd_sl sf
  obtain ⟨cap, left, L⟩ := d
  have HPL : Hid (∀ f ∈ L, f.2.2.length ≤ 100000) := Lib.hid hpl
  dsimp only at SF HR hlen ⊢
  obtain ⟨n, hn⟩ : ∃ z, z = L.length := ⟨_, rfl⟩
  rw [← hn] at SF hlen ⊢
  have HN := Lib.hid hn
  have HLEN := Lib.hid hlen
  have A1 := bel_al0 w (.cells #[.int .i64 cap, .int .i64 left, .slice af n cf] 33)
  have BX := Lib.hid (btA A1 (bel_al0 _ (.cells #[.int .i64 0, .int .i64 0, .slice none 0 0] 24)))
  have HX := Lib.hid (show ((w.alloc (.cells #[.int .i64 cap, .int .i64 left, .slice af n cf] 33)).alloc (.cells #[.int .i64 0, .int .i64 0, .slice none 0 0] 24)).heap[w.heap.size]? = some (.cells #[.int .i64 cap, .int .i64 left, .slice af n cf] 33 (0, 0)) from (al_old (by simp)).trans (heap_alloc_new w _))
  have HY := Lib.hid (heap_alloc2_new w (.cells #[.int .i64 cap, .int .i64 left, .slice af n cf] 33) (.cells #[.int .i64 0, .int .i64 0, .slice none 0 0] 24))
  have HS1 := Lib.hid (show ((w.alloc (.cells #[.int .i64 cap, .int .i64 left, .slice af n cf] 33)).alloc (.cells #[.int .i64 0, .int .i64 0, .slice none 0 0] 24)).heap.size = w.heap.size + 2 by simp)
  clear sf hr A1 hn hlen hpl
  go_enter Try.func20, Try.ntmps20
  go_upto_region 1 with fail
  generalize ((w.alloc (.cells #[.int .i64 cap, .int .i64 left, .slice af n cf] 33)).alloc (.cells #[.int .i64 0, .int .i64 0, .slice none 0 0] 24)) = W1 at *
  obtain ⟨x0, x1, x2⟩ := box3c HX.out
  go_upto_region 2 with fail
  clear x0 x1 x2
  have q3 := bel_al0 W1 (.cells #[.int .i64 cap, .int .i64 left, .slice none 0 0] 24)
  have HO3 := Lib.hid (heap_alloc_new W1 (.cells #[.int .i64 cap, .int .i64 left, .slice none 0 0] 24))
  have HX3 := Lib.hid ((q3.block _ (lt_of_some0 HX.out)).trans HX.out)
  have HY3 := Lib.hid ((q3.block _ (lt_of_some0 HY.out)).trans HY.out)
  have B3 := Lib.hid (btA BX.out q3)
  clear q3 HX HY BX
  rw [HS1.out] at HO3 ⊢
  generalize W1.alloc (.cells #[.int .i64 cap, .int .i64 left, .slice none 0 0] 24) = W3 at *
  clear HS1 W1
  obtain ⟨x0, x1, x2⟩ := box3c HX3.out
  go_wp2_with fail
  clear x0 x1 x2
  go_loopw [17] (fun t wr => ∃ (i : Nat) (ao : Option Addr) (co : Nat), i ≤ n ∧ t = .int .i64 (i : Int) ∧ Hid (wr.heap[w.heap.size + 2]? = some (.cells #[.int .i64 cap, .int .i64 left, .slice ao i co] 24 (0, 0))) ∧ Hid (OwG 63 tyF (fun q => (B q ∧ q < w.heap.size) ∨ w.heap.size + 3 ≤ q) wr (w.heap.size + 3) (.slice ao i co) (L.take i)) ∧ Hid (wr.heap[w.heap.size + 1]? = some (.cells #[.int .i64 0, .int .i64 0, .slice none 0 0] 24 (0, 0))) ∧ Hid (Below w.heap.size w wr)) (fun t _ => n - (intOf t).toNat)
  case atStart => exact ⟨0, none, 0, by omega, rfl, HO3, Lib.hid (og_nil _ _ _ _ _), HY3, B3⟩
  case round =>
    clear HO3 HY3 B3 HX3
    obtain ⟨i, ao, co, hi, rfl, HO, OO, HY, BB⟩ := hrel
    by_cases hlt : i < n
    case neg =>
      obtain rfl : i = n := by omega
      have l1 : decide ((i : Int) < (i : Int)) = false := decide_eq_false (by omega)
      have HT := Lib.hid (show L.take i = L by rw [List.take_of_length_le (by have := HN.out; omega)])
      rw [HT.out] at OO
      clear hlt hi
      obtain ⟨z0, z1, z2⟩ := box3c HO.out
      obtain ⟨y0, y1, y2⟩ := box3c HY.out
      have u0 := frozen_of_row wr (w.heap.size + 1) 0 _ _ HY.out
      have u1 := frozen_of_row wr (w.heap.size + 1) 1 _ _ HY.out
      have u2 := frozen_of_row wr (w.heap.size + 1) 2 _ _ HY.out
      go_wp2
      refine bodyPost_ret (results_cell_row Try.results20 _ _ (w.heap.size + 1) 24 _ (0, 0) _ rfl (set3c HY.out) Try.underlying24 rfl infoD) rfl ?_
      exact ⟨⟨_, rfl, .slice ao i co, rfl, HR.out, rd_move (B := fun q => ((B q ∧ q < w.heap.size) ∨ w.heap.size + 3 ≤ q) ∨ w.heap.size + 3 ≤ q) (fun q hq _ => set3_other (by
        rcases hq with (hq | hq) | hq
        · have := hq.2; omega
        · omega
        · omega)) (fun q hq _ => by
        rcases hq with (hq | hq) | hq
        · exact Or.inl hq.1
        · exact Or.inr (by omega)
        · exact Or.inr (by omega)) (og_rdw OO.out)⟩, below_set3 BB.out (by omega)⟩
    have l1 : decide ((i : Int) < (n : Int)) = true := decide_eq_true (by omega)
    have hip : i < L.length := by have := HN.out; omega
    obtain ⟨b1, o1, bv, pv, rfl, -, k0, k1, k2, hsz, hbb, hpp⟩ := dv_at (rd_below SF.out BB.out) hip
    have HTF := Lib.hid (takeF hip)
    have HPX := Lib.hid (HPL.out (L.getD i fl0) (by rw [getD_F hip]; exact List.getElem_mem hip))
    generalize L.getD i fl0 = x at *
    obtain ⟨sa, xb, xp⟩ := x
    dsimp only at k0 k1 k2 hsz hbb hpp HPX
    obtain ⟨ab, cb, rfl, -, -⟩ := rd_sl hbb
    obtain ⟨ap, cp, rfl, -, -⟩ := rd_sl hpp
    have RB := Lib.hid hbb
    have RP := Lib.hid hpp
    have HSA := Lib.hid hsz
    obtain ⟨nb, hnb⟩ : ∃ z, z = xb.length := ⟨_, rfl⟩
    obtain ⟨np, hnp⟩ : ∃ z, z = xp.length := ⟨_, rfl⟩
    rw [← hnb] at k1 RB
    rw [← hnp] at k2 RP HPX
    have HNP := Lib.hid hnp
    have EW := Lib.hid (show wrap64 ((i : Int) + 1) = ((i + 1 : Nat) : Int) by have := HLEN.out; unfold wrap64; omega)
    have HI := Lib.hid hlt
    have p0 : (0 : Int) ≤ (i : Int) := by omega
    have p1 : (i : Int) < (n : Int) := by omega
    clear hip hsz hbb hpp hnb hnp hlt hi
    go_upto_region 5 with fail
    have q4 := bel_al0 wr (.cells #[.string sa, .slice ab nb cb, .slice ap np cp] 59)
    have HF4 := Lib.hid (heap_alloc_new wr (.cells #[.string sa, .slice ab nb cb, .slice ap np cp] 59))
    obtain ⟨f0, f1, f2⟩ := box3c HF4.out
    clear k0 k1 k2 p0 p1
    go_upto_region 6 with fail
    have q5 := bel_al0 (wr.alloc (.cells #[.string sa, .slice ab nb cb, .slice ap np cp] 59)) (.cells #[.string sa, .slice ab nb cb, .slice none 0 0] 63)
    have HX5 := Lib.hid (heap_alloc_new (wr.alloc (.cells #[.string sa, .slice ab nb cb, .slice ap np cp] 59)) (.cells #[.string sa, .slice ab nb cb, .slice none 0 0] 63))
    have HF5 := Lib.hid ((q5.block _ (lt_of_some0 HF4.out)).trans HF4.out)
    have q6 := btA q4 q5
    have LQ := Lib.hid (show (wr.alloc (.cells #[.string sa, .slice ab nb cb, .slice ap np cp] 59)).heap.size = wr.heap.size + 1 by simp)
    clear f0 f1 f2 q4 HF4 q5
    rw [LQ.out] at HX5
    have HO5 := Lib.hid ((q6.block _ (lt_of_some0 HO.out)).trans HO.out)
    have OO5 := Lib.hid (og_below (og_mono (C := fun q => ((B q ∧ q < w.heap.size) ∨ w.heap.size + 3 ≤ q) ∧ q < wr.heap.size) OO.out fun q hq hl => ⟨hq, hl⟩) q6)
    have HY5 := Lib.hid ((q6.block _ (lt_of_some0 HY.out)).trans HY.out)
    have RB5 := Lib.hid (rd_below RB.out q6)
    have RP5 := Lib.hid (rd_below RP.out q6)
    have B5 := Lib.hid (btA BB.out q6)
    have LO := Lib.hid (show w.heap.size + 3 ≤ wr.heap.size from lt_of_some0 HO.out)
    have LOW := Lib.hid (show ∀ k, (Value.slice ao i co).ownBlock = some k → k < wr.heap.size from fun k hk => (og_lt OO.out k hk).2)
    clear q6 LQ HO OO HY RB RP BB
    generalize (wr.alloc (.cells #[.string sa, .slice ab nb cb, .slice ap np cp] 59)).alloc (.cells #[.string sa, .slice ab nb cb, .slice none 0 0] 63) = W5 at *
    generalize wr.heap.size = gf at *
    obtain ⟨f0, f1, f2⟩ := box3c HF5.out
    go_wp2_with fail
    clear f0 f1 f2 HF5
    go_loopw [29] (fun t wl => ∃ (k : Nat) (ax : Option Addr) (cx : Nat), k ≤ np ∧ t = .int .i64 (k : Int) ∧ Hid (wl.heap[gf + 1]? = some (.cells #[.string sa, .slice ab nb cb, .slice ax k cx] 63 (0, 0))) ∧ Hid (OwG 94 tyW (fun q => (B q ∧ q < w.heap.size) ∨ gf + 2 ≤ q) wl (gf + 2) (.slice ax k cx) (xp.take k)) ∧ Hid (Below (gf + 1) W5 wl)) (fun t _ => np - (intOf t).toNat)
    case atStart => exact ⟨0, none, 0, by omega, rfl, HX5, Lib.hid (og_nil _ _ _ _ _), Lib.hid (Below.refl _ _)⟩
    case round =>
      clear HX5
      obtain ⟨k, ax, cx, hk, rfl, HXX, OX, BL⟩ := hrel
      have G5 := Lib.hid (show gf + 2 ≤ wr.heap.size from lt_of_some0 HXX.out)
      by_cases hkn : k < np
      case neg =>
        obtain rfl : k = np := by omega
        have l1 : decide ((k : Int) < (k : Int)) = false := decide_eq_false (by omega)
        have HT := Lib.hid (show xp.take k = xp by rw [List.take_of_length_le (by have := HNP.out; omega)])
        rw [HT.out] at OX
        have HO6 := Lib.hid ((BL.out.block _ (show w.heap.size + 2 < gf + 1 by have := LO.out; omega)).trans HO5.out)
        have HY6 := Lib.hid ((BL.out.block _ (show w.heap.size + 1 < gf + 1 by have := LO.out; omega)).trans HY5.out)
        have OO6 := Lib.hid (og_move (w' := wr) OO5.out fun q hq hl => BL.out.block q (by
          rcases hq with hq | hq
          · have := hq.2; omega
          · have := LOW.out q hq; omega))
        have RB6 := Lib.hid (rd_move (w' := wr) (fun q hq _ => BL.out.block q (by have := hq.2; have := LO.out; omega)) (fun q hq _ => hq) RB5.out)
        have RX6 := Lib.hid (rd_f_mk (B := fun q => (B q ∧ q < w.heap.size) ∨ gf + 2 ≤ q) (x := (sa, xb, xp)) HSA.out (rd_mono RB6.out fun q hq _ => Or.inl hq) (rd_mono (og_rdw OX.out) fun q hq _ => hq.elim id Or.inr))
        have B6 := Lib.hid (B5.out.trans (BL.out.mono (by have := LO.out; omega)))
        clear hk hkn HO5 HY5 OO5 RB5 RP5 B5 BL OX RB6
        obtain ⟨z0, z1, z2⟩ := box3c HO6.out
        obtain ⟨f0, f1, f2⟩ := box3c HXX.out
        have q7 := Lib.hid (bel_al0 wr (.cells #[.string sa, .slice ab nb cb, .slice ax k cx] 63))
        have SG7 := Lib.hid (rd_single (B := fun q => ((B q ∧ q < w.heap.size) ∨ gf + 2 ≤ q)) (rd_below RX6.out q7.out) (heap_alloc_new wr (.cells #[.string sa, .slice ab nb cb, .slice ax k cx] 63)) (Or.inr G5.out))
        have OO7 := Lib.hid (og_below OO6.out q7.out)
        have HO7 := Lib.hid ((q7.out.block _ (lt_of_some0 HO6.out)).trans HO6.out)
        have HLE7 : Hid ((L.take i).length + [(sa, xb, xp)].length ≤ 100000000) := Lib.hid (by have h1 := HLEN.out; have h2 := HI.out; rw [List.length_take]; simp only [List.length_cons, List.length_nil]; omega)
        have SY7 := Lib.hid (rd_mono (C := fun q => ((B q ∧ q < w.heap.size) ∨ w.heap.size + 3 ≤ q) ∧ (Value.slice ao i co).ownBlock ≠ some q) SG7.out fun q hq _ => ⟨hq.imp id (fun h => by have := LO.out; omega), fun e => by
          have h1 := LOW.out q e
          have h2 := (og_lt OO7.out q e).1
          rcases hq with hq | hq
          · have := hq.2; omega
          · omega⟩)
        have OO7b := Lib.hid (og_mono (C := fun q => (B q ∧ q < w.heap.size) ∨ w.heap.size + 3 ≤ q) OO7.out fun q hq _ => hq.1)
        have BS7 := Lib.hid (show w.heap.size + 3 ≤ (wr.alloc (.cells #[.string sa, .slice ab nb cb, .slice ax k cx] 63)).heap.size from by have h1 := q7.out.size; have h2 := LO.out; have h3 := G5.out; omega)
        go_upto_region 12 with (at_builtin; (refine app_g lsF (dst := some 50) ?_ ?_ OO7b.out SY7.out HLE7.out BS7.out ?_; exact rfl; exact rfl; intro v9 w9 ho9 hg9 hat9; rw [← HTF.out] at ho9; have q9 := Lib.hid (below_grownG (Below.refl (w.heap.size + 3) _) hg9 OO7b.out BS7.out (Nat.le_refl _)); have HO9 := Lib.hid ((q9.out.block _ (show w.heap.size + 2 < w.heap.size + 3 by omega)).trans HO7.out); obtain ⟨a9, c9, rfl, -, -⟩ := og_form ho9; have hl9 := Lib.hid (show (L.take (i + 1)).length = i + 1 by rw [List.length_take]; have := HN.out; have := HI.out; omega); rw [hl9.out] at ho9 ⊢; have OO9 := Lib.hid ho9; obtain ⟨r0, r1, r2⟩ := box3c HO9.out; have v2 := frozen_of_row _ (w.heap.size + 2) 2 _ _ HO9.out; clear ho9 hg9 hat9))
        have HY9 := Lib.hid ((q9.out.block _ (show w.heap.size + 1 < w.heap.size + 3 by omega)).trans ((q7.out.block _ (lt_of_some0 HY6.out)).trans HY6.out))
        have B9 := Lib.hid ((btA B6.out q7.out).trans (q9.out.mono (by omega)))
        clear z0 z1 z2 f0 f1 f2 q7 SG7 OO7 HO7 HLE7 SY7 OO7b BS7 HO6 HY6 OO6 RX6 B6 HXX q9 r0 r1 r2 v2
        have HO10 := Lib.hid (show (w9.setCell ⟨w.heap.size + 2, 2, none⟩ (.slice a9 (i + 1) c9)).heap[w.heap.size + 2]? = some (.cells #[.int .i64 cap, .int .i64 left, .slice a9 (i + 1) c9] 24 (0, 0)) from (by simpa using heap_setCell_same w9 (w.heap.size + 2) 2 _ _ (.slice a9 (i + 1) c9) HO9.out))
        have HY10 := Lib.hid ((other1 (g := w.heap.size + 2) (o := 2) (v := .slice a9 (i + 1) c9) (by omega : w.heap.size + 1 ≠ w.heap.size + 2)).trans HY9.out)
        have B10 := Lib.hid (B9.out.setCell (p := ⟨w.heap.size + 2, 2, none⟩) (show w.heap.size ≤ w.heap.size + 2 by omega) (.slice a9 (i + 1) c9))
        have OO10 := Lib.hid (og_move (w' := w9.setCell ⟨w.heap.size + 2, 2, none⟩ (.slice a9 (i + 1) c9)) OO9.out fun q hq _ => other1 (by
          rcases hq with (hq | hq) | hq
          · have := hq.2; omega
          · omega
          · have := (og_lt OO9.out q hq).1; omega))
        clear HO9 HY9 B9 OO9
        generalize w9.setCell ⟨w.heap.size + 2, 2, none⟩ (.slice a9 (i + 1) c9) = W10 at *
        go_wp2
        go_roundw
        case rel =>
          have h1 := HI.out
          exact ⟨i + 1, a9, c9, by omega, by rw [EW.out], HO10, OO10, HY10, B10⟩
        case measure =>
          have h1 := HI.out
          rw [EW.out]
          simp [intOf]; omega
      have l1 : decide ((k : Int) < (np : Int)) = true := decide_eq_true (by omega)
      have hkp : k < xp.length := by have := HNP.out; omega
      have HTW := Lib.hid (takeW hkp)
      obtain ⟨b2, o2, c2, dv, hv2, k0, k1, k2, hyo, hd⟩ := rd_wat (rd_move (w' := wr) (fun q hq _ => BL.out.block q (by have := hq.2; have := LO.out; omega)) (fun q hq _ => hq) RP5.out) hkp
      obtain ⟨rfl, -, -⟩ : ap = some ⟨b2, o2, none⟩ ∧ np = xp.length ∧ cp = c2 := by simpa using hv2
      generalize xp.getD k wr0 = y at *
      obtain ⟨yo, yd, yc⟩ := y
      dsimp only at k0 k2 hd hyo
      obtain ⟨ad, cd, rfl, -, -⟩ := rd_sl hd
      generalize yd.length = nd at *
      have RD := Lib.hid hd
      have HYO := Lib.hid hyo
      have EK := Lib.hid (show wrap64 ((k : Int) + 1) = ((k + 1 : Nat) : Int) by have := HPX.out; unfold wrap64; omega)
      have HK := Lib.hid hkn
      have p0 : (0 : Int) ≤ (k : Int) := by omega
      have p1 : (k : Int) < (np : Int) := by omega
      clear hv2 hd hyo hkp hkn hk
      go_upto_region 9 with fail
      have q8 := bel_al0 wr (.cells #[.int .i64 yo, .slice ad nd cd, .bool yc] 96)
      have HH8 := Lib.hid (heap_alloc_new wr (.cells #[.int .i64 yo, .slice ad nd cd, .bool yc] 96))
      have HX8 := Lib.hid ((q8.block _ (lt_of_some0 HXX.out)).trans HXX.out)
      have OX8 := Lib.hid (og_below OX.out q8)
      have RD8 := Lib.hid (rd_below RD.out q8)
      have BL8 := Lib.hid (BL.out.trans (q8.mono (by have := G5.out; omega)))
      have G8 := Lib.hid (show gf + 2 ≤ (wr.alloc (.cells #[.int .i64 yo, .slice ad nd cd, .bool yc] 96)).heap.size from by have h1 := q8.size; have h2 := G5.out; omega)
      clear k0 k1 k2 p0 p1 q8 HXX OX BL RD G5
      generalize wr.alloc (.cells #[.int .i64 yo, .slice ad nd cd, .bool yc] 96) = W8 at *
      obtain ⟨h0, h1, h2⟩ := box3c HH8.out
      obtain ⟨f0, f1, f2⟩ := box3c HX8.out
      have q9 := Lib.hid (bel_al0 W8 (.cells #[.int .i64 yo, .slice ad nd cd, .bool yc] 94))
      have SG9 := Lib.hid (rd_single (B := fun q => (B q ∧ q < w.heap.size) ∨ q = W8.heap.size) (show Rd (fun q => (B q ∧ q < w.heap.size) ∨ q = W8.heap.size) (W8.alloc (.cells #[.int .i64 yo, .slice ad nd cd, .bool yc] 94)) tyW [.int .i64 yo, .slice ad nd cd, .bool yc] (yo, yd, yc) from ⟨[_], [.slice ad nd cd, .bool yc], rfl, ⟨HYO.out, rfl⟩, [.slice ad nd cd], [.bool yc], rfl, rd_mono (rd_below RD8.out q9.out) fun q hq _ => Or.inl hq, rfl⟩) (heap_alloc_new W8 (.cells #[.int .i64 yo, .slice ad nd cd, .bool yc] 94)) (Or.inr rfl))
      have OX9 := Lib.hid (og_mono (C := fun q => (B q ∧ q < w.heap.size) ∨ gf + 2 ≤ q) (og_below OX8.out q9.out) fun q hq _ => hq)
      have OXL := Lib.hid (show ∀ q, (Value.slice ax k cx).ownBlock = some q → gf + 2 ≤ q ∧ q < W8.heap.size from fun q hq => og_lt OX8.out q hq)
      have SY9 := Lib.hid (rd_mono (C := fun q => ((B q ∧ q < w.heap.size) ∨ gf + 2 ≤ q) ∧ (Value.slice ax k cx).ownBlock ≠ some q) SG9.out fun q hq _ => ⟨hq.imp id (fun h => by have := G8.out; omega), fun e => by
        have h1 := OXL.out q e
        have h2 := LO.out
        rcases hq with hq | hq
        · have := hq.2; omega
        · omega⟩)
      have HX9 := Lib.hid ((q9.out.block _ (lt_of_some0 HX8.out)).trans HX8.out)
      have BS9 := Lib.hid (show gf + 2 ≤ (W8.alloc (.cells #[.int .i64 yo, .slice ad nd cd, .bool yc] 94)).heap.size from by have h1 := q9.out.size; have h2 := G8.out; omega)
      have HLE9 : Hid ((xp.take k).length + [(yo, yd, yc)].length ≤ 100000000) := Lib.hid (by have h1 := HPX.out; have h2 := HK.out; rw [List.length_take]; simp only [List.length_cons, List.length_nil]; omega)
      go_upto_region 10 with (at_builtin; (refine app_g lsW (dst := some 43) ?_ ?_ OX9.out SY9.out HLE9.out BS9.out ?_; exact rfl; exact rfl; intro v9 w9 ho9 hg9 hat9; rw [← HTW.out] at ho9; have qq := Lib.hid (below_grownG (Below.refl (gf + 2) _) hg9 OX9.out BS9.out (Nat.le_refl _)); have HXA := Lib.hid ((qq.out.block _ (show gf + 1 < gf + 2 by omega)).trans HX9.out); obtain ⟨a9, c9, rfl, -, -⟩ := og_form ho9; have hl9 := Lib.hid (show (xp.take (k + 1)).length = k + 1 by rw [List.length_take]; have := HNP.out; have := HK.out; omega); rw [hl9.out] at ho9 ⊢; have OXA := Lib.hid (og_mono (C := fun q => (B q ∧ q < w.heap.size) ∨ gf + 2 ≤ q) ho9 fun q hq _ => hq); obtain ⟨r0, r1, r2⟩ := box3c HXA.out; have v2 := frozen_of_row _ (gf + 1) 2 _ _ HXA.out; clear ho9 hg9 hat9))
      have BLA := Lib.hid ((BL8.out.trans (q9.out.mono (by have := G8.out; omega))).trans (qq.out.mono (by omega)))
      clear h0 h1 h2 f0 f1 f2 q9 SG9 OX9 OXL SY9 HX9 BS9 HLE9 r0 r1 r2 v2 qq HH8 HX8 OX8 RD8 BL8
      have HXB := Lib.hid (show (w9.setCell ⟨gf + 1, 2, none⟩ (.slice a9 (k + 1) c9)).heap[gf + 1]? = some (.cells #[.string sa, .slice ab nb cb, .slice a9 (k + 1) c9] 63 (0, 0)) from (by simpa using heap_setCell_same w9 (gf + 1) 2 _ _ (.slice a9 (k + 1) c9) HXA.out))
      have BLB := Lib.hid (BLA.out.setCell (p := ⟨gf + 1, 2, none⟩) (show gf + 1 ≤ gf + 1 from Nat.le_refl _) (.slice a9 (k + 1) c9))
      have OXB := Lib.hid (og_move (w' := w9.setCell ⟨gf + 1, 2, none⟩ (.slice a9 (k + 1) c9)) OXA.out fun q hq _ => other1 (by
        rcases hq with (hq | hq) | hq
        · have := hq.2; have := LO.out; omega
        · omega
        · have := (og_lt OXA.out q hq).1; omega))
      clear HXA BLA OXA G8
      generalize w9.setCell ⟨gf + 1, 2, none⟩ (.slice a9 (k + 1) c9) = W10 at *
      go_wp2
      go_roundw
      case rel =>
        have h1 := HK.out
        exact ⟨k + 1, a9, c9, by omega, by rw [EK.out], HXB, OXB, BLB⟩
      case measure =>
        have h1 := HK.out
        rw [EK.out]
        simp [intOf]; omega
end Go.Proofs.Ytpipgbjkkiheaaa.Gf
