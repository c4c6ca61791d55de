/- What is proved here: the contracts of the reference's Append, Put, Truncate (disk). Condition: data of at most 2^40 bytes, files of at most 89990 writes. -/
import Derived.Test.YtpipgbjkkiheaaaMW10
namespace Go.Proofs.Ytpipgbjkkiheaaa.Gf
open Go Go.Joins Go.ChangeShapes Go.WideShapes Go.ChangeAt Go.RowKit Go.Deep Go.Proofs.Ytpipgbjkkiheaaa.By Go.Proofs.Ytpipgbjkkiheaaa.Qt

theorem de_weak2 {B : Nat → Prop} {w2 w' : World} {d : Dk} {E : Nat} {e : Ending} (h : DE (fun q => B q ∧ q < w2.heap.size) w2 d E e w') : ∃ a c, e = .returned (.tuple #[.agg #[.int .i64 d.1, .int .i64 d.2.1, .slice a d.2.2.length c], .int .i64 (E : Int)]) ∧ ((-9223372036854775808 ≤ d.1 ∧ d.1 ≤ 9223372036854775807) ∧ (-9223372036854775808 ≤ d.2.1 ∧ d.2.1 ≤ 9223372036854775807)) ∧ Rd (fun q => B q ∨ w2.heap.size ≤ q) w' (.sl tyF) [.slice a d.2.2.length c] d.2.2 ∧ Below w2.heap.size w2 w' := by
  obtain ⟨⟨v, rfl, fv, rfl, h3, h4⟩, h5⟩ := h
  obtain ⟨a, c, rfl, -, -⟩ := rd_sl h4
  exact ⟨a, c, rfl, h3, rd_mono h4 fun q hq _ => hq.imp (fun h => h.1) id, h5⟩
set_option maxRecDepth 100000 in
set_option maxHeartbeats 12800000 in
theorem rappend_any (v : Value) (d : Dk) (s : ByteArray) (dv : Value) (b : List Nat) (w : World) (sd : Sl w dv b) (hb : b.length ≤ 1099511627776) (hs : s.size ≤ maxLen) (k : Nat) (hv : Dv w v d) (hpn : PnD d k) (hk : k ≤ 89990) : Calls Try.prog 57 #[v, .string s, dv] w (DE (fun b => b < w.heap.size) w (appendD d s b) (appendE d s b)) := by
  have HV := Lib.hid hv
  obtain ⟨fv, rfl, hr, sf⟩ := hv
  have sfo : Rd (fun q => q < w.heap.size) w (.sl tyF) [fv] d.2.2 := rd_mono sf fun _ _ h => h
  have RA := Lib.hid (fun W (h : Below w.heap.size w W) => rat_any _ d s hs W (dv_below HV.out h))
  have DV := Lib.hid (fun W (h : Below w.heap.size w W) => show DvB (fun q => q < w.heap.size) W (.agg #[.int .i64 d.1, .int .i64 d.2.1, fv]) d from ⟨fv, rfl, hr, rd_below sfo h⟩)
  have AT := Lib.hid (fun h => at_nat (d := d) (s := s) h)
  have RW := Lib.hid (fun (h0 : atE d s = 0) (i : Nat) (hi : atI d s = (i : Int)) W (h : Below w.heap.size w W) => rwr_append (.agg #[.int .i64 d.1, .int .i64 d.2.1, fv]) d s i dv b W (DV.out W h) h0 hi k hpn hk (sl_below sd h) hb)
  have HD0 := Lib.hid (show atE d s ≠ 0 → appendD d s b = dk0 ∧ appendE d s b = atE d s from fun h => by
    have h1 : appendE d s b = atE d s := by unfold appendE; rw [if_neg h]
    exact ⟨by unfold appendD; rw [if_neg (by rw [h1]; exact h)], h1⟩)
  obtain ⟨ad, cd, rfl, -, -⟩ := sl_form sd
  have SF := Lib.hid sfo
  obtain ⟨af, cf, rfl, -, -⟩ := rd_sl sf
  generalize appendD d s b = DD at *
  generalize appendE d s b = CE at *
  generalize b.length = nd at *
  generalize fileAt d s = FA at *
  generalize atE d s = E at *
  generalize atI d s = IE at *
  obtain ⟨cap, left, L⟩ := d
  dsimp only at RA DV SF AT RW ⊢
  obtain ⟨n, hn⟩ : ∃ z, z = L.length := ⟨_, rfl⟩
  rw [← hn] at SF RA DV RW AT ⊢
  have HN := Lib.hid hn
  have A1 := bel_al0 w (.cells #[.int .i64 cap, .int .i64 left, .slice af n cf] 24)
  have BX := Lib.hid (btA A1 (bel_al0 _ (.cells #[.int .i64 0, .int .i64 0, .slice none 0 0] 24)))
  have HX := Lib.hid (show ((w.alloc (.cells #[.int .i64 cap, .int .i64 left, .slice af n cf] 24)).alloc (.cells #[.int .i64 0, .int .i64 0, .slice none 0 0] 24)).heap[w.heap.size]? = some (.cells #[.int .i64 cap, .int .i64 left, .slice af n cf] 24 (0, 0)) from (al_old (by simp)).trans (heap_alloc_new w _))
  have HY := Lib.hid (heap_alloc2_new w (.cells #[.int .i64 cap, .int .i64 left, .slice af n cf] 24) (.cells #[.int .i64 0, .int .i64 0, .slice none 0 0] 24))
  clear sf sfo hr A1 hn HV
  go_enter Try.func57, Try.ntmps57
  go_upto_region 1 with fail
  generalize ((w.alloc (.cells #[.int .i64 cap, .int .i64 left, .slice af n cf] 24)).alloc (.cells #[.int .i64 0, .int .i64 0, .slice none 0 0] 24)) = W1 at *
  obtain ⟨x0, x1, x2⟩ := box3c HX.out
  go_wp2_with fail
  refine (RA.out _ BX.out).mono ?_
  rintro e w2 ⟨rfl, hb2⟩
  have B2 := Lib.hid (btA BX.out hb2)
  have HX2 := Lib.hid ((hb2.block _ (lt_of_some0 HX.out)).trans HX.out)
  have HY2 := Lib.hid ((hb2.block _ (lt_of_some0 HY.out)).trans HY.out)
  clear hb2 x0 x1 x2 RA HX HY BX
  by_cases h0 : E = 0
  case neg =>
    have e1 : ((E : Int) != 0) = true := by rw [bne_iff_ne]; omega
    have HDZ := Lib.hid (HD0.out h0)
    clear h0 HD0 RW AT
    obtain ⟨y0, y1, y2⟩ := box3c HY2.out
    have u0 := frozen_of_row w2 (w.heap.size + 1) 0 _ _ HY2.out
    have u1 := frozen_of_row w2 (w.heap.size + 1) 1 _ _ HY2.out
    have u2 := frozen_of_row w2 (w.heap.size + 1) 2 _ _ HY2.out
    go_wp2
    refine rdisk_end rfl (set3c HY2.out) rfl ?_
    rw [HDZ.out.1, HDZ.out.2]
    exact de_zero (below_set3 B2.out (by omega))
  subst h0
  obtain ⟨i, rfl, hil, hfa⟩ := AT.out rfl
  have HI := Lib.hid hil
  have SZ2 := Lib.hid (lt_of_some0 HY2.out)
  obtain ⟨b1, o1, bv, pv, rfl, -, k0, k1, k2, hsz, hbb, hpp⟩ := dv_at SF.out (by have := HI.out; have := HN.out; omega : i < L.length)
  rw [← hfa] at k0 hsz hbb hpp
  obtain ⟨sa, xb, xp⟩ := FA
  dsimp only at k0 k1 k2 hsz hbb hpp RW
  obtain ⟨ab, cb, rfl, -, -⟩ := sl_form (rd8_sl hbb)
  obtain ⟨ap, cp, rfl, -, -⟩ := rd_sl hpp
  have RC := Lib.hid (fun W (h : Below w.heap.size w W) => rcontent_any sa _ _ xb xp W (sl_below (rd8_sl hbb) h) (rd_mono (rd_below hpp h) fun _ _ _ => trivial))
  have K := Lib.hid (fun W (h : Below w.heap.size w W) => And.intro ((h.cell (block_lt_of_cell k0)).trans k0) (And.intro ((h.cell (block_lt_of_cell k1)).trans k1) ((h.cell (block_lt_of_cell k2)).trans k2)))
  have RW2 := Lib.hid (RW.out rfl i rfl)
  obtain ⟨old, hold⟩ : ∃ z, z = (contL (sa, xb, xp)).length := ⟨_, rfl⟩
  rw [← hold] at RW2
  have HOLD := Lib.hid hold
  generalize xb.length = nb at *
  generalize xp.length = np at *
  have p0 : (0 : Int) ≤ (i : Int) := by omega
  have p1 : (i : Int) < (n : Int) := by have := HI.out; omega
  clear hold hsz hbb hpp k0 k1 k2 hfa hil RW AT DV HD0
  go_upto_region 4 with fail
  have S0 : SBx w [(w.heap.size, (.cells #[.int .i64 cap, .int .i64 left, .slice (some ⟨b1, o1, none⟩) n cf] 24 (0, 0)))] w2.drew := ⟨B2.out.drew, fun p hp => by rw [List.mem_singleton.1 hp]; exact HX2.out⟩
  refine wp_onlyN ?_
  refine wp_region_headsS (SBx w [(w.heap.size, (.cells #[.int .i64 cap, .int .i64 left, .slice (some ⟨b1, o1, none⟩) n cf] 24 (0, 0)))]) [0, 1, 2, 3, 4, 5, 6, 9] 8 (by kernel_rfl) (fun _ _ _ _ _ h => h.elim) (by kernel_rfl) (by rfl) (by rfl) S0 ?_
  simp only [pickOps, List.filterMap_cons, List.filterMap_nil, List.getElem?_toArray, List.getElem?_cons_zero, List.getElem?_cons_succ]
  refine wpHeads_step (fun K' hK => ?_)
  go_simp
  refine ⟨.agg #[.int .i64 cap, .int .i64 left, .slice (some ⟨b1, o1, none⟩) n cf], fun w' hw' => by
    obtain ⟨q0, q1, q2⟩ := box3c (hw'.box _ (List.mem_cons_self ..))
    simp [q0, q1, q2], hK _ ?_⟩
  clear hK K'
  refine wpHeads_step (fun K' hK => ?_)
  go_simp
  refine ⟨_, fun _ _ => rfl, hK _ ?_⟩
  clear hK K'
  refine wpHeads_step (fun K' hK => ?_)
  go_simp
  refine ⟨_, fun _ _ => rfl, hK _ ?_⟩
  clear hK K'
  refine wpHeads_step (fun K' hK => ?_)
  go_simp
  refine ⟨.slice (some ⟨b1, o1, none⟩) n cf, fun w' hw' => by
    obtain ⟨q0, q1, q2⟩ := box3c (hw'.box _ (List.mem_cons_self ..))
    simp [q2], hK _ ?_⟩
  clear hK K'
  refine wpHeads_step (fun K' hK => ?_)
  go_simp
  refine ⟨_, fun _ _ => rfl, hK _ ?_⟩
  clear hK K'
  refine wpHeads_step (fun K' hK => ?_)
  go_simp
  refine ⟨.pointer (some ⟨b1, o1 + i * 3, none⟩), fun w' hw' => by go_simp, hK _ ?_⟩
  clear hK K'
  refine wpHeads_step (fun K' hK => ?_)
  go_simp
  refine ⟨.agg #[.string sa, .slice ab nb cb, .slice ap np cp], fun w' hw' => by
    obtain ⟨q0, q1, q2⟩ := K.out w' hw'.bel
    simp [q0, q1, q2], hK _ ?_⟩
  clear hK K'
  refine wpHeads_step (fun K' hK => ?_)
  go_simp
  refine ⟨_, fun _ _ => rfl, hK _ ?_⟩
  clear hK K'
  refine wpHeads_nil ?_
  have SD := Lib.hid S0
  have BD := Lib.hid (show Below w2.heap.size w2 w2.drew from (Below.refl _ _).drew)
  have HYD : Hid (w2.drew.heap[w.heap.size + 1]? = some (.cells #[.int .i64 0, .int .i64 0, .slice none 0 0] 24 (0, 0))) := Lib.hid HY2.out
  generalize w2.drew = WD at *
  clear S0 p0 p1
  refine held_one 7 rfl rfl (by kernel_rfl) fun K' hK => ?_
  go_simp
  go_at_call 34
  refine (RC.out _ SD.out.bel).mono ?_
  rintro e w5 ⟨⟨v5, rfl, ho5⟩, hb5⟩
  obtain ⟨a5, c5, rfl, -, -⟩ := sl_form ho5.sl
  rw [← HOLD.out]
  refine hK _ _ (SD.out.below hb5) ?_
  clear hK K'
  have S5 := Lib.hid (SD.out.below hb5)
  have B5 := Lib.hid (btA BD.out hb5)
  have HY5 := Lib.hid ((hb5.block _ (lt_of_some0 HYD.out)).trans HYD.out)
  clear ho5 hb5 RC SD HYD BD HX2 HY2
  refine held_one 8 rfl rfl (by kernel_rfl) fun K' hK => ?_
  go_simp
  refine hK _ _ S5.out ?_
  clear hK K'
  refine held_one 10 rfl rfl (by kernel_rfl) fun K' hK => ?_
  go_simp
  refine hK _ _ S5.out ?_
  clear hK K'
  refine held_one 11 rfl rfl (by kernel_rfl) fun K' hK => ?_
  go_simp
  go_at_call 86
  refine (RW2.out _ S5.out.bel).mono ?_
  rintro e w9 h9
  obtain ⟨a9, c9, rfl, hr9, hd9, hb9⟩ := de_weak2 h9
  have HR9 := Lib.hid hr9
  have RD9 := Lib.hid (rd_mono (C := fun q => q < w.heap.size ∨ w.heap.size + 2 ≤ q) hd9 fun q hq _ => hq.imp id fun h => by have h1 := SZ2.out; have h2 := B5.out.size; omega)
  have HY9 := Lib.hid ((hb9.block _ (lt_of_some0 HY5.out)).trans HY5.out)
  have B9 := Lib.hid (btA S5.out.bel hb9)
  obtain ⟨n9, hn9⟩ : ∃ z, z = DD.2.2.length := ⟨_, rfl⟩
  rw [← hn9] at RD9 ⊢
  have HN9 := Lib.hid hn9
  refine hK _ _ (S5.out.below hb9) ?_
  clear hK K'
  have S9 := Lib.hid (S5.out.below hb9)
  clear hr9 hd9 hb9 RW2 S5 HY5 B5 K
  refine wpAnyH_take (i := 12) (v := .agg #[.int .i64 DD.1, .int .i64 DD.2.1, .slice a9 n9 c9]) rfl (by kernel_rfl) (by kernel_rfl) (by kernel_rfl) (fun _ _ _ h => h) (Or.inl ⟨by kernel_rfl, fun w _ => by go_simp⟩) S9.out ?_
  refine wpAnyH_take (i := 13) (v := .int .i64 (CE : Int)) rfl (by kernel_rfl) (by kernel_rfl) (by kernel_rfl) (fun _ _ _ h => h) (Or.inl ⟨by kernel_rfl, fun w _ => by go_simp⟩) S9.out ?_
  obtain ⟨y0, y1, y2⟩ := box3c HY9.out
  have u0 := frozen_of_row w9 (w.heap.size + 1) 0 _ _ HY9.out
  have u1 := frozen_of_row w9 (w.heap.size + 1) 1 _ _ HY9.out
  have u2 := frozen_of_row w9 (w.heap.size + 1) 2 _ _ HY9.out
  refine held_one 14 rfl rfl (by kernel_rfl) fun K' hK => ?_
  go_simp
  refine hK _ _ (S9.out.set3 (by omega) (fun p hp => by rw [List.mem_singleton.1 hp]; show w.heap.size ≠ w.heap.size + 1; omega)) ?_
  clear hK K'
  refine held_one 15 rfl rfl (by kernel_rfl) fun K' hK => ?_
  go_simp
  refine hK _ _ (S9.out.set3 (by omega) (fun p hp => by rw [List.mem_singleton.1 hp]; show w.heap.size ≠ w.heap.size + 1; omega)) ?_
  clear hK K'
  refine wpAnyH_done (by kernel_rfl) ?_ _
  unfold onlyN
  dsimp only
  clear y0 y1 y2 u0 u1 u2
  go_wp2
  refine rdisk_end rfl (set3c HY9.out) rfl ?_
  exact ⟨⟨_, rfl, _, rfl, HR9.out, rd_move (B := fun q => q < w.heap.size ∨ w.heap.size + 2 ≤ q) (fun q hq _ => set3_other (by rcases hq with hq | hq <;> omega)) (fun q hq _ => hq.imp id fun h => by omega) (by first | exact RD9.out | (rw [← HN9.out]; exact RD9.out))⟩, below_set3 B9.out (by omega)⟩
set_option maxRecDepth 100000 in
set_option maxHeartbeats 12800000 in
theorem rput_any (v : Value) (d : Dk) (s : ByteArray) (off : Int) (dv : Value) (b : List Nat) (w : World) (hof : -9223372036854775808 ≤ off ∧ off ≤ 9223372036854775807) (sd : Sl w dv b) (hb : b.length ≤ 1099511627776) (hs : s.size ≤ maxLen) (k : Nat) (hv : Dv w v d) (hpn : PnD d k) (hk : k ≤ 89990) : Calls Try.prog 58 #[v, .string s, .int .i64 off, dv] w (DE (fun b => b < w.heap.size) w (putD d s off b) (putE d s off b)) := by
  have HV := Lib.hid hv
  obtain ⟨fv, rfl, hr, sf⟩ := hv
  have sfo : Rd (fun q => q < w.heap.size) w (.sl tyF) [fv] d.2.2 := rd_mono sf fun _ _ h => h
  have RA := Lib.hid (fun W (h : Below w.heap.size w W) => rat_any _ d s hs W (dv_below HV.out h))
  have DV := Lib.hid (fun W (h : Below w.heap.size w W) => show DvB (fun q => q < w.heap.size) W (.agg #[.int .i64 d.1, .int .i64 d.2.1, fv]) d from ⟨fv, rfl, hr, rd_below sfo h⟩)
  have AT := Lib.hid (fun h => at_nat (d := d) (s := s) h)
  have RW := Lib.hid (fun (h0 : atE d s = 0) (i of : Nat) (hi : atI d s = (i : Int)) (hof : off = (of : Int)) (ho : of ≤ (contL (fileAt d s)).length) W (h : Below w.heap.size w W) => show Calls Try.prog 86 #[.agg #[.int .i64 d.1, .int .i64 d.2.1, fv], .int .i64 (i : Int), .agg #[.int .i64 (of : Int), dv, .bool false]] W (DE (fun b => b < w.heap.size ∧ b < W.heap.size) W (putD d s off b) (putE d s off b)) from by rw [hof]; exact rwr_put (.agg #[.int .i64 d.1, .int .i64 d.2.1, fv]) d s i dv of b W (DV.out W h) h0 hi k hpn hk (sl_below sd h) ho hb)
  have HD0 := Lib.hid (show atE d s ≠ 0 → putD d s off b = dk0 ∧ putE d s off b = atE d s from fun h => by
    have h1 : putE d s off b = atE d s := by unfold putE; rw [if_neg h]
    exact ⟨by unfold putD; rw [if_neg (by rw [h1]; exact h)], h1⟩)
  have HE0 := Lib.hid (show atE d s = 0 → (off < 0 ∨ ((contL (fileAt d s)).length : Int) < off) → putD d s off b = dk0 ∧ putE d s off b = 2 from fun h hc => by
    have h1 : putE d s off b = 2 := by unfold putE; rw [if_pos h, if_pos hc]
    exact ⟨by unfold putD; rw [if_neg (by rw [h1]; decide)], h1⟩)
  obtain ⟨ad, cd, rfl, -, -⟩ := sl_form sd
  have SF := Lib.hid sfo
  obtain ⟨af, cf, rfl, -, -⟩ := rd_sl sf
  generalize putD d s off b = DD at *
  generalize putE d s off b = CE at *
  generalize b.length = nd at *
  generalize fileAt d s = FA at *
  generalize atE d s = E at *
  generalize atI d s = IE at *
  obtain ⟨cap, left, L⟩ := d
  dsimp only at RA DV SF AT RW ⊢
  obtain ⟨n, hn⟩ : ∃ z, z = L.length := ⟨_, rfl⟩
  rw [← hn] at SF RA DV RW AT ⊢
  have HN := Lib.hid hn
  have A1 := bel_al0 w (.cells #[.int .i64 cap, .int .i64 left, .slice af n cf] 24)
  have BX := Lib.hid (btA A1 (bel_al0 _ (.cells #[.int .i64 0, .int .i64 0, .slice none 0 0] 24)))
  have HX := Lib.hid (show ((w.alloc (.cells #[.int .i64 cap, .int .i64 left, .slice af n cf] 24)).alloc (.cells #[.int .i64 0, .int .i64 0, .slice none 0 0] 24)).heap[w.heap.size]? = some (.cells #[.int .i64 cap, .int .i64 left, .slice af n cf] 24 (0, 0)) from (al_old (by simp)).trans (heap_alloc_new w _))
  have HY := Lib.hid (heap_alloc2_new w (.cells #[.int .i64 cap, .int .i64 left, .slice af n cf] 24) (.cells #[.int .i64 0, .int .i64 0, .slice none 0 0] 24))
  clear sf sfo hr A1 hn HV
  go_enter Try.func58, Try.ntmps58
  go_upto_region 1 with fail
  generalize ((w.alloc (.cells #[.int .i64 cap, .int .i64 left, .slice af n cf] 24)).alloc (.cells #[.int .i64 0, .int .i64 0, .slice none 0 0] 24)) = W1 at *
  obtain ⟨x0, x1, x2⟩ := box3c HX.out
  go_wp2_with fail
  refine (RA.out _ BX.out).mono ?_
  rintro e w2 ⟨rfl, hb2⟩
  have B2 := Lib.hid (btA BX.out hb2)
  have HX2 := Lib.hid ((hb2.block _ (lt_of_some0 HX.out)).trans HX.out)
  have HY2 := Lib.hid ((hb2.block _ (lt_of_some0 HY.out)).trans HY.out)
  clear hb2 x0 x1 x2 RA HX HY BX
  by_cases h0 : E = 0
  case neg =>
    have e1 : ((E : Int) != 0) = true := by rw [bne_iff_ne]; omega
    have HDZ := Lib.hid (HD0.out h0)
    clear h0 HD0 RW AT
    obtain ⟨y0, y1, y2⟩ := box3c HY2.out
    have u0 := frozen_of_row w2 (w.heap.size + 1) 0 _ _ HY2.out
    have u1 := frozen_of_row w2 (w.heap.size + 1) 1 _ _ HY2.out
    have u2 := frozen_of_row w2 (w.heap.size + 1) 2 _ _ HY2.out
    go_wp2
    refine rdisk_end rfl (set3c HY2.out) rfl ?_
    rw [HDZ.out.1, HDZ.out.2]
    exact de_zero (below_set3 B2.out (by omega))
  subst h0
  obtain ⟨i, rfl, hil, hfa⟩ := AT.out rfl
  have HI := Lib.hid hil
  have SZ2 := Lib.hid (lt_of_some0 HY2.out)
  obtain ⟨b1, o1, bv, pv, rfl, -, k0, k1, k2, hsz, hbb, hpp⟩ := dv_at SF.out (by have := HI.out; have := HN.out; omega : i < L.length)
  rw [← hfa] at k0 hsz hbb hpp
  obtain ⟨sa, xb, xp⟩ := FA
  dsimp only at k0 k1 k2 hsz hbb hpp RW HE0
  obtain ⟨ab, cb, rfl, -, -⟩ := sl_form (rd8_sl hbb)
  obtain ⟨ap, cp, rfl, -, -⟩ := rd_sl hpp
  have RC := Lib.hid (fun W (h : Below w.heap.size w W) => rcontent_any sa _ _ xb xp W (sl_below (rd8_sl hbb) h) (rd_mono (rd_below hpp h) fun _ _ _ => trivial))
  replace k0 := (B2.out.cell (block_lt_of_cell k0)).trans k0
  replace k1 := (B2.out.cell (block_lt_of_cell k1)).trans k1
  replace k2 := (B2.out.cell (block_lt_of_cell k2)).trans k2
  obtain ⟨old, hold⟩ : ∃ z, z = (contL (sa, xb, xp)).length := ⟨_, rfl⟩
  rw [← hold] at RW HE0
  have HOLD := Lib.hid hold
  generalize xb.length = nb at *
  generalize xp.length = np at *
  have p0 : (0 : Int) ≤ (i : Int) := by omega
  have p1 : (i : Int) < (n : Int) := by have := HI.out; omega
  clear hold hsz hbb hpp hfa hil AT DV HD0
  obtain ⟨x0, x1, x2⟩ := box3c HX2.out
  by_cases hneg : off < 0
  · have e1 : decide (off < 0) = true := decide_eq_true hneg
    obtain ⟨hz1, hz2⟩ := HE0.out rfl (Or.inl hneg)
    have HZ1 := Lib.hid hz1
    have HZ2 := Lib.hid hz2
    clear hneg hz1 hz2 HE0 RW RC k0 k1 k2 p0 p1
    obtain ⟨y0, y1, y2⟩ := box3c HY2.out
    have u0 := frozen_of_row w2 (w.heap.size + 1) 0 _ _ HY2.out
    have u1 := frozen_of_row w2 (w.heap.size + 1) 1 _ _ HY2.out
    have u2 := frozen_of_row w2 (w.heap.size + 1) 2 _ _ HY2.out
    go_wp2
    refine rdisk_end rfl (set3c HY2.out) rfl ?_
    rw [HZ1.out, HZ2.out]
    exact de_zero (below_set3 B2.out (by omega))
  obtain ⟨of, rfl⟩ : ∃ z : Nat, off = (z : Int) := ⟨off.toNat, by omega⟩
  have e1 : decide ((of : Int) < 0) = false := decide_eq_false hneg
  clear hneg
  go_wp2_with fail
  refine (RC.out _ B2.out).mono ?_
  rintro e w5 ⟨⟨v5, rfl, ho5⟩, hb5⟩
  obtain ⟨a5, c5, rfl, -, -⟩ := sl_form ho5.sl
  rw [← HOLD.out]
  have B5 := Lib.hid (btA B2.out hb5)
  have BZ := Lib.hid hb5
  have HX5 := Lib.hid ((hb5.block _ (lt_of_some0 HX2.out)).trans HX2.out)
  have HY5 := Lib.hid ((hb5.block _ (lt_of_some0 HY2.out)).trans HY2.out)
  clear ho5 hb5 RC k0 k1 k2 p0 p1 x0 x1 x2 HX2 HY2 B2 e1
  by_cases hbig : old < of
  · have e2 : decide ((of : Int) > (old : Int)) = true := decide_eq_true (by omega)
    have e3 : decide ((old : Int) < (of : Int)) = true := decide_eq_true (by omega)
    have e4 : decide (old < of) = true := decide_eq_true hbig
    obtain ⟨hz1, hz2⟩ := HE0.out (by first | rfl | trivial) (Or.inr (by omega))
    have HZ1 := Lib.hid hz1
    have HZ2 := Lib.hid hz2
    clear hbig hz1 hz2 HE0 RW
    obtain ⟨y0, y1, y2⟩ := box3c HY5.out
    have u0 := frozen_of_row w5 (w.heap.size + 1) 0 _ _ HY5.out
    have u1 := frozen_of_row w5 (w.heap.size + 1) 1 _ _ HY5.out
    have u2 := frozen_of_row w5 (w.heap.size + 1) 2 _ _ HY5.out
    go_wp2
    refine rdisk_end rfl (set3c HY5.out) rfl ?_
    rw [HZ1.out, HZ2.out]
    exact de_zero (below_set3 B5.out (by omega))
  have e2 : decide ((of : Int) > (old : Int)) = false := decide_eq_false (by omega)
  have e3 : decide ((old : Int) < (of : Int)) = false := decide_eq_false (by omega)
  have e4 : decide (old < of) = false := decide_eq_false hbig
  have RW2 := Lib.hid (RW.out (by first | rfl | trivial) i of (by first | rfl | trivial) (by first | rfl | trivial) (by omega))
  clear hbig HE0 RW
  obtain ⟨x0, x1, x2⟩ := box3c HX5.out
  go_wp2_with fail
  refine (RW2.out _ B5.out).mono ?_
  rintro e w9 h9
  obtain ⟨a9, c9, rfl, hr9, hd9, hb9⟩ := de_weak2 h9
  have HR9 := Lib.hid hr9
  have RD9 := Lib.hid (rd_mono (C := fun q => q < w.heap.size ∨ w.heap.size + 2 ≤ q) hd9 fun q hq _ => hq.imp id fun h => by have h1 := SZ2.out; have h2 := BZ.out.size; omega)
  have HY9 := Lib.hid ((hb9.block _ (lt_of_some0 HY5.out)).trans HY5.out)
  have B9 := Lib.hid (btA B5.out hb9)
  obtain ⟨n9, hn9⟩ : ∃ z, z = DD.2.2.length := ⟨_, rfl⟩
  rw [← hn9] at RD9 ⊢
  have HN9 := Lib.hid hn9
  clear hr9 hd9 hb9 hn9 RW2 HX5 HY5 B5 BZ x0 x1 x2 e2 e3 e4
  obtain ⟨y0, y1, y2⟩ := box3c HY9.out
  have u0 := frozen_of_row w9 (w.heap.size + 1) 0 _ _ HY9.out
  have u1 := frozen_of_row w9 (w.heap.size + 1) 1 _ _ HY9.out
  have u2 := frozen_of_row w9 (w.heap.size + 1) 2 _ _ HY9.out
  go_wp2
  refine rdisk_end rfl (set3c HY9.out) rfl ?_
  exact ⟨⟨_, rfl, _, rfl, HR9.out, rd_move (B := fun q => q < w.heap.size ∨ w.heap.size + 2 ≤ q) (fun q hq _ => set3_other (by rcases hq with hq | hq <;> omega)) (fun q hq _ => hq.imp id fun h => by omega) (by first | exact RD9.out | (rw [← HN9.out]; exact RD9.out))⟩, below_set3 B9.out (by omega)⟩
set_option maxRecDepth 100000 in
set_option maxHeartbeats 12800000 in
theorem rtrunc_any (v : Value) (d : Dk) (s : ByteArray) (off : Int) (w : World) (hof : -9223372036854775808 ≤ off ∧ off ≤ 9223372036854775807) (hs : s.size ≤ maxLen) (k : Nat) (hv : Dv w v d) (hpn : PnD d k) (hk : k ≤ 89990) : Calls Try.prog 59 #[v, .string s, .int .i64 off] w (DE (fun b => b < w.heap.size) w (truncD d s off) (truncE d s off)) := by
  have HV := Lib.hid hv
  obtain ⟨fv, rfl, hr, sf⟩ := hv
  have sfo : Rd (fun q => q < w.heap.size) w (.sl tyF) [fv] d.2.2 := rd_mono sf fun _ _ h => h
  have RA := Lib.hid (fun W (h : Below w.heap.size w W) => rat_any _ d s hs W (dv_below HV.out h))
  have DV := Lib.hid (fun W (h : Below w.heap.size w W) => show DvB (fun q => q < w.heap.size) W (.agg #[.int .i64 d.1, .int .i64 d.2.1, fv]) d from ⟨fv, rfl, hr, rd_below sfo h⟩)
  have AT := Lib.hid (fun h => at_nat (d := d) (s := s) h)
  have RW := Lib.hid (fun (h0 : atE d s = 0) (i of : Nat) (hi : atI d s = (i : Int)) (hof : off = (of : Int)) (ho : of ≤ (contL (fileAt d s)).length) W (h : Below w.heap.size w W) => show Calls Try.prog 86 #[.agg #[.int .i64 d.1, .int .i64 d.2.1, fv], .int .i64 (i : Int), .agg #[.int .i64 (of : Int), .slice none 0 0, .bool true]] W (DE (fun b => b < w.heap.size ∧ b < W.heap.size) W (truncD d s off) (truncE d s off)) from by rw [hof]; exact rwr_trunc (.agg #[.int .i64 d.1, .int .i64 d.2.1, fv]) d s i of W (DV.out W h) h0 hi k hpn hk ho)
  have HD0 := Lib.hid (show atE d s ≠ 0 → truncD d s off = dk0 ∧ truncE d s off = atE d s from fun h => by
    have h1 : truncE d s off = atE d s := by unfold truncE; rw [if_neg h]
    exact ⟨by unfold truncD; rw [if_neg (by rw [h1]; exact h)], h1⟩)
  have HE0 := Lib.hid (show atE d s = 0 → (off < 0 ∨ ((contL (fileAt d s)).length : Int) < off) → truncD d s off = dk0 ∧ truncE d s off = 2 from fun h hc => by
    have h1 : truncE d s off = 2 := by unfold truncE; rw [if_pos h, if_pos hc]
    exact ⟨by unfold truncD; rw [if_neg (by rw [h1]; decide)], h1⟩)
  have SF := Lib.hid sfo
  obtain ⟨af, cf, rfl, -, -⟩ := rd_sl sf
  generalize truncD d s off = DD at *
  generalize truncE d s off = CE at *
  generalize fileAt d s = FA at *
  generalize atE d s = E at *
  generalize atI d s = IE at *
  obtain ⟨cap, left, L⟩ := d
  dsimp only at RA DV SF AT RW ⊢
  obtain ⟨n, hn⟩ : ∃ z, z = L.length := ⟨_, rfl⟩
  rw [← hn] at SF RA DV RW AT ⊢
  have HN := Lib.hid hn
  have A1 := bel_al0 w (.cells #[.int .i64 cap, .int .i64 left, .slice af n cf] 24)
  have BX := Lib.hid (btA A1 (bel_al0 _ (.cells #[.int .i64 0, .int .i64 0, .slice none 0 0] 24)))
  have HX := Lib.hid (show ((w.alloc (.cells #[.int .i64 cap, .int .i64 left, .slice af n cf] 24)).alloc (.cells #[.int .i64 0, .int .i64 0, .slice none 0 0] 24)).heap[w.heap.size]? = some (.cells #[.int .i64 cap, .int .i64 left, .slice af n cf] 24 (0, 0)) from (al_old (by simp)).trans (heap_alloc_new w _))
  have HY := Lib.hid (heap_alloc2_new w (.cells #[.int .i64 cap, .int .i64 left, .slice af n cf] 24) (.cells #[.int .i64 0, .int .i64 0, .slice none 0 0] 24))
  clear sf sfo hr A1 hn HV
  go_enter Try.func59, Try.ntmps59
  go_upto_region 1 with fail
  generalize ((w.alloc (.cells #[.int .i64 cap, .int .i64 left, .slice af n cf] 24)).alloc (.cells #[.int .i64 0, .int .i64 0, .slice none 0 0] 24)) = W1 at *
  obtain ⟨x0, x1, x2⟩ := box3c HX.out
  go_wp2_with fail
  refine (RA.out _ BX.out).mono ?_
  rintro e w2 ⟨rfl, hb2⟩
  have B2 := Lib.hid (btA BX.out hb2)
  have HX2 := Lib.hid ((hb2.block _ (lt_of_some0 HX.out)).trans HX.out)
  have HY2 := Lib.hid ((hb2.block _ (lt_of_some0 HY.out)).trans HY.out)
  clear hb2 x0 x1 x2 RA HX HY BX
  by_cases h0 : E = 0
  case neg =>
    have e1 : ((E : Int) != 0) = true := by rw [bne_iff_ne]; omega
    have HDZ := Lib.hid (HD0.out h0)
    clear h0 HD0 RW AT
    obtain ⟨y0, y1, y2⟩ := box3c HY2.out
    have u0 := frozen_of_row w2 (w.heap.size + 1) 0 _ _ HY2.out
    have u1 := frozen_of_row w2 (w.heap.size + 1) 1 _ _ HY2.out
    have u2 := frozen_of_row w2 (w.heap.size + 1) 2 _ _ HY2.out
    go_wp2
    refine rdisk_end rfl (set3c HY2.out) rfl ?_
    rw [HDZ.out.1, HDZ.out.2]
    exact de_zero (below_set3 B2.out (by omega))
  subst h0
  obtain ⟨i, rfl, hil, hfa⟩ := AT.out rfl
  have HI := Lib.hid hil
  have SZ2 := Lib.hid (lt_of_some0 HY2.out)
  obtain ⟨b1, o1, bv, pv, rfl, -, k0, k1, k2, hsz, hbb, hpp⟩ := dv_at SF.out (by have := HI.out; have := HN.out; omega : i < L.length)
  rw [← hfa] at k0 hsz hbb hpp
  obtain ⟨sa, xb, xp⟩ := FA
  dsimp only at k0 k1 k2 hsz hbb hpp RW HE0
  obtain ⟨ab, cb, rfl, -, -⟩ := sl_form (rd8_sl hbb)
  obtain ⟨ap, cp, rfl, -, -⟩ := rd_sl hpp
  have RC := Lib.hid (fun W (h : Below w.heap.size w W) => rcontent_any sa _ _ xb xp W (sl_below (rd8_sl hbb) h) (rd_mono (rd_below hpp h) fun _ _ _ => trivial))
  replace k0 := (B2.out.cell (block_lt_of_cell k0)).trans k0
  replace k1 := (B2.out.cell (block_lt_of_cell k1)).trans k1
  replace k2 := (B2.out.cell (block_lt_of_cell k2)).trans k2
  obtain ⟨old, hold⟩ : ∃ z, z = (contL (sa, xb, xp)).length := ⟨_, rfl⟩
  rw [← hold] at RW HE0
  have HOLD := Lib.hid hold
  generalize xb.length = nb at *
  generalize xp.length = np at *
  have p0 : (0 : Int) ≤ (i : Int) := by omega
  have p1 : (i : Int) < (n : Int) := by have := HI.out; omega
  clear hold hsz hbb hpp hfa hil AT DV HD0
  obtain ⟨x0, x1, x2⟩ := box3c HX2.out
  by_cases hneg : off < 0
  · have e1 : decide (off < 0) = true := decide_eq_true hneg
    obtain ⟨hz1, hz2⟩ := HE0.out rfl (Or.inl hneg)
    have HZ1 := Lib.hid hz1
    have HZ2 := Lib.hid hz2
    clear hneg hz1 hz2 HE0 RW RC k0 k1 k2 p0 p1
    obtain ⟨y0, y1, y2⟩ := box3c HY2.out
    have u0 := frozen_of_row w2 (w.heap.size + 1) 0 _ _ HY2.out
    have u1 := frozen_of_row w2 (w.heap.size + 1) 1 _ _ HY2.out
    have u2 := frozen_of_row w2 (w.heap.size + 1) 2 _ _ HY2.out
    go_wp2
    refine rdisk_end rfl (set3c HY2.out) rfl ?_
    rw [HZ1.out, HZ2.out]
    exact de_zero (below_set3 B2.out (by omega))
  obtain ⟨of, rfl⟩ : ∃ z : Nat, off = (z : Int) := ⟨off.toNat, by omega⟩
  have e1 : decide ((of : Int) < 0) = false := decide_eq_false hneg
  clear hneg
  go_wp2_with fail
  refine (RC.out _ B2.out).mono ?_
  rintro e w5 ⟨⟨v5, rfl, ho5⟩, hb5⟩
  obtain ⟨a5, c5, rfl, -, -⟩ := sl_form ho5.sl
  rw [← HOLD.out]
  have B5 := Lib.hid (btA B2.out hb5)
  have BZ := Lib.hid hb5
  have HX5 := Lib.hid ((hb5.block _ (lt_of_some0 HX2.out)).trans HX2.out)
  have HY5 := Lib.hid ((hb5.block _ (lt_of_some0 HY2.out)).trans HY2.out)
  clear ho5 hb5 RC k0 k1 k2 p0 p1 x0 x1 x2 HX2 HY2 B2 e1
  by_cases hbig : old < of
  · have e2 : decide ((of : Int) > (old : Int)) = true := decide_eq_true (by omega)
    have e3 : decide ((old : Int) < (of : Int)) = true := decide_eq_true (by omega)
    have e4 : decide (old < of) = true := decide_eq_true hbig
    obtain ⟨hz1, hz2⟩ := HE0.out (by first | rfl | trivial) (Or.inr (by omega))
    have HZ1 := Lib.hid hz1
    have HZ2 := Lib.hid hz2
    clear hbig hz1 hz2 HE0 RW
    obtain ⟨y0, y1, y2⟩ := box3c HY5.out
    have u0 := frozen_of_row w5 (w.heap.size + 1) 0 _ _ HY5.out
    have u1 := frozen_of_row w5 (w.heap.size + 1) 1 _ _ HY5.out
    have u2 := frozen_of_row w5 (w.heap.size + 1) 2 _ _ HY5.out
    go_wp2
    refine rdisk_end rfl (set3c HY5.out) rfl ?_
    rw [HZ1.out, HZ2.out]
    exact de_zero (below_set3 B5.out (by omega))
  have e2 : decide ((of : Int) > (old : Int)) = false := decide_eq_false (by omega)
  have e3 : decide ((old : Int) < (of : Int)) = false := decide_eq_false (by omega)
  have e4 : decide (old < of) = false := decide_eq_false hbig
  have RW2 := Lib.hid (RW.out (by first | rfl | trivial) i of (by first | rfl | trivial) (by first | rfl | trivial) (by omega))
  clear hbig HE0 RW
  obtain ⟨x0, x1, x2⟩ := box3c HX5.out
  go_wp2_with fail
  refine (RW2.out _ B5.out).mono ?_
  rintro e w9 h9
  obtain ⟨a9, c9, rfl, hr9, hd9, hb9⟩ := de_weak2 h9
  have HR9 := Lib.hid hr9
  have RD9 := Lib.hid (rd_mono (C := fun q => q < w.heap.size ∨ w.heap.size + 2 ≤ q) hd9 fun q hq _ => hq.imp id fun h => by have h1 := SZ2.out; have h2 := BZ.out.size; omega)
  have HY9 := Lib.hid ((hb9.block _ (lt_of_some0 HY5.out)).trans HY5.out)
  have B9 := Lib.hid (btA B5.out hb9)
  obtain ⟨n9, hn9⟩ : ∃ z, z = DD.2.2.length := ⟨_, rfl⟩
  rw [← hn9] at RD9 ⊢
  have HN9 := Lib.hid hn9
  clear hr9 hd9 hb9 hn9 RW2 HX5 HY5 B5 BZ x0 x1 x2 e2 e3 e4
  obtain ⟨y0, y1, y2⟩ := box3c HY9.out
  have u0 := frozen_of_row w9 (w.heap.size + 1) 0 _ _ HY9.out
  have u1 := frozen_of_row w9 (w.heap.size + 1) 1 _ _ HY9.out
  have u2 := frozen_of_row w9 (w.heap.size + 1) 2 _ _ HY9.out
  go_wp2
  refine rdisk_end rfl (set3c HY9.out) rfl ?_
  exact ⟨⟨_, rfl, _, rfl, HR9.out, rd_move (B := fun q => q < w.heap.size ∨ w.heap.size + 2 ≤ q) (fun q hq _ => set3_other (by rcases hq with hq | hq <;> omega)) (fun q hq _ => hq.imp id fun h => by omega) (by first | exact RD9.out | (rw [← HN9.out]; exact RD9.out))⟩, below_set3 B9.out (by omega)⟩
end Go.Proofs.Ytpipgbjkkiheaaa.Gf
