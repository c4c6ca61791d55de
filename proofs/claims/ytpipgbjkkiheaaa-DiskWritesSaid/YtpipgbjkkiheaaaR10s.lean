/- What is proved here: the contract of the reference's Crash (disk). No condition. -/
import Derived.Test.YtpipgbjkkiheaaaR10r
import Derived.Deep.CutRange
namespace Go.Proofs.Ytpipgbjkkiheaaa.Gf
open Go Go.Joins Go.ChangeShapes Go.WideShapes Go.ChangeAt Go.RowKit Go.Deep Go.Proofs.Ytpipgbjkkiheaaa.By Go.Proofs.Ytpipgbjkkiheaaa.Qt

set_option maxRecDepth 100000 in
set_option maxHeartbeats 12800000 in
theorem rcrash_any (v lv : Value) (d : Dk) (l : List Kep) (w : World) (hv : Dv w v d) (sl : Rd (fun _ => True) w (.sl tyK) [lv] l) : Calls Try.prog 63 #[v, lv] w (DvO (fun _ => False) w (crashD d l)) := by
  have RV := Lib.hid (fun W (h : Below w.heap.size w W) => rvalid10_any v d W (dv_below hv h))
  obtain ⟨fv, rfl, hr, sf⟩ := hv
  obtain ⟨af, cf, rfl, -, -⟩ := rd_sl sf
  obtain ⟨al, cl, rfl, -, -⟩ := rd_sl sl
  have SF := Lib.hid sf
  have SL := Lib.hid sl
  have HR := Lib.hid hr
  have HVP := Lib.hid (fun (h : validB d = true) => And.intro (ok_mem (valid_parts h).2.2.2) (valid_parts h).2.2.1)
  have HCD := Lib.hid (fun (h : validB d = true) => show crashD d l = (d.1, -1, d.2.2.map fun f => remF f ((fstK f.1 l).getD kep0)) by unfold crashD; rw [if_pos h])
  have HC0 := Lib.hid (fun (h : ¬ validB d = true) => show crashD d l = dk0 by unfold crashD; rw [if_neg h])
  generalize crashD d l = CD at *
  generalize validB d = VB at *
  obtain ⟨FN, hFN⟩ : ∃ z : Fl → Fl, z = fun f => remF f ((fstK f.1 l).getD kep0) := ⟨_, rfl⟩
  rw [← hFN] at HCD
  have HFN := Lib.hid hFN
  obtain ⟨cap, left, L⟩ := d
  dsimp only at SF HR HVP HCD HC0 RV ⊢
  obtain ⟨n, hn⟩ : ∃ z, z = L.length := ⟨_, rfl⟩
  rw [← hn] at SF HVP RV ⊢
  have HN := Lib.hid hn
  obtain ⟨nl, hnl⟩ : ∃ z, z = l.length := ⟨_, rfl⟩
  rw [← hnl] at SL ⊢
  have A1 := bel_al0 w (.cells #[.int .i64 cap, .int .i64 left, .slice af n cf] 24)
  have BX := Lib.hid (btA A1 (bel_al0 _ (.cells #[.int .i64 0, .int .i64 0, .slice none 0 0] 24)))
  have HX := Lib.hid (show ((w.alloc (.cells #[.int .i64 cap, .int .i64 left, .slice af n cf] 24)).alloc (.cells #[.int .i64 0, .int .i64 0, .slice none 0 0] 24)).heap[w.heap.size]? = some (.cells #[.int .i64 cap, .int .i64 left, .slice af n cf] 24 (0, 0)) from (al_old (by simp)).trans (heap_alloc_new w _))
  have HY := Lib.hid (heap_alloc2_new w (.cells #[.int .i64 cap, .int .i64 left, .slice af n cf] 24) (.cells #[.int .i64 0, .int .i64 0, .slice none 0 0] 24))
  clear sf sl hr A1 hn hnl hFN
  go_enter Try.func63, Try.ntmps63
  go_upto_region 1 with fail
  generalize ((w.alloc (.cells #[.int .i64 cap, .int .i64 left, .slice af n cf] 24)).alloc (.cells #[.int .i64 0, .int .i64 0, .slice none 0 0] 24)) = W1 at *
  obtain ⟨x0, x1, x2⟩ := box3c HX.out
  go_wp2_with fail
  refine (RV.out _ BX.out).mono ?_
  rintro e w2 ⟨rfl, hb2⟩
  have B2 := Lib.hid (btA BX.out hb2)
  have HX2 := Lib.hid ((hb2.block _ (lt_of_some0 HX.out)).trans HX.out)
  have HY2 := Lib.hid ((hb2.block _ (lt_of_some0 HY.out)).trans HY.out)
  clear hb2 x0 x1 x2 HX HY BX RV
  cases VB
  case false =>
    have hc := Lib.hid (HC0.out (by decide))
    clear HC0 HCD HVP
    obtain ⟨y0, y1, y2⟩ := box3c HY2.out
    have u0 := frozen_of_row w2 (w.heap.size + 1) 0 _ _ HY2.out
    have u1 := frozen_of_row w2 (w.heap.size + 1) 1 _ _ HY2.out
    have u2 := frozen_of_row w2 (w.heap.size + 1) 2 _ _ HY2.out
    go_wp2
    refine bodyPost_ret (results_cell_row Try.results63 _ _ (w.heap.size + 1) 24 _ (0, 0) _ rfl (set3c HY2.out) Try.underlying24 rfl infoD) rfl ?_
    rw [hc.out]
    exact ⟨⟨_, rfl, .slice none 0 0, rfl, ⟨⟨by show _ ≤ (0 : Int); omega, by show (0 : Int) ≤ _; omega⟩, by show _ ≤ (0 : Int); omega, by show (0 : Int) ≤ _; omega⟩, rd_nil _ _ _⟩, below_set3 B2.out (by omega)⟩
  have HOKF := Lib.hid (HVP.out rfl).1
  have HLE := Lib.hid (HVP.out rfl).2
  have HCD2 := Lib.hid (HCD.out rfl)
  clear HC0 HCD HVP
  obtain ⟨x0, x1, x2⟩ := box3c HX2.out
  go_upto_region 4 with fail
  have q3 := bel_al0 w2 (.cells #[.int .i64 cap, .int .i64 (-1), .slice none 0 0] 24)
  have HQ3 := Lib.hid (heap_alloc_new w2 (.cells #[.int .i64 cap, .int .i64 (-1), .slice none 0 0] 24))
  have HX3 := Lib.hid ((q3.block _ (lt_of_some0 HX2.out)).trans HX2.out)
  have HY3 := Lib.hid ((q3.block _ (lt_of_some0 HY2.out)).trans HY2.out)
  have B3 := Lib.hid (btA B2.out q3)
  have SQ := Lib.hid (show w.heap.size + 2 ≤ w2.heap.size from lt_of_some0 HY2.out)
  clear q3 x0 x1 x2 HX2 HY2 B2
  generalize w2.alloc (.cells #[.int .i64 cap, .int .i64 (-1), .slice none 0 0] 24) = W3 at *
  generalize w2.heap.size = q at *
  go_wp2_with fail
  go_loopw [6] (fun t wr => ∃ (i : Nat) (ao : Option Addr) (co : Nat), i ≤ n ∧ t = .int .i64 (i : Int) ∧ Hid (wr.heap[q]? = some (.cells #[.int .i64 cap, .int .i64 (-1), .slice ao i co] 24 (0, 0))) ∧ Hid (OwG 63 tyF (fun b => q < b) wr (q + 1) (.slice ao i co) ((L.take i).map FN)) ∧ Hid (wr.heap[w.heap.size]? = some (.cells #[.int .i64 cap, .int .i64 left, .slice af n cf] 24 (0, 0))) ∧ Hid (wr.heap[w.heap.size + 1]? = some (.cells #[.int .i64 0, .int .i64 0, .slice none 0 0] 24 (0, 0))) ∧ Hid (Below w.heap.size w wr)) (fun t _ => n - (intOf t).toNat)
  case atStart => exact ⟨0, none, 0, by omega, rfl, HQ3, Lib.hid (og_nil _ _ _ _ _), HX3, HY3, B3⟩
  case round =>
    clear HQ3 HX3 HY3 B3
    obtain ⟨i, ao, co, hi, rfl, HQ, OO, HX, HY, BB⟩ := hrel
    obtain ⟨x0, x1, x2⟩ := box3c HX.out
    by_cases hlt : i < n
    · have l1 : decide ((i : Int) < (n : Int)) = true := decide_eq_true (by omega)
      have p0 : (0 : Int) ≤ (i : Int) := by omega
      have p1 : (i : Int) < (n : Int) := by omega
      have hip : i < L.length := by have := HN.out; omega
      have ew : wrap64 ((i : Int) + 1) = ((i + 1 : Nat) : Int) := by have := HLE.out; unfold wrap64; omega
      have EW := Lib.hid ew
      obtain ⟨b1, o1, bv, pv, rfl, -, k0, k1, k2, hsz, hbb, hpp⟩ := dv_at SF.out hip
      have HFO := Lib.hid (show flB (L.getD i fl0).2.1 (L.getD i fl0).2.2 = true from by
        have h := HOKF.out (L.getD i fl0) (by rw [getD_F hip]; exact List.getElem_mem hip)
        unfold fileB at h
        rw [Bool.and_eq_true] at h
        exact h.2)
      have HTK := Lib.hid (show (L.take (i + 1)).map FN = (L.take i).map FN ++ [FN (L.getD i fl0)] by rw [List.take_succ_eq_append_getElem hip, List.map_append, getD_F hip]; rfl)
      have HFV := Lib.hid (show FN (L.getD i fl0) = remF (L.getD i fl0) ((fstK (L.getD i fl0).1 l).getD kep0) by rw [HFN.out])
      generalize L.getD i fl0 = x at *
      obtain ⟨sa, xb, xp⟩ := x
      dsimp only at k0 k1 k2 hsz hbb hpp HFO HFV
      obtain ⟨ab, cb, rfl, -, -⟩ := sl_form (rd8_sl hbb)
      obtain ⟨ap, cp, rfl, -, -⟩ := rd_sl hpp
      have RK := Lib.hid (fun W (h : Below w.heap.size w W) => rkept_any sa _ _ (.slice al nl cl) xb xp l W (sl_below (rd8_sl hbb) h) (rd_below hpp h) (rd_below SL.out h) HFO.out)
      have HSA := Lib.hid hsz
      have KK := Lib.hid (fun W (h : Below w.heap.size w W) => And.intro ((h.cell (block_lt_of_cell k0)).trans k0) (And.intro ((h.cell (block_lt_of_cell k1)).trans k1) ((h.cell (block_lt_of_cell k2)).trans k2)))
      have HFV2 := Lib.hid (show FN (sa, xb, xp) = (sa, contL (sa, xb, keepW xp ((fstK sa l).getD kep0).2.1 ((fstK sa l).getD kep0).2.2), []) from HFV.out)
      generalize contL (sa, xb, keepW xp ((fstK sa l).getD kep0).2.1 ((fstK sa l).getD kep0).2.2) = C at *
      generalize xb.length = nb at *
      generalize xp.length = np at *
      have HLT := Lib.hid hlt
      clear hsz hbb hpp hip k0 k1 k2 HFV HFO ew hlt
      go_upto_region 7 with fail
      have p0 : (0 : Int) ≤ (i : Int) := by omega
      have p1 : (i : Int) < (n : Int) := by have := HLT.out; omega
      have OQL := Lib.hid (show ∀ k, (Value.slice ao i co).ownBlock = some k → q + 1 ≤ k from fun k hk => (og_lt OO.out k hk).1)
      have S0 : SBx w [(w.heap.size, (.cells #[.int .i64 cap, .int .i64 left, .slice (some ⟨b1, o1, none⟩) n cf] 24 (0, 0)))] wr.drew := ⟨BB.out.drew, fun p hp => by rw [List.mem_singleton.1 hp]; exact HX.out⟩
      refine wp_onlyN ?_
      refine wp_region_headsS (SBx w [(w.heap.size, (.cells #[.int .i64 cap, .int .i64 left, .slice (some ⟨b1, o1, none⟩) n cf] 24 (0, 0)))]) [0, 2, 3, 4, 5, 6, 7, 8, 9, 10, 11, 12, 13] 7 (by kernel_rfl) (fun _ _ _ _ _ h => h.elim) (by kernel_rfl) (by rfl) (by rfl) S0 ?_
      simp only [pickOps, List.filterMap_cons, List.filterMap_nil, List.getElem?_toArray, List.getElem?_cons_zero, List.getElem?_cons_succ]
      refine wpHeads_step (fun K hK => ?_)
      go_simp
      refine ⟨_, fun _ _ => rfl, hK _ ?_⟩
      clear hK K
      refine wpHeads_step (fun K hK => ?_)
      go_simp
      refine ⟨_, fun _ _ => rfl, hK _ ?_⟩
      clear hK K
      refine wpHeads_step (fun K hK => ?_)
      go_simp
      refine ⟨.slice (some ⟨b1, o1, none⟩) n cf, fun w' hw' => by
        obtain ⟨q0, q1, q2⟩ := box3c (hw'.box _ (List.mem_cons_self ..))
        simp [q2], hK _ ?_⟩
      clear hK K
      refine wpHeads_step (fun K hK => ?_)
      go_simp
      refine ⟨_, fun _ _ => rfl, hK _ ?_⟩
      clear hK K
      refine wpHeads_step (fun K hK => ?_)
      go_simp
      refine ⟨.pointer (some ⟨b1, o1 + i * 3, none⟩), fun w' hw' => by go_simp, hK _ ?_⟩
      clear hK K
      refine wpHeads_step (fun K hK => ?_)
      go_simp
      refine ⟨_, fun _ _ => rfl, hK _ ?_⟩
      clear hK K
      refine wpHeads_step (fun K hK => ?_)
      go_simp
      refine ⟨.string sa, fun w' hw' => by
        obtain ⟨q0, q1, q2⟩ := KK.out w' hw'.bel
        simp [q0], hK _ ?_⟩
      clear hK K
      refine wpHeads_step (fun K hK => ?_)
      go_simp
      refine ⟨_, fun _ _ => rfl, hK _ ?_⟩
      clear hK K
      refine wpHeads_step (fun K hK => ?_)
      go_simp
      refine ⟨.slice (some ⟨b1, o1, none⟩) n cf, fun w' hw' => by
        obtain ⟨q0, q1, q2⟩ := box3c (hw'.box _ (List.mem_cons_self ..))
        simp [q2], hK _ ?_⟩
      clear hK K
      refine wpHeads_step (fun K hK => ?_)
      go_simp
      refine ⟨_, fun _ _ => rfl, hK _ ?_⟩
      clear hK K
      refine wpHeads_step (fun K hK => ?_)
      go_simp
      refine ⟨.pointer (some ⟨b1, o1 + i * 3, none⟩), fun w' hw' => by go_simp, hK _ ?_⟩
      clear hK K
      refine wpHeads_step (fun K hK => ?_)
      go_simp
      refine ⟨.agg #[.string sa, .slice ab nb cb, .slice ap np cp], fun w' hw' => by
        obtain ⟨q0, q1, q2⟩ := KK.out w' hw'.bel
        simp [q0, q1, q2], hK _ ?_⟩
      clear hK K
      refine wpHeads_step (fun K hK => ?_)
      go_simp
      refine ⟨_, fun _ _ => rfl, hK _ ?_⟩
      clear hK K
      refine wpHeads_nil ?_
      have SD := Lib.hid S0
      have HQD : Hid (wr.drew.heap[q]? = some (.cells #[.int .i64 cap, .int .i64 (-1), .slice ao i co] 24 (0, 0))) := Lib.hid HQ.out
      have HYD : Hid (wr.drew.heap[w.heap.size + 1]? = some (.cells #[.int .i64 0, .int .i64 0, .slice none 0 0] 24 (0, 0))) := Lib.hid HY.out
      have OD := Lib.hid (og_below OO.out (Below.refl _ _).drew)
      generalize wr.drew = WD at *
      clear S0 x0 x1 x2 HQ HY HX OO BB p0 p1
      refine held_two10 1 14 rfl rfl rfl rfl (by kernel_rfl) (fun K hK => ?_) (fun K hK => ?_)
      · obtain ⟨z0, z1, z2⟩ := box3c HQD.out
        go_simp
        refine hK _ _ SD.out ?_
        clear hK K z0 z1 z2
        refine held_one 14 rfl rfl (by kernel_rfl) fun K hK => ?_
        go_simp
        go_at_call 87
        refine (RK.out _ SD.out.bel).mono ?_
        rintro e w20 ⟨⟨v8, rfl, ho8⟩, hb20⟩
        have HC8 := Lib.hid (rd_mono (C := fun k => q < k ∧ k < w20.heap.size) (own_rd8 ho8) fun k hk hl => ⟨by have := lt_of_some0 HQD.out; omega, hl⟩)
        obtain ⟨a8, c8, rfl, -, -⟩ := sl_form ho8.sl
        obtain ⟨n8, hn8⟩ : ∃ z, z = C.length := ⟨_, rfl⟩
        rw [← hn8] at HC8 ⊢
        refine hK _ _ (SD.out.below hb20) ?_
        clear hK K
        have S20 := Lib.hid (SD.out.below hb20)
        have HQ20 := Lib.hid ((hb20.block _ (lt_of_some0 HQD.out)).trans HQD.out)
        have HY20 := Lib.hid ((hb20.block _ (lt_of_some0 HYD.out)).trans HYD.out)
        have O20 := Lib.hid (og_below OD.out hb20)
        have OL8 := Lib.hid (show ∀ k, (Value.slice ao i co).ownBlock = some k → k < WD.heap.size from fun k hk => (og_lt OD.out k hk).2)
        have W8 := Lib.hid (show ∀ k, WD.heap.size ≤ k → True from fun _ _ => trivial)
        have HC8b := Lib.hid (rd_mono (C := fun k => q < k ∧ (Value.slice ao i co).ownBlock ≠ some k) (own_rd8 ho8) fun k hk _ => ⟨by have := lt_of_some0 HQD.out; omega, fun e => by have := OL8.out k e; omega⟩)
        rw [← hn8] at HC8b
        clear ho8 hb20 hn8 HC8 W8 OL8 SD HQD HYD OD
        refine held_one 15 rfl rfl (by kernel_rfl) fun K hK => ?_
        go_simp
        refine hK _ _ S20.out ?_
        clear hK K
        refine held_one 16 rfl rfl (by kernel_rfl) fun K hK => ?_
        go_simp
        have q21 := bel_al0 w20 (.cells #[.string sa, .slice a8 n8 c8, .slice none 0 0] 63)
        refine hK _ _ (S20.out.below q21) ?_
        clear hK K
        have S21 := Lib.hid (S20.out.below q21)
        have HQ21 := Lib.hid ((q21.block _ (lt_of_some0 HQ20.out)).trans HQ20.out)
        have HY21 := Lib.hid ((q21.block _ (lt_of_some0 HY20.out)).trans HY20.out)
        have O21 := Lib.hid (og_below O20.out q21)
        have SG := Lib.hid (rd_single (B := fun k => (q < k ∧ (Value.slice ao i co).ownBlock ≠ some k)) (rd_f_mk (x := (sa, C, [])) HSA.out (rd_below HC8b.out q21) (rd_nil _ _ _)) (heap_alloc_new w20 (.cells #[.string sa, .slice a8 n8 c8, .slice none 0 0] 63)) ⟨by have := lt_of_some0 HQ20.out; omega, fun e => by have := (og_lt O20.out _ e).2; omega⟩)
        have G8 := Lib.hid (show q < w20.heap.size from lt_of_some0 HQ20.out)
        clear q21 S20 HQ20 HY20 O20
        generalize w20.alloc (.cells #[.string sa, .slice a8 n8 c8, .slice none 0 0] 63) = w21 at *
        generalize w20.heap.size = g8 at *
        refine held_one 17 rfl rfl (by kernel_rfl) fun K hK => ?_
        refine wp_app_g lsF (v := .slice ao i co) (y := .slice (some ⟨g8, 0, none⟩) 1 1) rfl rfl O21.out SG.out (by have h1 := HLE.out; have h2 := HLT.out; rw [List.length_map, List.length_take]; simp only [List.length_cons, List.length_nil]; omega) (by have := lt_of_some0 HQ21.out; omega) ?_
        intro v9 w22 ho22 hg22 _
        rw [← HFV2.out, ← HTK.out] at ho22
        have q22 := below_grownG (Below.refl (q + 1) w21) hg22 O21.out (by have := lt_of_some0 HQ21.out; omega) (Nat.le_refl _)
        have S22 : SBx w [(w.heap.size, (.cells #[.int .i64 cap, .int .i64 left, .slice (some ⟨b1, o1, none⟩) n cf] 24 (0, 0)))] w22 := ⟨S21.out.bel.trans (q22.mono (by have := SQ.out; omega)), fun p hp => (q22.block _ (by rw [List.mem_singleton.1 hp]; show w.heap.size < q + 1; have := SQ.out; omega)).trans (S21.out.box p hp)⟩
        refine hK _ _ S22 ?_
        clear hK K
        have S22 := Lib.hid S22
        have HQ22 := Lib.hid ((q22.block _ (show q < q + 1 by omega)).trans HQ21.out)
        have HY22 := Lib.hid ((q22.block _ (show w.heap.size + 1 < q + 1 by have := SQ.out; omega)).trans HY21.out)
        obtain ⟨a9, c9, rfl, -, -⟩ := og_form ho22
        have hl9 : ((L.take (i + 1)).map FN).length = i + 1 := by rw [List.length_map, List.length_take]; have h1 := HN.out; have h2 := HLT.out; omega
        rw [hl9] at ho22 ⊢
        have O22 := Lib.hid ho22
        clear ho22 hg22 hl9 q22 S21 HQ21 HY21 O21 SG
        refine held_one 18 rfl rfl (by kernel_rfl) fun K hK => ?_
        go_simp
        refine hK _ _ S22.out ?_
        clear hK K
        obtain ⟨z0, z1, z2⟩ := box3c HQ22.out
        have f2 := frozen_of_row _ q 2 _ _ HQ22.out
        refine held_one 19 rfl rfl (by kernel_rfl) fun K hK => ?_
        go_simp
        refine hK _ _ (S22.out.one (by have := SQ.out; omega) (fun p hp => by rw [List.mem_singleton.1 hp]; show w.heap.size ≠ q; have := SQ.out; omega)) ?_
        clear hK K
        refine wpAnyH_done (by kernel_rfl) ?_ _
        unfold onlyN
        dsimp only
        clear z0 z1 z2 f2
        have HQ9 := Lib.hid (show (w22.setCell ⟨q, 2, none⟩ (.slice a9 (i + 1) c9)).heap[q]? = some (.cells #[.int .i64 cap, .int .i64 (-1), .slice a9 (i + 1) c9] 24 (0, 0)) from (by simpa using heap_setCell_same w22 q 2 _ _ (.slice a9 (i + 1) c9) HQ22.out))
        have O9 := Lib.hid (og_move (w' := (w22.setCell ⟨q, 2, none⟩ (.slice a9 (i + 1) c9))) O22.out fun k hk _ => other1 (by
          rcases hk with hk | hk
          · omega
          · have := (og_lt O22.out _ hk).1; omega))
        have HX9 := Lib.hid ((other1 (g := q) (o := 2) (v := .slice a9 (i + 1) c9) (by have := SQ.out; omega : w.heap.size ≠ q)).trans (S22.out.box _ (List.mem_cons_self ..)))
        have HY9 := Lib.hid ((other1 (g := q) (o := 2) (v := .slice a9 (i + 1) c9) (by have := SQ.out; omega : w.heap.size + 1 ≠ q)).trans HY22.out)
        have B9 := Lib.hid (S22.out.bel.setCell (p := ⟨q, 2, none⟩) (show w.heap.size ≤ q by have := SQ.out; omega) (.slice a9 (i + 1) c9))
        clear S22 HQ22 HY22 O22
        generalize w22.setCell ⟨q, 2, none⟩ (.slice a9 (i + 1) c9) = W9 at *
        go_wp2
        go_roundw
        case rel =>
          have h1 := HLT.out
          exact ⟨i + 1, a9, c9, by omega, by rw [EW.out], HQ9, O9, HX9, HY9, B9⟩
        case measure =>
          have h1 := HLT.out
          rw [EW.out]
          simp [intOf]; omega
      · go_simp
        go_at_call 87
        refine (RK.out _ SD.out.bel).mono ?_
        rintro e w20 ⟨⟨v8, rfl, ho8⟩, hb20⟩
        have HC8 := Lib.hid (rd_mono (C := fun k => q < k ∧ k < w20.heap.size) (own_rd8 ho8) fun k hk hl => ⟨by have := lt_of_some0 HQD.out; omega, hl⟩)
        obtain ⟨a8, c8, rfl, -, -⟩ := sl_form ho8.sl
        obtain ⟨n8, hn8⟩ : ∃ z, z = C.length := ⟨_, rfl⟩
        rw [← hn8] at HC8 ⊢
        refine hK _ _ (SD.out.below hb20) ?_
        clear hK K
        have S20 := Lib.hid (SD.out.below hb20)
        have HQ20 := Lib.hid ((hb20.block _ (lt_of_some0 HQD.out)).trans HQD.out)
        have HY20 := Lib.hid ((hb20.block _ (lt_of_some0 HYD.out)).trans HYD.out)
        have O20 := Lib.hid (og_below OD.out hb20)
        have OL8 := Lib.hid (show ∀ k, (Value.slice ao i co).ownBlock = some k → k < WD.heap.size from fun k hk => (og_lt OD.out k hk).2)
        have W8 := Lib.hid (show ∀ k, WD.heap.size ≤ k → True from fun _ _ => trivial)
        have HC8b := Lib.hid (rd_mono (C := fun k => q < k ∧ (Value.slice ao i co).ownBlock ≠ some k) (own_rd8 ho8) fun k hk _ => ⟨by have := lt_of_some0 HQD.out; omega, fun e => by have := OL8.out k e; omega⟩)
        rw [← hn8] at HC8b
        clear ho8 hb20 hn8 HC8 W8 OL8 SD HQD HYD OD
        refine held_two10 1 15 rfl rfl rfl rfl (by kernel_rfl) (fun K hK => ?_) (fun K hK => ?_)
        · obtain ⟨z0, z1, z2⟩ := box3c HQ20.out
          go_simp
          refine hK _ _ S20.out ?_
          clear hK K z0 z1 z2
          refine held_one 15 rfl rfl (by kernel_rfl) fun K hK => ?_
          go_simp
          refine hK _ _ S20.out ?_
          clear hK K
          refine held_one 16 rfl rfl (by kernel_rfl) fun K hK => ?_
          go_simp
          have q21 := bel_al0 w20 (.cells #[.string sa, .slice a8 n8 c8, .slice none 0 0] 63)
          refine hK _ _ (S20.out.below q21) ?_
          clear hK K
          have S21 := Lib.hid (S20.out.below q21)
          have HQ21 := Lib.hid ((q21.block _ (lt_of_some0 HQ20.out)).trans HQ20.out)
          have HY21 := Lib.hid ((q21.block _ (lt_of_some0 HY20.out)).trans HY20.out)
          have O21 := Lib.hid (og_below O20.out q21)
          have SG := Lib.hid (rd_single (B := fun k => (q < k ∧ (Value.slice ao i co).ownBlock ≠ some k)) (rd_f_mk (x := (sa, C, [])) HSA.out (rd_below HC8b.out q21) (rd_nil _ _ _)) (heap_alloc_new w20 (.cells #[.string sa, .slice a8 n8 c8, .slice none 0 0] 63)) ⟨by have := lt_of_some0 HQ20.out; omega, fun e => by have := (og_lt O20.out _ e).2; omega⟩)
          have G8 := Lib.hid (show q < w20.heap.size from lt_of_some0 HQ20.out)
          clear q21 S20 HQ20 HY20 O20
          generalize w20.alloc (.cells #[.string sa, .slice a8 n8 c8, .slice none 0 0] 63) = w21 at *
          generalize w20.heap.size = g8 at *
          refine held_one 17 rfl rfl (by kernel_rfl) fun K hK => ?_
          refine wp_app_g lsF (v := .slice ao i co) (y := .slice (some ⟨g8, 0, none⟩) 1 1) rfl rfl O21.out SG.out (by have h1 := HLE.out; have h2 := HLT.out; rw [List.length_map, List.length_take]; simp only [List.length_cons, List.length_nil]; omega) (by have := lt_of_some0 HQ21.out; omega) ?_
          intro v9 w22 ho22 hg22 _
          rw [← HFV2.out, ← HTK.out] at ho22
          have q22 := below_grownG (Below.refl (q + 1) w21) hg22 O21.out (by have := lt_of_some0 HQ21.out; omega) (Nat.le_refl _)
          have S22 : SBx w [(w.heap.size, (.cells #[.int .i64 cap, .int .i64 left, .slice (some ⟨b1, o1, none⟩) n cf] 24 (0, 0)))] w22 := ⟨S21.out.bel.trans (q22.mono (by have := SQ.out; omega)), fun p hp => (q22.block _ (by rw [List.mem_singleton.1 hp]; show w.heap.size < q + 1; have := SQ.out; omega)).trans (S21.out.box p hp)⟩
          refine hK _ _ S22 ?_
          clear hK K
          have S22 := Lib.hid S22
          have HQ22 := Lib.hid ((q22.block _ (show q < q + 1 by omega)).trans HQ21.out)
          have HY22 := Lib.hid ((q22.block _ (show w.heap.size + 1 < q + 1 by have := SQ.out; omega)).trans HY21.out)
          obtain ⟨a9, c9, rfl, -, -⟩ := og_form ho22
          have hl9 : ((L.take (i + 1)).map FN).length = i + 1 := by rw [List.length_map, List.length_take]; have h1 := HN.out; have h2 := HLT.out; omega
          rw [hl9] at ho22 ⊢
          have O22 := Lib.hid ho22
          clear ho22 hg22 hl9 q22 S21 HQ21 HY21 O21 SG
          refine held_one 18 rfl rfl (by kernel_rfl) fun K hK => ?_
          go_simp
          refine hK _ _ S22.out ?_
          clear hK K
          obtain ⟨z0, z1, z2⟩ := box3c HQ22.out
          have f2 := frozen_of_row _ q 2 _ _ HQ22.out
          refine held_one 19 rfl rfl (by kernel_rfl) fun K hK => ?_
          go_simp
          refine hK _ _ (S22.out.one (by have := SQ.out; omega) (fun p hp => by rw [List.mem_singleton.1 hp]; show w.heap.size ≠ q; have := SQ.out; omega)) ?_
          clear hK K
          refine wpAnyH_done (by kernel_rfl) ?_ _
          unfold onlyN
          dsimp only
          clear z0 z1 z2 f2
          have HQ9 := Lib.hid (show (w22.setCell ⟨q, 2, none⟩ (.slice a9 (i + 1) c9)).heap[q]? = some (.cells #[.int .i64 cap, .int .i64 (-1), .slice a9 (i + 1) c9] 24 (0, 0)) from (by simpa using heap_setCell_same w22 q 2 _ _ (.slice a9 (i + 1) c9) HQ22.out))
          have O9 := Lib.hid (og_move (w' := (w22.setCell ⟨q, 2, none⟩ (.slice a9 (i + 1) c9))) O22.out fun k hk _ => other1 (by
            rcases hk with hk | hk
            · omega
            · have := (og_lt O22.out _ hk).1; omega))
          have HX9 := Lib.hid ((other1 (g := q) (o := 2) (v := .slice a9 (i + 1) c9) (by have := SQ.out; omega : w.heap.size ≠ q)).trans (S22.out.box _ (List.mem_cons_self ..)))
          have HY9 := Lib.hid ((other1 (g := q) (o := 2) (v := .slice a9 (i + 1) c9) (by have := SQ.out; omega : w.heap.size + 1 ≠ q)).trans HY22.out)
          have B9 := Lib.hid (S22.out.bel.setCell (p := ⟨q, 2, none⟩) (show w.heap.size ≤ q by have := SQ.out; omega) (.slice a9 (i + 1) c9))
          clear S22 HQ22 HY22 O22
          generalize w22.setCell ⟨q, 2, none⟩ (.slice a9 (i + 1) c9) = W9 at *
          go_wp2
          go_roundw
          case rel =>
            have h1 := HLT.out
            exact ⟨i + 1, a9, c9, by omega, by rw [EW.out], HQ9, O9, HX9, HY9, B9⟩
          case measure =>
            have h1 := HLT.out
            rw [EW.out]
            simp [intOf]; omega
        · go_simp
          refine hK _ _ S20.out ?_
          clear hK K
          refine held_two10 1 16 rfl rfl rfl rfl (by kernel_rfl) (fun K hK => ?_) (fun K hK => ?_)
          · obtain ⟨z0, z1, z2⟩ := box3c HQ20.out
            go_simp
            refine hK _ _ S20.out ?_
            clear hK K z0 z1 z2
            refine held_one 16 rfl rfl (by kernel_rfl) fun K hK => ?_
            go_simp
            have q21 := bel_al0 w20 (.cells #[.string sa, .slice a8 n8 c8, .slice none 0 0] 63)
            refine hK _ _ (S20.out.below q21) ?_
            clear hK K
            have S21 := Lib.hid (S20.out.below q21)
            have HQ21 := Lib.hid ((q21.block _ (lt_of_some0 HQ20.out)).trans HQ20.out)
            have HY21 := Lib.hid ((q21.block _ (lt_of_some0 HY20.out)).trans HY20.out)
            have O21 := Lib.hid (og_below O20.out q21)
            have SG := Lib.hid (rd_single (B := fun k => (q < k ∧ (Value.slice ao i co).ownBlock ≠ some k)) (rd_f_mk (x := (sa, C, [])) HSA.out (rd_below HC8b.out q21) (rd_nil _ _ _)) (heap_alloc_new w20 (.cells #[.string sa, .slice a8 n8 c8, .slice none 0 0] 63)) ⟨by have := lt_of_some0 HQ20.out; omega, fun e => by have := (og_lt O20.out _ e).2; omega⟩)
            have G8 := Lib.hid (show q < w20.heap.size from lt_of_some0 HQ20.out)
            clear q21 S20 HQ20 HY20 O20
            generalize w20.alloc (.cells #[.string sa, .slice a8 n8 c8, .slice none 0 0] 63) = w21 at *
            generalize w20.heap.size = g8 at *
            refine held_one 17 rfl rfl (by kernel_rfl) fun K hK => ?_
            refine wp_app_g lsF (v := .slice ao i co) (y := .slice (some ⟨g8, 0, none⟩) 1 1) rfl rfl O21.out SG.out (by have h1 := HLE.out; have h2 := HLT.out; rw [List.length_map, List.length_take]; simp only [List.length_cons, List.length_nil]; omega) (by have := lt_of_some0 HQ21.out; omega) ?_
            intro v9 w22 ho22 hg22 _
            rw [← HFV2.out, ← HTK.out] at ho22
            have q22 := below_grownG (Below.refl (q + 1) w21) hg22 O21.out (by have := lt_of_some0 HQ21.out; omega) (Nat.le_refl _)
            have S22 : SBx w [(w.heap.size, (.cells #[.int .i64 cap, .int .i64 left, .slice (some ⟨b1, o1, none⟩) n cf] 24 (0, 0)))] w22 := ⟨S21.out.bel.trans (q22.mono (by have := SQ.out; omega)), fun p hp => (q22.block _ (by rw [List.mem_singleton.1 hp]; show w.heap.size < q + 1; have := SQ.out; omega)).trans (S21.out.box p hp)⟩
            refine hK _ _ S22 ?_
            clear hK K
            have S22 := Lib.hid S22
            have HQ22 := Lib.hid ((q22.block _ (show q < q + 1 by omega)).trans HQ21.out)
            have HY22 := Lib.hid ((q22.block _ (show w.heap.size + 1 < q + 1 by have := SQ.out; omega)).trans HY21.out)
            obtain ⟨a9, c9, rfl, -, -⟩ := og_form ho22
            have hl9 : ((L.take (i + 1)).map FN).length = i + 1 := by rw [List.length_map, List.length_take]; have h1 := HN.out; have h2 := HLT.out; omega
            rw [hl9] at ho22 ⊢
            have O22 := Lib.hid ho22
            clear ho22 hg22 hl9 q22 S21 HQ21 HY21 O21 SG
            refine held_one 18 rfl rfl (by kernel_rfl) fun K hK => ?_
            go_simp
            refine hK _ _ S22.out ?_
            clear hK K
            obtain ⟨z0, z1, z2⟩ := box3c HQ22.out
            have f2 := frozen_of_row _ q 2 _ _ HQ22.out
            refine held_one 19 rfl rfl (by kernel_rfl) fun K hK => ?_
            go_simp
            refine hK _ _ (S22.out.one (by have := SQ.out; omega) (fun p hp => by rw [List.mem_singleton.1 hp]; show w.heap.size ≠ q; have := SQ.out; omega)) ?_
            clear hK K
            refine wpAnyH_done (by kernel_rfl) ?_ _
            unfold onlyN
            dsimp only
            clear z0 z1 z2 f2
            have HQ9 := Lib.hid (show (w22.setCell ⟨q, 2, none⟩ (.slice a9 (i + 1) c9)).heap[q]? = some (.cells #[.int .i64 cap, .int .i64 (-1), .slice a9 (i + 1) c9] 24 (0, 0)) from (by simpa using heap_setCell_same w22 q 2 _ _ (.slice a9 (i + 1) c9) HQ22.out))
            have O9 := Lib.hid (og_move (w' := (w22.setCell ⟨q, 2, none⟩ (.slice a9 (i + 1) c9))) O22.out fun k hk _ => other1 (by
              rcases hk with hk | hk
              · omega
              · have := (og_lt O22.out _ hk).1; omega))
            have HX9 := Lib.hid ((other1 (g := q) (o := 2) (v := .slice a9 (i + 1) c9) (by have := SQ.out; omega : w.heap.size ≠ q)).trans (S22.out.box _ (List.mem_cons_self ..)))
            have HY9 := Lib.hid ((other1 (g := q) (o := 2) (v := .slice a9 (i + 1) c9) (by have := SQ.out; omega : w.heap.size + 1 ≠ q)).trans HY22.out)
            have B9 := Lib.hid (S22.out.bel.setCell (p := ⟨q, 2, none⟩) (show w.heap.size ≤ q by have := SQ.out; omega) (.slice a9 (i + 1) c9))
            clear S22 HQ22 HY22 O22
            generalize w22.setCell ⟨q, 2, none⟩ (.slice a9 (i + 1) c9) = W9 at *
            go_wp2
            go_roundw
            case rel =>
              have h1 := HLT.out
              exact ⟨i + 1, a9, c9, by omega, by rw [EW.out], HQ9, O9, HX9, HY9, B9⟩
            case measure =>
              have h1 := HLT.out
              rw [EW.out]
              simp [intOf]; omega
          · go_simp
            have q21 := bel_al0 w20 (.cells #[.string sa, .slice a8 n8 c8, .slice none 0 0] 63)
            refine hK _ _ (S20.out.below q21) ?_
            clear hK K
            have S21 := Lib.hid (S20.out.below q21)
            have HQ21 := Lib.hid ((q21.block _ (lt_of_some0 HQ20.out)).trans HQ20.out)
            have HY21 := Lib.hid ((q21.block _ (lt_of_some0 HY20.out)).trans HY20.out)
            have O21 := Lib.hid (og_below O20.out q21)
            have SG := Lib.hid (rd_single (B := fun k => (q < k ∧ (Value.slice ao i co).ownBlock ≠ some k)) (rd_f_mk (x := (sa, C, [])) HSA.out (rd_below HC8b.out q21) (rd_nil _ _ _)) (heap_alloc_new w20 (.cells #[.string sa, .slice a8 n8 c8, .slice none 0 0] 63)) ⟨by have := lt_of_some0 HQ20.out; omega, fun e => by have := (og_lt O20.out _ e).2; omega⟩)
            have G8 := Lib.hid (show q < w20.heap.size from lt_of_some0 HQ20.out)
            clear q21 S20 HQ20 HY20 O20
            generalize w20.alloc (.cells #[.string sa, .slice a8 n8 c8, .slice none 0 0] 63) = w21 at *
            generalize w20.heap.size = g8 at *
            refine held_one 1 rfl rfl (by kernel_rfl) fun K hK => ?_
            obtain ⟨z0, z1, z2⟩ := box3c HQ21.out
            go_simp
            refine hK _ _ S21.out ?_
            clear hK K z0 z1 z2
            refine held_one 17 rfl rfl (by kernel_rfl) fun K hK => ?_
            refine wp_app_g lsF (v := .slice ao i co) (y := .slice (some ⟨g8, 0, none⟩) 1 1) rfl rfl O21.out SG.out (by have h1 := HLE.out; have h2 := HLT.out; rw [List.length_map, List.length_take]; simp only [List.length_cons, List.length_nil]; omega) (by have := lt_of_some0 HQ21.out; omega) ?_
            intro v9 w22 ho22 hg22 _
            rw [← HFV2.out, ← HTK.out] at ho22
            have q22 := below_grownG (Below.refl (q + 1) w21) hg22 O21.out (by have := lt_of_some0 HQ21.out; omega) (Nat.le_refl _)
            have S22 : SBx w [(w.heap.size, (.cells #[.int .i64 cap, .int .i64 left, .slice (some ⟨b1, o1, none⟩) n cf] 24 (0, 0)))] w22 := ⟨S21.out.bel.trans (q22.mono (by have := SQ.out; omega)), fun p hp => (q22.block _ (by rw [List.mem_singleton.1 hp]; show w.heap.size < q + 1; have := SQ.out; omega)).trans (S21.out.box p hp)⟩
            refine hK _ _ S22 ?_
            clear hK K
            have S22 := Lib.hid S22
            have HQ22 := Lib.hid ((q22.block _ (show q < q + 1 by omega)).trans HQ21.out)
            have HY22 := Lib.hid ((q22.block _ (show w.heap.size + 1 < q + 1 by have := SQ.out; omega)).trans HY21.out)
            obtain ⟨a9, c9, rfl, -, -⟩ := og_form ho22
            have hl9 : ((L.take (i + 1)).map FN).length = i + 1 := by rw [List.length_map, List.length_take]; have h1 := HN.out; have h2 := HLT.out; omega
            rw [hl9] at ho22 ⊢
            have O22 := Lib.hid ho22
            clear ho22 hg22 hl9 q22 S21 HQ21 HY21 O21 SG
            refine held_one 18 rfl rfl (by kernel_rfl) fun K hK => ?_
            go_simp
            refine hK _ _ S22.out ?_
            clear hK K
            obtain ⟨z0, z1, z2⟩ := box3c HQ22.out
            have f2 := frozen_of_row _ q 2 _ _ HQ22.out
            refine held_one 19 rfl rfl (by kernel_rfl) fun K hK => ?_
            go_simp
            refine hK _ _ (S22.out.one (by have := SQ.out; omega) (fun p hp => by rw [List.mem_singleton.1 hp]; show w.heap.size ≠ q; have := SQ.out; omega)) ?_
            clear hK K
            refine wpAnyH_done (by kernel_rfl) ?_ _
            unfold onlyN
            dsimp only
            clear z0 z1 z2 f2
            have HQ9 := Lib.hid (show (w22.setCell ⟨q, 2, none⟩ (.slice a9 (i + 1) c9)).heap[q]? = some (.cells #[.int .i64 cap, .int .i64 (-1), .slice a9 (i + 1) c9] 24 (0, 0)) from (by simpa using heap_setCell_same w22 q 2 _ _ (.slice a9 (i + 1) c9) HQ22.out))
            have O9 := Lib.hid (og_move (w' := (w22.setCell ⟨q, 2, none⟩ (.slice a9 (i + 1) c9))) O22.out fun k hk _ => other1 (by
              rcases hk with hk | hk
              · omega
              · have := (og_lt O22.out _ hk).1; omega))
            have HX9 := Lib.hid ((other1 (g := q) (o := 2) (v := .slice a9 (i + 1) c9) (by have := SQ.out; omega : w.heap.size ≠ q)).trans (S22.out.box _ (List.mem_cons_self ..)))
            have HY9 := Lib.hid ((other1 (g := q) (o := 2) (v := .slice a9 (i + 1) c9) (by have := SQ.out; omega : w.heap.size + 1 ≠ q)).trans HY22.out)
            have B9 := Lib.hid (S22.out.bel.setCell (p := ⟨q, 2, none⟩) (show w.heap.size ≤ q by have := SQ.out; omega) (.slice a9 (i + 1) c9))
            clear S22 HQ22 HY22 O22
            generalize w22.setCell ⟨q, 2, none⟩ (.slice a9 (i + 1) c9) = W9 at *
            go_wp2
            go_roundw
            case rel =>
              have h1 := HLT.out
              exact ⟨i + 1, a9, c9, by omega, by rw [EW.out], HQ9, O9, HX9, HY9, B9⟩
            case measure =>
              have h1 := HLT.out
              rw [EW.out]
              simp [intOf]; omega
    · obtain rfl : i = n := by omega
      have l1 : decide ((i : Int) < (i : Int)) = false := decide_eq_false (by omega)
      have HT := Lib.hid (show (L.take i).map FN = L.map FN by rw [List.take_of_length_le (by have := HN.out; omega)])
      rw [HT.out] at OO
      have SQ2 := Lib.hid (lt_of_some0 HQ.out)
      clear hlt hi
      obtain ⟨z0, z1, z2⟩ := box3c HQ.out
      obtain ⟨y0, y1, y2⟩ := box3c HY.out
      have u0 := frozen_of_row wr (w.heap.size + 1) 0 _ _ HY.out
      have u1 := frozen_of_row wr (w.heap.size + 1) 1 _ _ HY.out
      have u2 := frozen_of_row wr (w.heap.size + 1) 2 _ _ HY.out
      go_wp2
      refine bodyPost_ret (results_cell_row Try.results63 _ _ (w.heap.size + 1) 24 _ (0, 0) _ rfl (set3c HY.out) Try.underlying24 rfl infoD) rfl ?_
      have hcd := HCD2.out
      refine ⟨⟨_, rfl, .slice ao i co, by rw [hcd], ⟨by rw [hcd]; exact HR.out.1, by rw [hcd]; exact ⟨by show (_ : Int) ≤ -1; decide, by show (-1 : Int) ≤ _; decide⟩⟩, ?_⟩, below_set3 BB.out (by omega)⟩
      rw [hcd]
      exact rd_move (fun b hb _ => set3_other (by have h1 := SQ.out; rcases hb with hb | hb <;> omega)) (fun b hb _ => Or.inr (by have h1 := SQ.out; rcases hb with hb | hb <;> omega)) (og_rdw OO.out)
end Go.Proofs.Ytpipgbjkkiheaaa.Gf
