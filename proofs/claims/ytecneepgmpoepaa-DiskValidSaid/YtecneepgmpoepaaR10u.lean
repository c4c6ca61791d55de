/- What is proved here: the reference's Same answers true of equal disks. No condition. -/
import Derived.Test.YtecneepgmpoepaaMW10
import Derived.Deep.CutRange
namespace Go.Proofs.Ytecneepgmpoepaa.Gf
open Go Go.Joins Go.ChangeShapes Go.WideShapes Go.ChangeAt Go.RowKit Go.Deep Go.Proofs.Ytecneepgmpoepaa.By Go.Proofs.Ytecneepgmpoepaa.Qt

/-- The cells of the i-th write, in every later world. -/
theorem wr_at {w : World} {v : Value} {p : List Wr} (h : Rd (fun _ => True) w (.sl tyW) [v] p) {i : Nat} (hi : i < p.length) : ∃ b off cap dv, v = .slice (some ⟨b, off, none⟩) p.length cap ∧ (∀ W, Below w.heap.size w W → W.cell? ⟨b, off + i * 3, none⟩ = some (.int .i64 (p.getD i wr0).1) ∧ W.cell? ⟨b, off + i * 3 + 1, none⟩ = some dv ∧ W.cell? ⟨b, off + i * 3 + 2, none⟩ = some (.bool (p.getD i wr0).2.2)) ∧ Rd (fun _ => True) w (.sl .u8) [dv] (p.getD i wr0).2.1 := by
  obtain ⟨b, off, cap, dv, e, k0, k1, k2, -, hd⟩ := rd_wat h hi
  exact ⟨b, off, cap, dv, e, fun W hW => ⟨(hW.cell (block_lt_of_cell k0)).trans k0, (hW.cell (block_lt_of_cell k1)).trans k1, (hW.cell (block_lt_of_cell k2)).trans k2⟩, hd⟩
/-- The cells of the i-th file, in every later world. -/
theorem fl_at {w : World} {v : Value} {p : List Fl} (h : Rd (fun _ => True) w (.sl tyF) [v] p) {i : Nat} (hi : i < p.length) : ∃ b off cap bv pv, v = .slice (some ⟨b, off, none⟩) p.length cap ∧ (∀ W, Below w.heap.size w W → W.cell? ⟨b, off + i * 3, none⟩ = some (.string (p.getD i fl0).1) ∧ W.cell? ⟨b, off + i * 3 + 1, none⟩ = some bv ∧ W.cell? ⟨b, off + i * 3 + 2, none⟩ = some pv) ∧ Rd (fun _ => True) w (.sl .u8) [bv] (p.getD i fl0).2.1 ∧ Rd (fun _ => True) w (.sl tyW) [pv] (p.getD i fl0).2.2 := by
  obtain ⟨b, off, cap, bv, pv, e, k0, k1, k2, -, hb, hp⟩ := rd_fat h hi
  exact ⟨b, off, cap, bv, pv, e, fun W hW => ⟨(hW.cell (block_lt_of_cell k0)).trans k0, (hW.cell (block_lt_of_cell k1)).trans k1, (hW.cell (block_lt_of_cell k2)).trans k2⟩, hb, hp⟩
set_option maxRecDepth 100000 in
set_option maxHeartbeats 12800000 in
theorem rsame_eq (va vb : Value) (d : Dk) (w : World) (ha : Dv w va d) (hb : Dv w vb d) : Calls Try.prog 19 #[va, vb] w fun e w' => e = .returned (.bool true) ∧ Below w.heap.size w w' := by
  obtain ⟨fa, rfl, -, sa0⟩ := ha
  obtain ⟨fb, rfl, -, sb0⟩ := hb
  have SFA := Lib.hid sa0
  have SFB := Lib.hid sb0
  obtain ⟨aa, ca, rfl, hca, hcm⟩ := rd_sl sa0
  obtain ⟨ab, cb, rfl, -, -⟩ := rd_sl sb0
  obtain ⟨cap, left, L⟩ := d
  dsimp only at SFA SFB hca ⊢
  obtain ⟨n, hn⟩ : ∃ z, z = L.length := ⟨_, rfl⟩
  rw [← hn] at SFA SFB hca ⊢
  have HN := Lib.hid hn
  have HCP : Hid (n ≤ 9223372036854775807) := Lib.hid (by unfold maxLen at hcm; omega)
  have BX := Lib.hid (btA (bel_al0 w (.cells #[.int .i64 cap, .int .i64 left, .slice aa n ca] 24)) (bel_al0 _ (.cells #[.int .i64 cap, .int .i64 left, .slice ab n cb] 24)))
  have HA := Lib.hid (show ((w.alloc (.cells #[.int .i64 cap, .int .i64 left, .slice aa n ca] 24)).alloc (.cells #[.int .i64 cap, .int .i64 left, .slice ab n cb] 24)).heap[w.heap.size]? = some (.cells #[.int .i64 cap, .int .i64 left, .slice aa n ca] 24 (0, 0)) from (al_old (by simp)).trans (heap_alloc_new w _))
  have HB := Lib.hid (heap_alloc2_new w (.cells #[.int .i64 cap, .int .i64 left, .slice aa n ca] 24) (.cells #[.int .i64 cap, .int .i64 left, .slice ab n cb] 24))
  clear sa0 sb0 hca hcm hn
  go_enter Try.func19, Try.ntmps19
  go_upto_region 1 with fail
  generalize ((w.alloc (.cells #[.int .i64 cap, .int .i64 left, .slice aa n ca] 24)).alloc (.cells #[.int .i64 cap, .int .i64 left, .slice ab n cb] 24)) = W1 at *
  obtain ⟨x0, x1, x2⟩ := box3c HA.out
  obtain ⟨y0, y1, y2⟩ := box3c HB.out
  go_wp2_with fail
  clear x0 x1 x2 y0 y1 y2
  go_loopw [5] (fun t wr => ∃ i : Nat, i ≤ n ∧ t = .int .i64 (i : Int) ∧ Hid (wr.heap[w.heap.size]? = some (.cells #[.int .i64 cap, .int .i64 left, .slice aa n ca] 24 (0, 0))) ∧ Hid (wr.heap[w.heap.size + 1]? = some (.cells #[.int .i64 cap, .int .i64 left, .slice ab n cb] 24 (0, 0))) ∧ Hid (Below w.heap.size w wr)) (fun t _ => n - (intOf t).toNat)
  case atStart => exact ⟨0, by omega, rfl, HA, HB, BX⟩
  case round =>
    clear HA HB BX
    obtain ⟨i, hi, rfl, HA, HB, BB⟩ := hrel
    obtain ⟨x0, x1, x2⟩ := box3c HA.out
    obtain ⟨y0, y1, y2⟩ := box3c HB.out
    by_cases hlt : i < n
    case neg =>
      obtain rfl : i = n := by omega
      have l1 : decide ((i : Int) < (i : Int)) = false := decide_eq_false (by omega)
      clear hi hlt
      go_wp2
      go_ret
      exact ⟨rfl, BB.out⟩
    have l1 : decide ((i : Int) < (n : Int)) = true := decide_eq_true (by omega)
    have hip : i < L.length := by have := HN.out; omega
    obtain ⟨b1, o1, c1, bva, pva, hv1, hk1, hba, hpa⟩ := fl_at SFA.out hip
    obtain ⟨b2, o2, c2, bvb, pvb, hv2, hk2, hbb, hpb⟩ := fl_at SFB.out hip
    obtain ⟨rfl, -, -⟩ : aa = some ⟨b1, o1, none⟩ ∧ n = L.length ∧ ca = c1 := by simpa using hv1
    obtain ⟨rfl, -, -⟩ : ab = some ⟨b2, o2, none⟩ ∧ n = L.length ∧ cb = c2 := by simpa using hv2
    have K1 := Lib.hid hk1
    have K2 := Lib.hid hk2
    generalize L.getD i fl0 = x at *
    obtain ⟨sa, xb, xp⟩ := x
    dsimp only at K1 K2 hba hbb hpa hpb
    have SBA := Lib.hid (rd8_sl hba)
    have SBB := Lib.hid (rd8_sl hbb)
    have SPA := Lib.hid hpa
    have SPB := Lib.hid hpb
    obtain ⟨xba, xca, rfl, -, -⟩ := sl_form SBA.out
    obtain ⟨xbb, xcb, rfl, -, -⟩ := sl_form SBB.out
    obtain ⟨xpa, xqa, rfl, -, hpm⟩ := rd_sl hpa
    obtain ⟨xpb, xqb, rfl, -, -⟩ := rd_sl hpb
    obtain ⟨nb, hnb⟩ : ∃ z, z = xb.length := ⟨_, rfl⟩
    obtain ⟨np, hnp⟩ : ∃ z, z = xp.length := ⟨_, rfl⟩
    rw [← hnb] at SBA SBB K1 K2
    rw [← hnp] at SPA SPB K1 K2
    have HNP := Lib.hid hnp
    have HPM : Hid (np ≤ 9223372036854775807) := Lib.hid (by obtain ⟨a9, c9, e9, h1, h2⟩ := rd_sl hpa; unfold maxLen at h2; omega)
    have EW := Lib.hid (show wrap64 ((i : Int) + 1) = ((i + 1 : Nat) : Int) by have := HCP.out; unfold wrap64; omega)
    have HI := Lib.hid hlt
    have P0 := Lib.hid (show (0 : Int) ≤ (i : Int) ∧ (i : Int) < (n : Int) by omega)
    clear hv1 hv2 hk1 hk2 hba hbb hpa hpb hpm hnb hnp hip hlt hi
    go_upto_region 6 with fail
    obtain ⟨p0, p1⟩ := P0.out
    go_cut [6, 7] from 32 to 109 (fun t6 t7 wx => ∃ gx gy : Nat, t6 = .pointer (some ⟨gx, 0, none⟩) ∧ t7 = .pointer (some ⟨gy, 0, none⟩) ∧ Hid (wx.heap[gx]? = some (.cells #[.string sa, .slice xba nb xca, .slice xpa np xqa] 63 (0, 0))) ∧ Hid (wx.heap[gy]? = some (.cells #[.string sa, .slice xbb nb xcb, .slice xpb np xqb] 63 (0, 0))) ∧ Hid (wx.heap[w.heap.size]? = some (.cells #[.int .i64 cap, .int .i64 left, .slice (some ⟨b1, o1, none⟩) n ca] 24 (0, 0))) ∧ Hid (wx.heap[w.heap.size + 1]? = some (.cells #[.int .i64 cap, .int .i64 left, .slice (some ⟨b2, o2, none⟩) n cb] 24 (0, 0))) ∧ Hid (Below w.heap.size w wx))
    case first =>
      have S0 : SBx w [(w.heap.size, (.cells #[.int .i64 cap, .int .i64 left, .slice (some ⟨b1, o1, none⟩) n ca] 24 (0, 0))), (w.heap.size + 1, (.cells #[.int .i64 cap, .int .i64 left, .slice (some ⟨b2, o2, none⟩) n cb] 24 (0, 0)))] wr.drew := ⟨BB.out.drew, fun p hp => by
        rcases List.mem_cons.1 hp with rfl | hp
        · exact HA.out
        · rw [List.mem_singleton.1 hp]; exact HB.out⟩
      refine wp_onlyN ?_
      refine wp_region_headsS (SBx w [(w.heap.size, (.cells #[.int .i64 cap, .int .i64 left, .slice (some ⟨b1, o1, none⟩) n ca] 24 (0, 0))), (w.heap.size + 1, (.cells #[.int .i64 cap, .int .i64 left, .slice (some ⟨b2, o2, none⟩) n cb] 24 (0, 0)))]) [0, 1, 2, 3, 4, 5, 6, 7, 8, 9] 4 (by kernel_rfl) (fun _ _ _ _ _ h => h.elim) (by kernel_rfl) (by rfl) (by rfl) S0 ?_
      simp only [pickOps, List.filterMap_cons, List.filterMap_nil, List.getElem?_toArray, List.getElem?_cons_zero, List.getElem?_cons_succ]
      refine wpHeads_step (fun K hK => ?_)
      go_simp
      refine ⟨_, fun _ _ => rfl, hK _ ?_⟩
      clear hK K
      refine wpHeads_step (fun K hK => ?_)
      go_simp
      refine ⟨.slice (some ⟨b1, o1, none⟩) n ca, fun w' hw' => by
        obtain ⟨q0, q1, q2⟩ := box3c (hw'.box _ (List.mem_cons_self ..))
        simp [q2], hK _ ?_⟩
      clear hK K
      refine wpHeads_step (fun K hK => ?_)
      go_simp
      refine ⟨_, fun _ _ => rfl, hK _ ?_⟩
      clear hK K
      refine wpHeads_step (fun K hK => ?_)
      go_simp
      refine ⟨.pointer (some ⟨b1, o1 + i * 3, none⟩), fun w' hw' => by
        go_simp, hK _ ?_⟩
      clear hK K
      refine wpHeads_step (fun K hK => ?_)
      go_simp
      refine ⟨.agg #[.string sa, .slice xba nb xca, .slice xpa np xqa], fun w' hw' => by
        obtain ⟨q0, q1, q2⟩ := K1.out w' hw'.bel
        simp [q0, q1, q2], hK _ ?_⟩
      clear hK K
      refine wpHeads_step (fun K hK => ?_)
      go_simp
      refine ⟨_, fun _ _ => rfl, hK _ ?_⟩
      clear hK K
      refine wpHeads_step (fun K hK => ?_)
      go_simp
      refine ⟨.slice (some ⟨b2, o2, none⟩) n cb, fun w' hw' => by
        obtain ⟨q0, q1, q2⟩ := box3c (hw'.box _ (List.mem_cons_of_mem _ (List.mem_cons_self ..)))
        simp [q2], hK _ ?_⟩
      clear hK K
      refine wpHeads_step (fun K hK => ?_)
      go_simp
      refine ⟨_, fun _ _ => rfl, hK _ ?_⟩
      clear hK K
      refine wpHeads_step (fun K hK => ?_)
      go_simp
      refine ⟨.pointer (some ⟨b2, o2 + i * 3, none⟩), fun w' hw' => by
        go_simp, hK _ ?_⟩
      clear hK K
      refine wpHeads_step (fun K hK => ?_)
      go_simp
      refine ⟨.agg #[.string sa, .slice xbb nb xcb, .slice xpb np xqb], fun w' hw' => by
        obtain ⟨q0, q1, q2⟩ := K2.out w' hw'.bel
        simp [q0, q1, q2], hK _ ?_⟩
      clear hK K
      refine wpHeads_nil ?_
      have SD := Lib.hid S0
      generalize wr.drew = WD at *
      clear S0
      refine held_two10 10 11 rfl rfl rfl rfl (by kernel_rfl) (fun K hK => ?_) (fun K hK => ?_)
      · go_simp
        refine hK _ _ (SD.out.below (bel_al0 _ _)) ?_
        clear hK K
        refine held_one 11 rfl rfl (by kernel_rfl) fun K hK => ?_
        go_simp
        refine hK _ _ ((SD.out.below (bel_al0 _ _)).below (bel_al0 _ _)) ?_
        clear hK K
        have SA := Lib.hid ((SD.out.below (bel_al0 WD (.cells #[.string ⟨#[]⟩, .slice none 0 0, .slice none 0 0] 63))).below (bel_al0 _ (.cells #[.string ⟨#[]⟩, .slice none 0 0, .slice none 0 0] 63)))
        have HP := Lib.hid (show ((WD.alloc (.cells #[.string ⟨#[]⟩, .slice none 0 0, .slice none 0 0] 63)).alloc (.cells #[.string ⟨#[]⟩, .slice none 0 0, .slice none 0 0] 63)).heap[WD.heap.size]? = some (.cells #[.string ⟨#[]⟩, .slice none 0 0, .slice none 0 0] 63 (0, 0)) from (al_old (by simp)).trans (heap_alloc_new WD _))
        have HQ := Lib.hid (heap_alloc2_new WD (.cells #[.string ⟨#[]⟩, .slice none 0 0, .slice none 0 0] 63) (.cells #[.string ⟨#[]⟩, .slice none 0 0, .slice none 0 0] 63))
        have LW := Lib.hid (fun p hp => lt_of_some0 (SD.out.box p hp))
        have LB := Lib.hid SD.out.bel.size
        generalize ((WD.alloc (.cells #[.string ⟨#[]⟩, .slice none 0 0, .slice none 0 0] 63)).alloc (.cells #[.string ⟨#[]⟩, .slice none 0 0, .slice none 0 0] 63)) = W9 at *
        generalize WD.heap.size = q at *
        obtain ⟨r0, r1, r2⟩ := box3c HP.out
        have v0 := frozen_of_row _ (q) 0 _ _ HP.out
        have v1 := frozen_of_row _ (q) 1 _ _ HP.out
        have v2 := frozen_of_row _ (q) 2 _ _ HP.out
        refine held_one 12 rfl rfl (by kernel_rfl) fun K hK => ?_
        go_simp
        refine hK _ _ (SA.out.set3 (by have := LB.out; omega) (fun p hp => by have h := LW.out p hp; omega)) ?_
        clear hK K r0 r1 r2 v0 v1 v2
        have SB := Lib.hid (SA.out.set3 (g := q) (k := .string sa) (l := .slice xba nb xca) (m := .slice xpa np xqa) (by have := LB.out; omega) (fun p hp => by have h := LW.out p hp; omega))
        have H1 := Lib.hid (set3c (k := .string sa) (l := .slice xba nb xca) (m := .slice xpa np xqa) HP.out)
        have H2 := Lib.hid ((set3_other (k := .string sa) (l := .slice xba nb xca) (m := .slice xpa np xqa) (by omega : q + 1 ≠ q)).trans HQ.out)
        generalize ((W9.setCell ⟨q, 0, none⟩ (.string sa)).setCell ⟨q, 1, none⟩ (.slice xba nb xca)).setCell ⟨q, 2, none⟩ (.slice xpa np xqa) = W10 at *
        clear SA HP HQ
        obtain ⟨r0, r1, r2⟩ := box3c H2.out
        have v0 := frozen_of_row _ (q + 1) 0 _ _ H2.out
        have v1 := frozen_of_row _ (q + 1) 1 _ _ H2.out
        have v2 := frozen_of_row _ (q + 1) 2 _ _ H2.out
        refine held_one 13 rfl rfl (by kernel_rfl) fun K hK => ?_
        go_simp
        refine hK _ _ (SB.out.set3 (by have := LB.out; omega) (fun p hp => by have h := LW.out p hp; omega)) ?_
        clear hK K r0 r1 r2 v0 v1 v2
        have SC := Lib.hid (SB.out.set3 (g := q + 1) (k := .string sa) (l := .slice xbb nb xcb) (m := .slice xpb np xqb) (by have := LB.out; omega) (fun p hp => by have h := LW.out p hp; omega))
        have H3 := Lib.hid ((set3_other (k := .string sa) (l := .slice xbb nb xcb) (m := .slice xpb np xqb) (by omega : q ≠ q + 1)).trans H1.out)
        have H4 := Lib.hid (set3c (k := .string sa) (l := .slice xbb nb xcb) (m := .slice xpb np xqb) H2.out)
        refine wpAnyH_done (by kernel_rfl) ?_ _
        unfold onlyN
        dsimp only
        go_wp2_with fail
        go_meet
        exact ⟨q, q + 1, rfl, rfl, H3, H4, Lib.hid (SC.out.box _ (List.mem_cons_self ..)), Lib.hid (SC.out.box _ (List.mem_cons_of_mem _ (List.mem_cons_self ..))), Lib.hid SC.out.bel⟩
      · go_simp
        refine hK _ _ (SD.out.below (bel_al0 _ _)) ?_
        clear hK K
        refine held_one 10 rfl rfl (by kernel_rfl) fun K hK => ?_
        go_simp
        refine hK _ _ ((SD.out.below (bel_al0 _ _)).below (bel_al0 _ _)) ?_
        clear hK K
        have SA := Lib.hid ((SD.out.below (bel_al0 WD (.cells #[.string ⟨#[]⟩, .slice none 0 0, .slice none 0 0] 63))).below (bel_al0 _ (.cells #[.string ⟨#[]⟩, .slice none 0 0, .slice none 0 0] 63)))
        have HP := Lib.hid (show ((WD.alloc (.cells #[.string ⟨#[]⟩, .slice none 0 0, .slice none 0 0] 63)).alloc (.cells #[.string ⟨#[]⟩, .slice none 0 0, .slice none 0 0] 63)).heap[WD.heap.size]? = some (.cells #[.string ⟨#[]⟩, .slice none 0 0, .slice none 0 0] 63 (0, 0)) from (al_old (by simp)).trans (heap_alloc_new WD _))
        have HQ := Lib.hid (heap_alloc2_new WD (.cells #[.string ⟨#[]⟩, .slice none 0 0, .slice none 0 0] 63) (.cells #[.string ⟨#[]⟩, .slice none 0 0, .slice none 0 0] 63))
        have LW := Lib.hid (fun p hp => lt_of_some0 (SD.out.box p hp))
        have LB := Lib.hid SD.out.bel.size
        generalize ((WD.alloc (.cells #[.string ⟨#[]⟩, .slice none 0 0, .slice none 0 0] 63)).alloc (.cells #[.string ⟨#[]⟩, .slice none 0 0, .slice none 0 0] 63)) = W9 at *
        generalize WD.heap.size = q at *
        obtain ⟨r0, r1, r2⟩ := box3c HQ.out
        have v0 := frozen_of_row _ (q + 1) 0 _ _ HQ.out
        have v1 := frozen_of_row _ (q + 1) 1 _ _ HQ.out
        have v2 := frozen_of_row _ (q + 1) 2 _ _ HQ.out
        refine held_one 12 rfl rfl (by kernel_rfl) fun K hK => ?_
        go_simp
        refine hK _ _ (SA.out.set3 (by have := LB.out; omega) (fun p hp => by have h := LW.out p hp; omega)) ?_
        clear hK K r0 r1 r2 v0 v1 v2
        have SB := Lib.hid (SA.out.set3 (g := q + 1) (k := .string sa) (l := .slice xba nb xca) (m := .slice xpa np xqa) (by have := LB.out; omega) (fun p hp => by have h := LW.out p hp; omega))
        have H1 := Lib.hid (set3c (k := .string sa) (l := .slice xba nb xca) (m := .slice xpa np xqa) HQ.out)
        have H2 := Lib.hid ((set3_other (k := .string sa) (l := .slice xba nb xca) (m := .slice xpa np xqa) (by omega : q ≠ q + 1)).trans HP.out)
        generalize ((W9.setCell ⟨q + 1, 0, none⟩ (.string sa)).setCell ⟨q + 1, 1, none⟩ (.slice xba nb xca)).setCell ⟨q + 1, 2, none⟩ (.slice xpa np xqa) = W10 at *
        clear SA HP HQ
        obtain ⟨r0, r1, r2⟩ := box3c H2.out
        have v0 := frozen_of_row _ (q) 0 _ _ H2.out
        have v1 := frozen_of_row _ (q) 1 _ _ H2.out
        have v2 := frozen_of_row _ (q) 2 _ _ H2.out
        refine held_one 13 rfl rfl (by kernel_rfl) fun K hK => ?_
        go_simp
        refine hK _ _ (SB.out.set3 (by have := LB.out; omega) (fun p hp => by have h := LW.out p hp; omega)) ?_
        clear hK K r0 r1 r2 v0 v1 v2
        have SC := Lib.hid (SB.out.set3 (g := q) (k := .string sa) (l := .slice xbb nb xcb) (m := .slice xpb np xqb) (by have := LB.out; omega) (fun p hp => by have h := LW.out p hp; omega))
        have H3 := Lib.hid ((set3_other (k := .string sa) (l := .slice xbb nb xcb) (m := .slice xpb np xqb) (by omega : q + 1 ≠ q)).trans H1.out)
        have H4 := Lib.hid (set3c (k := .string sa) (l := .slice xbb nb xcb) (m := .slice xpb np xqb) H2.out)
        refine wpAnyH_done (by kernel_rfl) ?_ _
        unfold onlyN
        dsimp only
        go_wp2_with fail
        go_meet
        exact ⟨q + 1, q, rfl, rfl, H3, H4, Lib.hid (SC.out.box _ (List.mem_cons_self ..)), Lib.hid (SC.out.box _ (List.mem_cons_of_mem _ (List.mem_cons_self ..))), Lib.hid SC.out.bel⟩
    case rest =>
      obtain ⟨gx, gy, rfl, rfl, HGX, HGY, HA2, HB2, B2⟩ := hcut
      clear x0 x1 x2 y0 y1 y2 l1 p0 p1 HA HB BB K1 K2
      obtain ⟨f0, f1, f2⟩ := box3c HGX.out
      obtain ⟨g0, g1, g2⟩ := box3c HGY.out
      have z1 := conv_sl (sl_below SBA.out B2.out)
      have z2 := conv_sl (sl_below SBB.out B2.out)
      generalize strOf xb = tz at *
      go_wp2_with fail
      clear f0 f1 f2 g0 g1 g2 z1 z2
      go_loopw [8] (fun t wl => ∃ k : Nat, k ≤ np ∧ t = .int .i64 (k : Int) ∧ Hid (wl.heap[gx]? = some (.cells #[.string sa, .slice xba nb xca, .slice xpa np xqa] 63 (0, 0))) ∧ Hid (wl.heap[gy]? = some (.cells #[.string sa, .slice xbb nb xcb, .slice xpb np xqb] 63 (0, 0))) ∧ Hid (wl.heap[w.heap.size]? = some (.cells #[.int .i64 cap, .int .i64 left, .slice (some ⟨b1, o1, none⟩) n ca] 24 (0, 0))) ∧ Hid (wl.heap[w.heap.size + 1]? = some (.cells #[.int .i64 cap, .int .i64 left, .slice (some ⟨b2, o2, none⟩) n cb] 24 (0, 0))) ∧ Hid (Below w.heap.size w wl)) (fun t _ => np - (intOf t).toNat)
      case atStart => exact ⟨0, by omega, rfl, HGX, HGY, HA2, HB2, B2⟩
      case round =>
        clear HGX HGY HA2 HB2 B2
        obtain ⟨k, hk, rfl, HGX, HGY, HA, HB, BB⟩ := hrel
        obtain ⟨f0, f1, f2⟩ := box3c HGX.out
        obtain ⟨g0, g1, g2⟩ := box3c HGY.out
        by_cases hkn : k < np
        case neg =>
          obtain rfl : k = np := by omega
          have l1 : decide ((k : Int) < (k : Int)) = false := decide_eq_false (by omega)
          clear hk hkn
          go_wp2
          go_roundw
          case rel =>
            have h1 := HI.out
            exact ⟨i + 1, by omega, by rw [EW.out], HA, HB, BB⟩
          case measure =>
            have h1 := HI.out
            rw [EW.out]
            simp [intOf]; omega
        have l1 : decide ((k : Int) < (np : Int)) = true := decide_eq_true (by omega)
        have hkp : k < xp.length := by have := HNP.out; omega
        obtain ⟨b3, o3, c3, dva, hv1, hk1, hda⟩ := wr_at SPA.out hkp
        obtain ⟨b4, o4, c4, dvb, hv2, hk2, hdb⟩ := wr_at SPB.out hkp
        obtain ⟨rfl, -, -⟩ : xpa = some ⟨b3, o3, none⟩ ∧ np = xp.length ∧ xqa = c3 := by simpa using hv1
        obtain ⟨rfl, -, -⟩ : xpb = some ⟨b4, o4, none⟩ ∧ np = xp.length ∧ xqb = c4 := by simpa using hv2
        have K1 := Lib.hid hk1
        have K2 := Lib.hid hk2
        generalize xp.getD k wr0 = y at *
        obtain ⟨yo, yd, yc⟩ := y
        dsimp only at K1 K2 hda hdb
        have SDA := Lib.hid (rd8_sl hda)
        have SDB := Lib.hid (rd8_sl hdb)
        obtain ⟨yda, yca, rfl, -, -⟩ := sl_form SDA.out
        obtain ⟨ydb, ycb, rfl, -, -⟩ := sl_form SDB.out
        generalize yd.length = nd at *
        have EK := Lib.hid (show wrap64 ((k : Int) + 1) = ((k + 1 : Nat) : Int) by have := HPM.out; unfold wrap64; omega)
        have HK := Lib.hid hkn
        have P1 := Lib.hid (show (0 : Int) ≤ (k : Int) ∧ (k : Int) < (np : Int) by omega)
        clear hv1 hv2 hk1 hk2 hda hdb hkp hkn hk
        go_upto_region 12 with fail
        obtain ⟨p0, p1⟩ := P1.out
        go_cut [9, 10] from 72 to 109 (fun t9 t10 wx => ∃ hx hy : Nat, t9 = .pointer (some ⟨hx, 0, none⟩) ∧ t10 = .pointer (some ⟨hy, 0, none⟩) ∧ Hid (wx.heap[hx]? = some (.cells #[.int .i64 yo, .slice yda nd yca, .bool yc] 94 (0, 0))) ∧ Hid (wx.heap[hy]? = some (.cells #[.int .i64 yo, .slice ydb nd ycb, .bool yc] 94 (0, 0))) ∧ Hid (wx.heap[gx]? = some (.cells #[.string sa, .slice xba nb xca, .slice (some ⟨b3, o3, none⟩) np xqa] 63 (0, 0))) ∧ Hid (wx.heap[gy]? = some (.cells #[.string sa, .slice xbb nb xcb, .slice (some ⟨b4, o4, none⟩) np xqb] 63 (0, 0))) ∧ Hid (wx.heap[w.heap.size]? = some (.cells #[.int .i64 cap, .int .i64 left, .slice (some ⟨b1, o1, none⟩) n ca] 24 (0, 0))) ∧ Hid (wx.heap[w.heap.size + 1]? = some (.cells #[.int .i64 cap, .int .i64 left, .slice (some ⟨b2, o2, none⟩) n cb] 24 (0, 0))) ∧ Hid (Below w.heap.size w wx))
        case first =>
          have S0 : SBx w [(gx, (.cells #[.string sa, .slice xba nb xca, .slice (some ⟨b3, o3, none⟩) np xqa] 63 (0, 0))), (gy, (.cells #[.string sa, .slice xbb nb xcb, .slice (some ⟨b4, o4, none⟩) np xqb] 63 (0, 0))), (w.heap.size, (.cells #[.int .i64 cap, .int .i64 left, .slice (some ⟨b1, o1, none⟩) n ca] 24 (0, 0))), (w.heap.size + 1, (.cells #[.int .i64 cap, .int .i64 left, .slice (some ⟨b2, o2, none⟩) n cb] 24 (0, 0)))] wr.drew := ⟨BB.out.drew, fun p hp => by
            rcases List.mem_cons.1 hp with rfl | hp
            · exact HGX.out
            · rcases List.mem_cons.1 hp with rfl | hp
              · exact HGY.out
              · rcases List.mem_cons.1 hp with rfl | hp
                · exact HA.out
                · rw [List.mem_singleton.1 hp]; exact HB.out⟩
          refine wp_onlyN ?_
          refine wp_region_headsS (SBx w [(gx, (.cells #[.string sa, .slice xba nb xca, .slice (some ⟨b3, o3, none⟩) np xqa] 63 (0, 0))), (gy, (.cells #[.string sa, .slice xbb nb xcb, .slice (some ⟨b4, o4, none⟩) np xqb] 63 (0, 0))), (w.heap.size, (.cells #[.int .i64 cap, .int .i64 left, .slice (some ⟨b1, o1, none⟩) n ca] 24 (0, 0))), (w.heap.size + 1, (.cells #[.int .i64 cap, .int .i64 left, .slice (some ⟨b2, o2, none⟩) n cb] 24 (0, 0)))]) [0, 1, 2, 3, 4, 5, 6, 7, 8, 9] 4 (by kernel_rfl) (fun _ _ _ _ _ h => h.elim) (by kernel_rfl) (by rfl) (by rfl) S0 ?_
          simp only [pickOps, List.filterMap_cons, List.filterMap_nil, List.getElem?_toArray, List.getElem?_cons_zero, List.getElem?_cons_succ]
          refine wpHeads_step (fun K hK => ?_)
          go_simp
          refine ⟨_, fun _ _ => rfl, hK _ ?_⟩
          clear hK K
          refine wpHeads_step (fun K hK => ?_)
          go_simp
          refine ⟨.slice (some ⟨b3, o3, none⟩) np xqa, fun w' hw' => by
            obtain ⟨q0, q1, q2⟩ := box3c (hw'.box _ (List.mem_cons_self ..))
            simp [q2], hK _ ?_⟩
          clear hK K
          refine wpHeads_step (fun K hK => ?_)
          go_simp
          refine ⟨_, fun _ _ => rfl, hK _ ?_⟩
          clear hK K
          refine wpHeads_step (fun K hK => ?_)
          go_simp
          refine ⟨.pointer (some ⟨b3, o3 + k * 3, none⟩), fun w' hw' => by
            go_simp, hK _ ?_⟩
          clear hK K
          refine wpHeads_step (fun K hK => ?_)
          go_simp
          refine ⟨.agg #[.int .i64 yo, .slice yda nd yca, .bool yc], fun w' hw' => by
            obtain ⟨q0, q1, q2⟩ := K1.out w' hw'.bel
            simp [q0, q1, q2], hK _ ?_⟩
          clear hK K
          refine wpHeads_step (fun K hK => ?_)
          go_simp
          refine ⟨_, fun _ _ => rfl, hK _ ?_⟩
          clear hK K
          refine wpHeads_step (fun K hK => ?_)
          go_simp
          refine ⟨.slice (some ⟨b4, o4, none⟩) np xqb, fun w' hw' => by
            obtain ⟨q0, q1, q2⟩ := box3c (hw'.box _ (List.mem_cons_of_mem _ (List.mem_cons_self ..)))
            simp [q2], hK _ ?_⟩
          clear hK K
          refine wpHeads_step (fun K hK => ?_)
          go_simp
          refine ⟨_, fun _ _ => rfl, hK _ ?_⟩
          clear hK K
          refine wpHeads_step (fun K hK => ?_)
          go_simp
          refine ⟨.pointer (some ⟨b4, o4 + k * 3, none⟩), fun w' hw' => by
            go_simp, hK _ ?_⟩
          clear hK K
          refine wpHeads_step (fun K hK => ?_)
          go_simp
          refine ⟨.agg #[.int .i64 yo, .slice ydb nd ycb, .bool yc], fun w' hw' => by
            obtain ⟨q0, q1, q2⟩ := K2.out w' hw'.bel
            simp [q0, q1, q2], hK _ ?_⟩
          clear hK K
          refine wpHeads_nil ?_
          have SD := Lib.hid S0
          generalize wr.drew = WD at *
          clear S0
          refine held_two10 10 11 rfl rfl rfl rfl (by kernel_rfl) (fun K hK => ?_) (fun K hK => ?_)
          · go_simp
            refine hK _ _ (SD.out.below (bel_al0 _ _)) ?_
            clear hK K
            refine held_one 11 rfl rfl (by kernel_rfl) fun K hK => ?_
            go_simp
            refine hK _ _ ((SD.out.below (bel_al0 _ _)).below (bel_al0 _ _)) ?_
            clear hK K
            have SA := Lib.hid ((SD.out.below (bel_al0 WD (.cells #[.int .i64 0, .slice none 0 0, .bool false] 94))).below (bel_al0 _ (.cells #[.int .i64 0, .slice none 0 0, .bool false] 94)))
            have HP := Lib.hid (show ((WD.alloc (.cells #[.int .i64 0, .slice none 0 0, .bool false] 94)).alloc (.cells #[.int .i64 0, .slice none 0 0, .bool false] 94)).heap[WD.heap.size]? = some (.cells #[.int .i64 0, .slice none 0 0, .bool false] 94 (0, 0)) from (al_old (by simp)).trans (heap_alloc_new WD _))
            have HQ := Lib.hid (heap_alloc2_new WD (.cells #[.int .i64 0, .slice none 0 0, .bool false] 94) (.cells #[.int .i64 0, .slice none 0 0, .bool false] 94))
            have LW := Lib.hid (fun p hp => lt_of_some0 (SD.out.box p hp))
            have LB := Lib.hid SD.out.bel.size
            generalize ((WD.alloc (.cells #[.int .i64 0, .slice none 0 0, .bool false] 94)).alloc (.cells #[.int .i64 0, .slice none 0 0, .bool false] 94)) = W9 at *
            generalize WD.heap.size = q at *
            obtain ⟨r0, r1, r2⟩ := box3c HP.out
            have v0 := frozen_of_row _ (q) 0 _ _ HP.out
            have v1 := frozen_of_row _ (q) 1 _ _ HP.out
            have v2 := frozen_of_row _ (q) 2 _ _ HP.out
            refine held_one 12 rfl rfl (by kernel_rfl) fun K hK => ?_
            go_simp
            refine hK _ _ (SA.out.set3 (by have := LB.out; omega) (fun p hp => by have h := LW.out p hp; omega)) ?_
            clear hK K r0 r1 r2 v0 v1 v2
            have SB := Lib.hid (SA.out.set3 (g := q) (k := .int .i64 yo) (l := .slice yda nd yca) (m := .bool yc) (by have := LB.out; omega) (fun p hp => by have h := LW.out p hp; omega))
            have H1 := Lib.hid (set3c (k := .int .i64 yo) (l := .slice yda nd yca) (m := .bool yc) HP.out)
            have H2 := Lib.hid ((set3_other (k := .int .i64 yo) (l := .slice yda nd yca) (m := .bool yc) (by omega : q + 1 ≠ q)).trans HQ.out)
            generalize ((W9.setCell ⟨q, 0, none⟩ (.int .i64 yo)).setCell ⟨q, 1, none⟩ (.slice yda nd yca)).setCell ⟨q, 2, none⟩ (.bool yc) = W10 at *
            clear SA HP HQ
            obtain ⟨r0, r1, r2⟩ := box3c H2.out
            have v0 := frozen_of_row _ (q + 1) 0 _ _ H2.out
            have v1 := frozen_of_row _ (q + 1) 1 _ _ H2.out
            have v2 := frozen_of_row _ (q + 1) 2 _ _ H2.out
            refine held_one 13 rfl rfl (by kernel_rfl) fun K hK => ?_
            go_simp
            refine hK _ _ (SB.out.set3 (by have := LB.out; omega) (fun p hp => by have h := LW.out p hp; omega)) ?_
            clear hK K r0 r1 r2 v0 v1 v2
            have SC := Lib.hid (SB.out.set3 (g := q + 1) (k := .int .i64 yo) (l := .slice ydb nd ycb) (m := .bool yc) (by have := LB.out; omega) (fun p hp => by have h := LW.out p hp; omega))
            have H3 := Lib.hid ((set3_other (k := .int .i64 yo) (l := .slice ydb nd ycb) (m := .bool yc) (by omega : q ≠ q + 1)).trans H1.out)
            have H4 := Lib.hid (set3c (k := .int .i64 yo) (l := .slice ydb nd ycb) (m := .bool yc) H2.out)
            refine wpAnyH_done (by kernel_rfl) ?_ _
            unfold onlyN
            dsimp only
            go_wp2_with fail
            go_meet
            exact ⟨q, q + 1, rfl, rfl, H3, H4, Lib.hid (SC.out.box _ (List.mem_cons_self ..)), Lib.hid (SC.out.box _ (List.mem_cons_of_mem _ (List.mem_cons_self ..))), Lib.hid (SC.out.box _ (List.mem_cons_of_mem _ (List.mem_cons_of_mem _ (List.mem_cons_self ..)))), Lib.hid (SC.out.box _ (List.mem_cons_of_mem _ (List.mem_cons_of_mem _ (List.mem_cons_of_mem _ (List.mem_cons_self ..))))), Lib.hid SC.out.bel⟩
          · go_simp
            refine hK _ _ (SD.out.below (bel_al0 _ _)) ?_
            clear hK K
            refine held_one 10 rfl rfl (by kernel_rfl) fun K hK => ?_
            go_simp
            refine hK _ _ ((SD.out.below (bel_al0 _ _)).below (bel_al0 _ _)) ?_
            clear hK K
            have SA := Lib.hid ((SD.out.below (bel_al0 WD (.cells #[.int .i64 0, .slice none 0 0, .bool false] 94))).below (bel_al0 _ (.cells #[.int .i64 0, .slice none 0 0, .bool false] 94)))
            have HP := Lib.hid (show ((WD.alloc (.cells #[.int .i64 0, .slice none 0 0, .bool false] 94)).alloc (.cells #[.int .i64 0, .slice none 0 0, .bool false] 94)).heap[WD.heap.size]? = some (.cells #[.int .i64 0, .slice none 0 0, .bool false] 94 (0, 0)) from (al_old (by simp)).trans (heap_alloc_new WD _))
            have HQ := Lib.hid (heap_alloc2_new WD (.cells #[.int .i64 0, .slice none 0 0, .bool false] 94) (.cells #[.int .i64 0, .slice none 0 0, .bool false] 94))
            have LW := Lib.hid (fun p hp => lt_of_some0 (SD.out.box p hp))
            have LB := Lib.hid SD.out.bel.size
            generalize ((WD.alloc (.cells #[.int .i64 0, .slice none 0 0, .bool false] 94)).alloc (.cells #[.int .i64 0, .slice none 0 0, .bool false] 94)) = W9 at *
            generalize WD.heap.size = q at *
            obtain ⟨r0, r1, r2⟩ := box3c HQ.out
            have v0 := frozen_of_row _ (q + 1) 0 _ _ HQ.out
            have v1 := frozen_of_row _ (q + 1) 1 _ _ HQ.out
            have v2 := frozen_of_row _ (q + 1) 2 _ _ HQ.out
            refine held_one 12 rfl rfl (by kernel_rfl) fun K hK => ?_
            go_simp
            refine hK _ _ (SA.out.set3 (by have := LB.out; omega) (fun p hp => by have h := LW.out p hp; omega)) ?_
            clear hK K r0 r1 r2 v0 v1 v2
            have SB := Lib.hid (SA.out.set3 (g := q + 1) (k := .int .i64 yo) (l := .slice yda nd yca) (m := .bool yc) (by have := LB.out; omega) (fun p hp => by have h := LW.out p hp; omega))
            have H1 := Lib.hid (set3c (k := .int .i64 yo) (l := .slice yda nd yca) (m := .bool yc) HQ.out)
            have H2 := Lib.hid ((set3_other (k := .int .i64 yo) (l := .slice yda nd yca) (m := .bool yc) (by omega : q ≠ q + 1)).trans HP.out)
            generalize ((W9.setCell ⟨q + 1, 0, none⟩ (.int .i64 yo)).setCell ⟨q + 1, 1, none⟩ (.slice yda nd yca)).setCell ⟨q + 1, 2, none⟩ (.bool yc) = W10 at *
            clear SA HP HQ
            obtain ⟨r0, r1, r2⟩ := box3c H2.out
            have v0 := frozen_of_row _ (q) 0 _ _ H2.out
            have v1 := frozen_of_row _ (q) 1 _ _ H2.out
            have v2 := frozen_of_row _ (q) 2 _ _ H2.out
            refine held_one 13 rfl rfl (by kernel_rfl) fun K hK => ?_
            go_simp
            refine hK _ _ (SB.out.set3 (by have := LB.out; omega) (fun p hp => by have h := LW.out p hp; omega)) ?_
            clear hK K r0 r1 r2 v0 v1 v2
            have SC := Lib.hid (SB.out.set3 (g := q) (k := .int .i64 yo) (l := .slice ydb nd ycb) (m := .bool yc) (by have := LB.out; omega) (fun p hp => by have h := LW.out p hp; omega))
            have H3 := Lib.hid ((set3_other (k := .int .i64 yo) (l := .slice ydb nd ycb) (m := .bool yc) (by omega : q + 1 ≠ q)).trans H1.out)
            have H4 := Lib.hid (set3c (k := .int .i64 yo) (l := .slice ydb nd ycb) (m := .bool yc) H2.out)
            refine wpAnyH_done (by kernel_rfl) ?_ _
            unfold onlyN
            dsimp only
            go_wp2_with fail
            go_meet
            exact ⟨q + 1, q, rfl, rfl, H3, H4, Lib.hid (SC.out.box _ (List.mem_cons_self ..)), Lib.hid (SC.out.box _ (List.mem_cons_of_mem _ (List.mem_cons_self ..))), Lib.hid (SC.out.box _ (List.mem_cons_of_mem _ (List.mem_cons_of_mem _ (List.mem_cons_self ..)))), Lib.hid (SC.out.box _ (List.mem_cons_of_mem _ (List.mem_cons_of_mem _ (List.mem_cons_of_mem _ (List.mem_cons_self ..))))), Lib.hid SC.out.bel⟩
        case rest =>
          obtain ⟨hx, hy, rfl, rfl, HHX, HHY, HGX2, HGY2, HA2, HB2, B2⟩ := hcut
          clear f0 f1 f2 g0 g1 g2 l1 p0 p1 HA HB BB K1 K2 HGX HGY
          obtain ⟨f0, f1, f2⟩ := box3c HHX.out
          obtain ⟨g0, g1, g2⟩ := box3c HHY.out
          have z1 := conv_sl (sl_below SDA.out B2.out)
          have z2 := conv_sl (sl_below SDB.out B2.out)
          generalize strOf yd = tz at *
          have cc : (yc != yc) = false := by cases yc <;> rfl
          go_wp2
          go_roundw
          case rel =>
            have h1 := HK.out
            exact ⟨k + 1, by omega, by rw [EK.out], HGX2, HGY2, HA2, HB2, B2⟩
          case measure =>
            have h1 := HK.out
            rw [EK.out]
            simp [intOf]; omega
end Go.Proofs.Ytecneepgmpoepaa.Gf
