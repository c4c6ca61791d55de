/- What is proved here: the reference's Valid of a generation, for every generation with few items. -/
import Derived.Test.YtbmlpafbdbhaiaaGreatDoorGs6
import Derived.Test.YtbmlpafbdbhaiaaGreatDoorVq
namespace Go.Proofs.YtbmlpafbdbhaiaaGreatDoor.Gf
open Go Go.Joins Go.ChangeShapes Go.WideShapes Go.ChangeAt Go.RowKit Go.Deep Go.Proofs.YtbmlpafbdbhaiaaGreatDoor.By Go.Proofs.YtbmlpafbdbhaiaaGreatDoor.Qt
set_option maxRecDepth 100000
set_option maxHeartbeats 204800000

theorem ge_sub {m : Mp} {sz : Int} (hn : m.st.flatten.length ≤ 1000) (h : okM m) (h6 : 16 ≤ sz) (h7 : sz ≤ 1048576) : wrap64 (sz - 16) = sz - 16 ∧ wrap64 (sz - 16 - m.live) = sz - 16 - m.live := by
 have h1 := byT_bd m.st.flatten
 rw [← h.live] at h1
 exact ⟨by unfold wrap64; omega, by unfold wrap64; omega⟩
theorem rgvalid_x (s0 s1 s2 s3 s4 s5 s6 s7 : Value) (nm rv md sz : Int) (m : Mp) (w : World) (hms : Ms w [s0, s1, s2, s3, s4, s5, s6, s7] m) (hf : Few m) (hn : m.st.flatten.length ≤ 1000) : Calls Tryz.prog 23 #[.agg #[.int .i64 nm, .int .i64 rv, .int .i64 md, .int .i64 sz, s0, s1, s2, s3, s4, s5, s6, s7, .int .i64 m.live, .int .i64 m.garb]] w fun e w' => e = .returned (.bool (okGb ⟨nm, rv, md, sz, m⟩)) ∧ Below w.heap.size w w' := by
 have HF := Lh hf
 have HN8 := Lh hn
 have HL8 := Lh hms.1
 have B0 := Lh (bel_al w (.cells #[.int .i64 nm, .int .i64 rv, .int .i64 md, .int .i64 sz, s0, s1, s2, s3, s4, s5, s6, s7, .int .i64 m.live, .int .i64 m.garb] 43))
 have HG := Lh (heap_alloc_new w (.cells #[.int .i64 nm, .int .i64 rv, .int .i64 md, .int .i64 sz, s0, s1, s2, s3, s4, s5, s6, s7, .int .i64 m.live, .int .i64 m.garb] 43))
 have MS := Lh (ms_below hms B0.out)
 have PVM := Lh (fun W (h : Ms W [s0, s1, s2, s3, s4, s5, s6, s7] m) => rvalid11_any (.agg #[s0, s1, s2, s3, s4, s5, s6, s7, .int .i64 m.live, .int .i64 m.garb]) m W ⟨s0, s1, s2, s3, s4, s5, s6, s7, rfl, h⟩ hf)
 have PI := Lh (fun W (h : Ms W [s0, s1, s2, s3, s4, s5, s6, s7] m) => ritems11_any (.agg #[s0, s1, s2, s3, s4, s5, s6, s7, .int .i64 m.live, .int .i64 m.garb]) m W ⟨s0, s1, s2, s3, s4, s5, s6, s7, rfl, h⟩ hf)
 clear hms hf hn
 go_enter Tryz.func23, Tryz.ntmps23
 go_upto_region 1 with fail
 generalize w.alloc (.cells #[.int .i64 nm, .int .i64 rv, .int .i64 md, .int .i64 sz, s0, s1, s2, s3, s4, s5, s6, s7, .int .i64 m.live, .int .i64 m.garb] 43) = W0 at *
 rcases Classical.em (nm < 1) with h1 | h1
 ·have HNO := Lh (okGb_f (g := ⟨nm, rv, md, sz, m⟩) (fun h => by have := h.hd.n1; simp only at this; omega))
  have d0 : decide (nm < 1) = true := decide_eq_true h1
  obtain ⟨x0, x1, x2, x3, x4, x5, x6, x7, x8, x9, x10, x11, x12, x13⟩ := bx14 HG.out
  clear h1
  go_wp2_with fail
  go_ret
  exact ⟨by rw [HNO.out]; rfl, B0.out⟩
 have C0 := Lh (show 1 ≤ nm by omega)
 have d0 : decide (nm < 1) = false := decide_eq_false h1
 clear h1
 rcases Classical.em (8 < nm) with h1 | h1
 ·have HNO := Lh (okGb_f (g := ⟨nm, rv, md, sz, m⟩) (fun h => by have := h.hd.n8; simp only at this; omega))
  have d1 : decide (8 < nm) = true := decide_eq_true h1
  obtain ⟨x0, x1, x2, x3, x4, x5, x6, x7, x8, x9, x10, x11, x12, x13⟩ := bx14 HG.out
  clear h1
  go_wp2_with fail
  go_ret
  exact ⟨by rw [HNO.out]; rfl, B0.out⟩
 have C1 := Lh (show nm ≤ 8 by omega)
 have d1 : decide (8 < nm) = false := decide_eq_false h1
 clear h1
 rcases Classical.em (rv < 0) with h1 | h1
 ·have HNO := Lh (okGb_f (g := ⟨nm, rv, md, sz, m⟩) (fun h => by have := h.hd.r0; simp only at this; omega))
  have d2 : decide (rv < 0) = true := decide_eq_true h1
  obtain ⟨x0, x1, x2, x3, x4, x5, x6, x7, x8, x9, x10, x11, x12, x13⟩ := bx14 HG.out
  clear h1
  go_wp2_with fail
  go_ret
  exact ⟨by rw [HNO.out]; rfl, B0.out⟩
 have C2 := Lh (show 0 ≤ rv by omega)
 have d2 : decide (rv < 0) = false := decide_eq_false h1
 clear h1
 rcases Classical.em (4294967296 ≤ rv) with h1 | h1
 ·have HNO := Lh (okGb_f (g := ⟨nm, rv, md, sz, m⟩) (fun h => by have := h.hd.r1; simp only at this; omega))
  have d3 : decide (4294967296 ≤ rv) = true := decide_eq_true h1
  obtain ⟨x0, x1, x2, x3, x4, x5, x6, x7, x8, x9, x10, x11, x12, x13⟩ := bx14 HG.out
  clear h1
  go_wp2_with fail
  go_ret
  exact ⟨by rw [HNO.out]; rfl, B0.out⟩
 have C3 := Lh (show rv ≤ 4294967295 by omega)
 have d3 : decide (4294967296 ≤ rv) = false := decide_eq_false h1
 clear h1
 rcases Classical.em (md < 1) with h1 | h1
 ·have HNO := Lh (okGb_f (g := ⟨nm, rv, md, sz, m⟩) (fun h => by have := h.hd.m1; simp only at this; omega))
  have d4 : decide (md < 1) = true := decide_eq_true h1
  obtain ⟨x0, x1, x2, x3, x4, x5, x6, x7, x8, x9, x10, x11, x12, x13⟩ := bx14 HG.out
  clear h1
  go_wp2_with fail
  go_ret
  exact ⟨by rw [HNO.out]; rfl, B0.out⟩
 have C4 := Lh (show 1 ≤ md by omega)
 have d4 : decide (md < 1) = false := decide_eq_false h1
 clear h1
 rcases Classical.em (3 < md) with h1 | h1
 ·have HNO := Lh (okGb_f (g := ⟨nm, rv, md, sz, m⟩) (fun h => by have := h.hd.m3; simp only at this; omega))
  have d5 : decide (3 < md) = true := decide_eq_true h1
  obtain ⟨x0, x1, x2, x3, x4, x5, x6, x7, x8, x9, x10, x11, x12, x13⟩ := bx14 HG.out
  clear h1
  go_wp2_with fail
  go_ret
  exact ⟨by rw [HNO.out]; rfl, B0.out⟩
 have C5 := Lh (show md ≤ 3 by omega)
 have d5 : decide (3 < md) = false := decide_eq_false h1
 clear h1
 obtain ⟨x0, x1, x2, x3, x4, x5, x6, x7, x8, x9, x10, x11, x12, x13⟩ := bx14 HG.out
 go_wp2_with fail
 clear d0 d1 d2 d3 d4 d5
 clear x0 x1 x2 x3 x4 x5 x6 x7 x8 x9 x10 x11 x12 x13
 refine wp_onlyN ?_
 refine wp_region_headsS (fun W' => Below W0.heap.size W0 W') [0, 1] 27 (by kernel_rfl) (fun _ _ _ _ _ h => h.elim) (by kernel_rfl) (by rfl) (by rfl) (Below.refl W0.heap.size W0).drew ?_
 simp only [pickOps, List.filterMap_cons, List.filterMap_nil, List.getElem?_toArray]
 refine wpHeads_step (fun K hK => ?_)
 go_simp
 refine ⟨_, fun _ _ => rfl, hK _ ?_⟩
 clear hK K
 refine wpHeads_step (fun K hK => ?_)
 go_simp
 refine ⟨.int .i64 sz, fun w' hw' => by
  obtain ⟨x0, x1, x2, x3, x4, x5, x6, x7, x8, x9, x10, x11, x12, x13⟩ := bx14 ((hw'.block _ (lt_of_some HG.out)).trans HG.out)
  go_simp, hK _ ?_⟩
 clear hK K
 refine wpHeads_nil ?_
 have SD := Lh (Below.refl W0.heap.size W0).drew
 generalize W0.drew = WD at *
 rcases Classical.em (sz < 16) with h1 | h1
 ·have HNO := Lh (okGb_f (g := ⟨nm, rv, md, sz, m⟩) (fun h => by have := h.hd.s0; simp only at this; omega))
  have d1 : decide (sz < 16) = true := decide_eq_true h1
  clear h1
  obtain ⟨x0, x1, x2, x3, x4, x5, x6, x7, x8, x9, x10, x11, x12, x13⟩ := bx14 ((SD.out.block _ (lt_of_some HG.out)).trans HG.out)
  refine gwq 2 fun K hK => ?_
  go_simp
  refine hK _ _ SD.out ?_
  clear hK K
  clear x0 x1 x2 x3 x4 x5 x6 x7 x8 x9 x10 x11 x12 x13
  clear d1
  refine gwq 3 fun K hK => ?_
  go_simp
  refine hK _ _ SD.out ?_
  clear hK K
  refine tkn 4 SD.out ?_
  refine tkn 5 SD.out ?_
  refine tkn 6 SD.out ?_
  refine gwq 7 fun K hK => ?_
  go_simp
  refine hK _ _ SD.out ?_
  clear hK K
  refine gwq 8 fun K hK => ?_
  go_simp
  refine hK _ _ SD.out ?_
  clear hK K
  refine tkn 9 SD.out ?_
  refine tkn 10 SD.out ?_
  refine tkn 11 SD.out ?_
  refine tkn 12 SD.out ?_
  refine gwq 13 fun K hK => ?_
  go_simp
  refine hK _ _ SD.out ?_
  clear hK K
  refine gwq 14 fun K hK => ?_
  go_simp
  refine hK _ _ SD.out ?_
  clear hK K
  refine tkn 15 SD.out ?_
  refine tkn 16 SD.out ?_
  refine tkn 17 SD.out ?_
  refine tkn 18 SD.out ?_
  refine gwq 19 fun K hK => ?_
  go_simp
  refine hK _ _ SD.out ?_
  clear hK K
  refine gwq 20 fun K hK => ?_
  go_simp
  refine hK _ _ SD.out ?_
  clear hK K
  refine tkn 21 SD.out ?_
  refine tkn 22 SD.out ?_
  refine tkn 23 SD.out ?_
  refine tkn 24 SD.out ?_
  refine tkn 25 SD.out ?_
  refine tkn 26 SD.out ?_
  refine tkn 27 SD.out ?_
  refine gwq 28 fun K hK => ?_
  go_simp
  refine hK _ _ SD.out ?_
  clear hK K
  refine wpAnyH_done (by kernel_rfl) ?_ _
  unfold onlyN
  dsimp only
  go_wp2_with fail
  go_ret
  exact ⟨by rw [HNO.out]; rfl, B0.out.trans (SD.out.mono B0.out.size)⟩
 have C6 := Lh (show 16 ≤ sz by omega)
 have d1 : decide (sz < 16) = false := decide_eq_false h1
 clear h1
 obtain ⟨x0, x1, x2, x3, x4, x5, x6, x7, x8, x9, x10, x11, x12, x13⟩ := bx14 ((SD.out.block _ (lt_of_some HG.out)).trans HG.out)
 refine gwq 2 fun K hK => ?_
 go_simp
 refine hK _ _ SD.out ?_
 clear hK K
 clear x0 x1 x2 x3 x4 x5 x6 x7 x8 x9 x10 x11 x12 x13
 clear d1
 refine gwq 3 fun K hK => ?_
 go_simp
 refine hK _ _ SD.out ?_
 clear hK K
 rcases Classical.em (1048576 < sz) with h1 | h1
 ·have HNO := Lh (okGb_f (g := ⟨nm, rv, md, sz, m⟩) (fun h => by have := h.hd.s1; simp only at this; omega))
  have d1 : decide (1048576 < sz) = true := decide_eq_true h1
  clear h1
  obtain ⟨x0, x1, x2, x3, x4, x5, x6, x7, x8, x9, x10, x11, x12, x13⟩ := bx14 ((SD.out.block _ (lt_of_some HG.out)).trans HG.out)
  refine gwq 4 fun K hK => ?_
  go_simp
  refine hK _ _ SD.out ?_
  clear hK K
  refine gwq 5 fun K hK => ?_
  go_simp
  refine hK _ _ SD.out ?_
  clear hK K
  refine gwq 6 fun K hK => ?_
  go_simp
  refine hK _ _ SD.out ?_
  clear hK K
  clear x0 x1 x2 x3 x4 x5 x6 x7 x8 x9 x10 x11 x12 x13
  clear d1
  refine gwq 7 fun K hK => ?_
  go_simp
  refine hK _ _ SD.out ?_
  clear hK K
  refine gwq 8 fun K hK => ?_
  go_simp
  refine hK _ _ SD.out ?_
  clear hK K
  refine tkn 9 SD.out ?_
  refine tkn 10 SD.out ?_
  refine tkn 11 SD.out ?_
  refine tkn 12 SD.out ?_
  refine gwq 13 fun K hK => ?_
  go_simp
  refine hK _ _ SD.out ?_
  clear hK K
  refine gwq 14 fun K hK => ?_
  go_simp
  refine hK _ _ SD.out ?_
  clear hK K
  refine tkn 15 SD.out ?_
  refine tkn 16 SD.out ?_
  refine tkn 17 SD.out ?_
  refine tkn 18 SD.out ?_
  refine gwq 19 fun K hK => ?_
  go_simp
  refine hK _ _ SD.out ?_
  clear hK K
  refine gwq 20 fun K hK => ?_
  go_simp
  refine hK _ _ SD.out ?_
  clear hK K
  refine tkn 21 SD.out ?_
  refine tkn 22 SD.out ?_
  refine tkn 23 SD.out ?_
  refine tkn 24 SD.out ?_
  refine tkn 25 SD.out ?_
  refine tkn 26 SD.out ?_
  refine tkn 27 SD.out ?_
  refine gwq 28 fun K hK => ?_
  go_simp
  refine hK _ _ SD.out ?_
  clear hK K
  refine wpAnyH_done (by kernel_rfl) ?_ _
  unfold onlyN
  dsimp only
  go_wp2_with fail
  go_ret
  exact ⟨by rw [HNO.out]; rfl, B0.out.trans (SD.out.mono B0.out.size)⟩
 have C7 := Lh (show sz ≤ 1048576 by omega)
 have d1 : decide (1048576 < sz) = false := decide_eq_false h1
 clear h1
 obtain ⟨x0, x1, x2, x3, x4, x5, x6, x7, x8, x9, x10, x11, x12, x13⟩ := bx14 ((SD.out.block _ (lt_of_some HG.out)).trans HG.out)
 refine gwq 4 fun K hK => ?_
 go_simp
 refine hK _ _ SD.out ?_
 clear hK K
 refine gwq 5 fun K hK => ?_
 go_simp
 refine hK _ _ SD.out ?_
 clear hK K
 refine gwq 6 fun K hK => ?_
 go_simp
 refine hK _ _ SD.out ?_
 clear hK K
 clear x0 x1 x2 x3 x4 x5 x6 x7 x8 x9 x10 x11 x12 x13
 clear d1
 refine gwq 7 fun K hK => ?_
 go_simp
 refine hK _ _ SD.out ?_
 clear hK K
 refine gwq 8 fun K hK => ?_
 go_simp
 refine hK _ _ SD.out ?_
 clear hK K
 rcases Classical.em (¬ sz.tmod 8 = 0) with h1 | h1
 ·have HNO := Lh (okGb_f (g := ⟨nm, rv, md, sz, m⟩) (fun h => h1 h.hd.s8))
  have d1 : (sz.tmod 8 != 0) = true := by rw [bne, beq_false_of_ne h1]; rfl
  clear h1
  obtain ⟨x0, x1, x2, x3, x4, x5, x6, x7, x8, x9, x10, x11, x12, x13⟩ := bx14 ((SD.out.block _ (lt_of_some HG.out)).trans HG.out)
  refine gwq 9 fun K hK => ?_
  go_simp
  refine hK _ _ SD.out ?_
  clear hK K
  refine gwq 10 fun K hK => ?_
  go_simp
  refine hK _ _ SD.out ?_
  clear hK K
  refine gwq 11 fun K hK => ?_
  go_simp
  refine hK _ _ SD.out ?_
  clear hK K
  refine gwq 12 fun K hK => ?_
  go_simp
  refine hK _ _ SD.out ?_
  clear hK K
  clear x0 x1 x2 x3 x4 x5 x6 x7 x8 x9 x10 x11 x12 x13
  clear d1
  refine gwq 13 fun K hK => ?_
  go_simp
  refine hK _ _ SD.out ?_
  clear hK K
  refine gwq 14 fun K hK => ?_
  go_simp
  refine hK _ _ SD.out ?_
  clear hK K
  refine tkn 15 SD.out ?_
  refine tkn 16 SD.out ?_
  refine tkn 17 SD.out ?_
  refine tkn 18 SD.out ?_
  refine gwq 19 fun K hK => ?_
  go_simp
  refine hK _ _ SD.out ?_
  clear hK K
  refine gwq 20 fun K hK => ?_
  go_simp
  refine hK _ _ SD.out ?_
  clear hK K
  refine tkn 21 SD.out ?_
  refine tkn 22 SD.out ?_
  refine tkn 23 SD.out ?_
  refine tkn 24 SD.out ?_
  refine tkn 25 SD.out ?_
  refine tkn 26 SD.out ?_
  refine tkn 27 SD.out ?_
  refine gwq 28 fun K hK => ?_
  go_simp
  refine hK _ _ SD.out ?_
  clear hK K
  refine wpAnyH_done (by kernel_rfl) ?_ _
  unfold onlyN
  dsimp only
  go_wp2_with fail
  go_ret
  exact ⟨by rw [HNO.out]; rfl, B0.out.trans (SD.out.mono B0.out.size)⟩
 have C8 := Lh (Classical.not_not.1 h1)
 have d1 : (sz.tmod 8 != 0) = false := by rw [bne, beq_iff_eq.2 (Classical.not_not.1 h1)]; rfl
 clear h1
 obtain ⟨x0, x1, x2, x3, x4, x5, x6, x7, x8, x9, x10, x11, x12, x13⟩ := bx14 ((SD.out.block _ (lt_of_some HG.out)).trans HG.out)
 refine gwq 9 fun K hK => ?_
 go_simp
 refine hK _ _ SD.out ?_
 clear hK K
 refine gwq 10 fun K hK => ?_
 go_simp
 refine hK _ _ SD.out ?_
 clear hK K
 refine gwq 11 fun K hK => ?_
 go_simp
 refine hK _ _ SD.out ?_
 clear hK K
 refine gwq 12 fun K hK => ?_
 go_simp
 refine hK _ _ SD.out ?_
 clear hK K
 clear x0 x1 x2 x3 x4 x5 x6 x7 x8 x9 x10 x11 x12 x13
 clear d1
 refine gwq 13 fun K hK => ?_
 go_simp
 refine hK _ _ SD.out ?_
 clear hK K
 refine gwq 14 fun K hK => ?_
 go_simp
 refine hK _ _ SD.out ?_
 clear hK K
 obtain ⟨x0, x1, x2, x3, x4, x5, x6, x7, x8, x9, x10, x11, x12, x13⟩ := bx14 ((SD.out.block _ (lt_of_some HG.out)).trans HG.out)
 refine gwq 15 fun K hK => ?_
 go_simp
 refine hK _ _ SD.out ?_
 clear hK K
 refine gwq 16 fun K hK => ?_
 go_simp
 refine hK _ _ SD.out ?_
 clear hK K
 clear x0 x1 x2 x3 x4 x5 x6 x7 x8 x9 x10 x11 x12 x13
 rcases Classical.em (okM m) with h1 | h1
 rotate_left
 ·have HNO := Lh (okGb_f (g := ⟨nm, rv, md, sz, m⟩) (fun h => h1 h.ok))
  have PV := fun W h => PVM.out W h
  rw [okMb_f h1] at PV
  clear h1
  refine gwq 17 fun K hK => ?_
  go_simp
  go_at_call 50
  refine (PV WD (ms_below MS.out SD.out)).mono ?_
  rintro e V2 ⟨rfl, hb⟩
  refine hK _ _ (SD.out.trans (hb.mono SD.out.size)) ?_
  clear hK K
  have S1 := Lh (SD.out.trans (hb.mono SD.out.size))
  clear hb SD
  clear PV
  refine gwq 18 fun K hK => ?_
  go_simp
  refine hK _ _ S1.out ?_
  clear hK K
  refine gwq 19 fun K hK => ?_
  go_simp
  refine hK _ _ S1.out ?_
  clear hK K
  refine gwq 20 fun K hK => ?_
  go_simp
  refine hK _ _ S1.out ?_
  clear hK K
  refine tkn 21 S1.out ?_
  refine tkn 22 S1.out ?_
  refine tkn 23 S1.out ?_
  refine tkn 24 S1.out ?_
  refine tkn 25 S1.out ?_
  refine tkn 26 S1.out ?_
  refine tkn 27 S1.out ?_
  refine gwq 28 fun K hK => ?_
  go_simp
  refine hK _ _ S1.out ?_
  clear hK K
  refine wpAnyH_done (by kernel_rfl) ?_ _
  unfold onlyN
  dsimp only
  go_wp2_with fail
  go_ret
  exact ⟨by rw [HNO.out]; rfl, B0.out.trans (S1.out.mono B0.out.size)⟩
 have C9 := Lh h1
 have PV := fun W h => PVM.out W h
 rw [okMb_t h1] at PV
 clear h1
 refine gwq 17 fun K hK => ?_
 go_simp
 go_at_call 50
 refine (PV WD (ms_below MS.out SD.out)).mono ?_
 rintro e V2 ⟨rfl, hb⟩
 refine hK _ _ (SD.out.trans (hb.mono SD.out.size)) ?_
 clear hK K
 have S1 := Lh (SD.out.trans (hb.mono SD.out.size))
 clear hb SD
 clear PV
 refine gwq 18 fun K hK => ?_
 go_simp
 refine hK _ _ S1.out ?_
 clear hK K
 refine gwq 19 fun K hK => ?_
 go_simp
 refine hK _ _ S1.out ?_
 clear hK K
 refine gwq 20 fun K hK => ?_
 go_simp
 refine hK _ _ S1.out ?_
 clear hK K
 refine tky 21 (.pointer (some ⟨w.heap.size, 4, none⟩)) rfl (fun w' hw' => by
  skip
  go_simp) S1.out ?_
 refine tky 22 (.agg #[s0, s1, s2, s3, s4, s5, s6, s7, .int .i64 m.live, .int .i64 m.garb]) rfl (fun w' hw' => by
  obtain ⟨x0, x1, x2, x3, x4, x5, x6, x7, x8, x9, x10, x11, x12, x13⟩ := bx14 ((hw'.block _ (lt_of_some HG.out)).trans HG.out)
  go_simp) S1.out ?_
 refine tky 24 (.pointer (some ⟨w.heap.size, 3, none⟩)) rfl (fun w' hw' => by
  skip
  go_simp) S1.out ?_
 refine tky 25 (.int .i64 sz) rfl (fun w' hw' => by
  obtain ⟨x0, x1, x2, x3, x4, x5, x6, x7, x8, x9, x10, x11, x12, x13⟩ := bx14 ((hw'.block _ (lt_of_some HG.out)).trans HG.out)
  go_simp) S1.out ?_
 refine gwq 23 fun K hK => ?_
 go_simp
 go_at_call 56
 refine (PI.out V2 (ms_below MS.out S1.out)).mono ?_
 rintro e V3 ⟨⟨v2, rfl, hit⟩, hb⟩
 refine hK _ _ (S1.out.trans (hb.mono S1.out.size)) ?_
 clear hK K
 rw [show itemsL m = iL m by unfold itemsL; rw [if_pos C9.out]] at hit
 have PA := rends_any v2 (iL m) sz V3 (il_len HF.out HN8.out C9.out HL8.out) (iL_ok C9.out HL8.out) hit
 obtain ⟨ai, ci, rfl, -, -⟩ := it_form hit
 have HII := Lh hit
 clear hit
 have S2 := Lh (S1.out.trans (hb.mono S1.out.size))
 clear hb S1
 rcases Classical.em (apL (iL m) sz) with h1 | h1
 rotate_left
 ·have HNO := Lh (okGb_f (g := ⟨nm, rv, md, sz, m⟩) (fun h => h1 h.ap))
  rw [apB_f h1] at PA
  clear h1
  refine gwq 26 fun K hK => ?_
  go_simp
  go_at_call 58
  refine PA.mono ?_
  rintro e V4 ⟨rfl, hb⟩
  refine hK _ _ (S2.out.trans (hb.mono S2.out.size)) ?_
  clear hK K
  have S9 := Lh (S2.out.trans (hb.mono S2.out.size))
  clear hb S2
  clear PA HII
  refine gwq 27 fun K hK => ?_
  go_simp
  refine hK _ _ S9.out ?_
  clear hK K
  refine gwq 28 fun K hK => ?_
  go_simp
  refine hK _ _ S9.out ?_
  clear hK K
  refine wpAnyH_done (by kernel_rfl) ?_ _
  unfold onlyN
  dsimp only
  go_wp2_with fail
  go_ret
  exact ⟨by rw [HNO.out]; rfl, B0.out.trans (S9.out.mono B0.out.size)⟩
 have C11 := Lh h1
 rw [apB_t h1] at PA
 clear h1
 refine gwq 26 fun K hK => ?_
 go_simp
 go_at_call 58
 refine PA.mono ?_
 rintro e V4 ⟨rfl, hb⟩
 refine hK _ _ (S2.out.trans (hb.mono S2.out.size)) ?_
 clear hK K
 have S9 := Lh (S2.out.trans (hb.mono S2.out.size))
 clear hb S2
 clear PA HII
 refine gwq 27 fun K hK => ?_
 go_simp
 refine hK _ _ S9.out ?_
 clear hK K
 refine gwq 28 fun K hK => ?_
 go_simp
 refine hK _ _ S9.out ?_
 clear hK K
 refine wpAnyH_done (by kernel_rfl) ?_ _
 unfold onlyN
 dsimp only
 obtain ⟨x0, x1, x2, x3, x4, x5, x6, x7, x8, x9, x10, x11, x12, x13⟩ := bx14 ((S9.out.block _ (lt_of_some HG.out)).trans HG.out)
 obtain ⟨e1, e2⟩ := ge_sub HN8.out C9.out C6.out C7.out
 obtain ⟨E, hE⟩ : ∃ E, E = sz - 16 - m.live := ⟨_, rfl⟩
 rw [← hE] at e2
 have HE := Lh hE
 clear hE
 rcases Classical.em (E = m.garb) with h1 | h1
 ·have HYES := Lh (okGb_t (g := ⟨nm, rv, md, sz, m⟩) ⟨⟨C0.out, C1.out, C2.out, C3.out, C4.out, C5.out, C6.out, C7.out, C8.out⟩, C9.out, by show sz = 16 + m.live + m.garb; have := HE.out; omega, C11.out⟩)
  have d1 : (E == m.garb) = true := beq_iff_eq.2 h1
  have d2 : (wrap64 (sz - 16 - m.live) == m.garb) = true := by rw [show sz - 16 - m.live = E from HE.out.symm, e2]; exact d1
  have d3 : (sz - 16 - m.live == m.garb) = true := by rw [← HE.out]; exact d1
  clear h1 e2
  go_wp2_with fail
  go_ret
  exact ⟨by rw [HYES.out]; rfl, B0.out.trans (S9.out.mono B0.out.size)⟩
 ·have HNO := Lh (okGb_f (g := ⟨nm, rv, md, sz, m⟩) (fun h => h1 (by have := h.eq; simp only at this; have := HE.out; omega)))
  have d1 : (E == m.garb) = false := beq_false_of_ne h1
  have d2 : (wrap64 (sz - 16 - m.live) == m.garb) = false := by rw [show sz - 16 - m.live = E from HE.out.symm, e2]; exact d1
  have d3 : (sz - 16 - m.live == m.garb) = false := by rw [← HE.out]; exact d1
  clear h1 e2
  go_wp2_with fail
  go_ret
  exact ⟨by rw [HNO.out]; rfl, B0.out.trans (S9.out.mono B0.out.size)⟩
theorem rgvalid_any (v : Value) (g : Ge) (w : World) (hv : Gv w v g) (hf : Few g.m) (hn : g.m.st.flatten.length ≤ 1000) : Calls Tryz.prog 23 #[v] w fun e w' => e = .returned (.bool (okGb g)) ∧ Below w.heap.size w w' := by
 obtain ⟨s0, s1, s2, s3, s4, s5, s6, s7, rfl, hm, -, -, -, -⟩ := hv
 exact rgvalid_x s0 s1 s2 s3 s4 s5 s6 s7 g.num g.rev g.mode g.size g.m w hm hf hn
end Go.Proofs.YtbmlpafbdbhaiaaGreatDoor.Gf
