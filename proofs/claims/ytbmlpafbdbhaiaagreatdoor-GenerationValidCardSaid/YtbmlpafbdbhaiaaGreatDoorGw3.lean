/- What is proved here: the examples of the chapter. -/
import Derived.Test.YtbmlpafbdbhaiaaGreatDoorGw2
import Derived.Test.YtbmlpafbdbhaiaaGreatDoorGt2
import Derived.Test.YtbmlpafbdbhaiaaGreatDoorGt1
namespace Go.Proofs.YtbmlpafbdbhaiaaGreatDoor.Gf
open Go Go.Joins Go.ChangeShapes Go.WideShapes Go.ChangeAt Go.RowKit Go.Deep Go.Proofs.YtbmlpafbdbhaiaaGreatDoor.By Go.Proofs.YtbmlpafbdbhaiaaGreatDoor.Qt Go.Proofs
set_option maxRecDepth 100000
set_option maxHeartbeats 204800000
def sFr : Ge := ⟨1, 0, 3, 16, mp0⟩
theorem sFr_ok : okGe sFr := ⟨⟨by decide, by decide, by decide, by decide, by decide, by decide, by decide, by decide, by decide⟩, (frG_ok (n := 1) (by decide) (by decide)).ok, (frG_ok (n := 1) (by decide) (by decide)).eq, (frG_ok (n := 1) (by decide) (by decide)).ap⟩
theorem awake12_any (w : World) (hw : StrW w) : Calls Tryz.prog 8 #[] w fun e w' => e = .returned (.bool true) ∧ Below w.heap.size w w' := by
 have HSW := Lh hw
 clear hw
 go_enter Tryz.func8, Tryz.ntmps8
 go_wp2_with fail
 refine (pformat_A w).mono ?_
 rintro e W1 ⟨rfl, hb⟩
 have B1 := Lh hb
 clear hb
 go_wp2_with fail
 refine (pparse W1 (strW_below HSW.out B1.out)).mono ?_
 rintro e W2 ⟨rfl, hb⟩
 have B2 := Lh (B1.out.trans (hb.mono B1.out.size))
 have hz := heap_alloc_new W2 (.cells #[.int .i64 0, .int .i64 0, .int .i64 0, .int .i64 0, .bool false] 29)
 clear hb B1 HSW
 go_upto_region 3 with ((with_reducible refine storeNm W2.heap.size _ #[.int .i64 0, .int .i64 0, .int .i64 0, .int .i64 0, .bool false] ?_ ?_ hz rfl rfl z5_one ?_); exact rfl; exact rfl)
 rw [World.setRow_alloc_new]
 have hb := bel_al W2 (.cells #[.int .i64 0, .int .i64 0, .int .i64 0, .int .i64 0, .bool false] 29)
 have B3 := Lh (B2.out.trans (hb.mono B2.out.size))
 clear hb hz B2
 generalize W2.alloc (.cells #[.int .i64 0, .int .i64 0, .int .i64 0, .int .i64 0, .bool false] 29) = W3 at *
 go_wp2_with fail
 refine (pfresh_any 1 W3).mono ?_
 rintro e W4 ⟨⟨v, rfl, hg⟩, hb⟩
 rw [if_pos (by decide)] at hg
 rw [if_pos (by decide)]
 obtain ⟨s0, s1, s2, s3, s4, s5, s6, s7, hv, hm, hj⟩ := hg
 obtain rfl : v = .agg #[.int .i64 1, .int .i64 0, .int .i64 1, .int .i64 16, s0, s1, s2, s3, s4, s5, s6, s7, .int .i64 mp0.live, .int .i64 mp0.garb] := hv
 have B4 := Lh (B3.out.trans (hb.mono B3.out.size))
 have MS := Lh hm
 have ON := Lh (show (#[.int .i64 1, .int .i64 0, .int .i64 1, .int .i64 16, s0, s1, s2, s3, s4, s5, s6, s7, .int .i64 mp0.live, .int .i64 mp0.garb] : Array Value).all (·.oneCell') = true from gc_one (g := frG 1) hm)
 have UF := Lh (show ∀ (k : Nat) (n : Int), (#[.int .i64 1, .int .i64 0, .int .i64 1, .int .i64 16, s0, s1, s2, s3, s4, s5, s6, s7, .int .i64 mp0.live, .int .i64 mp0.garb] : Array Value)[k]? ≠ some (Value.int .u64 n) from gc_u64 (g := frG 1) hm)
 have hz := heap_alloc_new W4 (.cells #[.int .i64 0, .int .i64 0, .int .i64 0, .int .i64 0, .slice none 0 0, .slice none 0 0, .slice none 0 0, .slice none 0 0, .slice none 0 0, .slice none 0 0, .slice none 0 0, .slice none 0 0, .int .i64 0, .int .i64 0] 50)
 clear hb hm hj B3
 go_upto_region 4 with ((with_reducible refine storeG W4.heap.size _ #[.int .i64 1, .int .i64 0, .int .i64 1, .int .i64 16, s0, s1, s2, s3, s4, s5, s6, s7, .int .i64 mp0.live, .int .i64 mp0.garb] ?_ ?_ hz rfl rfl ON.out ?_); exact rfl; exact rfl)
 rw [World.setRow_alloc_new]
 have hb := bel_al W4 (.cells #[.int .i64 1, .int .i64 0, .int .i64 1, .int .i64 16, s0, s1, s2, s3, s4, s5, s6, s7, .int .i64 mp0.live, .int .i64 mp0.garb] 50)
 have HX := Lh (heap_alloc_new W4 (.cells #[.int .i64 1, .int .i64 0, .int .i64 1, .int .i64 16, s0, s1, s2, s3, s4, s5, s6, s7, .int .i64 mp0.live, .int .i64 mp0.garb] 50))
 have B5 := Lh (B4.out.trans (hb.mono B4.out.size))
 have MS5 := Lh (ms_below MS.out hb)
 have HGE := Lh (show w.heap.size ≤ W4.heap.size from B4.out.size)
 clear hb hz B4 MS ON
 generalize W4.alloc (.cells #[.int .i64 1, .int .i64 0, .int .i64 1, .int .i64 16, s0, s1, s2, s3, s4, s5, s6, s7, .int .i64 mp0.live, .int .i64 mp0.garb] 50) = W5 at *
 generalize W4.heap.size = p5 at *
 obtain ⟨x0, x1, x2, x3, x4, x5, x6, x7, x8, x9, x10, x11, x12, x13⟩ := bx14 HX.out
 have f2 := frozen_of_row W5 p5 2 _ _ HX.out
 go_upto_region 5 with fail
 clear x0 x1 x2 x3 x4 x5 x6 x7 x8 x9 x10 x11 x12 x13 f2
 rw [setCell_eq_setRow _ _ _ _ _ _ _ HX.out]
 have HX6 := Lh (show (W5.setRow p5 #[.int .i64 1, .int .i64 0, .int .i64 3, .int .i64 16, s0, s1, s2, s3, s4, s5, s6, s7, .int .i64 mp0.live, .int .i64 mp0.garb]).heap[p5]? = some (.cells #[.int .i64 1, .int .i64 0, .int .i64 3, .int .i64 16, s0, s1, s2, s3, s4, s5, s6, s7, .int .i64 mp0.live, .int .i64 mp0.garb] 50 (0, 0)) from setRow_heap _ _ _ _ _ _ HX.out)
 have MS6 := Lh (ms_setRowF MS5.out HX.out UF.out (cs := #[.int .i64 1, .int .i64 0, .int .i64 3, .int .i64 16, s0, s1, s2, s3, s4, s5, s6, s7, .int .i64 mp0.live, .int .i64 mp0.garb]))
 have B6 := Lh (below_setRowM B5.out HGE.out #[.int .i64 1, .int .i64 0, .int .i64 3, .int .i64 16, s0, s1, s2, s3, s4, s5, s6, s7, .int .i64 mp0.live, .int .i64 mp0.garb])
 show Code.wp _ _ _ _ (W5.setRow p5 #[.int .i64 1, .int .i64 0, .int .i64 3, .int .i64 16, s0, s1, s2, s3, s4, s5, s6, s7, .int .i64 mp0.live, .int .i64 mp0.garb])
 generalize W5.setRow p5 #[.int .i64 1, .int .i64 0, .int .i64 3, .int .i64 16, s0, s1, s2, s3, s4, s5, s6, s7, .int .i64 mp0.live, .int .i64 mp0.garb] = W6 at *
 clear HX MS5 B5
 obtain ⟨x0, x1, x2, x3, x4, x5, x6, x7, x8, x9, x10, x11, x12, x13⟩ := bx14 HX6.out
 go_wp2_with fail
 clear x0 x1 x2 x3 x4 x5 x6 x7 x8 x9 x10 x11 x12 x13
 refine (pfreeze_any (.agg #[.int .i64 1, .int .i64 0, .int .i64 3, .int .i64 16, s0, s1, s2, s3, s4, s5, s6, s7, .int .i64 mp0.live, .int .i64 mp0.garb]) sFr W6 ⟨s0, s1, s2, s3, s4, s5, s6, s7, rfl, MS6.out, by unfold J64 sFr; decide⟩ few_mp0 (by show mp0.st.flatten.length ≤ 1000; decide)).mono ?_
 rintro e W7 ⟨⟨v, rfl, hg⟩, hb⟩
 rw [show modC sFr 1 = 12 from by unfold modC; rw [okGb_t sFr_ok, if_pos rfl, if_neg (by decide)]]
 rw [show modG sFr 1 2 = g0 from by unfold modG; rw [if_neg (fun h => absurd h.2 (by decide))]] at hg
 obtain ⟨t0, t1, t2, t3, t4, t5, t6, t7, hv, hm, hj⟩ := hg
 obtain rfl : v = .agg #[.int .i64 0, .int .i64 0, .int .i64 0, .int .i64 0, t0, t1, t2, t3, t4, t5, t6, t7, .int .i64 mp0.live, .int .i64 mp0.garb] := hv
 have B7 := Lh (B6.out.trans (hb.mono B6.out.size))
 have ON := Lh (show (#[.int .i64 0, .int .i64 0, .int .i64 0, .int .i64 0, t0, t1, t2, t3, t4, t5, t6, t7, .int .i64 mp0.live, .int .i64 mp0.garb] : Array Value).all (·.oneCell') = true from gc_one (g := g0) hm)
 have hz := heap_alloc_new W7 (.cells #[.int .i64 0, .int .i64 0, .int .i64 0, .int .i64 0, .slice none 0 0, .slice none 0 0, .slice none 0 0, .slice none 0 0, .slice none 0 0, .slice none 0 0, .slice none 0 0, .slice none 0 0, .int .i64 0, .int .i64 0] 50)
 clear hb hm hj B6
 go_upto_region 6 with ((with_reducible refine storeG W7.heap.size _ #[.int .i64 0, .int .i64 0, .int .i64 0, .int .i64 0, t0, t1, t2, t3, t4, t5, t6, t7, .int .i64 mp0.live, .int .i64 mp0.garb] ?_ ?_ hz rfl rfl ON.out ?_); exact rfl; exact rfl)
 rw [World.setRow_alloc_new]
 have hb := bel_al W7 (.cells #[.int .i64 0, .int .i64 0, .int .i64 0, .int .i64 0, t0, t1, t2, t3, t4, t5, t6, t7, .int .i64 mp0.live, .int .i64 mp0.garb] 50)
 have B8 := Lh (B7.out.trans (hb.mono B7.out.size))
 clear hb hz B7 ON
 generalize W7.alloc (.cells #[.int .i64 0, .int .i64 0, .int .i64 0, .int .i64 0, t0, t1, t2, t3, t4, t5, t6, t7, .int .i64 mp0.live, .int .i64 mp0.garb] 50) = W8 at *
 go_wp2_with fail
 go_ret
 exact ⟨rfl, B8.out⟩
end Go.Proofs.YtbmlpafbdbhaiaaGreatDoor.Gf
