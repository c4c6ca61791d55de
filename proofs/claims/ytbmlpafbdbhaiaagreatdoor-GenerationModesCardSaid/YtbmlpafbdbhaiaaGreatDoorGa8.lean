/- What is proved here: the walk of GenerationModes. -/
import Derived.Test.YtbmlpafbdbhaiaaGreatDoorGa6
import Derived.Test.YtbmlpafbdbhaiaaGreatDoorGw3
namespace Go.Proofs.YtbmlpafbdbhaiaaGreatDoor.Gf
open Go Go.Joins Go.ChangeShapes Go.WideShapes Go.ChangeAt Go.RowKit Go.Deep Go.Proofs.YtbmlpafbdbhaiaaGreatDoor.By Go.Proofs.YtbmlpafbdbhaiaaGreatDoor.Qt
set_option maxRecDepth 100000
set_option maxHeartbeats 204800000
theorem t4_one (a b : Nat) (c d : Int) : (#[.int .u64 (a : Int), .int .u32 (b : Int), .int .i64 c, .int .i64 d] : Array Value).all (·.oneCell') = true := by simp [show ∀ (k : IntKind) (z : Int), (Value.int k z).oneCell' = true from fun _ _ => rfl]
theorem modes_walk (v0 : Value) (n0 : Nat) (w : World) (s0 : Nr w v0 n0) (hsw : StrW w) : Calls Tryz.prog 7 #[v0] w fun e w' => e = .returned (.bool true) ∧ Below w.heap.size w w' := by
  obtain ⟨L, hL⟩ := ni_of_nr s0
  have NI0 := Lh hL
  have HSW := Lh hsw
  clear s0 hsw hL
  go_enter Tryz.func7, Tryz.ntmps7
  go_wp2_with fail
  refine (made12_x v0 L 0 w NI0.out).mono ?_
  rintro e W1 ⟨⟨v, g, rfl, hgv, hok, hmd⟩, hb⟩
  have HM3 := Lh (hmd (by decide))
  have HO3 := Lh hok
  have HGV := Lh hgv
  have B := Lh hb
  clear hb hok hmd hgv
  go_wp2_with fail
  refine (given12_any v g W1 HGV.out).mono ?_
  rintro e W1b ⟨rfl, hb⟩
  obtain ⟨s0, s1, s2, s3, s4, s5, s6, s7, hv, hm, hj⟩ := HGV.out
  subst hv
  replace B := Lh (B.out.trans (hb.mono B.out.size))
  have MS := Lh (ms_below hm hb)
  have HJ := Lh hj
  have ON := Lh (gc_one hm)
  have hz := heap_alloc_new W1b (.cells #[.int .i64 0, .int .i64 0, .int .i64 0, .int .i64 0, .slice none 0 0, .slice none 0 0, .slice none 0 0, .slice none 0 0, .slice none 0 0, .slice none 0 0, .slice none 0 0, .slice none 0 0, .int .i64 0, .int .i64 0] 50)
  clear hb hm hj HGV
  go_upto_region 2 with ((with_reducible refine storeG W1b.heap.size _ #[.int .i64 g.num, .int .i64 g.rev, .int .i64 g.mode, .int .i64 g.size, s0, s1, s2, s3, s4, s5, s6, s7, .int .i64 g.m.live, .int .i64 g.m.garb] ?_ ?_ hz rfl rfl ON.out ?_); exact rfl; exact rfl)
  rw [World.setRow_alloc_new]
  have hb := bel_al W1b (.cells #[.int .i64 g.num, .int .i64 g.rev, .int .i64 g.mode, .int .i64 g.size, s0, s1, s2, s3, s4, s5, s6, s7, .int .i64 g.m.live, .int .i64 g.m.garb] 50)
  have HB3 := Lh (show BxG (W1b.alloc (.cells #[.int .i64 g.num, .int .i64 g.rev, .int .i64 g.mode, .int .i64 g.size, s0, s1, s2, s3, s4, s5, s6, s7, .int .i64 g.m.live, .int .i64 g.m.garb] 50)) W1b.heap.size 50 g from ⟨s0, s1, s2, s3, s4, s5, s6, s7, heap_alloc_new _ _, ms_below MS.out hb, HJ.out⟩)
  replace B := Lh (B.out.trans (hb.mono B.out.size))
  clear hb hz MS ON HJ NI0
  generalize W1b.alloc (.cells #[.int .i64 g.num, .int .i64 g.rev, .int .i64 g.mode, .int .i64 g.size, s0, s1, s2, s3, s4, s5, s6, s7, .int .i64 g.m.live, .int .i64 g.m.garb] 50) = W1c at *
  generalize W1b.heap.size = p3 at *
  have HL3 := Lh HO3.out.lge
  obtain ⟨s0, s1, s2, s3, s4, s5, s6, s7, hx, hm, hj⟩ := HB3.out
  have HXX := Lh hx
  obtain ⟨x0, x1, x2, x3, x4, x5, x6, x7, x8, x9, x10, x11, x12, x13⟩ := bx14 HXX.out
  go_wp2_with fail
  clear x0 x1 x2 x3 x4 x5 x6 x7 x8 x9 x10 x11 x12 x13
  refine (pseal_any (.agg #[.int .i64 g.num, .int .i64 g.rev, .int .i64 g.mode, .int .i64 g.size, s0, s1, s2, s3, s4, s5, s6, s7, .int .i64 g.m.live, .int .i64 g.m.garb]) g _ ⟨s0, s1, s2, s3, s4, s5, s6, s7, rfl, hm, hj⟩ HL3.out.1 (Nat.le_trans HL3.out.2 (by decide))).mono ?_
  rintro e V1 ⟨⟨vx, rfl, hgx⟩, hb⟩
  rw [show modC g 2 = 12 from by unfold modC; rw [if_pos (okGb_t HO3.out.ok), if_neg (by rw [HM3.out]; decide)]]
  rw [show modG g 2 3 = g0 from by unfold modG; rw [if_neg (fun h => absurd (HM3.out.symm.trans h.2) (by decide))]] at hgx
  obtain ⟨t0, t1, t2, t3, t4, t5, t6, t7, hvx, hmt, hjt⟩ := hgx
  subst hvx
  replace HB3 := Lh (bxG_below HB3.out hb)
  replace B := Lh (B.out.trans (hb.mono B.out.size))
  have ONT := Lh (gc_one (g := g0) hmt)
  have MT := Lh hmt
  have JT := Lh hjt
  have hz := heap_alloc_new V1 (.cells #[.int .i64 0, .int .i64 0, .int .i64 0, .int .i64 0, .slice none 0 0, .slice none 0 0, .slice none 0 0, .slice none 0 0, .slice none 0 0, .slice none 0 0, .slice none 0 0, .slice none 0 0, .int .i64 0, .int .i64 0] 50)
  clear hb hmt hjt hx hm hj HXX
  go_upto_region 3 with ((with_reducible refine storeG V1.heap.size _ #[.int .i64 g0.num, .int .i64 g0.rev, .int .i64 g0.mode, .int .i64 g0.size, t0, t1, t2, t3, t4, t5, t6, t7, .int .i64 g0.m.live, .int .i64 g0.m.garb] ?_ ?_ hz rfl rfl ONT.out ?_); exact rfl; exact rfl)
  rw [World.setRow_alloc_new]
  have hb := bel_al V1 (.cells #[.int .i64 g0.num, .int .i64 g0.rev, .int .i64 g0.mode, .int .i64 g0.size, t0, t1, t2, t3, t4, t5, t6, t7, .int .i64 g0.m.live, .int .i64 g0.m.garb] 50)
  have HBN := Lh (show BxG (V1.alloc (.cells #[.int .i64 g0.num, .int .i64 g0.rev, .int .i64 g0.mode, .int .i64 g0.size, t0, t1, t2, t3, t4, t5, t6, t7, .int .i64 g0.m.live, .int .i64 g0.m.garb] 50)) V1.heap.size 50 g0 from ⟨t0, t1, t2, t3, t4, t5, t6, t7, heap_alloc_new _ _, ms_below MT.out hb, JT.out⟩)
  replace HB3 := Lh (bxG_below HB3.out hb)
  replace B := Lh (B.out.trans (hb.mono B.out.size))
  clear hb hz MT JT ONT
  generalize V1.alloc (.cells #[.int .i64 g0.num, .int .i64 g0.rev, .int .i64 g0.mode, .int .i64 g0.size, t0, t1, t2, t3, t4, t5, t6, t7, .int .i64 g0.m.live, .int .i64 g0.m.garb] 50) = W2 at *
  generalize V1.heap.size = p4 at *
  clear HBN
  obtain ⟨f, hng⟩ : ∃ x : Ge, x = { g with mode := 2 } := ⟨_, rfl⟩
  have HDf := Lh hng
  have HO6 := Lh (show OkM f from by rw [hng]; exact HO3.out.mod (by decide) (by decide))
  have HM6 := Lh (show f.mode = 2 from by rw [hng])
  have HL6 := Lh HO6.out.lge
  have HS6 := Lh (show f.size = g.size ∧ f.m = g.m from by rw [hng]; exact ⟨rfl, rfl⟩)
  clear hng
  obtain ⟨s0, s1, s2, s3, s4, s5, s6, s7, hx, hm, hj⟩ := HB3.out
  have HXX := Lh hx
  obtain ⟨x0, x1, x2, x3, x4, x5, x6, x7, x8, x9, x10, x11, x12, x13⟩ := bx14 HXX.out
  go_wp2_with fail
  clear x0 x1 x2 x3 x4 x5 x6 x7 x8 x9 x10 x11 x12 x13
  refine (pfreeze_any (.agg #[.int .i64 g.num, .int .i64 g.rev, .int .i64 g.mode, .int .i64 g.size, s0, s1, s2, s3, s4, s5, s6, s7, .int .i64 g.m.live, .int .i64 g.m.garb]) g _ ⟨s0, s1, s2, s3, s4, s5, s6, s7, rfl, hm, hj⟩ HL3.out.1 (Nat.le_trans HL3.out.2 (by decide))).mono ?_
  rintro e V1 ⟨⟨vx, rfl, hgx⟩, hb⟩
  rw [show modC g 1 = 0 from by unfold modC; rw [if_pos (okGb_t HO3.out.ok), if_pos HM3.out]]
  rw [show modG g 1 2 = f from by unfold modG; rw [if_pos ⟨okGb_t HO3.out.ok, HM3.out⟩, HDf.out]] at hgx
  obtain ⟨t0, t1, t2, t3, t4, t5, t6, t7, hvx, hmt, hjt⟩ := hgx
  subst hvx
  replace HB3 := Lh (bxG_below HB3.out hb)
  replace B := Lh (B.out.trans (hb.mono B.out.size))
  have ONT := Lh (gc_one (g := f) hmt)
  have MT := Lh hmt
  have JT := Lh hjt
  have hz := heap_alloc_new V1 (.cells #[.int .i64 0, .int .i64 0, .int .i64 0, .int .i64 0, .slice none 0 0, .slice none 0 0, .slice none 0 0, .slice none 0 0, .slice none 0 0, .slice none 0 0, .slice none 0 0, .slice none 0 0, .int .i64 0, .int .i64 0] 50)
  clear hb hmt hjt hx hm hj HXX
  go_upto_region 4 with ((with_reducible refine storeG V1.heap.size _ #[.int .i64 f.num, .int .i64 f.rev, .int .i64 f.mode, .int .i64 f.size, t0, t1, t2, t3, t4, t5, t6, t7, .int .i64 f.m.live, .int .i64 f.m.garb] ?_ ?_ hz rfl rfl ONT.out ?_); exact rfl; exact rfl)
  rw [World.setRow_alloc_new]
  have hb := bel_al V1 (.cells #[.int .i64 f.num, .int .i64 f.rev, .int .i64 f.mode, .int .i64 f.size, t0, t1, t2, t3, t4, t5, t6, t7, .int .i64 f.m.live, .int .i64 f.m.garb] 50)
  have HBN := Lh (show BxG (V1.alloc (.cells #[.int .i64 f.num, .int .i64 f.rev, .int .i64 f.mode, .int .i64 f.size, t0, t1, t2, t3, t4, t5, t6, t7, .int .i64 f.m.live, .int .i64 f.m.garb] 50)) V1.heap.size 50 f from ⟨t0, t1, t2, t3, t4, t5, t6, t7, heap_alloc_new _ _, ms_below MT.out hb, JT.out⟩)
  replace HB3 := Lh (bxG_below HB3.out hb)
  replace B := Lh (B.out.trans (hb.mono B.out.size))
  clear hb hz MT JT ONT
  generalize V1.alloc (.cells #[.int .i64 f.num, .int .i64 f.rev, .int .i64 f.mode, .int .i64 f.size, t0, t1, t2, t3, t4, t5, t6, t7, .int .i64 f.m.live, .int .i64 f.m.garb] 50) = W3 at *
  generalize V1.heap.size = p6 at *
  have HB6 := HBN
  clear HBN
  obtain ⟨s0, s1, s2, s3, s4, s5, s6, s7, hx, hm, hj⟩ := HB6.out
  have HXX := Lh hx
  obtain ⟨x0, x1, x2, x3, x4, x5, x6, x7, x8, x9, x10, x11, x12, x13⟩ := bx14 HXX.out
  go_wp2_with fail
  clear x0 x1 x2 x3 x4 x5 x6 x7 x8 x9 x10 x11 x12 x13
  refine (pfreeze_any (.agg #[.int .i64 f.num, .int .i64 f.rev, .int .i64 f.mode, .int .i64 f.size, s0, s1, s2, s3, s4, s5, s6, s7, .int .i64 f.m.live, .int .i64 f.m.garb]) f _ ⟨s0, s1, s2, s3, s4, s5, s6, s7, rfl, hm, hj⟩ HL6.out.1 (Nat.le_trans HL6.out.2 (by decide))).mono ?_
  rintro e V1 ⟨⟨vx, rfl, hgx⟩, hb⟩
  rw [show modC f 1 = 12 from by unfold modC; rw [if_pos (okGb_t HO6.out.ok), if_neg (by rw [HM6.out]; decide)]]
  rw [show modG f 1 2 = g0 from by unfold modG; rw [if_neg (fun h => absurd (HM6.out.symm.trans h.2) (by decide))]] at hgx
  obtain ⟨t0, t1, t2, t3, t4, t5, t6, t7, hvx, hmt, hjt⟩ := hgx
  subst hvx
  replace HB3 := Lh (bxG_below HB3.out hb)
  replace HB6 := Lh (bxG_below HB6.out hb)
  replace B := Lh (B.out.trans (hb.mono B.out.size))
  have ONT := Lh (gc_one (g := g0) hmt)
  have MT := Lh hmt
  have JT := Lh hjt
  have hz := heap_alloc_new V1 (.cells #[.int .i64 0, .int .i64 0, .int .i64 0, .int .i64 0, .slice none 0 0, .slice none 0 0, .slice none 0 0, .slice none 0 0, .slice none 0 0, .slice none 0 0, .slice none 0 0, .slice none 0 0, .int .i64 0, .int .i64 0] 50)
  clear hb hmt hjt hx hm hj HXX
  go_upto_region 5 with ((with_reducible refine storeG V1.heap.size _ #[.int .i64 g0.num, .int .i64 g0.rev, .int .i64 g0.mode, .int .i64 g0.size, t0, t1, t2, t3, t4, t5, t6, t7, .int .i64 g0.m.live, .int .i64 g0.m.garb] ?_ ?_ hz rfl rfl ONT.out ?_); exact rfl; exact rfl)
  rw [World.setRow_alloc_new]
  have hb := bel_al V1 (.cells #[.int .i64 g0.num, .int .i64 g0.rev, .int .i64 g0.mode, .int .i64 g0.size, t0, t1, t2, t3, t4, t5, t6, t7, .int .i64 g0.m.live, .int .i64 g0.m.garb] 50)
  have HBN := Lh (show BxG (V1.alloc (.cells #[.int .i64 g0.num, .int .i64 g0.rev, .int .i64 g0.mode, .int .i64 g0.size, t0, t1, t2, t3, t4, t5, t6, t7, .int .i64 g0.m.live, .int .i64 g0.m.garb] 50)) V1.heap.size 50 g0 from ⟨t0, t1, t2, t3, t4, t5, t6, t7, heap_alloc_new _ _, ms_below MT.out hb, JT.out⟩)
  replace HB3 := Lh (bxG_below HB3.out hb)
  replace HB6 := Lh (bxG_below HB6.out hb)
  replace B := Lh (B.out.trans (hb.mono B.out.size))
  clear hb hz MT JT ONT
  generalize V1.alloc (.cells #[.int .i64 g0.num, .int .i64 g0.rev, .int .i64 g0.mode, .int .i64 g0.size, t0, t1, t2, t3, t4, t5, t6, t7, .int .i64 g0.m.live, .int .i64 g0.m.garb] 50) = W4 at *
  generalize V1.heap.size = p8 at *
  clear HBN
  obtain ⟨s0, s1, s2, s3, s4, s5, s6, s7, hx, hm, hj⟩ := HB6.out
  have HXX := Lh hx
  obtain ⟨x0, x1, x2, x3, x4, x5, x6, x7, x8, x9, x10, x11, x12, x13⟩ := bx14 HXX.out
  go_wp2_with fail
  clear x0 x1 x2 x3 x4 x5 x6 x7 x8 x9 x10 x11 x12 x13
  refine (pgadd_x s0 s1 s2 s3 s4 s5 s6 s7 f (.slice none 0 0) [] _ hm hj HL6.out ⟨none, 0, rfl, fun h => absurd h (Nat.lt_irrefl 0)⟩ (by decide)).mono ?_
  rintro e V1 ⟨⟨vx, rfl, hgx⟩, hb⟩
  rw [show addC f [] = 12 from by unfold addC; rw [if_pos ⟨HO6.out.ok, fun x hx => by cases hx⟩, if_neg (by rw [HM6.out]; decide)]]
  rw [show addT f [] = g0 from addT_bad (by unfold addC; rw [if_pos ⟨HO6.out.ok, fun x hx => by cases hx⟩, if_neg (by rw [HM6.out]; decide)]; decide)] at hgx
  obtain ⟨t0, t1, t2, t3, t4, t5, t6, t7, hvx, hmt, hjt⟩ := hgx
  subst hvx
  replace HB3 := Lh (bxG_below HB3.out hb)
  replace HB6 := Lh (bxG_below HB6.out hb)
  replace B := Lh (B.out.trans (hb.mono B.out.size))
  have ONT := Lh (gc_one (g := g0) hmt)
  have MT := Lh hmt
  have JT := Lh hjt
  have hz := heap_alloc_new V1 (.cells #[.int .i64 0, .int .i64 0, .int .i64 0, .int .i64 0, .slice none 0 0, .slice none 0 0, .slice none 0 0, .slice none 0 0, .slice none 0 0, .slice none 0 0, .slice none 0 0, .slice none 0 0, .int .i64 0, .int .i64 0] 50)
  clear hb hmt hjt hx hm hj HXX
  go_upto_region 6 with ((with_reducible refine storeG V1.heap.size _ #[.int .i64 g0.num, .int .i64 g0.rev, .int .i64 g0.mode, .int .i64 g0.size, t0, t1, t2, t3, t4, t5, t6, t7, .int .i64 g0.m.live, .int .i64 g0.m.garb] ?_ ?_ hz rfl rfl ONT.out ?_); exact rfl; exact rfl)
  rw [World.setRow_alloc_new]
  have hb := bel_al V1 (.cells #[.int .i64 g0.num, .int .i64 g0.rev, .int .i64 g0.mode, .int .i64 g0.size, t0, t1, t2, t3, t4, t5, t6, t7, .int .i64 g0.m.live, .int .i64 g0.m.garb] 50)
  have HBN := Lh (show BxG (V1.alloc (.cells #[.int .i64 g0.num, .int .i64 g0.rev, .int .i64 g0.mode, .int .i64 g0.size, t0, t1, t2, t3, t4, t5, t6, t7, .int .i64 g0.m.live, .int .i64 g0.m.garb] 50)) V1.heap.size 50 g0 from ⟨t0, t1, t2, t3, t4, t5, t6, t7, heap_alloc_new _ _, ms_below MT.out hb, JT.out⟩)
  replace HB3 := Lh (bxG_below HB3.out hb)
  replace HB6 := Lh (bxG_below HB6.out hb)
  replace B := Lh (B.out.trans (hb.mono B.out.size))
  clear hb hz MT JT ONT
  generalize V1.alloc (.cells #[.int .i64 g0.num, .int .i64 g0.rev, .int .i64 g0.mode, .int .i64 g0.size, t0, t1, t2, t3, t4, t5, t6, t7, .int .i64 g0.m.live, .int .i64 g0.m.garb] 50) = W5 at *
  generalize V1.heap.size = p10 at *
  clear HBN
  obtain ⟨s, hng⟩ : ∃ x : Ge, x = { f with mode := 3 } := ⟨_, rfl⟩
  have HDs := Lh hng
  have HO12 := Lh (show OkM s from by rw [hng]; exact HO6.out.mod (by decide) (by decide))
  have HM12 := Lh (show s.mode = 3 from by rw [hng])
  have HL12 := Lh HO12.out.lge
  have HS12 := Lh (show s.size = f.size ∧ s.m = f.m from by rw [hng]; exact ⟨rfl, rfl⟩)
  clear hng
  obtain ⟨s0, s1, s2, s3, s4, s5, s6, s7, hx, hm, hj⟩ := HB6.out
  have HXX := Lh hx
  obtain ⟨x0, x1, x2, x3, x4, x5, x6, x7, x8, x9, x10, x11, x12, x13⟩ := bx14 HXX.out
  go_wp2_with fail
  clear x0 x1 x2 x3 x4 x5 x6 x7 x8 x9 x10 x11 x12 x13
  refine (pseal_any (.agg #[.int .i64 f.num, .int .i64 f.rev, .int .i64 f.mode, .int .i64 f.size, s0, s1, s2, s3, s4, s5, s6, s7, .int .i64 f.m.live, .int .i64 f.m.garb]) f _ ⟨s0, s1, s2, s3, s4, s5, s6, s7, rfl, hm, hj⟩ HL6.out.1 (Nat.le_trans HL6.out.2 (by decide))).mono ?_
  rintro e V1 ⟨⟨vx, rfl, hgx⟩, hb⟩
  rw [show modC f 2 = 0 from by unfold modC; rw [if_pos (okGb_t HO6.out.ok), if_pos HM6.out]]
  rw [show modG f 2 3 = s from by unfold modG; rw [if_pos ⟨okGb_t HO6.out.ok, HM6.out⟩, HDs.out]] at hgx
  obtain ⟨t0, t1, t2, t3, t4, t5, t6, t7, hvx, hmt, hjt⟩ := hgx
  subst hvx
  replace HB3 := Lh (bxG_below HB3.out hb)
  replace HB6 := Lh (bxG_below HB6.out hb)
  replace B := Lh (B.out.trans (hb.mono B.out.size))
  have ONT := Lh (gc_one (g := s) hmt)
  have MT := Lh hmt
  have JT := Lh hjt
  have hz := heap_alloc_new V1 (.cells #[.int .i64 0, .int .i64 0, .int .i64 0, .int .i64 0, .slice none 0 0, .slice none 0 0, .slice none 0 0, .slice none 0 0, .slice none 0 0, .slice none 0 0, .slice none 0 0, .slice none 0 0, .int .i64 0, .int .i64 0] 50)
  clear hb hmt hjt hx hm hj HXX
  go_upto_region 7 with ((with_reducible refine storeG V1.heap.size _ #[.int .i64 s.num, .int .i64 s.rev, .int .i64 s.mode, .int .i64 s.size, t0, t1, t2, t3, t4, t5, t6, t7, .int .i64 s.m.live, .int .i64 s.m.garb] ?_ ?_ hz rfl rfl ONT.out ?_); exact rfl; exact rfl)
  rw [World.setRow_alloc_new]
  have hb := bel_al V1 (.cells #[.int .i64 s.num, .int .i64 s.rev, .int .i64 s.mode, .int .i64 s.size, t0, t1, t2, t3, t4, t5, t6, t7, .int .i64 s.m.live, .int .i64 s.m.garb] 50)
  have HBN := Lh (show BxG (V1.alloc (.cells #[.int .i64 s.num, .int .i64 s.rev, .int .i64 s.mode, .int .i64 s.size, t0, t1, t2, t3, t4, t5, t6, t7, .int .i64 s.m.live, .int .i64 s.m.garb] 50)) V1.heap.size 50 s from ⟨t0, t1, t2, t3, t4, t5, t6, t7, heap_alloc_new _ _, ms_below MT.out hb, JT.out⟩)
  replace HB3 := Lh (bxG_below HB3.out hb)
  replace HB6 := Lh (bxG_below HB6.out hb)
  replace B := Lh (B.out.trans (hb.mono B.out.size))
  clear hb hz MT JT ONT
  generalize V1.alloc (.cells #[.int .i64 s.num, .int .i64 s.rev, .int .i64 s.mode, .int .i64 s.size, t0, t1, t2, t3, t4, t5, t6, t7, .int .i64 s.m.live, .int .i64 s.m.garb] 50) = W6 at *
  generalize V1.heap.size = p12 at *
  have HB12 := HBN
  clear HBN
  obtain ⟨s0, s1, s2, s3, s4, s5, s6, s7, hx, hm, hj⟩ := HB12.out
  have HXX := Lh hx
  obtain ⟨x0, x1, x2, x3, x4, x5, x6, x7, x8, x9, x10, x11, x12, x13⟩ := bx14 HXX.out
  go_wp2_with fail
  clear x0 x1 x2 x3 x4 x5 x6 x7 x8 x9 x10 x11 x12 x13
  refine (pseal_any (.agg #[.int .i64 s.num, .int .i64 s.rev, .int .i64 s.mode, .int .i64 s.size, s0, s1, s2, s3, s4, s5, s6, s7, .int .i64 s.m.live, .int .i64 s.m.garb]) s _ ⟨s0, s1, s2, s3, s4, s5, s6, s7, rfl, hm, hj⟩ HL12.out.1 (Nat.le_trans HL12.out.2 (by decide))).mono ?_
  rintro e V1 ⟨⟨vx, rfl, hgx⟩, hb⟩
  rw [show modC s 2 = 12 from by unfold modC; rw [if_pos (okGb_t HO12.out.ok), if_neg (by rw [HM12.out]; decide)]]
  rw [show modG s 2 3 = g0 from by unfold modG; rw [if_neg (fun h => absurd (HM12.out.symm.trans h.2) (by decide))]] at hgx
  obtain ⟨t0, t1, t2, t3, t4, t5, t6, t7, hvx, hmt, hjt⟩ := hgx
  subst hvx
  replace HB3 := Lh (bxG_below HB3.out hb)
  replace HB6 := Lh (bxG_below HB6.out hb)
  replace HB12 := Lh (bxG_below HB12.out hb)
  replace B := Lh (B.out.trans (hb.mono B.out.size))
  have ONT := Lh (gc_one (g := g0) hmt)
  have MT := Lh hmt
  have JT := Lh hjt
  have hz := heap_alloc_new V1 (.cells #[.int .i64 0, .int .i64 0, .int .i64 0, .int .i64 0, .slice none 0 0, .slice none 0 0, .slice none 0 0, .slice none 0 0, .slice none 0 0, .slice none 0 0, .slice none 0 0, .slice none 0 0, .int .i64 0, .int .i64 0] 50)
  clear hb hmt hjt hx hm hj HXX
  go_upto_region 8 with ((with_reducible refine storeG V1.heap.size _ #[.int .i64 g0.num, .int .i64 g0.rev, .int .i64 g0.mode, .int .i64 g0.size, t0, t1, t2, t3, t4, t5, t6, t7, .int .i64 g0.m.live, .int .i64 g0.m.garb] ?_ ?_ hz rfl rfl ONT.out ?_); exact rfl; exact rfl)
  rw [World.setRow_alloc_new]
  have hb := bel_al V1 (.cells #[.int .i64 g0.num, .int .i64 g0.rev, .int .i64 g0.mode, .int .i64 g0.size, t0, t1, t2, t3, t4, t5, t6, t7, .int .i64 g0.m.live, .int .i64 g0.m.garb] 50)
  have HBN := Lh (show BxG (V1.alloc (.cells #[.int .i64 g0.num, .int .i64 g0.rev, .int .i64 g0.mode, .int .i64 g0.size, t0, t1, t2, t3, t4, t5, t6, t7, .int .i64 g0.m.live, .int .i64 g0.m.garb] 50)) V1.heap.size 50 g0 from ⟨t0, t1, t2, t3, t4, t5, t6, t7, heap_alloc_new _ _, ms_below MT.out hb, JT.out⟩)
  replace HB3 := Lh (bxG_below HB3.out hb)
  replace HB6 := Lh (bxG_below HB6.out hb)
  replace HB12 := Lh (bxG_below HB12.out hb)
  replace B := Lh (B.out.trans (hb.mono B.out.size))
  clear hb hz MT JT ONT
  generalize V1.alloc (.cells #[.int .i64 g0.num, .int .i64 g0.rev, .int .i64 g0.mode, .int .i64 g0.size, t0, t1, t2, t3, t4, t5, t6, t7, .int .i64 g0.m.live, .int .i64 g0.m.garb] 50) = W7 at *
  generalize V1.heap.size = p14 at *
  clear HBN
  obtain ⟨k, hkk⟩ : ∃ x : Ge, x = { s with m := delK s.m [1] } := ⟨_, rfl⟩
  have HDk := Lh hkk
  have HKM := Lh (show k.m = delM s.m 1 from by rw [hkk]; rfl)
  clear hkk
  obtain ⟨s0, s1, s2, s3, s4, s5, s6, s7, hx, hm, hj⟩ := HB12.out
  have HXX := Lh hx
  obtain ⟨x0, x1, x2, x3, x4, x5, x6, x7, x8, x9, x10, x11, x12, x13⟩ := bx14 HXX.out
  go_wp2_with fail
  clear x0 x1 x2 x3 x4 x5 x6 x7 x8 x9 x10 x11 x12 x13
  have hb := bel_al W7 (.cells #[.int .u64 1] 53)
  have HKX := Lh (show Kx (W7.alloc (.cells #[.int .u64 1] 53)) (.slice (some ⟨W7.heap.size, 0, none⟩) 1 1) [1] from ⟨some ⟨W7.heap.size, 0, none⟩, 1, rfl, fun _ => ⟨W7.heap.size, 0, rfl, fun i hi => by
    obtain rfl : i = 0 := by simp at hi; omega
    exact ⟨by decide, cell_of_row _ W7.heap.size 0 _ _ _ (heap_alloc_new W7 _)⟩⟩⟩)
  replace hm := ms_below hm hb
  replace HB3 := Lh (bxG_below HB3.out hb)
  replace HB6 := Lh (bxG_below HB6.out hb)
  replace HB12 := Lh (bxG_below HB12.out hb)
  replace B := Lh (B.out.trans (hb.mono B.out.size))
  clear hb
  generalize W7.alloc (.cells #[.int .u64 1] 53) = W7b at *
  generalize W7.heap.size = gk at *
  refine (pkill_x s0 s1 s2 s3 s4 s5 s6 s7 s (.slice (some ⟨gk, 0, none⟩) 1 1) [1] _ hm hj HL12.out HKX.out (by decide)).mono ?_
  rintro e V1 ⟨⟨vx, rfl, hgx⟩, hb⟩
  rw [show killC s = 0 from by unfold killC; rw [okGb_t HO12.out.ok, if_pos rfl, if_neg (by rw [HM12.out]; decide)]]
  rw [show killT s [1] = k from by unfold killT; rw [if_pos (show killC s = 0 from by unfold killC; rw [okGb_t HO12.out.ok, if_pos rfl, if_neg (by rw [HM12.out]; decide)]), HDk.out]] at hgx
  obtain ⟨t0, t1, t2, t3, t4, t5, t6, t7, hvx, hmt, hjt⟩ := hgx
  subst hvx
  replace HB3 := Lh (bxG_below HB3.out hb)
  replace HB6 := Lh (bxG_below HB6.out hb)
  replace HB12 := Lh (bxG_below HB12.out hb)
  replace B := Lh (B.out.trans (hb.mono B.out.size))
  have ONT := Lh (gc_one (g := k) hmt)
  have MT := Lh hmt
  have JT := Lh hjt
  have hz := heap_alloc_new V1 (.cells #[.int .i64 0, .int .i64 0, .int .i64 0, .int .i64 0, .slice none 0 0, .slice none 0 0, .slice none 0 0, .slice none 0 0, .slice none 0 0, .slice none 0 0, .slice none 0 0, .slice none 0 0, .int .i64 0, .int .i64 0] 50)
  clear hb hmt hjt hx hm hj HXX HKX
  go_upto_region 9 with ((with_reducible refine storeG V1.heap.size _ #[.int .i64 k.num, .int .i64 k.rev, .int .i64 k.mode, .int .i64 k.size, t0, t1, t2, t3, t4, t5, t6, t7, .int .i64 k.m.live, .int .i64 k.m.garb] ?_ ?_ hz rfl rfl ONT.out ?_); exact rfl; exact rfl)
  rw [World.setRow_alloc_new]
  have hb := bel_al V1 (.cells #[.int .i64 k.num, .int .i64 k.rev, .int .i64 k.mode, .int .i64 k.size, t0, t1, t2, t3, t4, t5, t6, t7, .int .i64 k.m.live, .int .i64 k.m.garb] 50)
  have HBN := Lh (show BxG (V1.alloc (.cells #[.int .i64 k.num, .int .i64 k.rev, .int .i64 k.mode, .int .i64 k.size, t0, t1, t2, t3, t4, t5, t6, t7, .int .i64 k.m.live, .int .i64 k.m.garb] 50)) V1.heap.size 50 k from ⟨t0, t1, t2, t3, t4, t5, t6, t7, heap_alloc_new _ _, ms_below MT.out hb, JT.out⟩)
  replace HB3 := Lh (bxG_below HB3.out hb)
  replace HB6 := Lh (bxG_below HB6.out hb)
  replace HB12 := Lh (bxG_below HB12.out hb)
  replace B := Lh (B.out.trans (hb.mono B.out.size))
  clear hb hz MT JT ONT
  generalize V1.alloc (.cells #[.int .i64 k.num, .int .i64 k.rev, .int .i64 k.mode, .int .i64 k.size, t0, t1, t2, t3, t4, t5, t6, t7, .int .i64 k.m.live, .int .i64 k.m.garb] 50) = W8 at *
  generalize V1.heap.size = p16 at *
  have HB16 := HBN
  clear HBN
  obtain ⟨s0, s1, s2, s3, s4, s5, s6, s7, hx, hm, hj⟩ := HB16.out
  have HXX := Lh hx
  obtain ⟨x0, x1, x2, x3, x4, x5, x6, x7, x8, x9, x10, x11, x12, x13⟩ := bx14 HXX.out
  go_wp2_with fail
  clear x0 x1 x2 x3 x4 x5 x6 x7 x8 x9 x10 x11 x12 x13
  have HGD := Lh (gdS_del (okGe_gd HO12.out.ok HO12.out.st (Nat.le_trans HO12.out.fl (by decide))) 1)
  have HFK := Lh (show Few k.m from by rw [HKM.out]; exact few_of HGD.out.1.gd.len (Nat.le_trans HGD.out.1.gd.flat (by decide)))
  have HHS := Lh (show hasL (gL k.m 1) 1 = false from by
    rw [HKM.out]
    unfold hasL gL
    rw [if_pos HGD.out.1.gd.ok]
    have h := HGD.out.2 1
    unfold gO at h
    rw [h, if_pos rfl]
    rfl)
  refine (pget_any (.agg #[s0, s1, s2, s3, s4, s5, s6, s7, .int .i64 k.m.live, .int .i64 k.m.garb]) k.m 1 _ ⟨s0, s1, s2, s3, s4, s5, s6, s7, rfl, hm⟩ HFK.out).mono ?_
  rintro e V1 ⟨rfl, hb⟩
  rw [HHS.out]
  replace HB3 := Lh (bxG_below HB3.out hb)
  replace HB6 := Lh (bxG_below HB6.out hb)
  replace HB12 := Lh (bxG_below HB12.out hb)
  replace B := Lh (B.out.trans (hb.mono B.out.size))
  have hz := heap_alloc_new V1 (.cells #[.int .u64 0, .int .u32 0, .int .i64 0, .int .i64 0] 56)
  obtain ⟨zi, hzi⟩ : ∃ z, z = fnL (gL k.m 1) 1 := ⟨_, rfl⟩
  rw [← hzi]
  clear hb hx hm hj HXX hzi HB16
  go_upto_region 10 with ((with_reducible refine storeT V1.heap.size _ #[.int .u64 (zi.key : Int), .int .u32 (zi.ck : Int), .int .i64 zi.off, .int .i64 zi.sz] ?_ ?_ hz rfl rfl (t4_one _ _ _ _) ?_); exact rfl; exact rfl)
  rw [World.setRow_alloc_new]
  have hb := bel_al V1 (.cells #[.int .u64 (zi.key : Int), .int .u32 (zi.ck : Int), .int .i64 zi.off, .int .i64 zi.sz] 56)
  replace HB3 := Lh (bxG_below HB3.out hb)
  replace HB6 := Lh (bxG_below HB6.out hb)
  replace HB12 := Lh (bxG_below HB12.out hb)
  replace B := Lh (B.out.trans (hb.mono B.out.size))
  clear hb hz
  generalize V1.alloc (.cells #[.int .u64 (zi.key : Int), .int .u32 (zi.ck : Int), .int .i64 zi.off, .int .i64 zi.sz] 56) = W9 at *
  generalize V1.heap.size = p18 at *
  obtain ⟨s0, s1, s2, s3, s4, s5, s6, s7, hx, hm, hj⟩ := HB3.out
  have HX3 := Lh hx
  have MS3 := Lh hm
  obtain ⟨t0, t1, t2, t3, t4, t5, t6, t7, hx2, hm2, hj2⟩ := HB12.out
  have HX12 := Lh hx2
  have MT12 := Lh hm2
  have HSZ := Lh (show s.size = g.size from HS12.out.1.trans HS6.out.1)
  have HMM := Lh (show s.m = g.m from HS12.out.2.trans HS6.out.2)
  have HLM := Lh (show Few g.m ∧ g.m.st.flatten.length ≤ 1000 from ⟨HL3.out.1, Nat.le_trans HL3.out.2 (by decide)⟩)
  have HSW9 := Lh (strW_below HSW.out B.out)
  have B9 := Lh B.out
  clear hx hm hj hx2 hm2 hj2 HB3 HB6 HB12 B
  refine wp_onlyN ?_
  refine wp_region_headsS (fun W' => Below W9.heap.size W9 W') [] 50 (by kernel_rfl) (fun _ _ _ _ _ h => h.elim) (by kernel_rfl) (by rfl) (by rfl) (Below.refl W9.heap.size W9).drew ?_
  simp only [pickOps, List.filterMap_nil, List.getElem?_toArray]
  refine wpHeads_nil ?_
  have SF0 := Lh (Below.refl W9.heap.size W9).drew
  generalize W9.drew = E0 at *
  refine gwq 0 fun K hK => ?_
  go_simp
  refine hK _ _ SF0.out ?_
  clear hK K
  refine gwq 1 fun K hK => ?_
  go_simp
  refine hK _ _ SF0.out ?_
  clear hK K
  refine gwq 2 fun K hK => ?_
  go_simp
  refine hK _ _ SF0.out ?_
  clear hK K
  refine gwq 3 fun K hK => ?_
  go_simp
  refine hK _ _ SF0.out ?_
  clear hK K
  refine gwq 4 fun K hK => ?_
  go_simp
  refine hK _ _ SF0.out ?_
  clear hK K
  refine gwq 5 fun K hK => ?_
  go_simp
  refine hK _ _ SF0.out ?_
  clear hK K
  refine gwq 6 fun K hK => ?_
  go_simp
  refine hK _ _ SF0.out ?_
  clear hK K
  refine gwq 7 fun K hK => ?_
  go_simp
  refine hK _ _ SF0.out ?_
  clear hK K
  refine gwq 8 fun K hK => ?_
  go_simp
  refine hK _ _ SF0.out ?_
  clear hK K
  refine gwq 9 fun K hK => ?_
  go_simp
  refine hK _ _ SF0.out ?_
  clear hK K
  refine gwq 10 fun K hK => ?_
  go_simp
  refine hK _ _ SF0.out ?_
  clear hK K
  refine gwq 11 fun K hK => ?_
  go_simp
  refine hK _ _ SF0.out ?_
  clear hK K
  refine gwq 12 fun K hK => ?_
  go_simp
  refine hK _ _ SF0.out ?_
  clear hK K
  refine gwq 13 fun K hK => ?_
  go_simp
  refine hK _ _ SF0.out ?_
  clear hK K
  refine gwq 14 fun K hK => ?_
  go_simp
  refine hK _ _ SF0.out ?_
  clear hK K
  refine gwq 15 fun K hK => ?_
  go_simp
  refine hK _ _ SF0.out ?_
  clear hK K
  refine gwq 16 fun K hK => ?_
  go_simp
  refine hK _ _ SF0.out ?_
  clear hK K
  refine gwq 17 fun K hK => ?_
  go_simp
  refine hK _ _ SF0.out ?_
  clear hK K
  refine gwq 18 fun K hK => ?_
  go_simp
  refine hK _ _ SF0.out ?_
  clear hK K
  refine gwq 19 fun K hK => ?_
  go_simp
  refine hK _ _ SF0.out ?_
  clear hK K
  refine gwq 20 fun K hK => ?_
  go_simp
  refine hK _ _ SF0.out ?_
  clear hK K
  refine gwq 21 fun K hK => ?_
  go_simp
  refine hK _ _ SF0.out ?_
  clear hK K
  refine gwq 22 fun K hK => ?_
  go_simp
  refine hK _ _ SF0.out ?_
  clear hK K
  refine gwq 23 fun K hK => ?_
  go_simp
  refine hK _ _ SF0.out ?_
  clear hK K
  refine gwq 24 fun K hK => ?_
  go_simp
  refine hK _ _ SF0.out ?_
  clear hK K
  refine gwq 25 fun K hK => ?_
  go_simp
  refine hK _ _ SF0.out ?_
  clear hK K
  refine gwq 26 fun K hK => ?_
  go_simp
  refine hK _ _ SF0.out ?_
  clear hK K
  refine gwq 27 fun K hK => ?_
  go_simp
  refine hK _ _ SF0.out ?_
  clear hK K
  refine gwq 28 fun K hK => ?_
  go_simp
  refine hK _ _ SF0.out ?_
  clear hK K
  refine gwq 29 fun K hK => ?_
  go_simp
  refine hK _ _ SF0.out ?_
  clear hK K
  refine gwq 30 fun K hK => ?_
  go_simp
  refine hK _ _ SF0.out ?_
  clear hK K
  refine tky 31 _ rfl (fun _ _ => rfl) SF0.out ?_
  refine tky 34 _ rfl (fun _ _ => rfl) SF0.out ?_
  refine tky 32 (.agg #[t0, t1, t2, t3, t4, t5, t6, t7, .int .i64 s.m.live, .int .i64 s.m.garb]) rfl (fun w' hw' => by
    obtain ⟨x0, x1, x2, x3, x4, x5, x6, x7, x8, x9, x10, x11, x12, x13⟩ := bx14 ((hw'.block _ (lt_of_some HX12.out)).trans HX12.out)
    go_simp) SF0.out ?_
  refine tky 35 (.agg #[s0, s1, s2, s3, s4, s5, s6, s7, .int .i64 g.m.live, .int .i64 g.m.garb]) rfl (fun w' hw' => by
    obtain ⟨x0, x1, x2, x3, x4, x5, x6, x7, x8, x9, x10, x11, x12, x13⟩ := bx14 ((hw'.block _ (lt_of_some HX3.out)).trans HX3.out)
    go_simp) SF0.out ?_
  refine gwq 33 fun K hK => ?_
  go_simp
  go_at_call 39
  refine (pitems11_any (.agg #[t0, t1, t2, t3, t4, t5, t6, t7, .int .i64 s.m.live, .int .i64 s.m.garb]) s.m E0 ⟨t0, t1, t2, t3, t4, t5, t6, t7, rfl, ms_below MT12.out SF0.out⟩ (by rw [HMM.out]; exact HLM.out.1) (by rw [HMM.out]; exact HLM.out.2)).mono ?_
  rintro e E1 ⟨⟨va, rfl, hit⟩, hb⟩
  have SF1 := Lh (SF0.out.trans (hb.mono SF0.out.size))
  have Hva := Lh hit
  have BBva := Lh hb
  refine hK _ _ SF1.out ?_
  clear hK K hb hit
  refine gwq 36 fun K hK => ?_
  go_simp
  go_at_call 39
  refine (pitems11_any (.agg #[s0, s1, s2, s3, s4, s5, s6, s7, .int .i64 g.m.live, .int .i64 g.m.garb]) g.m E1 ⟨s0, s1, s2, s3, s4, s5, s6, s7, rfl, ms_below MS3.out SF1.out⟩ HLM.out.1 HLM.out.2).mono ?_
  rintro e E2 ⟨⟨vb, rfl, hit⟩, hb⟩
  have SF2 := Lh (SF1.out.trans (hb.mono SF1.out.size))
  have Hvb := Lh hit
  have BBvb := Lh hb
  refine hK _ _ SF2.out ?_
  clear hK K hb hit
  refine gwq 37 fun K hK => ?_
  go_simp
  go_at_call 38
  refine (rsame8_any va vb (itemsL s.m) (itemsL g.m) E2 (it_below Hva.out BBvb.out) Hvb.out).mono ?_
  rintro e E3 ⟨rfl, hb⟩
  rw [show decide (itemsL s.m = itemsL g.m) = true from decide_eq_true (by rw [HMM.out])]
  have SF3 := Lh (SF2.out.trans (hb.mono SF2.out.size))
  refine hK _ _ SF3.out ?_
  clear hK K hb
  refine gwq 38 fun K hK => ?_
  go_simp
  refine hK _ _ SF3.out ?_
  clear hK K
  refine gwq 39 fun K hK => ?_
  go_simp
  refine hK _ _ SF3.out ?_
  clear hK K
  refine tky 40 _ rfl (fun _ _ => rfl) SF3.out ?_
  refine tky 42 _ rfl (fun _ _ => rfl) SF3.out ?_
  refine tky 41 (.int .i64 s.size) rfl (fun w' hw' => by
    obtain ⟨x0, x1, x2, x3, x4, x5, x6, x7, x8, x9, x10, x11, x12, x13⟩ := bx14 ((hw'.block _ (lt_of_some HX12.out)).trans HX12.out)
    go_simp) SF3.out ?_
  refine tky 43 (.int .i64 g.size) rfl (fun w' hw' => by
    obtain ⟨x0, x1, x2, x3, x4, x5, x6, x7, x8, x9, x10, x11, x12, x13⟩ := bx14 ((hw'.block _ (lt_of_some HX3.out)).trans HX3.out)
    go_simp) SF3.out ?_
  refine gwq 44 fun K hK => ?_
  have d1 : decide (s.size = g.size) = true := decide_eq_true HSZ.out
  have d2 : (s.size == g.size) = true := beq_iff_eq.2 HSZ.out
  go_simp
  refine hK _ _ SF3.out ?_
  clear hK K d1 d2
  refine gwq 45 fun K hK => ?_
  go_simp
  refine hK _ _ SF3.out ?_
  clear hK K
  refine gwq 46 fun K hK => ?_
  go_simp
  refine hK _ _ SF3.out ?_
  clear hK K
  refine gwq 47 fun K hK => ?_
  go_simp
  go_at_call 8
  refine (awake12_any E3 (strW_below HSW9.out SF3.out)).mono ?_
  rintro e E4 ⟨rfl, hb⟩
  have SF4 := Lh (SF3.out.trans (hb.mono SF3.out.size))
  refine hK _ _ SF4.out ?_
  clear hK K hb
  refine gwq 48 fun K hK => ?_
  go_simp
  refine hK _ _ SF4.out ?_
  clear hK K
  refine gwq 49 fun K hK => ?_
  go_simp
  refine hK _ _ SF4.out ?_
  clear hK K
  refine wpAnyH_done (by kernel_rfl) ?_ _
  unfold onlyN
  dsimp only
  have BF := Lh (B9.out.trans (SF4.out.mono B9.out.size))
  go_wp2_with fail
  go_ret
  exact ⟨rfl, BF.out⟩
end Go.Proofs.YtbmlpafbdbhaiaaGreatDoor.Gf
