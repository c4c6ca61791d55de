/- What is proved here: small facts for SlotChanges; the reference's Seal; append of rows onto a list that is full. -/
import Derived.Test.YtbmlpafbdbhaiaaGreatDoorGt2
import Derived.Test.YtbmlpafbdbhaiaaGreatDoorVu
import Derived.ArgAppend
namespace Go.Proofs.YtbmlpafbdbhaiaaGreatDoor.Gf
open Go Go.Joins Go.ChangeShapes Go.WideShapes Go.ChangeAt Go.RowKit Go.Deep Go.Proofs.YtbmlpafbdbhaiaaGreatDoor.By Go.Proofs.YtbmlpafbdbhaiaaGreatDoor.Qt
set_option maxRecDepth 100000
set_option maxHeartbeats 204800000
theorem rseal_any (v : Value) (g : Ge) (w : World) (hv : Gv w v g) (hf : Few g.m) (hn : g.m.st.flatten.length ≤ 1000) : Calls Tryz.prog 34 #[v] w (ModO g 2 3 w) := by
 obtain ⟨s0, s1, s2, s3, s4, s5, s6, s7, rfl, hm, hj⟩ := hv
 have q0 := al2 w (.cells #[.int .i64 g.num, .int .i64 g.rev, .int .i64 g.mode, .int .i64 g.size, s0, s1, s2, s3, s4, s5, s6, s7, .int .i64 g.m.live, .int .i64 g.m.garb] 43) (.cells #[.int .i64 0, .int .i64 0, .int .i64 0, .int .i64 0, .slice none 0 0, .slice none 0 0, .slice none 0 0, .slice none 0 0, .slice none 0 0, .slice none 0 0, .slice none 0 0, .slice none 0 0, .int .i64 0, .int .i64 0] 43)
 have HS := Lh q0.1
 have HZ := Lh q0.2.1
 have B0 := Lh q0.2.2
 have PV := Lh (rmoded_any (.agg #[.int .i64 g.num, .int .i64 g.rev, .int .i64 g.mode, .int .i64 g.size, s0, s1, s2, s3, s4, s5, s6, s7, .int .i64 g.m.live, .int .i64 g.m.garb]) g 2 3 (by unfold J64; decide) _ ⟨s0, s1, s2, s3, s4, s5, s6, s7, rfl, ms_below hm q0.2.2, hj⟩ hf hn)
 clear q0 hm hj hf hn
 go_enter Tryz.func34, Tryz.ntmps34
 go_upto_region 1 with fail
 generalize (w.alloc (.cells #[.int .i64 g.num, .int .i64 g.rev, .int .i64 g.mode, .int .i64 g.size, s0, s1, s2, s3, s4, s5, s6, s7, .int .i64 g.m.live, .int .i64 g.m.garb] 43)).alloc (.cells #[.int .i64 0, .int .i64 0, .int .i64 0, .int .i64 0, .slice none 0 0, .slice none 0 0, .slice none 0 0, .slice none 0 0, .slice none 0 0, .slice none 0 0, .slice none 0 0, .slice none 0 0, .int .i64 0, .int .i64 0] 43) = W0 at *
 obtain ⟨x0, x1, x2, x3, x4, x5, x6, x7, x8, x9, x10, x11, x12, x13⟩ := bx14 HS.out
 go_wp2_with fail
 clear x0 x1 x2 x3 x4 x5 x6 x7 x8 x9 x10 x11 x12 x13
 refine PV.out.mono ?_
 rintro e W1 ⟨⟨v1, rfl, hv1⟩, hb⟩
 obtain ⟨t0, t1, t2, t3, t4, t5, t6, t7, rfl, hm1, hj1⟩ := hv1
 have HZ1 := Lh ((hb.block _ (lt_of_some HZ.out)).trans HZ.out)
 have B1 := Lh (B0.out.trans (hb.mono B0.out.size))
 have ON := Lh (gc_one hm1)
 have MS1 := Lh hm1
 have HJ1 := Lh hj1
 generalize hT : modG g 2 3 = T at *
 generalize hC : modC g 2 = C at *
 have HT := Lh hT
 have HC := Lh hC
 clear hT hC
 clear hb HZ B0 PV hm1 hj1
 go_wp2_with ((with_reducible refine storeRG (w.heap.size + 1) _ #[.int .i64 T.num, .int .i64 T.rev, .int .i64 T.mode, .int .i64 T.size, t0, t1, t2, t3, t4, t5, t6, t7, .int .i64 T.m.live, .int .i64 T.m.garb] ?_ ?_ HZ1.out rfl rfl ON.out ?_); exact rfl; exact rfl)
 refine bodyPost_ret (results_rt (S := 43) rfl _ _ (w.heap.size + 1) #[.int .i64 T.num, .int .i64 T.rev, .int .i64 T.mode, .int .i64 T.size, t0, t1, t2, t3, t4, t5, t6, t7, .int .i64 T.m.live, .int .i64 T.m.garb] rfl (setRow_heap _ _ _ _ _ _ HZ1.out) Tryz.underlying43 rfl infoRG14) rfl ?_
 exact modO_of HT.out HC.out ⟨⟨_, rfl, t0, t1, t2, t3, t4, t5, t6, t7, rfl, ms_setRowF MS1.out HZ1.out zeroG_u64, HJ1.out⟩, below_setRowM B1.out (Nat.le_succ _) _⟩

/-- A box that holds some slot. -/
def Bx4 (W : World) (p : Nat) (T : TypeId) : Prop := ∃ (i l : Int) (r : Bool) (a : Option Addr) (n c : Nat), W.heap[p]? = some (.cells #[.int .i64 i, .int .i64 l, .bool r, .slice a n c] T (0, 0))
theorem Bx4.below {W W' : World} {p : Nat} {T : TypeId} (h : Bx4 W p T) (hb : Below W.heap.size W W') : Bx4 W' p T := by
 obtain ⟨i, l, r, a, n, c, h⟩ := h
 exact ⟨i, l, r, a, n, c, (hb.block _ (lt_of_some h)).trans h⟩
end Go.Proofs.YtbmlpafbdbhaiaaGreatDoor.Gf
