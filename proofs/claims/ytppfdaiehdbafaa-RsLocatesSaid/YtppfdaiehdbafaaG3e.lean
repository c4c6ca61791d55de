/- What is proved here: the contract of the program's Mul. No condition. -/
import Derived.Test.YtppfdaiehdbafaaG3d
namespace Go.Proofs.Ytppfdaiehdbafaa.Gf
open Go Go.ChangeShapes Go.WideShapes Go.ChangeAt Go.RowKit Go.Sort Go.Proofs.Ytppfdaiehdbafaa.By Go.Proofs.Ytppfdaiehdbafaa.Qt

/-- The blocks of two boxed arguments and a result behind a call. -/
theorem three_later {w w1 : World} {A B C : Obj} (hb : Below (((w.alloc A).alloc B).alloc C).heap.size (((w.alloc A).alloc B).alloc C) w1) :
    w1.heap[w.heap.size]? = some A ∧ w1.heap[w.heap.size + 1]? = some B ∧ w1.heap[w.heap.size + 2]? = some C ∧ w.heap.size + 3 ≤ w1.heap.size ∧ Below w.heap.size w w1 := by
  obtain ⟨t1, t2, t3, ts, tb⟩ := three w A B C
  have hs := hb.size
  exact ⟨(hb.block _ (by omega)).trans t1, (hb.block _ (by omega)).trans t2, (hb.block _ (by omega)).trans t3, by omega, bt tb hb⟩
set_option maxRecDepth 100000 in
set_option maxHeartbeats 1600000 in
theorem mul_bad1 (ra ca rb cb : Int) (a1 a2 : Option Addr) (n1 n2 c1 c2 : Nat) (w : World) (h : ¬ Vd ra ca n1) : Calls Try.prog 50 #[mv ra ca (.slice a1 n1 c1), mv rb cb (.slice a2 n2 c2)] w (MO w 0 0 [] 1) := by
  have hv1 := fun w => valid_any ra ca a1 n1 c1 w
  rw [decide_eq_false h] at hv1
  have HV1 := Lib.hid hv1
  clear hv1 h
  unfold MO mv at *
  go_enter Try.func50, Try.ntmps50
  go_wp2_with fail
  refine (HV1.out _).mono ?_
  rintro e w1 ⟨rfl, hb1⟩
  obtain ⟨r1, r2, r3, hs, hb⟩ := three_later hb1
  have R3 := Lib.hid r3
  clear hb1 r1 r2 r3
  go_wp2_with ((with_reducible refine storeP (w.heap.size + 2) (.int .i64 0) (.int .i64 0) (.slice none 0 0) ?_ ?_ R3.out ?_ ?_ ?_ ?_); exact rfl; exact rfl; exact rfl; exact rfl; exact rfl)
  exact bodyPost_ret (results_px rfl _ _ (w.heap.size + 2) _ _ _ (0, 0) rfl (setRow_heap _ _ _ _ _ _ R3.out)) rfl ⟨⟨_, rfl, own_nil _ _⟩, below_setRow hb (by omega) _⟩
set_option maxRecDepth 100000 in
set_option maxHeartbeats 1600000 in
theorem mul_bad2 (ra ca rb cb : Int) (a1 a2 : Option Addr) (n1 n2 c1 c2 : Nat) (w : World) (h1 : Vd ra ca n1) (h : ¬ (Vd rb cb n2 ∧ ca = rb)) : Calls Try.prog 50 #[mv ra ca (.slice a1 n1 c1), mv rb cb (.slice a2 n2 c2)] w (MO w 0 0 [] 1) := by
  have hv1 := fun w => valid_any ra ca a1 n1 c1 w
  rw [decide_eq_true h1] at hv1
  have hv2 := fun w => valid_any rb cb a2 n2 c2 w
  have HV1 := Lib.hid hv1
  have HV2 := Lib.hid hv2
  have H := Lib.hid h
  clear hv1 hv2 h1 h
  unfold MO mv at *
  go_enter Try.func50, Try.ntmps50
  go_wp2_with fail
  refine (HV1.out _).mono ?_
  rintro e w1 ⟨rfl, hb1⟩
  obtain ⟨r1, r2, r3, hs, hb⟩ := three_later hb1
  obtain ⟨y0, y1, y2⟩ := row_cells r2
  have R1 := Lib.hid r1
  have R2 := Lib.hid r2
  have R3 := Lib.hid r3
  have B1 := Lib.hid hb
  clear hb1 r1 r2 r3 hb
  go_wp2_with fail
  refine (HV2.out _).mono ?_
  rintro e w2 ⟨rfl, hb2⟩
  have r1 := (hb2.block _ (lt_of_some R1.out)).trans R1.out
  have r2 := (hb2.block _ (lt_of_some R2.out)).trans R2.out
  have r3 := (hb2.block _ (lt_of_some R3.out)).trans R3.out
  have hb := bt B1.out hb2
  obtain ⟨x0, x1, x2⟩ := row_cells r1
  obtain ⟨z0, z1, z2⟩ := row_cells r2
  have R3' := Lib.hid r3
  have B2 := Lib.hid hb
  clear hb2 r1 r2 r3 hb y0 y1 y2 R3 B1
  by_cases h2 : Vd rb cb n2
  · have h3 : ¬ ca = rb := fun e => H.out ⟨h2, e⟩
    have hd : (ca != rb) = true := bne_iff_ne.2 h3
    rw [decide_eq_true h2]
    clear h3 h2
    go_wp2_with ((with_reducible refine storeP (w.heap.size + 2) (.int .i64 0) (.int .i64 0) (.slice none 0 0) ?_ ?_ R3'.out ?_ ?_ ?_ ?_); exact rfl; exact rfl; exact rfl; exact rfl; exact rfl)
    exact bodyPost_ret (results_px rfl _ _ (w.heap.size + 2) _ _ _ (0, 0) rfl (setRow_heap _ _ _ _ _ _ R3'.out)) rfl ⟨⟨_, rfl, own_nil _ _⟩, below_setRow B2.out (by omega) _⟩
  · rw [decide_eq_false h2]
    clear h2
    go_wp2_with ((with_reducible refine storeP (w.heap.size + 2) (.int .i64 0) (.int .i64 0) (.slice none 0 0) ?_ ?_ R3'.out ?_ ?_ ?_ ?_); exact rfl; exact rfl; exact rfl; exact rfl; exact rfl)
    exact bodyPost_ret (results_px rfl _ _ (w.heap.size + 2) _ _ _ (0, 0) rfl (setRow_heap _ _ _ _ _ _ R3'.out)) rfl ⟨⟨_, rfl, own_nil _ _⟩, below_setRow B2.out (by omega) _⟩
end Go.Proofs.Ytppfdaiehdbafaa.Gf
