/- What is proved here: the contract of the reference's matrix product, for arguments that are not valid too. -/
import Derived.Test.YtppfdaiehdbafaaR3b
namespace Go.Proofs.Ytppfdaiehdbafaa.Gf
open Go Go.ChangeShapes Go.WideShapes Go.ChangeAt Go.RowKit Go.Proofs.Ytppfdaiehdbafaa.By

set_option maxRecDepth 100000 in
set_option maxHeartbeats 1600000 in
theorem rmul3_bad1 (ra ca rb cb : Int) (a1 a2 : Option Addr) (n1 n2 c1 c2 : Nat) (w : World) (h : ¬ Vd ra ca n1) :
    Calls Try.prog 32 #[mv ra ca (.slice a1 n1 c1), mv rb cb (.slice a2 n2 c2)] w (MO w 0 0 [] 1) := by
  have hv1 := fun w => rvalid_any ra ca a1 n1 c1 w
  rw [decide_eq_false h] at hv1
  have HV1 := Lib.hid hv1
  obtain ⟨t1, t2, t3, ts, tb⟩ := three w (.cells #[.int .i64 ra, .int .i64 ca, .slice a1 n1 c1] 26) (.cells #[.int .i64 rb, .int .i64 cb, .slice a2 n2 c2] 26) (.cells #[.int .i64 0, .int .i64 0, .slice none 0 0] 26)
  have T3 := Lib.hid t3
  have TS := Lib.hid ts
  have TB := Lib.hid tb
  clear hv1 t1 t2 t3 ts tb h
  unfold MO mv at *
  go_enter Try.func32, Try.ntmps32
  go_wp2_with fail
  refine (HV1.out _).mono ?_
  generalize (((w.alloc (.cells #[.int .i64 ra, .int .i64 ca, .slice a1 n1 c1] 26)).alloc (.cells #[.int .i64 rb, .int .i64 cb, .slice a2 n2 c2] 26)).alloc (.cells #[.int .i64 0, .int .i64 0, .slice none 0 0] 26)) = W0 at *
  rintro e w1 ⟨rfl, hB1⟩
  have r3 := (hB1.block (w.heap.size + 2) (by rw [TS.out]; omega)).trans T3.out
  have hb := TB.out.trans (hB1.mono TB.out.size)
  have R3 := Lib.hid r3
  clear r3
  go_wp2_with ((with_reducible refine storeM (w.heap.size + 2) (.int .i64 0) (.int .i64 0) (.slice none 0 0) ?_ ?_ R3.out ?_ ?_ ?_ ?_); exact rfl; exact rfl; exact rfl; exact rfl; exact rfl)
  exact bodyPost_ret (results_mx rfl _ _ (w.heap.size + 2) _ _ _ (0, 0) rfl (setRow_heap _ _ _ _ _ _ R3.out)) rfl ⟨⟨_, rfl, own_nil _ _⟩, below_setRow hb (by omega) _⟩
set_option maxRecDepth 100000 in
set_option maxHeartbeats 1600000 in
theorem rmul3_bad2 (ra ca rb cb : Int) (a1 a2 : Option Addr) (n1 n2 c1 c2 : Nat) (w : World) (ha : Vd ra ca n1) (h : ¬ Vd rb cb n2) :
    Calls Try.prog 32 #[mv ra ca (.slice a1 n1 c1), mv rb cb (.slice a2 n2 c2)] w (MO w 0 0 [] 1) := by
  have hv1 := fun w => rvalid_any ra ca a1 n1 c1 w
  have hv2 := fun w => rvalid_any rb cb a2 n2 c2 w
  rw [decide_eq_true ha] at hv1
  rw [decide_eq_false h] at hv2
  have HV1 := Lib.hid hv1
  have HV2 := Lib.hid hv2
  obtain ⟨t1, t2, t3, ts, tb⟩ := three w (.cells #[.int .i64 ra, .int .i64 ca, .slice a1 n1 c1] 26) (.cells #[.int .i64 rb, .int .i64 cb, .slice a2 n2 c2] 26) (.cells #[.int .i64 0, .int .i64 0, .slice none 0 0] 26)
  have T2 := Lib.hid t2
  have T3 := Lib.hid t3
  have TS := Lib.hid ts
  have TB := Lib.hid tb
  clear hv1 hv2 t1 t2 t3 ts tb h ha
  unfold MO mv at *
  go_enter Try.func32, Try.ntmps32
  go_wp2_with fail
  refine (HV1.out _).mono ?_
  generalize (((w.alloc (.cells #[.int .i64 ra, .int .i64 ca, .slice a1 n1 c1] 26)).alloc (.cells #[.int .i64 rb, .int .i64 cb, .slice a2 n2 c2] 26)).alloc (.cells #[.int .i64 0, .int .i64 0, .slice none 0 0] 26)) = W0 at *
  rintro e w1 ⟨rfl, hB1⟩
  obtain ⟨x0, x1, x2⟩ := row_cells ((hB1.block (w.heap.size + 1) (by rw [TS.out]; omega)).trans T2.out)
  go_wp2_with fail
  refine (HV2.out _).mono ?_
  rintro e w2 ⟨rfl, hB2⟩
  have r3 := (hB2.block (w.heap.size + 2) (by have := hB1.size; have := TS.out; omega)).trans ((hB1.block (w.heap.size + 2) (by rw [TS.out]; omega)).trans T3.out)
  have hb := (TB.out.trans (hB1.mono TB.out.size)).trans (hB2.mono (Nat.le_trans TB.out.size hB1.size))
  have R3 := Lib.hid r3
  clear r3 x0 x1 x2
  go_wp2_with ((with_reducible refine storeM (w.heap.size + 2) (.int .i64 0) (.int .i64 0) (.slice none 0 0) ?_ ?_ R3.out ?_ ?_ ?_ ?_); exact rfl; exact rfl; exact rfl; exact rfl; exact rfl)
  exact bodyPost_ret (results_mx rfl _ _ (w.heap.size + 2) _ _ _ (0, 0) rfl (setRow_heap _ _ _ _ _ _ R3.out)) rfl ⟨⟨_, rfl, own_nil _ _⟩, below_setRow hb (by omega) _⟩
set_option maxRecDepth 100000 in
set_option maxHeartbeats 1600000 in
theorem rmul3_bad3 (ra ca rb cb : Int) (a1 a2 : Option Addr) (n1 n2 c1 c2 : Nat) (w : World) (ha : Vd ra ca n1) (hb : Vd rb cb n2) (h : ca ≠ rb) :
    Calls Try.prog 32 #[mv ra ca (.slice a1 n1 c1), mv rb cb (.slice a2 n2 c2)] w (MO w 0 0 [] 1) := by
  have hv1 := fun w => rvalid_any ra ca a1 n1 c1 w
  have hv2 := fun w => rvalid_any rb cb a2 n2 c2 w
  rw [decide_eq_true ha] at hv1
  rw [decide_eq_true hb] at hv2
  have HV1 := Lib.hid hv1
  have HV2 := Lib.hid hv2
  have hne : (ca != rb) = true := by rw [bne_iff_ne]; exact h
  obtain ⟨t1, t2, t3, ts, tb⟩ := three w (.cells #[.int .i64 ra, .int .i64 ca, .slice a1 n1 c1] 26) (.cells #[.int .i64 rb, .int .i64 cb, .slice a2 n2 c2] 26) (.cells #[.int .i64 0, .int .i64 0, .slice none 0 0] 26)
  have T1 := Lib.hid t1
  have T2 := Lib.hid t2
  have T3 := Lib.hid t3
  have TS := Lib.hid ts
  have TB := Lib.hid tb
  clear hv1 hv2 t1 t2 t3 ts tb h ha hb
  unfold MO mv at *
  go_enter Try.func32, Try.ntmps32
  go_wp2_with fail
  refine (HV1.out _).mono ?_
  generalize (((w.alloc (.cells #[.int .i64 ra, .int .i64 ca, .slice a1 n1 c1] 26)).alloc (.cells #[.int .i64 rb, .int .i64 cb, .slice a2 n2 c2] 26)).alloc (.cells #[.int .i64 0, .int .i64 0, .slice none 0 0] 26)) = W0 at *
  rintro e w1 ⟨rfl, hB1⟩
  obtain ⟨x0, x1, x2⟩ := row_cells ((hB1.block (w.heap.size + 1) (by rw [TS.out]; omega)).trans T2.out)
  go_wp2_with fail
  refine (HV2.out _).mono ?_
  rintro e w2 ⟨rfl, hB2⟩
  have r1 := (hB2.block w.heap.size (by have := hB1.size; have := TS.out; omega)).trans ((hB1.block w.heap.size (by rw [TS.out]; omega)).trans T1.out)
  have r2 := (hB2.block (w.heap.size + 1) (by have := hB1.size; have := TS.out; omega)).trans ((hB1.block (w.heap.size + 1) (by rw [TS.out]; omega)).trans T2.out)
  have r3 := (hB2.block (w.heap.size + 2) (by have := hB1.size; have := TS.out; omega)).trans ((hB1.block (w.heap.size + 2) (by rw [TS.out]; omega)).trans T3.out)
  have hb := (TB.out.trans (hB1.mono TB.out.size)).trans (hB2.mono (Nat.le_trans TB.out.size hB1.size))
  have R3 := Lib.hid r3
  obtain ⟨z0, z1, z2⟩ := row_cells r1
  obtain ⟨y0, y1, y2⟩ := row_cells r2
  clear r1 r2 r3 x0 x1 x2
  go_wp2_with ((with_reducible refine storeM (w.heap.size + 2) (.int .i64 0) (.int .i64 0) (.slice none 0 0) ?_ ?_ R3.out ?_ ?_ ?_ ?_); exact rfl; exact rfl; exact rfl; exact rfl; exact rfl)
  exact bodyPost_ret (results_mx rfl _ _ (w.heap.size + 2) _ _ _ (0, 0) rfl (setRow_heap _ _ _ _ _ _ R3.out)) rfl ⟨⟨_, rfl, own_nil _ _⟩, below_setRow hb (by omega) _⟩
/-- What a product answers. -/
def mulPost (ra ca : Int) (la : List Nat) (rb cb : Int) (lb : List Nat) (w : World) : Ending → World → Prop :=
  if Vd ra ca la.length ∧ Vd rb cb lb.length ∧ ca = rb then MO w ra cb (flat ra.toNat cb.toNat (mm ca.toNat (ent la ca.toNat) (ent lb cb.toNat))) 0 else MO w 0 0 [] 1
theorem rmul3_any (ra ca rb cb : Int) (v1 v2 : Value) (la lb : List Nat) (w : World) (s1 : Sl w v1 la) (s2 : Sl w v2 lb) :
    Calls Try.prog 32 #[mv ra ca v1, mv rb cb v2] w (mulPost ra ca la rb cb lb w) := by
  unfold mulPost
  by_cases ha : Vd ra ca la.length
  · by_cases hb : Vd rb cb lb.length
    · by_cases hc : ca = rb
      · rw [if_pos ⟨ha, hb, hc⟩]
        subst hc
        obtain ⟨RA, CA, rfl, rfl, h1, h2, h3, h4, h5⟩ := vd_prod ha
        obtain ⟨_, CB, hq, rfl, g1, g2, g3, g4, g5⟩ := vd_prod hb
        obtain ⟨b1, o1, c1, rfl, _, _, k1⟩ := sl_cells s1 (by have := at_lt (show 0 < RA by omega) (show 0 < CA by omega); omega)
        obtain ⟨b2, o2, c2, rfl, _, _, k2⟩ := sl_cells s2 (by have := at_lt (show 0 < _ from Nat.lt_of_lt_of_le (by decide) g1) (show 0 < CB by omega); omega)
        exact rmul3_pos RA CA CB b1 o1 b2 o2 _ _ c1 c2 la lb w ha hb s1.1 s2.1 k1 k2
      · rw [if_neg fun h => hc h.2.2]
        obtain ⟨a1, c1, rfl, _, _⟩ := sl_form s1
        obtain ⟨a2, c2, rfl, _, _⟩ := sl_form s2
        exact rmul3_bad3 ra ca rb cb a1 a2 _ _ c1 c2 w ha hb hc
    · rw [if_neg fun h => hb h.2.1]
      obtain ⟨a1, c1, rfl, _, _⟩ := sl_form s1
      obtain ⟨a2, c2, rfl, _, _⟩ := sl_form s2
      exact rmul3_bad2 ra ca rb cb a1 a2 _ _ c1 c2 w ha hb
  · rw [if_neg fun h => ha h.1]
    obtain ⟨a1, c1, rfl, _, _⟩ := sl_form s1
    obtain ⟨a2, c2, rfl, _, _⟩ := sl_form s2
    exact rmul3_bad1 ra ca rb cb a1 a2 _ _ c1 c2 w ha
end Go.Proofs.Ytppfdaiehdbafaa.Gf
