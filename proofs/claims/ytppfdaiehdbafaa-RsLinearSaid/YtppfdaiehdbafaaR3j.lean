/- What is proved here: what Apply of the reference answers, in all cases. Condition: none. -/
import Derived.Test.YtppfdaiehdbafaaR3h
import Derived.Test.YtppfdaiehdbafaaG5
namespace Go.Proofs.Ytppfdaiehdbafaa.Gf
open Go Go.ChangeShapes Go.WideShapes Go.ChangeAt Go.RowKit Go.Sort Go.Proofs.Ytppfdaiehdbafaa.By Go.Proofs.Ytppfdaiehdbafaa.Qt

set_option maxRecDepth 100000 in
set_option maxHeartbeats 1600000 in
theorem rapply_bad1 (r c : Int) (a1 a2 : Option Addr) (n1 n2 c1 c2 : Nat) (w : World) (h : ¬ Vd r c n1) : Calls Try.prog 46 #[mv r c (.slice a1 n1 c1), .slice a2 n2 c2] w (applyBad w) := by
  have hv := fun w => rvalid_any r c a1 n1 c1 w
  rw [decide_eq_false h] at hv
  have HV := Lib.hid hv
  have hb : ∀ cs, Below w.heap.size w (w.alloc (.cells cs 26)) := fun cs => (Below.refl w.heap.size w).alloc (Nat.le_refl _) _
  clear hv h
  unfold applyBad mv at *
  go_enter Try.func46, Try.ntmps46
  go_wp2_with fail
  refine (HV.out _).mono ?_
  rintro e w1 ⟨rfl, hb1⟩
  have hb2 := bt (hb _) hb1
  clear hb1
  go_wp2_with fail
  go_ret2
  exact ⟨rfl, hb2⟩
set_option maxRecDepth 100000 in
set_option maxHeartbeats 1600000 in
theorem rapply_bad2 (r c : Int) (a1 a2 : Option Addr) (n1 n2 c1 c2 : Nat) (w : World) (hv : Vd r c n1) (h : ¬ (n2 : Int) = c) : Calls Try.prog 46 #[mv r c (.slice a1 n1 c1), .slice a2 n2 c2] w (applyBad w) := by
  have hva := fun w => rvalid_any r c a1 n1 c1 w
  rw [decide_eq_true hv] at hva
  have HV := Lib.hid hva
  have hne : ((n2 : Int) != c) = true := bne_iff_ne.2 h
  clear hva hv h
  unfold applyBad mv at *
  go_enter Try.func46, Try.ntmps46
  go_wp2_with fail
  refine (HV.out _).mono ?_
  rintro e w1 ⟨rfl, hb1⟩
  obtain ⟨r1, hs, hb⟩ := one_later hb1
  obtain ⟨x0, x1, x2⟩ := row_cells r1
  clear hb1 r1
  go_wp2_with fail
  go_ret2
  exact ⟨rfl, hb⟩
theorem rowAt_eq (l : List Nat) (c i : Nat) (L : List (List Nat)) (n : Nat) : ∀ k, rowAt l c i L n k = rowAt' l c i L n k
  | 0 => rfl
  | k + 1 => by rw [rowAt, rowAt', rowAt_eq l c i L n k]
theorem applyL_eq (l : List Nat) (r c : Nat) (L : List (List Nat)) : applyL l r c L = applyL' l r c L := by
  unfold applyL applyL'
  exact List.map_congr_left fun i _ => rowAt_eq l c i L _ c
theorem rapply_any (r c : Int) (v1 v2 : Value) (l : List Nat) (L : List (List Nat)) (w : World) (s1 : Sl w v1 l) (s2 : Sr w v2 L) (hm : ∀ k, k < L.length → (L.getD k []).length ≤ 1000000) : Calls Try.prog 46 #[mv r c v1, v2] w (applyPostS r c l L w) := by
  by_cases ha : Vd r c l.length
  · by_cases hc : (L.length : Int) = c
    · obtain ⟨R, C, rfl, e, p1, _, p3, _, p5⟩ := vd_prod ha
      obtain rfl : L.length = C := by rw [e] at hc; exact_mod_cast hc
      subst e
      obtain ⟨b1, o1, c1, rfl, d1, d2, k1⟩ := sl_cells s1 (by rw [p5]; exact Nat.mul_pos p1 p3)
      obtain ⟨b2, o2, c2, rfl, d3, d4, k2⟩ := sr_cells s2 (by omega)
      obtain ⟨j, h1, h2, h3⟩ := first_bad (fun i => (L.getD i []).length = (L.getD 0 []).length) L.length
      refine (rapply_pos R L.length _ j b1 o1 c1 b2 o2 c2 l.length l L w ha rfl s1.1 rfl rfl (hm 0 (by omega)) k1 k2 h1 h2 h3).mono fun e w' h => ?_
      unfold applyPostS
      by_cases hj : j = L.length
      · rw [if_pos ⟨ha, rfl, fun i hi => h2 i (by omega)⟩]
        obtain ⟨⟨v, vs, rfl, ho⟩, hb⟩ := h.1 hj
        rw [applyL_eq] at ho
        exact ⟨⟨v, rfl, ho.sr⟩, hb⟩
      · rw [if_neg fun x => h3 (by omega) (x.2.2 j (by omega))]
        exact h.2 hj
    · obtain ⟨a1, c1, rfl, -, -⟩ := sl_form s1
      obtain ⟨a2, c2, rfl, -, -⟩ := sr_form s2
      refine (rapply_bad2 r c a1 a2 _ _ c1 c2 w ha hc).mono fun e w' h => ?_
      unfold applyPostS
      rw [if_neg fun x => hc x.2.1]
      exact h
  · obtain ⟨a1, c1, rfl, -, -⟩ := sl_form s1
    obtain ⟨a2, c2, rfl, -, -⟩ := sr_form s2
    refine (rapply_bad1 r c a1 a2 _ _ c1 c2 w ha).mono fun e w' h => ?_
    unfold applyPostS
    rw [if_neg fun x => ha x.1]
    exact h
end Go.Proofs.Ytppfdaiehdbafaa.Gf
