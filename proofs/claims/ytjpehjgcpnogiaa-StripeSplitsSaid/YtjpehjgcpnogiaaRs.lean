/- What is proved here: the contract of SameRows of layer 3's reference. No condition. -/
import Derived.Test.YtjpehjgcpnogiaaRo
namespace Go.Proofs.Ytjpehjgcpnogiaa.Gf
open Go Go.ChangeShapes Go.WideShapes Go.ChangeAt Go.RowKit Go.Proofs.Ytjpehjgcpnogiaa.By

set_option maxRecDepth 100000 in
set_option maxHeartbeats 1600000 in
theorem rsame_pos (b1 o1 c1 b2 o2 c2 n j : Nat) (A B : List (List Nat)) (w : World) (hn : n ≤ maxLen)
    (k1 : ∀ k, k < n → ∃ x, w.cell? ⟨b1, o1 + k, none⟩ = some x ∧ Sl w x (A.getD k [])) (k2 : ∀ k, k < n → ∃ x, w.cell? ⟨b2, o2 + k, none⟩ = some x ∧ Sl w x (B.getD k []))
    (hj : j ≤ n) (hin : ∀ i, i < j → A.getD i [] = B.getD i []) (hout : j < n → ¬ A.getD j [] = B.getD j []) :
    Calls Try.prog 16 #[.slice (some ⟨b1, o1, none⟩) n c1, .slice (some ⟨b2, o2, none⟩) n c2] w fun e w' => e = .returned (.bool (decide (j = n))) ∧ Below w.heap.size w w' := by
  obtain ⟨t, ht⟩ : ∃ t, t = decide (j = n) := ⟨_, rfl⟩
  rw [← ht]
  have HT := Lib.hid ht
  have K1 := Lib.hid k1
  have K2 := Lib.hid k2
  have IN := Lib.hid hin
  have OUT := Lib.hid hout
  unfold maxLen at hn
  clear ht k1 k2 hin hout
  go_enter Try.func16, Try.ntmps16
  go_wp2
  go_loopw [5] (fun i wr => ∃ k : Nat, k ≤ j ∧ i = .int .i64 (k : Int) ∧ Below w.heap.size w wr) (fun i _ => n - (intOf i).toNat)
  case atStart => exact ⟨0, by omega, rfl, Below.refl _ _⟩
  case round =>
    obtain ⟨k, hk, rfl, hB⟩ := hrel
    by_cases hkn : k < n
    · obtain ⟨x, e1, s1⟩ := K1.out k hkn
      obtain ⟨y, e2, s2⟩ := K2.out k hkn
      have f1 := (hB.cell (p := ⟨b1, o1 + k, none⟩) (block_lt_of_cell e1)).trans e1
      have f2 := (hB.cell (p := ⟨b2, o2 + k, none⟩) (block_lt_of_cell e2)).trans e2
      have s1' := sl_below s1 hB
      have s2' := sl_below s2 hB
      have v1 := fun n => conv_sl (sl_below s1' (below_drewN wr n))
      have v2 := fun n => conv_sl (sl_below s2' (below_drewN wr n))
      have hse := str_eq s1.1 s2.1
      have p0 : (0 : Int) ≤ (k : Int) := by omega
      have p1 : (k : Int) < (n : Int) := by omega
      have p2 : (0 : Int) < (n : Int) := by omega
      by_cases hlt : k < j
      · have hd : decide (A.getD k [] = B.getD k []) = true := decide_eq_true (IN.out k hlt)
        rw [hd] at hse
        generalize strOf (A.getD k []) = t1 at v1 hse
        generalize strOf (B.getD k []) = t2 at v2 hse
        clear e1 e2 s1 s2 s1' s2' hd
        go_wp2
        go_quiet (fail)
        go_wp2
        go_roundw
        case rel => exact ⟨k + 1, by omega, by go_num, hB.trans ((below_drewN wr _).mono hB.size)⟩
        case measure => simp [intOf]; omega
      · obtain rfl : k = j := by omega
        have hd : decide (A.getD k [] = B.getD k []) = false := decide_eq_false (OUT.out hkn)
        rw [hd] at hse
        generalize strOf (A.getD k []) = t1 at v1 hse
        generalize strOf (B.getD k []) = t2 at v2 hse
        clear e1 e2 s1 s2 s1' s2' hd
        go_wp2
        go_quiet (fail)
        go_wp2
        go_ret
        exact ⟨congrArg (fun b => Ending.returned (Value.bool b)) (HT.out.trans (decide_eq_false (by omega))).symm, hB.trans ((below_drewN wr _).mono hB.size)⟩
    · obtain rfl : k = n := by omega
      obtain rfl : j = k := by omega
      go_wp2
      go_ret
      exact ⟨congrArg (fun b => Ending.returned (Value.bool b)) (HT.out.trans (by simp)).symm, hB⟩
set_option maxRecDepth 100000 in
theorem rsame_diff (a1 a2 : Option Addr) (n1 n2 c1 c2 : Nat) (w : World) (hn : n1 ≠ n2) :
    Calls Try.prog 16 #[.slice a1 n1 c1, .slice a2 n2 c2] w fun e w' => e = .returned (.bool false) ∧ Below w.heap.size w w' := by
  have hb : ((n1 : Int) != (n2 : Int)) = true := by
    rw [bne_iff_ne]
    omega
  clear hn
  go_enter Try.func16, Try.ntmps16
  go_wp2
  go_ret
  exact ⟨rfl, Below.refl _ _⟩
set_option maxRecDepth 100000 in
theorem rsame_zero (a1 a2 : Option Addr) (c1 c2 : Nat) (w : World) :
    Calls Try.prog 16 #[.slice a1 0 c1, .slice a2 0 c2] w fun e w' => e = .returned (.bool true) ∧ Below w.heap.size w w' := by
  go_enter Try.func16, Try.ntmps16
  go_wp2
  go_loopw [5] (fun i wr => i = .int .i64 0 ∧ Below w.heap.size w wr) (fun i _ => (intOf i).toNat)
  case atStart => exact ⟨rfl, Below.refl _ _⟩
  case round =>
    obtain ⟨rfl, hB⟩ := hrel
    go_wp2
    go_ret
    exact ⟨rfl, hB⟩
theorem rsame_any (v1 v2 : Value) (A B : List (List Nat)) (w : World) (s1 : Sr w v1 A) (s2 : Sr w v2 B) : Calls Try.prog 16 #[v1, v2] w fun e w' => e = .returned (.bool (decide (A = B))) ∧ Below w.heap.size w w' := by
  by_cases hn : A.length = B.length
  · by_cases h0 : A.length = 0
    · obtain ⟨a1, c1, rfl, _, _⟩ := sr_form s1
      obtain ⟨a2, c2, rfl, _, _⟩ := sr_form s2
      rw [← hn, h0]
      obtain rfl := List.eq_nil_of_length_eq_zero h0
      obtain rfl := List.eq_nil_of_length_eq_zero (show B.length = 0 by rw [← hn]; rfl)
      exact rsame_zero a1 a2 c1 c2 w
    · obtain ⟨b1, o1, c1, rfl, _, _, k1⟩ := sr_cells s1 (by omega)
      obtain ⟨b2, o2, c2, rfl, _, _, k2⟩ := sr_cells s2 (by omega)
      rw [← hn] at k2 ⊢
      obtain ⟨j, h1, h2, h3⟩ := first_bad (fun i => A.getD i [] = B.getD i []) A.length
      refine (rsame_pos b1 o1 c1 b2 o2 c2 A.length j A B w s1.1 k1 k2 h1 h2 h3).mono fun e w' ⟨he, hw⟩ => ⟨?_, hw⟩
      rw [he]
      congr 2
      rw [decide_eq_decide]
      constructor
      · intro hj
        apply List.ext_getElem hn
        intro i g1 g2
        have := h2 i (by omega)
        simpa [List.getD, g1, g2] using this
      · intro hab
        refine Nat.le_antisymm h1 (Nat.le_of_not_lt fun hlt => h3 hlt (by rw [hab]))
  · obtain ⟨a1, c1, rfl, _, _⟩ := sr_form s1
    obtain ⟨a2, c2, rfl, _, _⟩ := sr_form s2
    rw [decide_eq_false (show ¬ A = B from fun h => hn (by rw [h]))]
    exact rsame_diff a1 a2 _ _ c1 c2 w hn
end Go.Proofs.Ytjpehjgcpnogiaa.Gf
