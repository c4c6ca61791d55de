/- What is proved here: the mathematics of the law DiskPrefix: a file that was appended to. No program text. -/
import Derived.Test.YtpjkgbngiifkmaaK10H
namespace Go.Proofs.Ytpjkgbngiifkmaa.Gf
open Go

/-- The writes that appending the lists of Ls, one after the other, leaves. -/
def apW1 (base : List Nat) : List (List Nat) → Nat → List Wr
  | _, 0 => []
  | Ls, k + 1 => apW1 base Ls k ++ [(((base ++ (Ls.take k).flatten).length : Int), Ls.getD k [], false)]
section
variable {base : List Nat} {Ls : List (List Nat)}
theorem apW1_len : ∀ k, (apW1 base Ls k).length = k
  | 0 => rfl
  | k + 1 => by rw [apW1, List.length_append, apW1_len k]; rfl
theorem flat_snocN {k : Nat} (h : k < Ls.length) : (Ls.take (k + 1)).flatten = (Ls.take k).flatten ++ Ls.getD k [] := by
  rw [List.take_succ_eq_append_getElem h, List.flatten_append, List.flatten_cons, List.flatten_nil, List.append_nil, show Ls.getD k [] = Ls[k] by simp [List.getD, h]]
theorem apW1_apL : ∀ k, k ≤ Ls.length → apL base (apW1 base Ls k) = base ++ (Ls.take k).flatten
  | 0, _ => by simp [apW1, apL]
  | k + 1, h => by
    have ih := apW1_apL k (by omega)
    rw [apW1, ← ih, apL_end, ih, List.append_assoc, ← flat_snocN (by omega)]
theorem apW1_ok (hb : base.length ≤ 300) : ∀ k, k ≤ Ls.length → (base ++ (Ls.take k).flatten).length ≤ 1048576 → flB base (apW1 base Ls k) = true
  | 0, _, _ => flB_nil (by omega)
  | k + 1, h, hl => by
    rw [flat_snocN (by omega), ← List.append_assoc, List.length_append] at hl
    have ih := apW1_ok hb k (by omega) (by omega)
    have h2 := flB_end (x := Ls.getD k []) ih (by rw [apW1_apL k (by omega)]; exact hl)
    rw [apW1_apL k (by omega)] at h2
    rw [apW1]
    exact h2
theorem apW1_take : ∀ k n, n ≤ k → (apW1 base Ls k).take n = apW1 base Ls n
  | 0, n, h => by
    obtain rfl : n = 0 := by omega
    rfl
  | k + 1, n, h => by
    rcases Nat.lt_or_ge n (k + 1) with h1 | h1
    · rw [apW1, List.take_append_of_le_length (by rw [apW1_len]; omega), apW1_take k n (by omega)]
    · obtain rfl : n = k + 1 := by omega
      rw [List.take_of_length_le (by rw [apW1_len]; omega)]
theorem apW1_get {k n : Nat} (h : n < k) : (apW1 base Ls k).getD n wr0 = (((base ++ (Ls.take n).flatten).length : Int), Ls.getD n [], false) := by
  have h1 := apW1_take (base := base) (Ls := Ls) k (n + 1) (by omega)
  have h2 : (apW1 base Ls k)[n]? = (apW1 base Ls (n + 1))[n]? := by rw [← h1, List.getElem?_take, if_pos (by omega)]
  rw [List.getD_eq_getElem?_getD, h2, apW1, List.getElem?_append_right (by rw [apW1_len]; omega), apW1_len]
  simp
/-- What a power failure leaves of the appends: a prefix, with the base. -/
theorem apW1_keep (a t : Int) : ∃ m, base.length ≤ m ∧ m ≤ (base ++ Ls.flatten).length ∧ apL base (keepW (apW1 base Ls Ls.length) a t) = (base ++ Ls.flatten).take m := by
  unfold keepW
  rw [apW1_len]
  have hn := nKp_le a Ls.length
  generalize nKp a Ls.length = n at *
  have hfl : (Ls.take n).flatten ++ (Ls.drop n).flatten = Ls.flatten := by rw [← List.flatten_append, List.take_append_drop]
  rw [apW1_take _ _ hn, apL_append, apW1_apL n hn]
  split
  · rename_i hc
    rw [apW1_get hc.1]
    have ht := nKp_le t (Ls.getD n []).length
    generalize nKp t (Ls.getD n []).length = m at *
    refine ⟨(base ++ (Ls.take n).flatten).length + m, by rw [List.length_append]; omega, ?_, ?_⟩
    · have h2 := flat_snocN hc.1
      have h3 : (Ls.take (n + 1)).flatten ++ (Ls.drop (n + 1)).flatten = Ls.flatten := by rw [← List.flatten_append, List.take_append_drop]
      rw [h2] at h3
      rw [← h3]
      simp only [List.length_append]
      omega
    · show apW (base ++ (Ls.take n).flatten) (((base ++ (Ls.take n).flatten).length : Int), (Ls.getD n []).take m, false) = _
      rw [apW_end]
      have h2 := flat_snocN hc.1
      have h3 : (Ls.take (n + 1)).flatten ++ (Ls.drop (n + 1)).flatten = Ls.flatten := by rw [← List.flatten_append, List.take_append_drop]
      rw [h2] at h3
      have e : base ++ Ls.flatten = (base ++ (Ls.take n).flatten) ++ (Ls.getD n [] ++ (Ls.drop (n + 1)).flatten) := by
        rw [← h3]
        simp only [List.append_assoc]
      rw [e]
      generalize base ++ (Ls.take n).flatten = X
      rw [List.take_append, List.take_of_length_le (l := X) (by omega), Nat.add_sub_cancel_left, List.take_append_of_le_length ht]
  · refine ⟨(base ++ (Ls.take n).flatten).length, by rw [List.length_append]; omega, ?_, ?_⟩
    · rw [← hfl]
      simp only [List.length_append]
      omega
    · have e : base ++ Ls.flatten = (base ++ (Ls.take n).flatten) ++ (Ls.drop n).flatten := by rw [List.append_assoc, hfl]
      rw [e, List.take_left]
      rfl
end
end Go.Proofs.Ytpjkgbngiifkmaa.Gf
