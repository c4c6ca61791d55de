/- What is proved here: the plain mathematics of the records of a volume file, found one behind another. No program text. -/
import Derived.Test.YtlnccofanicihaaDoorM6
namespace Go.Proofs.YtlnccofanicihaaDoor.Gf
open Go Go.Proofs.YtlnccofanicihaaDoor.Crc

/-- A record: where it stands, and its needle. -/
structure Rc where
  off : Int
  x : Ndl
theorem dec_nil : decE [] = 4 := rfl
theorem decN_ok {l : List Nat} (h : decE l = 0) : 24 ≤ decN l ∧ decN l ≤ l.length ∧ decN l % 8 = 0 := by
  have h3 := (dec_of h).2.2.1
  unfold decN
  rw [if_pos h]
  have := szR_ge (lenR l)
  refine ⟨by omega, by omega, ?_⟩
  unfold szR
  omega
theorem dec_past {b : List Nat} {p : Nat} (h : b.length ≤ p) : decE (b.drop p) = 4 := by
  rw [List.drop_of_length_le h]
  rfl
def recsF (b : List Nat) : Nat → Nat → List Rc × Nat
  | 0, p => ([], p)
  | n + 1, p => if decE (b.drop p) = 0 then (⟨(p : Int), decX (b.drop p)⟩ :: (recsF b n (p + decN (b.drop p))).1, (recsF b n (p + decN (b.drop p))).2) else ([], p)
theorem recsF_enough (b : List Nat) : ∀ (n m p : Nat), b.length < p + n → b.length < p + m → recsF b n p = recsF b m p
  | 0, 0, _, _, _ => rfl
  | 0, m + 1, p, h, _ => by
    have h2 := dec_past (b := b) (p := p) (by omega)
    simp [recsF, h2]
  | n + 1, 0, p, _, h => by
    have h2 := dec_past (b := b) (p := p) (by omega)
    simp [recsF, h2]
  | n + 1, m + 1, p, h, h' => by
    unfold recsF
    by_cases c : decE (b.drop p) = 0
    · rw [if_pos c, if_pos c]
      have h3 := (decN_ok c).1
      rw [recsF_enough b n m (p + decN (b.drop p)) (by omega) (by omega)]
    · rw [if_neg c, if_neg c]
/-- The records from a place on, and the place behind the last one. -/
def recs (b : List Nat) (p : Nat) : List Rc × Nat := recsF b (b.length + 1) p
theorem recs_ok {b : List Nat} {p : Nat} (h : decE (b.drop p) = 0) : recs b p = (⟨(p : Int), decX (b.drop p)⟩ :: (recs b (p + decN (b.drop p))).1, (recs b (p + decN (b.drop p))).2) := by
  have h3 := (decN_ok h).1
  have e : recs b p = recsF b (b.length + 2) p := recsF_enough b _ _ p (by omega) (by omega)
  rw [e]
  show recsF b (b.length + 1 + 1) p = _
  rw [recsF, if_pos h]
  rfl
theorem recs_err {b : List Nat} {p : Nat} (h : decE (b.drop p) ≠ 0) : recs b p = ([], p) := by
  unfold recs
  rw [recsF, if_neg h]
def slvF (b : List Nat) : Nat → Nat → List Rc
  | 0, _ => []
  | n + 1, p => if b.length ≤ p then [] else if decE (b.drop p) = 0 then ⟨(p : Int), decX (b.drop p)⟩ :: slvF b n (p + decN (b.drop p)) else slvF b n (p + 8)
theorem slvF_enough (b : List Nat) : ∀ (n m p : Nat), b.length < p + n → b.length < p + m → slvF b n p = slvF b m p
  | 0, 0, _, _, _ => rfl
  | 0, m + 1, p, h, _ => by
    have h2 : b.length ≤ p := by omega
    simp [slvF, h2]
  | n + 1, 0, p, _, h => by
    have h2 : b.length ≤ p := by omega
    simp [slvF, h2]
  | n + 1, m + 1, p, h, h' => by
    unfold slvF
    by_cases c0 : b.length ≤ p
    · rw [if_pos c0, if_pos c0]
    · rw [if_neg c0, if_neg c0]
      by_cases c : decE (b.drop p) = 0
      · rw [if_pos c, if_pos c]
        have h3 := (decN_ok c).1
        rw [slvF_enough b n m (p + decN (b.drop p)) (by omega) (by omega)]
      · rw [if_neg c, if_neg c]
        exact slvF_enough b n m (p + 8) (by omega) (by omega)
/-- The records that are found from a place on, in steps of eight. -/
def slv (b : List Nat) (p : Nat) : List Rc := slvF b (b.length + 1) p
theorem slv_end {b : List Nat} {p : Nat} (h : b.length ≤ p) : slv b p = [] := by
  unfold slv
  rw [slvF, if_pos h]
theorem slv_ok {b : List Nat} {p : Nat} (h : decE (b.drop p) = 0) : slv b p = ⟨(p : Int), decX (b.drop p)⟩ :: slv b (p + decN (b.drop p)) := by
  have h3 := (decN_ok h).1
  have h0 : ¬ b.length ≤ p := fun c => by
    rw [dec_past c] at h
    cases h
  have e : slv b p = slvF b (b.length + 1 + 1) p := slvF_enough b _ _ p (by omega) (by omega)
  rw [e, slvF, if_neg h0, if_pos h]
  rfl
theorem slv_err {b : List Nat} {p : Nat} (h : decE (b.drop p) ≠ 0) : slv b p = slv b (p + 8) := by
  by_cases h0 : b.length ≤ p
  · rw [slv_end h0, slv_end (by omega)]
  · have e : slv b p = slvF b (b.length + 1 + 1) p := slvF_enough b _ _ p (by omega) (by omega)
    rw [e, slvF, if_neg h0, if_neg h]
    rfl
/-- The needles of a file. -/
def GoodN (k : List Ndl) : Prop := ∀ x ∈ k, NdOk x ∧ encE x = 0
def bodF (k : List Ndl) : List Nat := k.flatMap recL
theorem bodF_cons (x : Ndl) (k : List Ndl) : bodF (x :: k) = recL x ++ bodF k := by simp [bodF]
theorem bodF_append (k m : List Ndl) : bodF (k ++ m) = bodF k ++ bodF m := by simp [bodF]
def rcs : Nat → List Ndl → List Rc
  | _, [] => []
  | p, x :: k => ⟨(p : Int), x⟩ :: rcs (p + szR x.data.length) k
theorem rcs_length : ∀ (k : List Ndl) (p : Nat), (rcs p k).length = k.length
  | [], _ => rfl
  | x :: k, p => by simp [rcs, rcs_length k]
theorem rcs_x : ∀ (k : List Ndl) (p : Nat), (rcs p k).map (·.x) = k
  | [], _ => rfl
  | x :: k, p => by simp [rcs, rcs_x k]
theorem drop_app9 (P T : List Nat) : (P ++ T).drop P.length = T := by simp
theorem recs_file : ∀ (k : List Ndl) (P T : List Nat), GoodN k → decE T ≠ 0 → recs (P ++ (bodF k ++ T)) P.length = (rcs P.length k, P.length + (bodF k).length)
  | [], P, T, _, hT => by
    rw [recs_err (by rw [drop_app9]; exact hT)]
    rfl
  | x :: k, P, T, hk, hT => by
    obtain ⟨ok, he⟩ := hk x (List.mem_cons_self ..)
    have hd : (P ++ (bodF (x :: k) ++ T)).drop P.length = recL x ++ (bodF k ++ T) := by rw [drop_app9, bodF_cons, List.append_assoc]
    obtain ⟨d1, d2, d3⟩ := dec_rec ok he (bodF k ++ T)
    rw [recs_ok (by rw [hd]; exact d1), hd, d2, d3]
    have e : P ++ (bodF (x :: k) ++ T) = (P ++ recL x) ++ (bodF k ++ T) := by rw [bodF_cons, List.append_assoc, List.append_assoc]
    have e2 : P.length + szR x.data.length = (P ++ recL x).length := by rw [List.length_append, recL_length]
    rw [e, e2, recs_file k (P ++ recL x) T (fun y hy => hk y (List.mem_cons_of_mem _ hy)) hT, ← e2, bodF_cons, List.length_append, recL_length]
    rw [rcs]
    simp only [Prod.mk.injEq, true_and]
    omega
theorem slv_file : ∀ (k : List Ndl) (P T : List Nat), GoodN k → slv (P ++ (bodF k ++ T)) P.length = rcs P.length k ++ slv (P ++ (bodF k ++ T)) (P.length + (bodF k).length)
  | [], P, T, _ => rfl
  | x :: k, P, T, hk => by
    obtain ⟨ok, he⟩ := hk x (List.mem_cons_self ..)
    have hd : (P ++ (bodF (x :: k) ++ T)).drop P.length = recL x ++ (bodF k ++ T) := by rw [drop_app9, bodF_cons, List.append_assoc]
    obtain ⟨d1, d2, d3⟩ := dec_rec ok he (bodF k ++ T)
    rw [slv_ok (by rw [hd]; exact d1), hd, d2, d3]
    have e : P ++ (bodF (x :: k) ++ T) = (P ++ recL x) ++ (bodF k ++ T) := by rw [bodF_cons, List.append_assoc, List.append_assoc]
    have e2 : P.length + szR x.data.length = (P ++ recL x).length := by rw [List.length_append, recL_length]
    rw [e, e2, slv_file k (P ++ recL x) T (fun y hy => hk y (List.mem_cons_of_mem _ hy)), ← e2, bodF_cons, List.length_append, recL_length]
    rw [rcs, List.cons_append, Nat.add_assoc]
/-- A file that is cut off: whole records, and less than one. -/
theorem torn : ∀ (k : List Ndl) (n : Nat), GoodN k → ∃ j T, j ≤ k.length ∧ (bodF k).take n = bodF (k.take j) ++ T ∧ decE T ≠ 0 ∧ (bodF (k.take j)).length ≤ n ∧ (j < k.length → n < (bodF (k.take (j + 1))).length)
  | [], n, _ => ⟨0, [], Nat.le_refl _, by simp [bodF], by rw [dec_nil]; decide, Nat.zero_le _, fun h => by simp at h⟩
  | x :: k, n, hk => by
    obtain ⟨ok, he⟩ := hk x (List.mem_cons_self ..)
    by_cases c : n < szR x.data.length
    · refine ⟨0, (recL x).take n, Nat.zero_le _, ?_, by rw [dec_short ok he c]; decide, Nat.zero_le _, fun _ => ?_⟩
      · rw [bodF_cons, List.take_append_of_le_length (by rw [recL_length]; omega)]
        rfl
      · rw [List.take_succ_cons, List.take_zero, bodF_cons, List.length_append, recL_length]
        omega
    · obtain ⟨j, T, h1, h2, h3, h4, h5⟩ := torn k (n - szR x.data.length) fun y hy => hk y (List.mem_cons_of_mem _ hy)
      refine ⟨j + 1, T, by simpa using h1, ?_, h3, ?_, fun h => ?_⟩
      · rw [bodF_cons, List.take_append, recL_length, h2, List.take_of_length_le (by rw [recL_length]; omega), List.take_succ_cons, bodF_cons, List.append_assoc]
      · rw [List.take_succ_cons, bodF_cons, List.length_append, recL_length]
        omega
      · have h6 := h5 (by simpa using h)
        rw [List.take_succ_cons, bodF_cons, List.length_append, recL_length]
        omega
end Go.Proofs.YtlnccofanicihaaDoor.Gf
