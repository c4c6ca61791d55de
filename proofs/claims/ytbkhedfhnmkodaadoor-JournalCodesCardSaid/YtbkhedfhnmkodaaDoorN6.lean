/- What is proved here: the plain mathematics of records of needles: numbers as bytes, the record, what is read of bytes. No program text. -/
import Derived.Test.YtbkhedfhnmkodaaDoorMath
import Derived.Tactics
namespace Go.Proofs.YtbkhedfhnmkodaaDoor.Gf
open Go.Proofs.YtbkhedfhnmkodaaDoor.Crc

/-- A needle. -/
structure Ndl where
  key : Nat
  cookie : Nat
  del : Bool
  data : List Nat
/-- v in n bytes, the most significant one first. -/
def beL (n v : Nat) : List Nat := (List.range n).map fun i => v / 256 ^ (n - 1 - i) % 256
/-- The number that bytes are. -/
def valL (l : List Nat) : Nat := l.foldl (fun v b => v * 256 + b) 0
/-- A checksum in four bytes, the least significant one first. -/
def leL (s : Nat) : List Nat := [s % 256, s / 256 % 256, s / 65536 % 256, s / 16777216 % 256]
def szR (n : Nat) : Nat := (n + 31) / 8 * 8
def hdL (x : Ndl) : List Nat := [78, 165, if x.del then 1 else 0, 0] ++ beL 4 x.cookie ++ beL 8 x.key ++ beL 4 x.data.length
def bodyL (x : Ndl) : List Nat := hdL x ++ x.data
def recL (x : Ndl) : List Nat := bodyL x ++ leL (ext 0 (bodyL x)) ++ List.replicate (szR x.data.length - (24 + x.data.length)) 0
def encE (x : Ndl) : Nat := if 4096 < x.data.length then 8 else if x.del = true ∧ 0 < x.data.length then 1 else 0
def encL (x : Ndl) : List Nat := if encE x = 0 then recL x else []
theorem beL_length (n v : Nat) : (beL n v).length = n := by simp [beL]
theorem beL_lt (n v : Nat) : ∀ b ∈ beL n v, b < 256 := fun b hb => by
  obtain ⟨i, -, rfl⟩ := List.mem_map.1 hb
  exact Nat.mod_lt _ (by decide)
theorem leL_length (s : Nat) : (leL s).length = 4 := rfl
theorem leL_lt (s : Nat) : ∀ b ∈ leL s, b < 256 := fun b hb => by
  simp only [leL, List.mem_cons, List.not_mem_nil, or_false] at hb
  omega
theorem hdL_length (x : Ndl) : (hdL x).length = 20 := by simp [hdL, beL_length]
theorem hdL_lt (x : Ndl) : ∀ b ∈ hdL x, b < 256 := fun b hb => by
  simp only [hdL, List.mem_append, List.mem_cons, List.not_mem_nil, or_false] at hb
  rcases hb with (((h | h | h | h) | h) | h) | h
  · omega
  · omega
  · subst h
    split <;> decide
  · omega
  all_goals exact beL_lt _ _ _ h
theorem bodyL_length (x : Ndl) : (bodyL x).length = 20 + x.data.length := by simp [bodyL, hdL_length]
theorem szR_ge (n : Nat) : 24 + n ≤ szR n := by unfold szR; omega
theorem szR_lt (n : Nat) : szR n < 32 + n := by unfold szR; omega
theorem recL_length (x : Ndl) : (recL x).length = szR x.data.length := by
  have := szR_ge x.data.length
  simp only [recL, List.length_append, bodyL_length, leL_length, List.length_replicate]
  omega
theorem bodyL_lt {x : Ndl} (h : ∀ b ∈ x.data, b < 256) : ∀ b ∈ bodyL x, b < 256 := fun b hb => by
  rcases List.mem_append.1 hb with hb | hb
  · exact hdL_lt x b hb
  · exact h b hb
theorem recL_lt {x : Ndl} (h : ∀ b ∈ x.data, b < 256) : ∀ b ∈ recL x, b < 256 := fun b hb => by
  rcases List.mem_append.1 hb with hb | hb
  · rcases List.mem_append.1 hb with hb | hb
    · exact bodyL_lt h b hb
    · exact leL_lt _ b hb
  · rw [List.eq_of_mem_replicate hb]; decide
theorem encL_lt {x : Ndl} (h : ∀ b ∈ x.data, b < 256) : ∀ b ∈ encL x, b < 256 := fun b hb => by
  unfold encL at hb
  split at hb
  · exact recL_lt h b hb
  · simp at hb
theorem encL_length_le (x : Ndl) : (encL x).length ≤ 4128 := by
  unfold encL
  split
  · rename_i h
    rw [recL_length]
    have : x.data.length ≤ 4096 := by
      unfold encE at h
      split at h
      · cases h
      · omega
    unfold szR
    omega
  · simp
/-- What Decode sees. -/
def lenR (l : List Nat) : Nat := valL ((l.drop 16).take 4)
def hdOk (l : List Nat) : Prop := l.getD 0 0 = 78 ∧ l.getD 1 0 = 165 ∧ l.getD 2 0 ≤ 1 ∧ l.getD 3 0 = 0 ∧ lenR l ≤ 4096 ∧ ¬ (l.getD 2 0 = 1 ∧ 0 < lenR l)
instance (l : List Nat) : Decidable (hdOk l) := by unfold hdOk; infer_instance
def ckOk (l : List Nat) : Prop := leL (ext 0 (l.take (20 + lenR l))) = (l.drop (20 + lenR l)).take 4
instance (l : List Nat) : Decidable (ckOk l) := by unfold ckOk; infer_instance
def pdOk (l : List Nat) : Prop := ∀ i, i < szR (lenR l) → 24 + lenR l ≤ i → l.getD i 0 = 0
instance (l : List Nat) : Decidable (pdOk l) := by unfold pdOk; exact Nat.decidableBallLT _ _
def decE (l : List Nat) : Nat := if l.length < 20 then 4 else if ¬ hdOk l then 3 else if l.length < szR (lenR l) then 4 else if ¬ ckOk l then 5 else if ¬ pdOk l then 3 else 0
def decX (l : List Nat) : Ndl := if decE l = 0 then ⟨valL ((l.drop 8).take 8), valL ((l.drop 4).take 4), decide (l.getD 2 0 = 1), (l.drop 20).take (lenR l)⟩ else ⟨0, 0, false, []⟩
def decN (l : List Nat) : Nat := if decE l = 0 then szR (lenR l) else 0
theorem dec_ok {l : List Nat} (h1 : ¬ l.length < 20) (h2 : hdOk l) (h3 : ¬ l.length < szR (lenR l)) (h4 : ckOk l) (h5 : pdOk l) : decE l = 0 := by
  unfold decE
  rw [if_neg h1, if_neg (not_not_intro h2), if_neg h3, if_neg (not_not_intro h4), if_neg (not_not_intro h5)]
theorem dec_of {l : List Nat} (h : decE l = 0) : ¬ l.length < 20 ∧ hdOk l ∧ ¬ l.length < szR (lenR l) ∧ ckOk l ∧ pdOk l := by
  unfold decE at h
  by_cases h1 : l.length < 20
  · rw [if_pos h1] at h; cases h
  · rw [if_neg h1] at h
    by_cases h2 : hdOk l
    · rw [if_neg (not_not_intro h2)] at h
      by_cases h3 : l.length < szR (lenR l)
      · rw [if_pos h3] at h; cases h
      · rw [if_neg h3] at h
        by_cases h4 : ckOk l
        · rw [if_neg (not_not_intro h4)] at h
          by_cases h5 : pdOk l
          · exact ⟨h1, h2, h3, h4, h5⟩
          · rw [if_pos h5] at h; cases h
        · rw [if_pos h4] at h; cases h
    · rw [if_pos h2] at h; cases h
theorem revInd {P : List Nat → Prop} (h0 : P []) (h1 : ∀ l b, P l → P (l ++ [b])) (l : List Nat) : P l := by
  rw [← List.reverse_reverse l]
  induction l.reverse with
  | nil => exact h0
  | cons b m ih => rw [List.reverse_cons]; exact h1 _ _ ih
theorem valL_snoc (l : List Nat) (b : Nat) : valL (l ++ [b]) = valL l * 256 + b := by simp [valL]
theorem valL_lt : ∀ (l : List Nat), (∀ b ∈ l, b < 256) → valL l < 256 ^ l.length := by
  refine revInd ?_ ?_
  · intro _; decide
  · intro l b ih h
    have h1 := ih fun c hc => h c (by simp [hc])
    have h2 := h b (by simp)
    rw [valL_snoc, List.length_append, List.length_singleton, Nat.pow_succ]
    omega
theorem beL_succ (n v : Nat) : beL (n + 1) v = beL n (v / 256) ++ [v % 256] := by
  unfold beL
  rw [List.range_succ, List.map_append, List.map_singleton]
  congr 1
  · refine List.map_congr_left fun i hi => ?_
    rw [List.mem_range] at hi
    rw [Nat.div_div_eq_div_mul, ← Nat.pow_succ', show (n - 1 - i).succ = n + 1 - 1 - i by omega]
  · simp
theorem beL_val : ∀ (l : List Nat), (∀ b ∈ l, b < 256) → beL l.length (valL l) = l := by
  refine revInd ?_ ?_
  · intro _; rfl
  · intro l b ih h
    have h1 := ih fun c hc => h c (by simp [hc])
    have h2 := h b (by simp)
    rw [valL_snoc, List.length_append, List.length_singleton, beL_succ, show (valL l * 256 + b) / 256 = valL l by omega, show (valL l * 256 + b) % 256 = b by omega, h1]
theorem val_beL : ∀ n v, v < 256 ^ n → valL (beL n v) = v := by
  intro n
  induction n with
  | zero => intro v h; simp at h; subst h; rfl
  | succ n ih =>
    intro v h
    rw [Nat.pow_succ] at h
    rw [beL_succ, valL_snoc, ih _ (by omega)]
    omega
end Go.Proofs.YtbkhedfhnmkodaaDoor.Gf
