/- What is proved here: the plain mathematics of superblocks. No program text. -/
import Derived.Test.YtekdnloabhnngaaDoorM6
namespace Go.Proofs.YtekdnloabhnngaaDoor.Gf
open Go Go.Proofs.YtekdnloabhnngaaDoor.Crc

/-- A superblock is valid. -/
def okS (s g r : Int) : Bool := decide (0 ≤ s) && decide (s < 4) && decide (1 ≤ g) && decide (g ≤ 8) && decide (0 ≤ r) && decide (r < 4294967296)
theorem okS_iff {s g r : Int} : okS s g r = true ↔ 0 ≤ s ∧ s < 4 ∧ 1 ≤ g ∧ g ≤ 8 ∧ 0 ≤ r ∧ r < 4294967296 := by
  unfold okS
  simp only [Bool.and_eq_true, decide_eq_true_eq]
  constructor
  · rintro ⟨⟨⟨⟨⟨h1, h2⟩, h3⟩, h4⟩, h5⟩, h6⟩; exact ⟨h1, h2, h3, h4, h5, h6⟩
  · rintro ⟨h1, h2, h3, h4, h5, h6⟩; exact ⟨⟨⟨⟨⟨h1, h2⟩, h3⟩, h4⟩, h5⟩, h6⟩
def bodS (s g r : Nat) : List Nat := [78, 86, 79, 76] ++ beL 2 s ++ beL 2 g ++ beL 4 r
def encS (s g r : Nat) : List Nat := bodS s g r ++ leL (ext 0 (bodS s g r))
theorem bodS_length (s g r : Nat) : (bodS s g r).length = 12 := by simp [bodS, beL_length]
theorem encS_length (s g r : Nat) : (encS s g r).length = 16 := by simp [encS, bodS_length, leL_length]
theorem bodS_lt (s g r : Nat) : ∀ b ∈ bodS s g r, b < 256 := fun b hb => by
  simp only [bodS, List.mem_append, List.mem_cons, List.not_mem_nil, or_false] at hb
  rcases hb with (((h | h | h | h) | h) | h) | h
  · omega
  · omega
  · omega
  · omega
  all_goals exact beL_lt _ _ _ h
theorem encS_lt (s g r : Nat) : ∀ b ∈ encS s g r, b < 256 := fun b hb => by
  rcases List.mem_append.1 hb with hb | hb
  · exact bodS_lt s g r b hb
  · exact leL_lt _ b hb
def slS (l : List Nat) : Nat := valL ((l.drop 4).take 2)
def gnS (l : List Nat) : Nat := valL ((l.drop 6).take 2)
def rvS (l : List Nat) : Nat := valL ((l.drop 8).take 4)
open Classical in
/-- What Decode answers: the error. -/
noncomputable def dE7 (l : List Nat) : Nat := if l.length < 16 then 4 else if l.take 4 ≠ [78, 86, 79, 76] then 3 else if leL (ext 0 (l.take 12)) ≠ (l.drop 12).take 4 then 5 else if okS (slS l) (gnS l) (rvS l) = false then 3 else 0
theorem d7_of {l : List Nat} (h : dE7 l = 0) : ¬ l.length < 16 ∧ l.take 4 = [78, 86, 79, 76] ∧ leL (ext 0 (l.take 12)) = (l.drop 12).take 4 ∧ okS (slS l) (gnS l) (rvS l) = true := by
  unfold dE7 at h
  by_cases h1 : l.length < 16
  · rw [if_pos h1] at h; cases h
  rw [if_neg h1] at h
  by_cases h2 : l.take 4 = [78, 86, 79, 76]
  case neg => rw [if_pos h2] at h; cases h
  rw [if_neg (not_not_intro h2)] at h
  by_cases h3 : leL (ext 0 (l.take 12)) = (l.drop 12).take 4
  case neg => rw [if_pos h3] at h; cases h
  rw [if_neg (not_not_intro h3)] at h
  by_cases h4 : okS (slS l) (gnS l) (rvS l) = false
  · rw [if_pos h4] at h; cases h
  exact ⟨h1, h2, h3, by simpa using h4⟩
theorem d7_ok {l : List Nat} (h1 : ¬ l.length < 16) (h2 : l.take 4 = [78, 86, 79, 76]) (h3 : leL (ext 0 (l.take 12)) = (l.drop 12).take 4) (h4 : okS (slS l) (gnS l) (rvS l) = true) : dE7 l = 0 := by
  unfold dE7
  rw [if_neg h1, if_neg (not_not_intro h2), if_neg (not_not_intro h3), if_neg (by rw [h4]; decide)]
theorem take_pre {A T : List Nat} {n : Nat} (h : A.length = n) : (A ++ T).take n = A := by
  rw [← h]; exact List.take_left
theorem drop_pre {A T : List Nat} {n : Nat} (h : A.length = n) : (A ++ T).drop n = T := by
  rw [← h]; exact List.drop_left
/-- A superblock is read back, whatever follows it. -/
theorem back7 {s g r : Nat} (h : okS s g r = true) (T : List Nat) : dE7 (encS s g r ++ T) = 0 ∧ slS (encS s g r ++ T) = s ∧ gnS (encS s g r ++ T) = g ∧ rvS (encS s g r ++ T) = r := by
  obtain ⟨-, h2, -, h4, -, h6⟩ := okS_iff.1 h
  have e0 : encS s g r ++ T = [78, 86, 79, 76] ++ (beL 2 s ++ (beL 2 g ++ (beL 4 r ++ (leL (ext 0 (bodS s g r)) ++ T)))) := by simp [encS, bodS]
  have e1 : (encS s g r ++ T).drop 4 = beL 2 s ++ (beL 2 g ++ (beL 4 r ++ (leL (ext 0 (bodS s g r)) ++ T))) := by rw [e0]; exact drop_pre rfl
  have e2 : (encS s g r ++ T).drop 6 = beL 2 g ++ (beL 4 r ++ (leL (ext 0 (bodS s g r)) ++ T)) := by
    rw [show 6 = 4 + 2 from rfl, ← List.drop_drop, e1]; exact drop_pre (beL_length _ _)
  have e3 : (encS s g r ++ T).drop 8 = beL 4 r ++ (leL (ext 0 (bodS s g r)) ++ T) := by
    rw [show 8 = 6 + 2 from rfl, ← List.drop_drop, e2]; exact drop_pre (beL_length _ _)
  have a1 : slS (encS s g r ++ T) = s := by
    unfold slS; rw [e1, take_pre (beL_length _ _)]; exact val_beL _ _ (by omega)
  have a2 : gnS (encS s g r ++ T) = g := by
    unfold gnS; rw [e2, take_pre (beL_length _ _)]; exact val_beL _ _ (by omega)
  have a3 : rvS (encS s g r ++ T) = r := by
    unfold rvS; rw [e3, take_pre (beL_length _ _)]; exact val_beL _ _ (by omega)
  have e4 : encS s g r ++ T = bodS s g r ++ (leL (ext 0 (bodS s g r)) ++ T) := by simp [encS]
  refine ⟨d7_ok (by rw [List.length_append, encS_length]; omega) (by rw [e0]; exact take_pre rfl) ?_ (by rw [a1, a2, a3]; exact h), a1, a2, a3⟩
  rw [e4, take_pre (bodS_length _ _ _), drop_pre (bodS_length _ _ _), take_pre (leL_length _)]
/-- What is accepted of 16 bytes that differ from a superblock in a burst is the superblock. -/
theorem burst7 {s g r : Nat} {c : List Nat} {f k : Nat} (hc : ∀ b ∈ c, b < 256) (hlen : c.length = 16) (hf : f < 4294967296) (hn : num c = num (encS s g r) ^^^ f * 2 ^ k) (h0 : dE7 c = 0) : c = encS s g r := by
  obtain ⟨-, -, u3, -⟩ := d7_of h0
  have hcut : c = c.take 12 ++ leL (ext 0 (c.take 12)) := by
    rw [u3, show (c.drop 12).take 4 = c.drop 12 from List.take_of_length_le (by rw [List.length_drop, hlen]; decide), List.take_append_drop]
  have hct : ∀ b ∈ c.take 12, b < 256 := fun b hb => hc b (List.mem_of_mem_take hb)
  refine num_inj (by rw [hlen, encS_length]) hc (encS_lt s g r) ?_
  have cx := run_check (bodS_lt s g r)
  have cy := run_check hct
  rw [← hcut] at cy
  rw [show bodS s g r ++ leL (ext 0 (bodS s g r)) = encS s g r from rfl] at cx
  rw [run_num _ _ (encS_lt s g r), encS_length] at cx
  rw [run_num _ _ hc, hlen, hn] at cy
  have lA := num_lt _ (encS_lt s g r)
  have lC := num_lt _ hc
  rw [encS_length, show (256 : Nat) = 2 ^ 8 from rfl, ← Nat.pow_mul] at lA
  rw [hlen, show (256 : Nat) = 2 ^ 8 from rfl, ← Nat.pow_mul] at lC
  generalize num (encS s g r) = A at *
  have e : sgn (8 * 16) (f * 2 ^ k) = 0 := by
    rw [← Nat.xor_assoc, sgn_xor, cx] at cy
    have := congrArg (fun z => sgn 32 4294967295 ^^^ z) cy
    simpa [xor_self_left] using this
  have hz : f * 2 ^ k = 0 := by
    by_cases hk : k ≤ 128
    · rw [show 8 * 16 = k + (128 - k) by omega, sgn_add, Nat.mul_comm f, sgn_pow] at e
      rw [sgn_inj hf e, Nat.zero_mul]
    · have h3 : f * 2 ^ k < 2 ^ (8 * 16) := by
        have := Nat.xor_lt_two_pow lA lC
        rwa [hn, xor_self_left] at this
      have h4 : 2 ^ (8 * 16) ≤ 2 ^ k := Nat.pow_le_pow_right (by decide) (by omega)
      match f with
      | 0 => exact Nat.zero_mul _
      | f + 1 =>
        rw [Nat.add_mul, Nat.one_mul] at h3
        omega
  rw [hn, hz, Nat.xor_zero]
end Go.Proofs.YtekdnloabhnngaaDoor.Gf
