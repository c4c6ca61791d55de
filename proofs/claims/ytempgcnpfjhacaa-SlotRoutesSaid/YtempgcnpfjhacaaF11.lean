/- What is proved here: floats of whole numbers: what they read as, and that sums of them are exact. No program text. -/
import Derived.Laws.ComplexArith
namespace Go.Proofs.Ytempgcnpfjhacaa.Gf
open Go Ieee

/-- The rung of a whole number. -/
def rungN (m : Nat) : Nat := (m.log2 + 1022) * 2 ^ 52 + m * 2 ^ (52 - m.log2)
theorem log2_lo {m : Nat} (h : 0 < m) : 2 ^ m.log2 ≤ m := (Nat.le_log2 (by omega)).1 (Nat.le_refl _)
theorem log2_hi {m : Nat} : m < 2 ^ (m.log2 + 1) := Nat.lt_log2_self
theorem log2_le {m : Nat} (h : 0 < m) (hm : m < 2 ^ 53) : m.log2 ≤ 52 := by
  have h1 := (Nat.log2_lt (by omega) : m.log2 < 53 ↔ m < 2 ^ 53).2 hm
  omega
theorem kept_bd {m : Nat} (h : 0 < m) (hm : m < 2 ^ 53) : 2 ^ 52 ≤ m * 2 ^ (52 - m.log2) ∧ m * 2 ^ (52 - m.log2) < 2 ^ 53 := by
  have hl := log2_le h hm
  have h1 := log2_lo h
  have h2 := @log2_hi m
  constructor
  · calc 2 ^ 52 = 2 ^ m.log2 * 2 ^ (52 - m.log2) := by rw [← Nat.pow_add]; congr 1; omega
      _ ≤ _ := Nat.mul_le_mul_right _ h1
  · calc m * 2 ^ (52 - m.log2) < 2 ^ (m.log2 + 1) * 2 ^ (52 - m.log2) := Nat.mul_lt_mul_of_pos_right h2 (Nat.two_pow_pos _)
      _ = 2 ^ 53 := by rw [← Nat.pow_add]; congr 1; omega
theorem log2_shift {m : Nat} (h : 0 < m) (p : Nat) : (m * 2 ^ p).log2 = m.log2 + p := by
  refine (Nat.log2_eq_iff (by have := Nat.mul_pos h (Nat.two_pow_pos p); omega)).2 ⟨?_, ?_⟩
  · rw [Nat.pow_add]
    exact Nat.mul_le_mul_right _ (log2_lo h)
  · rw [show m.log2 + p + 1 = (m.log2 + 1) + p by omega, Nat.pow_add]
    exact Nat.mul_lt_mul_of_pos_right log2_hi (Nat.two_pow_pos p)
theorem cut_exact (way : Toward) (s : Bool) (k q : Nat) (hq : q ≤ (k * 2 ^ q).log2 + 2) : way.cut s (k * 2 ^ q) q = k := by
  unfold Toward.cut
  dsimp only
  rw [Nat.min_eq_left hq, Nat.one_shiftLeft, Nat.mul_div_cancel _ (Nat.two_pow_pos q), Nat.mul_mod_left]
  have h1 : (2 ^ q == 0) = false := by simp
  cases way <;> simp [h1]
theorem least_eq : double.leastPlace = -1074 := by decide
theorem nearest_nat (s : Bool) {m : Nat} (h : 0 < m) (hm : m < 2 ^ 53) (p : Nat) : double.nearest s (m * 2 ^ p) (-(p : Int)) = double.word s (rungN m) := by
  have hl := log2_le h hm
  have hk := kept_bd h hm
  have hpos : 0 < m * 2 ^ p := Nat.mul_pos h (Nat.two_pow_pos p)
  unfold Format.nearest
  rw [if_neg (by omega), log2_shift h, least_eq]
  dsimp only
  have e1 : max (-(p : Int) + ((m.log2 + p : Nat) : Int) - (double.fractionBits : Nat)) (-1074) = (m.log2 : Int) - 52 := by
    show max (-(p : Int) + ((m.log2 + p : Nat) : Int) - ((52 : Nat) : Int)) (-1074) = _
    omega
  rw [e1]
  have e2 : ((m.log2 : Int) - 52 - (-1074)).toNat = m.log2 + 1022 := by omega
  have e3 : Toward.even.cut s ((m * 2 ^ p) <<< (-(p : Int) - ((m.log2 : Int) - 52)).toNat) ((m.log2 : Int) - 52 - -(p : Int)).toNat = m * 2 ^ (52 - m.log2) := by
    by_cases c : p + m.log2 ≤ 52
    · have a1 : (-(p : Int) - ((m.log2 : Int) - 52)).toNat = 52 - m.log2 - p := by omega
      have a2 : ((m.log2 : Int) - 52 - -(p : Int)).toNat = 0 := by omega
      rw [a1, a2, Nat.shiftLeft_eq]
      have a3 := cut_exact .even s (m * 2 ^ p * 2 ^ (52 - m.log2 - p)) 0 (by omega)
      rw [Nat.pow_zero, Nat.mul_one] at a3
      rw [a3, Nat.mul_assoc, ← Nat.pow_add]
      congr 2
      omega
    · have a1 : (-(p : Int) - ((m.log2 : Int) - 52)).toNat = 0 := by omega
      have a2 : ((m.log2 : Int) - 52 - -(p : Int)).toNat = m.log2 + p - 52 := by omega
      rw [a1, a2, Nat.shiftLeft_zero]
      have a4 : m * 2 ^ p = m * 2 ^ (52 - m.log2) * 2 ^ (m.log2 + p - 52) := by
        rw [Nat.mul_assoc, ← Nat.pow_add]
        congr 2
        omega
      rw [a4]
      refine cut_exact .even s _ _ ?_
      rw [← a4, log2_shift h]
      omega
  rw [e2, e3]
  congr 1
  show min ((m.log2 + 1022) * 2 ^ 52 + m * 2 ^ (52 - m.log2)) (2047 * 2 ^ 52) = rungN m
  unfold rungN
  rw [Nat.min_eq_left]
  omega
theorem word_neg (s : Bool) {r : Nat} (h : r < 2 ^ 63) : (double.word s r / double.signWeight % 2 == 1) = s ∧ double.word s r % double.signWeight = r := by
  show (double.word s r / 2 ^ 63 % 2 == 1) = s ∧ double.word s r % 2 ^ 63 = r
  unfold Format.word
  cases s
  · rw [if_neg (by decide)]
    constructor
    · rw [Nat.div_eq_of_lt h]; rfl
    · exact Nat.mod_eq_of_lt h
  · rw [if_pos rfl]
    show ((2 ^ 63 + r) / 2 ^ 63 % 2 == 1) = true ∧ (2 ^ 63 + r) % 2 ^ 63 = r
    constructor
    · have : (2 ^ 63 + r) / 2 ^ 63 = 1 := by omega
      rw [this]; rfl
    · omega
/-- What a word reads as that has a whole significand. -/
theorem read_word (s : Bool) {e k : Nat} (he : e ≤ 2000) (h1 : 2 ^ 52 ≤ k) (h2 : k < 2 ^ 53) : double.read (double.word s (e * 2 ^ 52 + k)) = .number s k ((e : Int) - 1074) := by
  have hr : e * 2 ^ 52 + k < 2 ^ 63 := by omega
  obtain ⟨a1, a2⟩ := word_neg s hr
  unfold Format.read
  dsimp only
  rw [a1, a2, show double.binade = 2 ^ 52 from rfl, show double.infRung = 2047 * 2 ^ 52 from rfl, if_neg (show ¬ e * 2 ^ 52 + k < 2 ^ 52 by omega), if_pos (show e * 2 ^ 52 + k < 2047 * 2 ^ 52 by omega), least_eq]
  have b1 : 2 ^ 52 + (e * 2 ^ 52 + k) % 2 ^ 52 = k := by omega
  have b2 : (e * 2 ^ 52 + k) / 2 ^ 52 = e + 1 := by omega
  have b3 : (-1074 : Int) + ((e + 1 - 1 : Nat) : Int) = (e : Int) - 1074 := by omega
  rw [b1, b2, b3]
/-- The word of a whole number. -/
def flw (n : Int) : Nat := floatOfInt .f64 n
theorem flw_eq (n : Int) : flw n = double.nearest (decide (n < 0)) n.natAbs 0 := rfl
theorem flw_zero : flw 0 = 0 := by rw [flw_eq]; rfl
theorem flw_pos {n : Int} (h : n ≠ 0) (hn : n.natAbs < 2 ^ 53) : flw n = double.word (decide (n < 0)) (rungN n.natAbs) := by
  have := nearest_nat (decide (n < 0)) (m := n.natAbs) (by omega) hn 0
  rw [Nat.pow_zero, Nat.mul_one] at this
  rw [flw_eq]
  exact this
/-- What it reads as. -/
theorem flw_read {n : Int} (hn : n.natAbs < 2 ^ 53) : ∃ q : Nat, (n ≠ 0 → q ≤ 52) ∧ double.read (flw n) = .number (decide (n < 0)) (n.natAbs * 2 ^ q) (-(q : Int)) := by
  by_cases h : n = 0
  · subst h
    obtain ⟨q, hq⟩ : ∃ q : Nat, q = 1074 := ⟨_, rfl⟩
    refine ⟨q, fun h => absurd rfl h, ?_⟩
    rw [flw_zero, Int.natAbs_zero, Nat.zero_mul, hq]
    rfl
  · have h0 : 0 < n.natAbs := by omega
    obtain ⟨k1, k2⟩ := kept_bd h0 hn
    have hl := log2_le h0 hn
    refine ⟨52 - n.natAbs.log2, fun _ => by omega, ?_⟩
    rw [flw_pos h hn]
    unfold rungN
    rw [read_word _ (by omega) k1 k2, show ((n.natAbs.log2 + 1022 : Nat) : Int) - 1074 = -((52 - n.natAbs.log2 : Nat) : Int) by omega]
theorem signed_eq (n : Int) (q up : Nat) : signed (decide (n < 0)) (n.natAbs * 2 ^ q) up = n * 2 ^ (q + up) := by
  unfold signed
  rw [Nat.shiftLeft_eq, Nat.mul_assoc, ← Nat.pow_add]
  by_cases h : n < 0
  · rw [if_pos (decide_eq_true h)]
    have : (n.natAbs : Int) = -n := by omega
    push_cast
    rw [this, Int.neg_mul, Int.neg_neg]
  · rw [if_neg (by simpa using h)]
    have : (n.natAbs : Int) = n := by omega
    push_cast
    rw [this]
theorem write_exact {c : Int} (hc : c.natAbs < 2 ^ 53) (Q : Nat) : double.write (.number (decide (c < 0)) (c * 2 ^ Q).natAbs (-(Q : Int))) = flw c := by
  show double.nearest _ _ _ = _
  rw [Int.natAbs_mul]
  have e : ((2 : Int) ^ Q).natAbs = 2 ^ Q := by
    rw [Int.natAbs_pow]; rfl
  rw [e]
  by_cases h : c = 0
  · subst h
    rw [flw_zero]
    unfold Format.nearest
    rw [if_pos (by simp)]
    rfl
  · rw [nearest_nat _ (by omega) hc, flw_pos h hc]
theorem pow2_pos (q : Nat) : (0 : Int) < 2 ^ q := Int.pow_pos (by decide)
/-- A sum of whole numbers is exact. -/
theorem add_flw {a b : Int} (ha : a.natAbs < 2 ^ 53) (hb : b.natAbs < 2 ^ 53) (hc : (a + b).natAbs < 2 ^ 53) : floatBits .add .f64 (flw a) (flw b) = some (flw (a + b)) := by
  show double.add (flw a) (flw b) = _
  obtain ⟨p, -, e1⟩ := flw_read ha
  obtain ⟨q, -, e2⟩ := flw_read hb
  unfold Format.add
  rw [e1, e2]
  unfold Datum.sum
  dsimp only
  rw [Option.map_some]
  have eb : min (-(p : Int)) (-(q : Int)) = -((max p q : Nat) : Int) := by omega
  have u1 : (-(p : Int) - -((max p q : Nat) : Int)).toNat = max p q - p := by omega
  have u2 : (-(q : Int) - -((max p q : Nat) : Int)).toNat = max p q - q := by omega
  rw [eb, u1, u2, signed_eq, signed_eq, show p + (max p q - p) = max p q by omega, show q + (max p q - q) = max p q by omega, ← Int.add_mul]
  have hp := pow2_pos (max p q)
  congr 1
  rw [← write_exact hc (max p q)]
  congr 2
  by_cases h : a + b = 0
  · rw [if_pos (by rw [h, Int.zero_mul]), h]
    by_cases ha0 : a < 0
    · rw [decide_eq_false (show ¬ b < 0 by omega)]; simp
    · rw [decide_eq_false ha0]; simp
  · rw [if_neg (by intro e; rcases Int.mul_eq_zero.1 e with e | e <;> omega)]
    by_cases hs : a + b < 0
    · rw [decide_eq_true hs, decide_eq_true (Int.mul_neg_of_neg_of_pos hs hp)]
    · rw [decide_eq_false hs, decide_eq_false (by have := Int.mul_nonneg (show 0 ≤ a + b by omega) (Int.le_of_lt hp); omega)]
/-- A float of a whole number is cut to it. -/
theorem int_flw {n : Int} (hn : n.natAbs < 2 ^ 53) : floatToIntVal .f64 (flw n) .i64 = some n := by
  obtain ⟨q, hq, e⟩ := flw_read hn
  unfold floatToIntVal
  have e2 : (FloatKind.f64.decode (flw n)).toInt .zero = some n := by
    show (double.read (flw n)).toInt .zero = some n
    rw [e]
    unfold Datum.toInt Datum.integral
    dsimp only
    have u1 : (-(q : Int)).toNat = 0 := by omega
    have u2 : (- -(q : Int)).toNat = q := by omega
    rw [u1, u2, Nat.shiftLeft_zero]
    have e3 : Toward.zero.cut (decide (n < 0)) (n.natAbs * 2 ^ q) q = n.natAbs := by
      by_cases h : n = 0
      · subst h
        unfold Toward.cut
        simp
      · exact cut_exact .zero _ _ _ (by rw [log2_shift (by omega)]; omega)
    rw [e3]
    have e4 := signed_eq n 0 0
    rw [Nat.pow_zero, Nat.mul_one, Int.pow_zero, Int.mul_one] at e4
    rw [e4]
  rw [e2]
  dsimp only
  rw [if_pos]
  show -9223372036854775808 ≤ n ∧ n ≤ 9223372036854775807
  omega
end Go.Proofs.Ytempgcnpfjhacaa.Gf
