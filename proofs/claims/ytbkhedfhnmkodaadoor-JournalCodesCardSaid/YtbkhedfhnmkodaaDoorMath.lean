/- What is proved here: the plain mathematics of CRC-32C on natural numbers (the register as a number, bytes as a number in base 256). No condition; no program text. -/
namespace Go.Proofs.YtbkhedfhnmkodaaDoor.Crc

/-- One shift of the register. -/
def sg (x : Nat) : Nat := x / 2 ^^^ (x % 2 * 2197175160)
/-- n shifts. -/
def sgn : Nat → Nat → Nat
  | 0, x => x
  | n + 1, x => sgn n (sg x)

theorem xor_div2 (x y : Nat) : (x ^^^ y) / 2 = x / 2 ^^^ y / 2 := by
  have := Nat.xor_div_two_pow (a := x) (b := y) (n := 1)
  simpa using this
theorem xor_mod2 (x y : Nat) : (x ^^^ y) % 2 = (x % 2 ^^^ y % 2) := by
  have := Nat.xor_mod_two_pow (a := x) (b := y) (n := 1)
  simpa using this
theorem xor_ac (a b c d : Nat) : (a ^^^ b) ^^^ (c ^^^ d) = (a ^^^ c) ^^^ (b ^^^ d) := by
  rw [Nat.xor_assoc, Nat.xor_assoc, ← Nat.xor_assoc b c d, Nat.xor_comm b c, Nat.xor_assoc c b d]
theorem sg_xor (x y : Nat) : sg (x ^^^ y) = sg x ^^^ sg y := by
  unfold sg
  rw [xor_div2, xor_mod2, xor_ac]
  congr 1
  rcases Nat.mod_two_eq_zero_or_one x with h | h <;> rcases Nat.mod_two_eq_zero_or_one y with h' | h' <;> simp [h, h']
theorem sgn_xor (n x y : Nat) : sgn n (x ^^^ y) = sgn n x ^^^ sgn n y := by
  induction n generalizing x y with
  | zero => rfl
  | succ n ih => simp only [sgn, sg_xor, ih]
theorem sgn_add (m n x : Nat) : sgn (m + n) x = sgn n (sgn m x) := by
  induction m generalizing x with
  | zero => simp [sgn]
  | succ m ih => rw [show m + 1 + n = (m + n) + 1 by omega]; simp only [sgn, ih]
theorem sgn_zero (n : Nat) : sgn n 0 = 0 := by
  induction n with
  | zero => rfl
  | succ n ih => simpa [sgn, sg] using ih
theorem sg_even (x : Nat) : sg (2 * x) = x := by
  simp [sg]
theorem sgn_pow (n x : Nat) : sgn n (2 ^ n * x) = x := by
  induction n generalizing x with
  | zero => simp [sgn]
  | succ n ih => rw [sgn, show 2 ^ (n + 1) * x = 2 * (2 ^ n * x) by rw [Nat.pow_succ, Nat.mul_comm (2 ^ n) 2, Nat.mul_assoc], sg_even, ih]
theorem sg_lt {x : Nat} (h : x < 4294967296) : sg x < 4294967296 := by
  unfold sg
  refine Nat.xor_lt_two_pow (n := 32) (by omega) ?_
  rcases Nat.mod_two_eq_zero_or_one x with h | h <;> rw [h] <;> decide
theorem sgn_lt {n x : Nat} (h : x < 4294967296) : sgn n x < 4294967296 := by
  induction n generalizing x with
  | zero => exact h
  | succ n ih => exact ih (sg_lt h)
theorem eq_of_xor {a b : Nat} (h : a ^^^ b = 0) : a = b := by
  have := congrArg (· ^^^ b) h
  simpa [Nat.xor_assoc] using this
theorem sg_inj {x : Nat} (h : x < 4294967296) (h0 : sg x = 0) : x = 0 := by
  unfold sg at h0
  have e := eq_of_xor h0
  rcases Nat.mod_two_eq_zero_or_one x with h' | h' <;> rw [h'] at e <;> omega
theorem sgn_inj {n x : Nat} (h : x < 4294967296) (h0 : sgn n x = 0) : x = 0 := by
  induction n generalizing x with
  | zero => exact h0
  | succ n ih => exact sg_inj h (ih (sg_lt h) h0)

/-- Bytes as a number, the first byte least. -/
def num : List Nat → Nat
  | [] => 0
  | b :: l => b + 256 * num l
/-- The register behind the bytes l. -/
def run : Nat → List Nat → Nat
  | r, [] => r
  | r, b :: l => run (sgn 8 (r ^^^ b)) l
theorem add_eq_xor (b m : Nat) (h : b < 256) : b + 256 * m = 256 * m ^^^ b := by
  have := Nat.two_pow_add_eq_or_of_lt (i := 8) (b := b) (by simpa using h) m
  have h2 : 2 ^ 8 * m ||| b = 2 ^ 8 * m ^^^ b := by
    apply Nat.eq_of_testBit_eq
    intro i
    rw [Nat.testBit_or, Nat.testBit_xor, Nat.testBit_two_pow_mul]
    by_cases hi : 8 ≤ i
    · have : b.testBit i = false := Nat.testBit_lt_two_pow (Nat.lt_of_lt_of_le h (by simpa using Nat.pow_le_pow_right (n := 2) (by decide) hi))
      simp [this]
    · simp [hi]
  simp only [Nat.reducePow] at this h2
  omega
theorem run_num (r : Nat) (l : List Nat) (h : ∀ b ∈ l, b < 256) : run r l = sgn (8 * l.length) (r ^^^ num l) := by
  induction l generalizing r with
  | nil => simp [run, sgn, num]
  | cons b l ih =>
    rw [run, ih _ (fun x hx => h x (by simp [hx])), num, add_eq_xor b _ (h b (by simp)), List.length_cons, show 8 * (l.length + 1) = 8 + 8 * l.length by omega, sgn_add, Nat.xor_comm (256 * num l) b, ← Nat.xor_assoc, sgn_xor 8 (r ^^^ b), show (256 : Nat) = 2 ^ 8 by decide, sgn_pow]
theorem run_append (r : Nat) (l m : List Nat) : run r (l ++ m) = run (run r l) m := by
  induction l generalizing r with
  | nil => rfl
  | cons b l ih => simpa [run] using ih _
theorem run_lt {r : Nat} {l : List Nat} (hr : r < 4294967296) (h : ∀ b ∈ l, b < 256) : run r l < 4294967296 := by
  induction l generalizing r with
  | nil => exact hr
  | cons b l ih => exact ih (sgn_lt (Nat.xor_lt_two_pow (n := 32) hr (by have := h b (by simp); omega))) (fun x hx => h x (by simp [hx]))
/-- The checksum of l, begun with the checksum c. -/
def ext (c : Nat) (l : List Nat) : Nat := 4294967295 ^^^ run (4294967295 ^^^ c) l

/-- The table of four shifts. -/
def nib (i : Nat) : Nat := [0, 274646895, 549293790, 820201905, 1098587580, 1361435347, 1640403810, 1905808397, 2197175160, 2460548119, 2722870694, 2987750089, 3280807620, 3553878443, 3811616794, 4084100981].getD i 0
theorem nib_sgn : ∀ i, i < 16 → sgn 4 i = nib i := by decide
theorem nib_lt : ∀ i, i < 16 → nib i < 4294967296 := by decide
theorem div_xor (x i : Nat) (h : i < 16) : 16 * x + i = 16 * x ^^^ i := by
  have h2 := Nat.two_pow_add_eq_or_of_lt (i := 4) (b := i) (by simpa using h) x
  have h3 : 2 ^ 4 * x ||| i = 2 ^ 4 * x ^^^ i := by
    apply Nat.eq_of_testBit_eq
    intro j
    rw [Nat.testBit_or, Nat.testBit_xor, Nat.testBit_two_pow_mul]
    by_cases hi : 4 ≤ j
    · have : i.testBit j = false := Nat.testBit_lt_two_pow (Nat.lt_of_lt_of_le h (by simpa using Nat.pow_le_pow_right (n := 2) (by decide) hi))
      simp [this]
    · simp [hi]
  simp only [Nat.reducePow] at h2 h3
  omega
theorem four (x : Nat) : x / 16 ^^^ nib (x % 16) = sgn 4 x := by
  have h := div_xor (x / 16) (x % 16) (Nat.mod_lt _ (by decide))
  have h2 : x = 16 * (x / 16) ^^^ (x % 16) := by rw [← h]; omega
  conv => rhs; rw [h2, sgn_xor, show (16 : Nat) = 2 ^ 4 by decide, sgn_pow]
  rw [← nib_sgn (x % 16) (Nat.mod_lt _ (by decide))]
/-- The bit k of v, and the bits below it. -/
theorem bit_step (v k : Nat) : v % 2 ^ (k + 1) = v % 2 ^ k ^^^ (v / 2 ^ k % 2 * 2 ^ k) := by
  apply Nat.eq_of_testBit_eq
  intro i
  rw [Nat.testBit_xor, Nat.testBit_mod_two_pow, Nat.testBit_mod_two_pow, Nat.mul_comm, Nat.testBit_two_pow_mul]
  by_cases h : i < k
  · have h1 : i < k + 1 := by omega
    have h2 : ¬ k ≤ i := by omega
    simp [h, h1, h2]
  · by_cases h' : i = k
    · subst h'
      rw [Nat.testBit_eq_decide_div_mod_eq]
      rcases Nat.mod_two_eq_zero_or_one (v / 2 ^ i) with e | e <;> simp [e]
    · have h1 : ¬ i < k + 1 := by omega
      have h2 : k ≤ i := by omega
      have h3 : (v / 2 ^ k % 2).testBit (i - k) = false := Nat.testBit_lt_two_pow (Nat.lt_of_lt_of_le (Nat.mod_lt _ (by decide)) (by simpa using Nat.pow_le_pow_right (n := 2) (by decide) (show 1 ≤ i - k by omega)))
      simp [h, h1, h2, h3]
theorem sgn_bit0 (n v k : Nat) (h : v / 2 ^ k % 2 = 0) : sgn n (v % 2 ^ (k + 1)) = sgn n (v % 2 ^ k) := by
  rw [bit_step, h, Nat.zero_mul, Nat.xor_zero]
theorem sgn_bit1 (n v k : Nat) (h : v / 2 ^ k % 2 = 1) : sgn n (v % 2 ^ (k + 1)) = sgn n (v % 2 ^ k) ^^^ sgn n (2 ^ k) := by
  rw [bit_step, h, Nat.one_mul, sgn_xor]
theorem div_step (v k : Nat) : v / 2 ^ k / 2 = v / 2 ^ (k + 1) := by rw [Nat.div_div_eq_div_mul, Nat.pow_succ]
end Go.Proofs.YtbkhedfhnmkodaaDoor.Crc
