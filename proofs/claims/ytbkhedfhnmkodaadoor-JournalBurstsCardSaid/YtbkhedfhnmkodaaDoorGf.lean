/- What is proved here: the plain mathematics of the field with 256 elements, on natural numbers below 256 (products modulo 0x11d, powers of 2, logarithms, inverses). No program text. -/
namespace Go.Proofs.YtbkhedfhnmkodaaDoor.Gf

/-- Times x. -/
def xt (a : Nat) : Nat := (2 * a) ^^^ (a / 128 * 285)
/-- The sum of b's bits times a, times xa, .. -/
def gmk : Nat → Nat → Nat → Nat
  | 0, _, _ => 0
  | k + 1, a, b => (b % 2 * a) ^^^ gmk k (xt a) (b / 2)
/-- The product. -/
def gm (a b : Nat) : Nat := gmk 8 a b

theorem xor_ac (a b c d : Nat) : (a ^^^ b) ^^^ (c ^^^ d) = (a ^^^ c) ^^^ (b ^^^ d) := by
  rw [Nat.xor_assoc, Nat.xor_assoc, ← Nat.xor_assoc b c d, Nat.xor_comm b c, Nat.xor_assoc c b d]
theorem xor_lt {a b : Nat} (h : a < 256) (h' : b < 256) : a ^^^ b < 256 := Nat.xor_lt_two_pow (n := 8) h h'
theorem two_xor (a b : Nat) : 2 * (a ^^^ b) = 2 * a ^^^ 2 * b := by
  have := Nat.shiftLeft_xor_distrib (a := a) (b := b) (i := 1)
  simp only [Nat.shiftLeft_eq] at this
  rw [Nat.mul_comm 2, Nat.mul_comm 2, Nat.mul_comm 2]
  exact this
theorem xor_div (a b k : Nat) : (a ^^^ b) / 2 ^ k = a / 2 ^ k ^^^ b / 2 ^ k := Nat.xor_div_two_pow
theorem xor_mod2 (x y : Nat) : (x ^^^ y) % 2 = (x % 2 ^^^ y % 2) := by
  have := Nat.xor_mod_two_pow (a := x) (b := y) (n := 1)
  simpa using this
theorem bit_mul {x y : Nat} (c : Nat) (hx : x < 2) (hy : y < 2) : (x ^^^ y) * c = x * c ^^^ y * c := by
  have h1 : x = 0 ∨ x = 1 := by omega
  have h2 : y = 0 ∨ y = 1 := by omega
  rcases h1 with rfl | rfl <;> rcases h2 with rfl | rfl <;> simp
theorem mul_bit_xor {b : Nat} (x y : Nat) (hb : b < 2) : b * (x ^^^ y) = b * x ^^^ b * y := by
  have h1 : b = 0 ∨ b = 1 := by omega
  rcases h1 with rfl | rfl <;> simp
theorem xt_xor {a b : Nat} (ha : a < 256) (hb : b < 256) : xt (a ^^^ b) = xt a ^^^ xt b := by
  unfold xt
  have h := xor_div a b 7
  simp only [Nat.reducePow] at h
  rw [two_xor, h, bit_mul 285 (by omega) (by omega), xor_ac]
theorem xt_lt {a : Nat} (ha : a < 256) : xt a < 256 := by
  have h : ∀ a, a < 256 → xt a < 256 := by decide +kernel
  exact h a ha
theorem gmk_lt : ∀ (k : Nat) {a b : Nat}, a < 256 → gmk k a b < 256
  | 0, _, _, _ => by simp [gmk]
  | k + 1, a, b, ha => by
    have h1 : b % 2 * a < 256 := by
      have : b % 2 = 0 ∨ b % 2 = 1 := by omega
      rcases this with h | h <;> rw [h] <;> omega
    exact xor_lt h1 (gmk_lt k (xt_lt ha))
theorem gm_lt {a b : Nat} (ha : a < 256) : gm a b < 256 := gmk_lt 8 ha
theorem gmk_right : ∀ (k a b c : Nat), gmk k a (b ^^^ c) = gmk k a b ^^^ gmk k a c
  | 0, _, _, _ => by simp [gmk]
  | k + 1, a, b, c => by
    have h := xor_div b c 1
    simp only [Nat.pow_one] at h
    rw [gmk, gmk, gmk, xor_mod2, h, gmk_right, bit_mul a (by omega) (by omega), xor_ac]
theorem gmk_left : ∀ (k : Nat) {a b : Nat} (c : Nat), a < 256 → b < 256 → gmk k (a ^^^ b) c = gmk k a c ^^^ gmk k b c
  | 0, _, _, _, _, _ => by simp [gmk]
  | k + 1, a, b, c, ha, hb => by
    rw [gmk, gmk, gmk, xt_xor ha hb, gmk_left k _ (xt_lt ha) (xt_lt hb), mul_bit_xor a b (by omega), xor_ac]
theorem gm_right (a b c : Nat) : gm a (b ^^^ c) = gm a b ^^^ gm a c := gmk_right 8 a b c
theorem gm_left {a b : Nat} (c : Nat) (ha : a < 256) (hb : b < 256) : gm (a ^^^ b) c = gm a c ^^^ gm b c := gmk_left 8 c ha hb

theorem bit_step (v k : Nat) : v % 2 ^ (k + 1) = v % 2 ^ k ^^^ (v / 2 ^ k % 2 * 2 ^ k) := by
  apply Nat.eq_of_testBit_eq
  intro i
  rw [Nat.testBit_xor, Nat.testBit_mod_two_pow, Nat.testBit_mod_two_pow, Nat.mul_comm, Nat.testBit_two_pow_mul]
  by_cases h : i < k
  · have h1 : i < k + 1 := by omega
    have h2 : ¬ k ≤ i := by omega
    simp [h, h1, h2]
  · by_cases h' : i = k
    · subst h'
      rw [Nat.testBit_eq_decide_div_mod_eq]
      rcases Nat.mod_two_eq_zero_or_one (v / 2 ^ i) with e | e <;> simp [e]
    · have h1 : ¬ i < k + 1 := by omega
      have h2 : k ≤ i := by omega
      have h3 : (v / 2 ^ k % 2).testBit (i - k) = false := Nat.testBit_lt_two_pow (Nat.lt_of_lt_of_le (Nat.mod_lt _ (by decide)) (by simpa using Nat.pow_le_pow_right (n := 2) (by decide) (show 1 ≤ i - k by omega)))
      simp [h, h1, h2, h3]
/-- A linear map on bytes. -/
def Lin (f : Nat → Nat) : Prop := ∀ x y, x < 256 → y < 256 → f (x ^^^ y) = f x ^^^ f y
theorem Lin.zero {f : Nat → Nat} (h : Lin f) : f 0 = 0 := by
  have := h 0 0 (by decide) (by decide)
  simp at this
  exact this
/-- Two linear maps that agree on the bits agree. -/
theorem lin_ext {f g : Nat → Nat} (hf : Lin f) (hg : Lin g) (h : ∀ i, i < 8 → f (2 ^ i) = g (2 ^ i)) {v : Nat} (hv : v < 256) : f v = g v := by
  have key : ∀ k, k ≤ 8 → f (v % 2 ^ k) = g (v % 2 ^ k) := by
    intro k
    induction k with
    | zero => intro _; simp [Nat.mod_one, hf.zero, hg.zero]
    | succ k ih =>
      intro hk
      have hp : 2 ^ k < 256 := Nat.lt_of_lt_of_le (Nat.pow_lt_pow_right (by decide) (show k < 8 by omega)) (by decide)
      have hm : v % 2 ^ k < 256 := Nat.lt_of_le_of_lt (Nat.mod_le _ _) hv
      rw [bit_step]
      have : v / 2 ^ k % 2 = 0 ∨ v / 2 ^ k % 2 = 1 := by omega
      rcases this with e | e
      · rw [e, Nat.zero_mul, Nat.xor_zero]
        exact ih (by omega)
      · rw [e, Nat.one_mul, hf _ _ hm hp, hg _ _ hm hp, ih (by omega), h k (by omega)]
  have := key 8 (Nat.le_refl _)
  rwa [Nat.mod_eq_of_lt (by simpa using hv)] at this
theorem lin_gm_left (c : Nat) : Lin fun a => gm a c := fun _ _ hx hy => gm_left c hx hy
theorem lin_gm_right (a : Nat) : Lin fun b => gm a b := fun x y _ _ => gm_right a x y
theorem gm_comm {a b : Nat} (ha : a < 256) (hb : b < 256) : gm a b = gm b a :=
  lin_ext (f := fun a => gm a b) (g := fun a => gm b a) (lin_gm_left b) (lin_gm_right b) (fun i hi => by
    have hd : ∀ i, i < 8 → ∀ j, j < 8 → gm (2 ^ i) (2 ^ j) = gm (2 ^ j) (2 ^ i) := by decide +kernel
    exact lin_ext (f := fun b => gm (2 ^ i) b) (g := fun b => gm b (2 ^ i)) (lin_gm_right _) (lin_gm_left _) (hd i hi) hb) ha
theorem Lin.comp {f g : Nat → Nat} (hf : Lin f) (hg : Lin g) (hl : ∀ x, x < 256 → g x < 256) : Lin fun x => f (g x) := fun x y hx hy => by
  show f (g (x ^^^ y)) = f (g x) ^^^ f (g y)
  rw [hg x y hx hy, hf _ _ (hl x hx) (hl y hy)]
theorem pow_lt {i : Nat} (h : i < 8) : 2 ^ i < 256 := Nat.lt_of_lt_of_le (Nat.pow_lt_pow_right (by decide) h) (by decide)
theorem gm_assoc {a b c : Nat} (ha : a < 256) (hb : b < 256) (hc : c < 256) : gm (gm a b) c = gm a (gm b c) := by
  have hd : ∀ i, i < 8 → ∀ j, j < 8 → ∀ k, k < 8 → gm (gm (2 ^ i) (2 ^ j)) (2 ^ k) = gm (2 ^ i) (gm (2 ^ j) (2 ^ k)) := by decide +kernel
  refine lin_ext (f := fun a => gm (gm a b) c) (g := fun a => gm a (gm b c)) ((lin_gm_left c).comp (lin_gm_left b) fun x hx => gm_lt hx) (lin_gm_left _) (fun i hi => ?_) ha
  refine lin_ext (f := fun b => gm (gm (2 ^ i) b) c) (g := fun b => gm (2 ^ i) (gm b c)) ((lin_gm_left c).comp (lin_gm_right _) fun x _ => gm_lt (pow_lt hi)) ((lin_gm_right _).comp (lin_gm_left c) fun x hx => gm_lt hx) (fun j hj => ?_) hb
  exact lin_ext (f := fun c => gm (gm (2 ^ i) (2 ^ j)) c) (g := fun c => gm (2 ^ i) (gm (2 ^ j) c)) (lin_gm_right _) ((lin_gm_right _).comp (lin_gm_right _) fun x _ => gm_lt (pow_lt hj)) (hd i hi j hj) hc
theorem gm_one {a : Nat} (_ha : a < 256) : gm a 1 = a := by
  simp [gm, gmk]
theorem gmk_zero_right : ∀ k a, gmk k a 0 = 0
  | 0, _ => rfl
  | k + 1, a => by simp [gmk, gmk_zero_right k]
theorem gm_zero_right (a : Nat) : gm a 0 = 0 := gmk_zero_right 8 a
theorem gm_zero_left {b : Nat} (hb : b < 256) : gm 0 b = 0 := by rw [gm_comm (by decide) hb, gm_zero_right]
theorem gm_two {a : Nat} (ha : a < 256) : gm a 2 = xt a := by
  have h : ∀ a, a < 256 → gm a 2 = xt a := by decide +kernel
  exact h a ha

/-- The powers of 2. -/
def ex : Nat → Nat
  | 0 => 1
  | n + 1 => xt (ex n)
theorem ex_lt : ∀ n, ex n < 256
  | 0 => by decide
  | n + 1 => xt_lt (ex_lt n)
theorem ex_add (m n : Nat) : ex (m + n) = gm (ex m) (ex n) := by
  induction n with
  | zero => exact (gm_one (ex_lt m)).symm
  | succ n ih => rw [← Nat.add_assoc, ex, ex, ih, ← gm_two (gm_lt (ex_lt m)), ← gm_two (ex_lt n), gm_assoc (ex_lt m) (ex_lt n) (by decide)]
theorem ex_255 : ex 255 = 1 := by decide +kernel
theorem ex_period (n k : Nat) : ex (n + 255 * k) = ex n := by
  induction k with
  | zero => rfl
  | succ k ih => rw [show n + 255 * (k + 1) = (n + 255 * k) + 255 by omega, ex_add, ex_255, gm_one (ex_lt _), ih]
theorem ex_mod (n : Nat) : ex (n % 255) = ex n := by
  have := ex_period (n % 255) (n / 255)
  rw [show n % 255 + 255 * (n / 255) = n by omega] at this
  exact this.symm
/-- The list of the powers, for reckoning. -/
def exs : Nat → Nat → List Nat
  | 0, _ => []
  | k + 1, a => a :: exs k (xt a)
def lgIn : List Nat → Nat → Nat → Nat
  | [], n, _ => n
  | x :: l, n, a => if x = a then n else lgIn l (n + 1) a
/-- The logarithm. -/
def lg (a : Nat) : Nat := lgIn (exs 255 1) 0 a
theorem exs_get : ∀ (k n i : Nat), i < k → (exs k (ex n))[i]? = some (ex (n + i))
  | 0, _, _, h => by omega
  | k + 1, n, 0, _ => by simp [exs]
  | k + 1, n, i + 1, h => by
    have := exs_get k (n + 1) i (by omega)
    rw [exs]
    simpa [ex, Nat.add_assoc, Nat.add_comm 1 i] using this
theorem lg_all : ∀ a, a < 256 → a ≠ 0 → lg a < 255 ∧ (exs 255 1)[lg a]? = some a := by decide +kernel
theorem lg_ex_all : ∀ i, i < 255 → (exs 255 1)[i]?.map lg = some i := by decide +kernel
theorem lg_lt {a : Nat} (ha : a < 256) (h0 : a ≠ 0) : lg a < 255 := (lg_all a ha h0).1
theorem ex_lg {a : Nat} (ha : a < 256) (h0 : a ≠ 0) : ex (lg a) = a := by
  obtain ⟨h1, h2⟩ := lg_all a ha h0
  have := exs_get 255 0 (lg a) h1
  rw [show ex 0 = 1 from rfl, h2, Nat.zero_add] at this
  exact (Option.some.inj this).symm
theorem lg_ex {n : Nat} (h : n < 255) : lg (ex n) = n := by
  have h1 := lg_ex_all n h
  have h2 := exs_get 255 0 n h
  rw [show ex 0 = 1 from rfl, Nat.zero_add] at h2
  rw [h2] at h1
  simpa using h1
theorem ex_ne (n : Nat) : ex n ≠ 0 := by
  intro h
  have h1 : ex (n % 255) = 0 := by rw [ex_mod, h]
  have h2 : ∀ i, i < 255 → (exs 255 1)[i]? ≠ some 0 := by decide +kernel
  have h3 := exs_get 255 0 (n % 255) (Nat.mod_lt _ (by decide))
  rw [show ex 0 = 1 from rfl, Nat.zero_add, h1] at h3
  exact h2 _ (Nat.mod_lt _ (by decide)) h3
/-- The product by logarithms. -/
theorem gm_lg {a b : Nat} (ha : a < 256) (hb : b < 256) (h0 : a ≠ 0) (h1 : b ≠ 0) : gm a b = ex (lg a + lg b) := by
  rw [ex_add, ex_lg ha h0, ex_lg hb h1]
/-- The inverse. -/
def iv (a : Nat) : Nat := ex ((255 - lg a) % 255)
theorem gm_iv {a : Nat} (ha : a < 256) (h0 : a ≠ 0) : gm a (iv a) = 1 := by
  have h := lg_lt ha h0
  have := gm_lg ha (ex_lt ((255 - lg a) % 255)) h0 (ex_ne _)
  rw [lg_ex (Nat.mod_lt _ (by decide))] at this
  unfold iv
  rw [this, ← ex_mod, Nat.add_mod_mod, show lg a + (255 - lg a) = 255 by omega]
  rfl
theorem iv_lt (a : Nat) : iv a < 256 := ex_lt _
theorem gm_eq_zero {a b : Nat} (ha : a < 256) (hb : b < 256) : gm a b = 0 ↔ a = 0 ∨ b = 0 := by
  constructor
  · intro h
    by_cases h0 : a = 0
    · exact Or.inl h0
    · by_cases h1 : b = 0
      · exact Or.inr h1
      · rw [gm_lg ha hb h0 h1] at h
        exact absurd h (ex_ne _)
  · rintro (rfl | rfl)
    · exact gm_zero_left hb
    · exact gm_zero_right a
theorem gm_cancel {a b c : Nat} (ha : a < 256) (hb : b < 256) (hc : c < 256) (h0 : c ≠ 0) (h : gm a c = gm b c) : a = b := by
  have h1 : gm (a ^^^ b) c = 0 := by rw [gm_left c ha hb, h, Nat.xor_self]
  rcases (gm_eq_zero (xor_lt ha hb) hc).1 h1 with h2 | h2
  · have := congrArg (· ^^^ b) h2
    simpa [Nat.xor_assoc] using this
  · exact absurd h2 h0
theorem iv_unique {a b : Nat} (ha : a < 256) (hb : b < 256) (h : gm a b = 1) : b = iv a := by
  have h0 : a ≠ 0 := by
    rintro rfl
    rw [gm_zero_left hb] at h
    omega
  have h1 := gm_iv ha h0
  refine gm_cancel hb (iv_lt a) ha h0 ?_
  rw [gm_comm hb ha, gm_comm (iv_lt a) ha, h, h1]
/-- The reference's reduction of a product of polynomials. -/
def red : Nat → Nat → Nat
  | 0, p => p
  | k + 1, p => red k (p ^^^ (p / 2 ^ (k + 8) % 2 * (285 * 2 ^ k)))
/-- The reference's product before the reduction. -/
def raw : Nat → Nat → Nat → Nat
  | 0, _, _ => 0
  | k + 1, a, b => raw k a b ^^^ (b / 2 ^ k % 2 * (a * 2 ^ k))
theorem mul_pow_xor (k a b : Nat) : (a ^^^ b) * 2 ^ k = a * 2 ^ k ^^^ b * 2 ^ k := by
  have := Nat.shiftLeft_xor_distrib (a := a) (b := b) (i := k)
  simpa only [Nat.shiftLeft_eq] using this
theorem raw_left : ∀ (k a b c : Nat), raw k (a ^^^ b) c = raw k a c ^^^ raw k b c
  | 0, _, _, _ => by simp [raw]
  | k + 1, a, b, c => by
    rw [raw, raw, raw, raw_left, mul_pow_xor, mul_bit_xor _ _ (by omega), xor_ac]
theorem raw_right : ∀ (k a b c : Nat), raw k a (b ^^^ c) = raw k a b ^^^ raw k a c
  | 0, _, _, _ => by simp [raw]
  | k + 1, a, b, c => by
    rw [raw, raw, raw, raw_right, xor_div, xor_mod2, bit_mul _ (by omega) (by omega), xor_ac]
theorem red_xor : ∀ (k p q : Nat), red k (p ^^^ q) = red k p ^^^ red k q
  | 0, _, _ => rfl
  | k + 1, p, q => by
    rw [red, red, red, ← red_xor k, xor_div, xor_mod2, bit_mul _ (by omega) (by omega), xor_ac]
theorem red_raw {a b : Nat} (ha : a < 256) (hb : b < 256) : red 7 (raw 8 a b) = gm a b := by
  have hd : ∀ i, i < 8 → ∀ j, j < 8 → red 7 (raw 8 (2 ^ i) (2 ^ j)) = gm (2 ^ i) (2 ^ j) := by decide +kernel
  refine lin_ext (f := fun a => red 7 (raw 8 a b)) (g := fun a => gm a b) (fun x y _ _ => ?_) (lin_gm_left b) (fun i hi => ?_) ha
  · show red 7 (raw 8 (x ^^^ y) b) = _
    rw [raw_left, red_xor]
  · refine lin_ext (f := fun b => red 7 (raw 8 (2 ^ i) b)) (g := fun b => gm (2 ^ i) b) (fun x y _ _ => ?_) (lin_gm_right _) (hd i hi) hb
    show red 7 (raw 8 (2 ^ i) (x ^^^ y)) = _
    rw [raw_right, red_xor]
end Go.Proofs.YtbkhedfhnmkodaaDoor.Gf
