/- What is proved here: plain mathematics: what a change of up to 32 consecutive bits does to the bytes and to their checksum. No program text. -/
import Derived.Test.YtbkhedfhnmkodaaDoorMath2
namespace Go.Proofs.YtbkhedfhnmkodaaDoor.Crc

theorem pow_mul_xor (k a b : Nat) : (a ^^^ b) * 2 ^ k = a * 2 ^ k ^^^ b * 2 ^ k := by
  have := Nat.shiftLeft_xor_distrib (a := a) (b := b) (i := k)
  simpa only [Nat.shiftLeft_eq] using this
theorem num_set : ∀ (l : List Nat) (q x : Nat), (∀ b ∈ l, b < 256) → x < 256 → q < l.length → num (l.set q (l.getD q 0 ^^^ x)) = num l ^^^ x * 2 ^ (8 * q)
  | [], _, _, _, _, h => by simp at h
  | b :: l, 0, x, hl, hx, _ => by
    have hb := hl b (by simp)
    have : num ((b ^^^ x) :: l) = num (b :: l) ^^^ x := by
      rw [num_cons _ _ (xor_lt8 hb hx), num_cons _ _ hb, Nat.xor_assoc]
    simpa using this
  | b :: l, q + 1, x, hl, hx, h => by
    have hb := hl b (by simp)
    have ih := num_set l q x (fun y hy => hl y (by simp [hy])) hx (by simpa using h)
    have e : x * 2 ^ (8 * (q + 1)) = 256 * (x * 2 ^ (8 * q)) := by
      rw [show 8 * (q + 1) = 8 * q + 8 by omega, Nat.pow_add, Nat.mul_comm 256, Nat.mul_assoc]
    show num ((b :: l).set (q + 1) (l.getD q 0 ^^^ x)) = _
    rw [List.set_cons_succ, num_cons _ _ hb, ih, num_cons _ _ hb, e, mul_xor, Nat.xor_assoc, Nat.xor_assoc, Nat.xor_comm b]
/-- One step of the change: the bit i of f at the place k + i. -/
theorem num_step (L : List Nat) (N f k i : Nat) (hl : ∀ b ∈ L, b < 256) (hq : (k + i) / 8 < L.length) (h : num L = N ^^^ (f % 2 ^ i) * 2 ^ k) :
    num (L.set ((k + i) / 8) (L.getD ((k + i) / 8) 0 ^^^ f / 2 ^ i % 2 * 2 ^ ((k + i) % 8))) = N ^^^ (f % 2 ^ (i + 1)) * 2 ^ k := by
  have hx : f / 2 ^ i % 2 * 2 ^ ((k + i) % 8) < 256 := by
    have h1 : f / 2 ^ i % 2 ≤ 1 := by omega
    have h2 : 2 ^ ((k + i) % 8) ≤ 2 ^ 7 := Nat.pow_le_pow_right (by decide) (by omega)
    have := Nat.mul_le_mul h1 h2
    omega
  rw [num_set L _ _ hl hx hq, h, bit_step f i, pow_mul_xor, Nat.xor_assoc]
  congr 2
  rw [Nat.mul_assoc, ← Nat.pow_add, Nat.mul_assoc, ← Nat.pow_add]
  congr 2
  omega
theorem num_inj : ∀ {l m : List Nat}, l.length = m.length → (∀ b ∈ l, b < 256) → (∀ b ∈ m, b < 256) → num l = num m → l = m
  | [], [], _, _, _, _ => rfl
  | a :: l, b :: m, h, hl, hm, e => by
    have ha := hl a (by simp)
    have hb := hm b (by simp)
    simp only [num] at e
    have e1 : a = b := by omega
    have e2 : num l = num m := by omega
    rw [e1, num_inj (by simpa using h) (fun y hy => hl y (by simp [hy])) (fun y hy => hm y (by simp [hy])) e2]
  | [], _ :: _, h, _, _, _ => by simp at h
  | _ :: _, [], h, _, _, _ => by simp at h
theorem xor_self_left (a b : Nat) : a ^^^ (a ^^^ b) = b := by rw [← Nat.xor_assoc, Nat.xor_self, Nat.zero_xor]
/-- The change is noticed. -/
theorem noticed {L M : List Nat} {F k : Nat} (hlen : M.length = L.length) (hl : ∀ b ∈ L, b < 256) (hm : ∀ b ∈ M, b < 256) (hF : F < 4294967296) (hk : k ≤ 8 * L.length) (h : num M = num L ^^^ F * 2 ^ k) :
    (L = M ↔ F = 0) ∧ (ext 0 L = ext 0 M ↔ F = 0) := by
  have p : 0 < 2 ^ k := Nat.two_pow_pos k
  constructor
  · constructor
    · intro e
      subst e
      have h0 : F * 2 ^ k = 0 := by
        have := congrArg (num L ^^^ ·) h
        simpa [xor_self_left] using this.symm
      rcases Nat.mul_eq_zero.1 h0 with h1 | h1
      · exact h1
      · omega
    · intro e
      subst e
      simp only [Nat.zero_mul, Nat.xor_zero] at h
      exact (num_inj hlen hm hl h).symm
  · rw [ext_num L hl, ext_num M hm, hlen]
    have hs : sgn (8 * L.length) (num M) = sgn (8 * L.length) (num L) ^^^ sgn (8 * L.length - k) F := by
      have e : 8 * L.length = k + (8 * L.length - k) := by omega
      rw [h, sgn_xor]
      congr 1
      conv => lhs; rw [e, sgn_add, Nat.mul_comm F, sgn_pow]
    rw [hs]
    generalize sgn (8 * L.length) (num L) = A
    generalize sgn (8 * L.length) 4294967295 = B
    constructor
    · intro e
      have e2 := eq_of_xor (a := sgn (8 * L.length - k) F) (b := 0) (by
        have := congrArg (4294967295 ^^^ ·) e
        simp only [xor_self_left] at this
        have := congrArg (B ^^^ ·) this
        simp only [xor_self_left] at this
        have := congrArg (A ^^^ ·) this
        simp only [xor_self_left, Nat.xor_self] at this
        rw [Nat.xor_zero]
        exact this.symm)
      exact sgn_inj hF e2
    · intro e
      subst e
      rw [sgn_zero, Nat.xor_zero]
end Go.Proofs.YtbkhedfhnmkodaaDoor.Crc
