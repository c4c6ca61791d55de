/- What is proved here: plain mathematics: the checksum of the exclusive or of three lists of one length. No program text. -/
import Derived.Test.YtbkhedfhnmkodaaDoorMath
namespace Go.Proofs.YtbkhedfhnmkodaaDoor.Crc

def x3 : List Nat → List Nat → List Nat → List Nat
  | a :: as, b :: bs, c :: cs => (a ^^^ b ^^^ c) :: x3 as bs cs
  | _, _, _ => []
theorem x3_length : ∀ {l1 l2 l3 : List Nat} {n : Nat}, l1.length = n → l2.length = n → l3.length = n → (x3 l1 l2 l3).length = n
  | [], [], [], n, h, _, _ => by simpa [x3] using h
  | a :: as, b :: bs, c :: cs, 0, h, _, _ => by simp at h
  | a :: as, b :: bs, c :: cs, n + 1, h1, h2, h3 => by
    simp at h1 h2 h3
    simp [x3, x3_length h1 h2 h3]
  | [], b :: bs, _, n, h1, h2, _ => by simp at h1 h2; omega
  | [], [], c :: cs, n, h1, _, h3 => by simp at h1 h3; omega
  | a :: as, [], _, n, h1, h2, _ => by simp at h1 h2; omega
  | a :: as, b :: bs, [], n, h1, _, h3 => by simp at h1 h3; omega
theorem x3_get : ∀ {l1 l2 l3 : List Nat} (j : Nat), j < l1.length → j < l2.length → j < l3.length → (x3 l1 l2 l3)[j]? = some (l1.getD j 0 ^^^ l2.getD j 0 ^^^ l3.getD j 0)
  | a :: as, b :: bs, c :: cs, 0, _, _, _ => by simp [x3]
  | a :: as, b :: bs, c :: cs, j + 1, h1, h2, h3 => by
    simp at h1 h2 h3
    have := x3_get j h1 h2 h3
    simpa [x3] using this
  | [], _, _, _, h, _, _ => by simp at h
  | _ :: _, [], _, _, _, h, _ => by simp at h
  | _ :: _, _ :: _, [], _, _, _, h => by simp at h
theorem mul_xor (a b : Nat) : 256 * (a ^^^ b) = 256 * a ^^^ 256 * b := by
  have := Nat.shiftLeft_xor_distrib (a := a) (b := b) (i := 8)
  simp only [Nat.shiftLeft_eq] at this
  rw [Nat.mul_comm 256, Nat.mul_comm 256, Nat.mul_comm 256]
  exact this
theorem xor_lt8 {a b : Nat} (h : a < 256) (h' : b < 256) : a ^^^ b < 256 := Nat.xor_lt_two_pow (n := 8) h h'
theorem x3_lt : ∀ {l1 l2 l3 : List Nat}, (∀ b ∈ l1, b < 256) → (∀ b ∈ l2, b < 256) → (∀ b ∈ l3, b < 256) → ∀ b ∈ x3 l1 l2 l3, b < 256
  | a :: as, b :: bs, c :: cs, h1, h2, h3, x, hx => by
    simp only [x3, List.mem_cons] at hx
    rcases hx with rfl | hx
    · exact xor_lt8 (xor_lt8 (h1 a (by simp)) (h2 b (by simp))) (h3 c (by simp))
    · exact x3_lt (fun y hy => h1 y (by simp [hy])) (fun y hy => h2 y (by simp [hy])) (fun y hy => h3 y (by simp [hy])) x hx
  | [], _, _, _, _, _, _, hx => by simp [x3] at hx
  | _ :: _, [], _, _, _, _, _, hx => by simp [x3] at hx
  | _ :: _, _ :: _, [], _, _, _, _, hx => by simp [x3] at hx
theorem num_cons (b : Nat) (l : List Nat) (h : b < 256) : num (b :: l) = 256 * num l ^^^ b := add_eq_xor b (num l) h
theorem six (p q r a b c : Nat) : (p ^^^ q ^^^ r) ^^^ (a ^^^ b ^^^ c) = (p ^^^ a) ^^^ (q ^^^ b) ^^^ (r ^^^ c) := by
  rw [xor_ac (p ^^^ q) r (a ^^^ b) c, xor_ac p q a b]
theorem num_x3 : ∀ {l1 l2 l3 : List Nat} {n : Nat}, l1.length = n → l2.length = n → l3.length = n → (∀ b ∈ l1, b < 256) → (∀ b ∈ l2, b < 256) → (∀ b ∈ l3, b < 256) → num (x3 l1 l2 l3) = num l1 ^^^ num l2 ^^^ num l3
  | [], [], [], _, _, _, _, _, _, _ => by simp [x3, num]
  | a :: as, b :: bs, c :: cs, 0, h, _, _, _, _, _ => by simp at h
  | a :: as, b :: bs, c :: cs, n + 1, h1, h2, h3, g1, g2, g3 => by
    simp at h1 h2 h3
    have ih := num_x3 h1 h2 h3 (fun y hy => g1 y (by simp [hy])) (fun y hy => g2 y (by simp [hy])) (fun y hy => g3 y (by simp [hy]))
    have ha := g1 a (by simp)
    have hb := g2 b (by simp)
    have hc := g3 c (by simp)
    rw [x3, num_cons _ _ (xor_lt8 (xor_lt8 ha hb) hc), ih, mul_xor, mul_xor, num_cons a as ha, num_cons b bs hb, num_cons c cs hc, six]
  | [], b :: bs, _, n, h1, h2, _, _, _, _ => by simp at h1 h2; omega
  | [], [], c :: cs, n, h1, _, h3, _, _, _ => by simp at h1 h3; omega
  | a :: as, [], _, n, h1, h2, _, _, _, _ => by simp at h1 h2; omega
  | a :: as, b :: bs, [], n, h1, _, h3, _, _, _ => by simp at h1 h3; omega
theorem ext_num (l : List Nat) (h : ∀ b ∈ l, b < 256) : ext 0 l = 4294967295 ^^^ (sgn (8 * l.length) 4294967295 ^^^ sgn (8 * l.length) (num l)) := by
  unfold ext
  rw [run_num _ l h, Nat.xor_zero, sgn_xor]
theorem ext_x3 {l1 l2 l3 : List Nat} {n : Nat} (h1 : l1.length = n) (h2 : l2.length = n) (h3 : l3.length = n) (g1 : ∀ b ∈ l1, b < 256) (g2 : ∀ b ∈ l2, b < 256) (g3 : ∀ b ∈ l3, b < 256) :
    ext 0 l1 ^^^ ext 0 l2 ^^^ ext 0 l3 = ext 0 (x3 l1 l2 l3) := by
  rw [ext_num _ g1, ext_num _ g2, ext_num _ g3, ext_num _ (x3_lt g1 g2 g3), num_x3 h1 h2 h3 g1 g2 g3, x3_length h1 h2 h3, h1, h2, h3, sgn_xor, sgn_xor]
  generalize sgn (8 * n) 4294967295 = f
  generalize sgn (8 * n) (num l1) = a
  generalize sgn (8 * n) (num l2) = b
  generalize sgn (8 * n) (num l3) = c
  generalize 4294967295 = F
  rw [← six F F F, ← six f f f]
  simp [Nat.xor_assoc]
end Go.Proofs.YtbkhedfhnmkodaaDoor.Crc
