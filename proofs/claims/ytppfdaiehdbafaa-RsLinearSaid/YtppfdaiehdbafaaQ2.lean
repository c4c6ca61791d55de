/- What is proved here: the contracts of the reference of layer 2 (Mul, Inv). No condition on the program. -/
import Derived.Test.YtppfdaiehdbafaaGf
import Derived.Test.YtppfdaiehdbafaaProg
import Derived.WalkKit
import Derived.ProofKit
import Derived.OpenShut
import Derived.Lib.Hide
namespace Go.Proofs.Ytppfdaiehdbafaa.Gf
open Go Go.ChangeShapes Go.WideShapes Go.ChangeAt Go.RowKit

theorem ret_int {k : IntKind} {a b : Int} (h : a = b) : Ending.returned (.int k a) = .returned (.int k b) := by rw [h]
theorem i64_xor_nat (a b : Nat) (ha : a < 2 ^ 62) (hb : b < 2 ^ 62) : bits .xor .i64 (a : Int) (b : Int) = ((a ^^^ b : Nat) : Int) := by
  have e1 : (BitVec.ofInt 64 (a : Int)).toNat = a := by rw [BitVec.toNat_ofInt]; omega
  have e2 : (BitVec.ofInt 64 (b : Int)).toNat = b := by rw [BitVec.toNat_ofInt]; omega
  have e3 : (BitVec.ofInt 64 (a : Int) ^^^ BitVec.ofInt 64 (b : Int)).toNat = a ^^^ b := by rw [BitVec.toNat_xor, e1, e2]
  have e4 : a ^^^ b < 2 ^ 62 := Nat.xor_lt_two_pow (n := 62) ha hb
  show IntKind.i64.wrap ((BitVec.ofInt 64 (a : Int) ^^^ BitVec.ofInt 64 (b : Int)).toNat : Int) = _
  rw [e3, IntKind.wrap_i64]
  omega
theorem i64_and1 (n : Nat) (h : n < 9223372036854775808) : bits .and .i64 (n : Int) 1 = ((n % 2 : Nat) : Int) := by
  have e1 : (BitVec.ofInt 64 (n : Int)).toNat = n := by rw [BitVec.toNat_ofInt]; omega
  have e2 : (BitVec.ofInt 64 (1 : Int)).toNat = 1 := rfl
  have e3 : (BitVec.ofInt 64 (n : Int) &&& BitVec.ofInt 64 1).toNat = n % 2 := by rw [BitVec.toNat_and, e1, e2, nat_mask1]
  show IntKind.i64.wrap ((BitVec.ofInt 64 (n : Int) &&& BitVec.ofInt 64 1).toNat : Int) = _
  rw [e3, IntKind.wrap_i64]
  omega
theorem u8_and1 (n : Nat) (h : n < 256) : bits .and .u8 (n : Int) 1 = ((n % 2 : Nat) : Int) := by
  rw [show (1 : Int) = ((1 : Nat) : Int) from rfl, u8_and_nat n 1 h (by decide), nat_mask1]
theorem u8_and1_shift (n k : Nat) (h : n < 256) : bits .and .u8 ((n : Int) / 2 ^ k) 1 = ((n / 2 ^ k % 2 : Nat) : Int) := by
  have e : ((n : Int) / 2 ^ k) = ((n / 2 ^ k : Nat) : Int) := by simp
  rw [e]
  exact u8_and1 _ (Nat.lt_of_le_of_lt (Nat.div_le_self _ _) h)
theorem i64_and1_shift (n k : Nat) (h : n < 9223372036854775808) : bits .and .i64 ((n : Int) / 2 ^ k) 1 = ((n / 2 ^ k % 2 : Nat) : Int) := by
  have e : ((n : Int) / 2 ^ k) = ((n / 2 ^ k : Nat) : Int) := by simp
  rw [e]
  exact i64_and1 _ (Nat.lt_of_le_of_lt (Nat.div_le_self _ _) h)
theorem raw_lt : ∀ k a b, k ≤ 8 → a < 256 → raw k a b < 32768
  | 0, _, _, _, _ => by simp [raw]
  | k + 1, a, b, hk, ha => by
    have ih := raw_lt k a b (by omega) ha
    have h1 : a * 2 ^ k < 32768 := by
      have : 2 ^ k ≤ 2 ^ 7 := Nat.pow_le_pow_right (by decide) (by omega)
      have := Nat.mul_le_mul (show a ≤ 255 by omega) this
      omega
    have h2 : b / 2 ^ k % 2 * (a * 2 ^ k) < 32768 := by
      have : b / 2 ^ k % 2 = 0 ∨ b / 2 ^ k % 2 = 1 := by omega
      rcases this with e | e <;> rw [e] <;> omega
    exact Nat.xor_lt_two_pow (n := 15) ih h2

theorem wrap64_shl (a k : Nat) (h : a * 2 ^ k < 2 ^ 62) : wrap64 ((a : Int) * 2 ^ k) = ((a * 2 ^ k : Nat) : Int) := by
  have e : ((a : Int) * 2 ^ k) = ((a * 2 ^ k : Nat) : Int) := by simp
  rw [e]
  generalize a * 2 ^ k = z at h
  unfold wrap64
  omega
set_option maxRecDepth 100000 in
set_option maxHeartbeats 800000 in
theorem rmul_any (a b : Nat) (w : World) (ha : a < 256) (hb : b < 256) :
    Calls Try.prog 52 #[.int .u8 (a : Int), .int .u8 (b : Int)] w fun e w' => e = .returned (.int .u8 ((gm a b : Nat) : Int)) ∧ w = w' := by
  go_enter Try.func52, Try.ntmps52
  go_wp2
  go_loop [5, 6] (fun p i => ∃ k P : Nat, k ≤ 8 ∧ P = raw k a b ∧ i = .int .i64 k ∧ p = .int .i64 (P : Int)) (fun _ i => 8 - (intOf i).toNat)
  case atStart => exact ⟨0, 0, by omega, rfl, rfl, rfl⟩
  case round =>
    obtain ⟨k, P, hk, hP, rfl, rfl⟩ := hrel
    have hP15 : P < 32768 := by rw [hP]; exact raw_lt k a b hk ha
    by_cases hlt : k < 8
    · have a1 := u8_and1_shift b k hb
      have HP := Lib.hid hP
      clear hP
      have hs : a * 2 ^ k < 32768 := by
        have : 2 ^ k ≤ 2 ^ 7 := Nat.pow_le_pow_right (by decide) (by omega)
        have := Nat.mul_le_mul (show a ≤ 255 by omega) this
        omega
      have x1 := i64_xor_nat P (a * 2 ^ k) (by omega) (by omega)
      rcases Nat.mod_two_eq_zero_or_one (b / 2 ^ k) with h | h
      · rw [h] at a1
        have HH := Lib.hid h
        clear h
        go_wp2
        go_round
        case rel => exact ⟨k + 1, P, by omega, by rw [raw, HH.out, ← HP.out]; simp, by go_num, rfl⟩
        case measure => simp [intOf]; omega
      · rw [h] at a1
        have HH := Lib.hid h
        clear h
        go_wp2
        go_round
        case rel => exact ⟨k + 1, P ^^^ a * 2 ^ k, by omega, by rw [raw, HH.out, ← HP.out, Nat.one_mul], by go_num, by rw [wrap64_shl a k (by omega), x1]⟩
        case measure => simp [intOf]; omega
    · have hR := red_raw ha hb
      have h8 : k = 8 := by omega
      rw [h8] at hP
      rw [← hP] at hR
      have HR := Lib.hid hR
      clear hP hR h8
      go_wp2
      go_loop [5, 7] (fun p i => ∃ j Q : Nat, j ≤ 7 ∧ Q < 32768 ∧ red j Q = gm a b ∧ i = .int .i64 ((j + 7 : Nat) : Int) ∧ p = .int .i64 (Q : Int)) (fun _ i => (intOf i).toNat - 7)
      case atStart => exact ⟨7, P, by omega, hP15, HR.out, rfl, rfl⟩
      case round =>
        clear HR hP15
        obtain ⟨j, Q, hj, hQ15, hr, rfl, rfl⟩ := hrel
        have HR := Lib.hid hr
        clear hr
        by_cases hp : 0 < j
        · obtain ⟨m, rfl⟩ : ∃ m, j = m + 1 := ⟨j - 1, by omega⟩
          have a1 := i64_and1_shift Q (m + 8) (by omega)
          rw [show ((Q : Int) / 2 ^ (m + 8)) = (Q : Int) / 2 ^ (m + 1 + 7) by rw [Nat.add_assoc]] at a1
          have hs : 285 * 2 ^ m < 32768 * 2 := by
            have : 2 ^ m ≤ 2 ^ 6 := Nat.pow_le_pow_right (by decide) (by omega)
            omega
          have x1 := i64_xor_nat Q (285 * 2 ^ m) (by omega) (by omega)
          rcases Nat.mod_two_eq_zero_or_one (Q / 2 ^ (m + 8)) with h | h
          · rw [h] at a1
            have HH := Lib.hid h
            clear h
            go_wp2
            go_round
            case rel => exact ⟨m, Q, by omega, hQ15, by rw [← HR.out, red, HH.out]; simp, by go_num, rfl⟩
            case measure => simp [intOf]; omega
          · rw [h] at a1
            have HH := Lib.hid h
            clear h
            go_wp2
            go_round
            case rel =>
              have hs2 : 285 * 2 ^ m < 32768 := by
                have : 2 ^ m ≤ 2 ^ 6 := Nat.pow_le_pow_right (by decide) (by omega)
                omega
              exact ⟨m, Q ^^^ 285 * 2 ^ m, by omega, Nat.xor_lt_two_pow (n := 15) hQ15 hs2, by rw [← HR.out, red, HH.out, Nat.one_mul], by go_num, by rw [show (wrap64 (285 * 2 ^ m)) = ((285 * 2 ^ m : Nat) : Int) from wrap64_shl 285 m (by omega), x1]⟩
            case measure => simp [intOf]; omega
        · have h0 : j = 0 := by omega
          have hg : Q = gm a b := by rw [← HR.out, h0]; rfl
          have hlt := gm_lt (b := b) ha
          rw [← hg] at hlt
          have HG := Lib.hid hg
          clear hg
          go_wp2
          go_ret
          exact ⟨ret_int (by rw [← HG.out]), rfl⟩
/-- Two results. -/
def Two (a b : Int) : Ending := .returned (.tuple #[.int .u8 a, .int .i64 b])
def TwoI (a b : Int) : Ending := .returned (.tuple #[.int .i64 a, .int .i64 b])
theorem u8_wrap (n : Nat) (h : n < 256) : IntKind.u8.wrap (n : Int) = (n : Int) := by
  rw [IntKind.wrap_u8']
  omega
set_option maxRecDepth 100000 in
set_option maxHeartbeats 800000 in
theorem rinv_zero (w : World) : Calls Try.prog 56 #[.int .u8 0] w fun e w' => e = Two 0 1 ∧ w = w' := by
  go_enter Try.func56, Try.ntmps56
  go_wp2
  go_loop [4] (fun i => ∃ b : Nat, 1 ≤ b ∧ b ≤ 256 ∧ i = .int .i64 (b : Int)) (fun i => 256 - (intOf i).toNat)
  case atStart => exact ⟨1, by omega, by omega, rfl⟩
  case round =>
    obtain ⟨b, h1, h2, rfl⟩ := hrel
    by_cases hlt : b < 256
    · have hw := u8_wrap b hlt
      have hm := fun w => rmul_any 0 b w (by decide) hlt
      rw [gm_zero_left hlt] at hm
      have HM := Lib.hid hm
      clear hm
      go_wp2_with (go_at_call 52; refine (HM.out _).mono ?_; rintro e w' ⟨rfl, rfl⟩)
      go_round
      case rel => exact ⟨b + 1, by omega, by omega, by go_num⟩
      case measure => simp [intOf]; omega
    · go_wp2
      go_ret2
      exact ⟨rfl, rfl⟩
set_option maxRecDepth 100000 in
set_option maxHeartbeats 800000 in
theorem rinv_pos (a : Nat) (w : World) (ha : a < 256) (h0 : a ≠ 0) : Calls Try.prog 56 #[.int .u8 (a : Int)] w fun e w' => e = Two (iv a : Nat) 0 ∧ w = w' := by
  have hi := gm_iv ha h0
  have hi0 : iv a ≠ 0 := ex_ne _
  have hi2 := iv_lt a
  have HI := Lib.hid hi
  clear hi
  go_enter Try.func56, Try.ntmps56
  go_wp2
  go_loop [4] (fun i => ∃ b : Nat, 1 ≤ b ∧ b ≤ iv a ∧ i = .int .i64 (b : Int)) (fun i => 256 - (intOf i).toNat)
  case atStart => exact ⟨1, by omega, by omega, rfl⟩
  case round =>
    obtain ⟨b, h1, h2, rfl⟩ := hrel
    have hlt : b < 256 := by omega
    have hm := fun w => rmul_any a b w ha hlt
    by_cases hb : b = iv a
    · have hg : gm a b = 1 := by rw [hb, HI.out]
      rw [hg] at hm
      have HM := Lib.hid hm
      have HB := Lib.hid hb
      clear hm hg hb
      go_wp2_with (go_at_call 52; refine (HM.out _).mono ?_; rintro e w' ⟨rfl, rfl⟩)
      go_ret2
      exact ⟨by rw [← HB.out]; rfl, rfl⟩
    · have hg : gm a b ≠ 1 := fun h => hb (iv_unique ha hlt h)
      have ht : (((gm a b : Nat) : Int) == 1) = false := beq_false_of_ne (by omega)
      generalize gm a b = z at hm ht
      have HM := Lib.hid hm
      clear hm hg
      go_wp2_with (go_at_call 52; refine (HM.out _).mono ?_; rintro e w' ⟨rfl, rfl⟩)
      go_round
      case rel => exact ⟨b + 1, by omega, by omega, by go_num⟩
      case measure => simp [intOf]; omega
/-- Inv and Div, as pairs. -/
def invOf (a : Nat) : Ending := if a = 0 then Two 0 1 else Two (iv a : Nat) 0
theorem rinv_any (a : Nat) (w : World) (ha : a < 256) : Calls Try.prog 56 #[.int .u8 (a : Int)] w fun e w' => e = invOf a ∧ w = w' := by
  by_cases h : a = 0
  · subst h
    exact rinv_zero w
  · unfold invOf
    rw [if_neg h]
    exact rinv_pos a w ha h
end Go.Proofs.Ytppfdaiehdbafaa.Gf
