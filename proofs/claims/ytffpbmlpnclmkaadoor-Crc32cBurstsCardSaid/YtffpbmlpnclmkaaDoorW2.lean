/- What is proved here: the contracts of Extend, Sum, cut and their references. Condition: the table nibbles holds its sixteen numbers. -/
import Derived.Test.YtffpbmlpnclmkaaDoorW1
import Derived.Lib.Hide
namespace Go.Proofs.YtffpbmlpnclmkaaDoor.Crc
open Go Go.ChangeShapes Go.WideShapes Go.ChangeAt Go.RowKit

/-- One shift by the reference's test. -/
theorem sg_if (x : Nat) : sg x = if x % 2 = 1 then x / 2 ^^^ 2197175160 else x / 2 := by
  unfold sg
  rcases Nat.mod_two_eq_zero_or_one x with h | h <;> rw [h] <;> simp
theorem and1 (x : Nat) (hx : x < 4294967296) : bits .and .u32 (x : Int) 1 = ((x % 2 : Nat) : Int) := by
  rw [show (1 : Int) = ((1 : Nat) : Int) from rfl, u32_and_nat x 1 hx (by decide), nat_mask1]
theorem xor_p (x : Nat) (hx : x < 4294967296) : bits .xor .u32 ((x : Int) / 2) 2197175160 = ((x / 2 ^^^ 2197175160 : Nat) : Int) := by
  rw [show ((x : Int) / 2) = ((x / 2 : Nat) : Int) by omega, show (2197175160 : Int) = ((2197175160 : Nat) : Int) from rfl, u32_xor_nat _ _ (by omega) (by decide)]

set_option maxHeartbeats 400000 in
theorem shift_any (x : Nat) (w : World) (hx : x < 4294967296) :
    Calls Tryd.prog 19 #[.int .u32 (x : Int)] w fun e w' => e = .returned (.int .u32 ((sgn 8 x : Nat) : Int)) ∧ w = w' := by
  go_enter Tryd.func19, Tryd.ntmps19
  go_wp2
  go_loop [0, 3] (fun r i => ∃ k y : Nat, k ≤ 8 ∧ y < 4294967296 ∧ sgn (8 - k) y = sgn 8 x ∧ i = .int .i64 k ∧ r = .int .u32 (y : Int)) (fun _ i => 8 - (intOf i).toNat)
  case atStart => exact ⟨0, x, by omega, hx, rfl, rfl, rfl⟩
  case round =>
    obtain ⟨k, y, hk, hy, hs, rfl, rfl⟩ := hrel
    have HS : Hid (sgn (8 - k) y = sgn 8 x) := Lib.hid hs
    clear hs
    by_cases hlt : k < 8
    · have a1 := and1 y hy
      have x1 := xor_p y hy
      rcases Nat.mod_two_eq_zero_or_one y with h | h
      · rw [h] at a1
        have HH := Lib.hid h
        clear h
        go_wp2
        go_round
        case rel => exact ⟨k + 1, y / 2, by omega, by omega, by rw [← HS.out, show 8 - k = (8 - (k + 1)) + 1 by omega, sgn, sg_if, if_neg (by rw [HH.out]; decide)], by go_num, by go_num⟩
        case measure => simp [intOf]; omega
      · rw [h] at a1
        have HH := Lib.hid h
        clear h
        go_wp2
        go_round
        case rel => exact ⟨k + 1, y / 2 ^^^ 2197175160, by omega, Nat.xor_lt_two_pow (n := 32) (by omega) (by decide), by rw [← HS.out, show 8 - k = (8 - (k + 1)) + 1 by omega, sgn, sg_if, if_pos HH.out], by go_num, by go_num⟩
        case measure => simp [intOf]; omega
    · go_wp2
      go_ret
      exact ⟨ret_int (by rw [← HS.out, show 8 - k = 0 by omega]; rfl), rfl⟩
end Go.Proofs.YtffpbmlpnclmkaaDoor.Crc
