/- What is proved here: the laws' light and small, as far as they are wanted: a light slot has few items; small answers a short list of needles. -/
/- What is proved here: the laws' light and small, as far as they are wanted: a light slot has few items; small answers a short list of needles. -/
import Derived.Test.YtimoinfjinmamaaGreatGs21
namespace Go.Proofs.YtimoinfjinmamaaGreat.Gf
open Joins ChangeShapes WideShapes ChangeAt RowKit Deep By Qt
set_option maxRecDepth 100000
set_option maxHeartbeats 204800000
theorem and_low64 (r : Nat) (hr : r < 18446744073709551616) (k : Nat) (hk : k ≤ 32) : bits .and .u64 (r : Int) ((2 : Int) ^ k - 1) = ((r % 2 ^ k : Nat) : Int) := by
 have hp : (2 : Nat) ^ k ≤ 2 ^ 32 := Nat.pow_le_pow_right (by decide) hk;have hp1 : 1 ≤ (2 : Nat) ^ k := Nat.one_le_two_pow;have e0 : ((2 : Int) ^ k - 1) = ((2 ^ k - 1 : Nat) : Int) := by rw [Int.natCast_sub hp1]; simp
 have e1 : (BitVec.ofInt 64 (r : Int)).toNat = r := by rw [BitVec.toNat_ofInt]; omega
 have e2 : (BitVec.ofInt 64 ((2 : Int) ^ k - 1)).toNat = 2 ^ k - 1 := by
  rw [e0, BitVec.toNat_ofInt];omega
 have e3 : (BitVec.ofInt 64 (r : Int) &&& BitVec.ofInt 64 ((2 : Int) ^ k - 1)).toNat = r % 2 ^ k := by rw [BitVec.toNat_and, e1, e2]; exact Nat.and_two_pow_sub_one_eq_mod _ k
 show IntKind.u64.wrap ((BitVec.ofInt 64 (r : Int) &&& BitVec.ofInt 64 ((2 : Int) ^ k - 1)).toNat : Int) = _;rw [e3];have hb : r % 2 ^ k ≤ r := Nat.mod_le _ _;generalize r % 2 ^ k = z at *;show (z : Int) % 18446744073709551616 = _;omega
theorem w64s9 (i : Nat) (h : i < 9223372036854775807) : wrap64 ((i : Int) + 1) = (i : Int) + 1 := by unfold wrap64; omega
theorem meas9 (n i : Nat) (h : i < n) (hn : n ≤ 9223372036854775807) : n - (intOf (.int .i64 (wrap64 ((i : Int) + 1)))).toNat < n - (intOf (.int .i64 (i : Int))).toNat := by
 rw [w64s9 i (by omega)];simp [intOf];omega
end Go.Proofs.YtimoinfjinmamaaGreat.Gf
