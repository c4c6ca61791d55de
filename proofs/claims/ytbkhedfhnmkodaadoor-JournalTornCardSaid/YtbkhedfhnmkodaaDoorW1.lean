/- What is proved here: the contracts of shiftByte, shift: what a call of each returns. Condition: the table nibbles holds its sixteen numbers. -/
import Derived.Test.YtbkhedfhnmkodaaDoorMath
import Derived.Test.YtbkhedfhnmkodaaDoorChecked
import Derived.WalkKit
import Derived.ProofKit
import Derived.OpenShut
namespace Go.Proofs.YtbkhedfhnmkodaaDoor.Crc
open Go Go.ChangeShapes Go.WideShapes Go.ChangeAt Go.RowKit

theorem ret_int {k : IntKind} {a b : Int} (h : a = b) : Ending.returned (.int k a) = .returned (.int k b) := by rw [h]
/-- The table's cells. -/
def Tab (w : World) : Prop := ∀ i : Nat, i < 16 → w.cell? ⟨0, i, none⟩ = some (.int .u32 ((nib i : Nat) : Int))

theorem and15 (x : Nat) (hx : x < 4294967296) : bits .and .u32 (x : Int) 15 = ((x % 16 : Nat) : Int) := by
  rw [show (15 : Int) = ((15 : Nat) : Int) from rfl, u32_and_nat x 15 hx (by decide), nat_mask4]
theorem xor_nib (x i : Nat) (hx : x < 4294967296) (hi : i < 16) : bits .xor .u32 ((x : Int) / 16) ((nib i : Nat) : Int) = ((x / 16 ^^^ nib i : Nat) : Int) := by
  rw [show ((x : Int) / 16) = ((x / 16 : Nat) : Int) by omega, u32_xor_nat _ _ (by omega) (nib_lt i hi)]

set_option maxHeartbeats 400000 in
theorem shiftByte_any (x : Nat) (w : World) (hx : x < 4294967296) (ht : Tab w) :
    Calls Tryd.prog 24 #[.int .u32 (x : Int)] w fun e w' => e = .returned (.int .u32 ((sgn 8 x : Nat) : Int)) ∧ w = w' := by
  obtain ⟨i, hi⟩ : ∃ i, i = x % 16 := ⟨_, rfl⟩
  obtain ⟨y, hy⟩ : ∃ y, y = x / 16 ^^^ nib i := ⟨_, rfl⟩
  obtain ⟨j, hj⟩ : ∃ j, j = y % 16 := ⟨_, rfl⟩
  have hi16 : i < 16 := by omega
  have hj16 : j < 16 := by omega
  have hy32 : y < 4294967296 := by rw [hy]; exact Nat.xor_lt_two_pow (n := 32) (by omega) (nib_lt i hi16)
  have hend : ((sgn 8 x : Nat) : Int) = ((y / 16 ^^^ nib j : Nat) : Int) := by
    rw [show (8 : Nat) = 4 + 4 by decide, sgn_add, ← four x, ← hi, ← hy, ← four y, ← hj]
  have c0 := ht i hi16
  have c1 := ht j hj16
  have a0 := and15 x hx
  have a1 := and15 y hy32
  rw [← hi] at a0
  rw [← hj] at a1
  have x0 := xor_nib x i hx hi16
  have x1 := xor_nib y j hy32 hj16
  rw [← hy] at x0
  rw [hend]
  obtain ⟨z, hz⟩ : ∃ z, z = y / 16 ^^^ nib j := ⟨_, rfl⟩
  rw [← hz] at x1 ⊢
  clear hend hy hz hi hj ht
  go_enter Tryd.func24, Tryd.ntmps24
  go_wp2
  go_ret
  exact ⟨rfl, rfl⟩
end Go.Proofs.YtbkhedfhnmkodaaDoor.Crc
