/- What is proved here: what every law of this seat needs to open and shut its arguments, and that the listed table gives the cells that the walks read. No condition. -/
import Derived.Test.YtbkhedfhnmkodaaDoorCards
import Derived.Test.YtbkhedfhnmkodaaDoorTie
import Derived.Test.YtbkhedfhnmkodaaDoorCr
import Derived.Test.YtbkhedfhnmkodaaDoorU14
import Derived.Deep.DeepHandedRow
import Derived.Lib.LaidTab
namespace Go.Proofs.YtbkhedfhnmkodaaDoor.Crc
open Go Go.ChangeShapes Go.WideShapes Go.ChangeAt Go.RowKit

theorem own : ownKnob Tryd.prog.godebug = none := by kernel_rfl
theorem laidOut : laidOutB Tryd.prog = true := by kernel_rfl
theorem gTab : Tryd.prog.globalNamed "needlestore/crc32c.nibbles" = some 0 := by kernel_rfl
theorem gTabType : (Tryd.prog.globals[0]?).map (·.type) = some 46 := by kernel_rfl
theorem cells38 : Tryd.prog.cellsOf 46 = 16 := by kernel_rfl
theorem cells23 : Tryd.prog.cellsOf 33 = 1 := by kernel_rfl
theorem cells5 : Tryd.prog.cellsOf 5 = 1 := by kernel_rfl
def nibs : List Int := [0, 274646895, 549293790, 820201905, 1098587580, 1361435347, 1640403810, 1905808397, 2197175160, 2460548119, 2722870694, 2987750089, 3280807620, 3553878443, 3811616794, 4084100981]
theorem nibs_get : ∀ i, i < 16 → nibs.getD i 0 = ((nib i : Nat) : Int) := by decide
/-- The listed table gives its cells. -/
theorem tab_of {W : World} (h : laidMetH Tryd.prog [("needlestore/crc32c.nibbles", Lib.tabData .u32 nibs)] W) : Tab W := fun i hi => by
  have ht : Lib.TabIs Tryd.prog W "needlestore/crc32c.nibbles" .u32 nibs := Lib.tabIs_of_head (rest := []) gTab gTabType Tryd.underlying46 Tryd.underlying33 cells23 cells38 h
  rw [ht.cell gTab i hi, nibs_get i hi]
theorem u32_nat {n : Int} (h : (Lit.int .u32 n).wf = true) : ∃ x : Nat, n = x ∧ x < 4294967296 := by
  simp [Lit.wf, IntKind.min, IntKind.max, IntKind.signed, IntKind.bits] at h
  exact ⟨n.toNat, by omega, by omega⟩
theorem i64_bounds {n : Int} (h : (Lit.int .i64 n).wf = true) : -9223372036854775808 ≤ n ∧ n < 9223372036854775808 := by
  simp [Lit.wf, IntKind.min, IntKind.max, IntKind.signed, IntKind.bits] at h
  omega
/-- A world for the witness: the settled one, the table holding what its initialiser lays. -/
noncomputable def laidWorld (os : Os) : World :=
  { World.holding Tryd.prog os ⟨#[], #[], []⟩ with heap := (World.holding Tryd.prog os ⟨#[], #[], []⟩).heap.modify 0 fun
      | .cells _ t frozen => .cells (nibs.map fun z => Value.int .u32 z).toArray t frozen
      | o => o }
end Go.Proofs.YtbkhedfhnmkodaaDoor.Crc
