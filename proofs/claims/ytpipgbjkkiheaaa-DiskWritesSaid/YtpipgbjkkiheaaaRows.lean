/-
  No cell of these rows narrows 'for every input' (looked for: loops, veiled, ifaces, maps, wideKeys, modest, calm, conditions, laid).
  DERIVED. THE GIVEN ROWS OF THIS SEAT. 10 by the template 'for every input the law returns true; each argument reads behind the call as it read before'; 0 by the template 'total and deterministic' (their statements: YtpipgbjkkiheaaaTotals.lean).
  GIVEN WITH THE SEED: the statements are not yours to turn. If you find one false, say at which input.
  Laid BY PROGRAM, IN A SANDBOX (cutbox-rows.mjs): the forced cells as the released guide's own fill.sh prints them over the translation 27393a0bde56093d… (all of the seat's roots in one cut). By AI agents, Wed Nov 11 2026. No macro, syntax, notation, axiom, sorry.
-/
import Derived.Test.YtpipgbjkkiheaaaChecked
import GoSem.Claim
import GoSem.ClaimJoined
import GoSem.ClaimMapViews
import Derived.JoinedTies
import Derived.KernelRfl
namespace Go.Proofs.Ytpipgbjkkiheaaa
/- THE CELL 'sum', in the pinned program and in every row, IS THE sha256 OF THE DUMP (.gsa) THAT YtpipgbjkkiheaaaProg.lean LOADS. Nothing in Lean hashes anything: it is a label: what it is worth is what the hold of that sum in a sandbox is worth. -/
noncomputable def Try.pinned : Pinned := { name := "ytpipgbjkkiheaaa", sum := "27393a0bde56093d289cbe862a1c31f93892f557c148f4e3720c13acbdd16396", checked := Try.checked }
namespace Rows
def none {H : Type} : Left H := { results := [], args := [] }

/-- 'needlestorelaw10.DiskValid': WHATEVER THE INPUT: true; the input reads as it did. -/
def diskValidSpec : ChangeSpec := { name := "diskValid", fn := fun _ => fun
  | [d1, d2, d3, d4, d5] => { results := [.lit (.bool true)], args := [d1, d2, d3, d4, d5] }
  | _ => none }
def diskValidRow : OpenClaim := { program := "ytpipgbjkkiheaaa", sum := "27393a0bde56093d289cbe862a1c31f93892f557c148f4e3720c13acbdd16396", func := "needlestore/needlestorelaw10.DiskValid", spec := "diskValid", unfollowed := true, recurses := true, apart := false }
def DiskValidSaid : Prop := diskValidRow.holds Try.pinned (OpenSpec.ofChange diskValidSpec)

/-- ITS FALSE NEIGHBOUR: 'it returns false'. Refute it at one input. -/
def diskValidWrong : ChangeSpec := { name := "diskValid", fn := fun _ => fun
  | [d1, d2, d3, d4, d5] => { results := [.lit (.bool false)], args := [d1, d2, d3, d4, d5] }
  | _ => none }
def DiskValidWrongFalsely : Prop := diskValidRow.holds Try.pinned (OpenSpec.ofChange diskValidWrong)

/-- 'needlestorelaw10.DiskReads': WHATEVER THE INPUT: true; the input reads as it did. -/
def diskReadsSpec : ChangeSpec := { name := "diskReads", fn := fun _ => fun
  | [d1, d2, d3, d4, d5, d6] => { results := [.lit (.bool true)], args := [d1, d2, d3, d4, d5, d6] }
  | _ => none }
def diskReadsRow : OpenClaim := { program := "ytpipgbjkkiheaaa", sum := "27393a0bde56093d289cbe862a1c31f93892f557c148f4e3720c13acbdd16396", func := "needlestore/needlestorelaw10.DiskReads", spec := "diskReads", unfollowed := true, recurses := true, apart := false }
def DiskReadsSaid : Prop := diskReadsRow.holds Try.pinned (OpenSpec.ofChange diskReadsSpec)

/-- ITS FALSE NEIGHBOUR: 'it returns false'. Refute it at one input. -/
def diskReadsWrong : ChangeSpec := { name := "diskReads", fn := fun _ => fun
  | [d1, d2, d3, d4, d5, d6] => { results := [.lit (.bool false)], args := [d1, d2, d3, d4, d5, d6] }
  | _ => none }
def DiskReadsWrongFalsely : Prop := diskReadsRow.holds Try.pinned (OpenSpec.ofChange diskReadsWrong)

/-- 'needlestorelaw10.DiskOps': WHATEVER THE INPUT: true; the input reads as it did. -/
def diskOpsSpec : ChangeSpec := { name := "diskOps", fn := fun _ => fun
  | [d1, d2, d3, d4, d5] => { results := [.lit (.bool true)], args := [d1, d2, d3, d4, d5] }
  | _ => none }
def diskOpsRow : OpenClaim := { program := "ytpipgbjkkiheaaa", sum := "27393a0bde56093d289cbe862a1c31f93892f557c148f4e3720c13acbdd16396", func := "needlestore/needlestorelaw10.DiskOps", spec := "diskOps", unfollowed := true, recurses := true, apart := false }
def DiskOpsSaid : Prop := diskOpsRow.holds Try.pinned (OpenSpec.ofChange diskOpsSpec)

/-- ITS FALSE NEIGHBOUR: 'it returns false'. Refute it at one input. -/
def diskOpsWrong : ChangeSpec := { name := "diskOps", fn := fun _ => fun
  | [d1, d2, d3, d4, d5] => { results := [.lit (.bool false)], args := [d1, d2, d3, d4, d5] }
  | _ => none }
def DiskOpsWrongFalsely : Prop := diskOpsRow.holds Try.pinned (OpenSpec.ofChange diskOpsWrong)

/-- 'needlestorelaw10.DiskHistories': WHATEVER THE INPUT: true; the input reads as it did. -/
def diskHistoriesSpec : ChangeSpec := { name := "diskHistories", fn := fun _ => fun
  | [d1, d2, d3] => { results := [.lit (.bool true)], args := [d1, d2, d3] }
  | _ => none }
def diskHistoriesRow : OpenClaim := { program := "ytpipgbjkkiheaaa", sum := "27393a0bde56093d289cbe862a1c31f93892f557c148f4e3720c13acbdd16396", func := "needlestore/needlestorelaw10.DiskHistories", spec := "diskHistories", unfollowed := true, recurses := true, apart := false }
def DiskHistoriesSaid : Prop := diskHistoriesRow.holds Try.pinned (OpenSpec.ofChange diskHistoriesSpec)

/-- ITS FALSE NEIGHBOUR: 'it returns false'. Refute it at one input. -/
def diskHistoriesWrong : ChangeSpec := { name := "diskHistories", fn := fun _ => fun
  | [d1, d2, d3] => { results := [.lit (.bool false)], args := [d1, d2, d3] }
  | _ => none }
def DiskHistoriesWrongFalsely : Prop := diskHistoriesRow.holds Try.pinned (OpenSpec.ofChange diskHistoriesWrong)

/-- 'needlestorelaw10.DiskWrites': WHATEVER THE INPUT: true; the input reads as it did. -/
def diskWritesSpec : ChangeSpec := { name := "diskWrites", fn := fun _ => fun
  | [d1, d2, d3, d4] => { results := [.lit (.bool true)], args := [d1, d2, d3, d4] }
  | _ => none }
def diskWritesRow : OpenClaim := { program := "ytpipgbjkkiheaaa", sum := "27393a0bde56093d289cbe862a1c31f93892f557c148f4e3720c13acbdd16396", func := "needlestore/needlestorelaw10.DiskWrites", spec := "diskWrites", unfollowed := true, recurses := true, apart := false }
def DiskWritesSaid : Prop := diskWritesRow.holds Try.pinned (OpenSpec.ofChange diskWritesSpec)

/-- ITS FALSE NEIGHBOUR: 'it returns false'. Refute it at one input. -/
def diskWritesWrong : ChangeSpec := { name := "diskWrites", fn := fun _ => fun
  | [d1, d2, d3, d4] => { results := [.lit (.bool false)], args := [d1, d2, d3, d4] }
  | _ => none }
def DiskWritesWrongFalsely : Prop := diskWritesRow.holds Try.pinned (OpenSpec.ofChange diskWritesWrong)

/-- 'needlestorelaw10.DiskDurable': WHATEVER THE INPUT: true; the input reads as it did. -/
def diskDurableSpec : ChangeSpec := { name := "diskDurable", fn := fun _ => fun
  | [d1, d2, d3] => { results := [.lit (.bool true)], args := [d1, d2, d3] }
  | _ => none }
def diskDurableRow : OpenClaim := { program := "ytpipgbjkkiheaaa", sum := "27393a0bde56093d289cbe862a1c31f93892f557c148f4e3720c13acbdd16396", func := "needlestore/needlestorelaw10.DiskDurable", spec := "diskDurable", unfollowed := true, recurses := true, apart := false }
def DiskDurableSaid : Prop := diskDurableRow.holds Try.pinned (OpenSpec.ofChange diskDurableSpec)

/-- ITS FALSE NEIGHBOUR: 'it returns false'. Refute it at one input. -/
def diskDurableWrong : ChangeSpec := { name := "diskDurable", fn := fun _ => fun
  | [d1, d2, d3] => { results := [.lit (.bool false)], args := [d1, d2, d3] }
  | _ => none }
def DiskDurableWrongFalsely : Prop := diskDurableRow.holds Try.pinned (OpenSpec.ofChange diskDurableWrong)

/-- 'needlestorelaw10.DiskPrefix': WHATEVER THE INPUT: true; the input reads as it did. -/
def diskPrefixSpec : ChangeSpec := { name := "diskPrefix", fn := fun _ => fun
  | [d1, d2, d3, d4] => { results := [.lit (.bool true)], args := [d1, d2, d3, d4] }
  | _ => none }
def diskPrefixRow : OpenClaim := { program := "ytpipgbjkkiheaaa", sum := "27393a0bde56093d289cbe862a1c31f93892f557c148f4e3720c13acbdd16396", func := "needlestore/needlestorelaw10.DiskPrefix", spec := "diskPrefix", unfollowed := true, recurses := true, apart := false }
def DiskPrefixSaid : Prop := diskPrefixRow.holds Try.pinned (OpenSpec.ofChange diskPrefixSpec)

/-- ITS FALSE NEIGHBOUR: 'it returns false'. Refute it at one input. -/
def diskPrefixWrong : ChangeSpec := { name := "diskPrefix", fn := fun _ => fun
  | [d1, d2, d3, d4] => { results := [.lit (.bool false)], args := [d1, d2, d3, d4] }
  | _ => none }
def DiskPrefixWrongFalsely : Prop := diskPrefixRow.holds Try.pinned (OpenSpec.ofChange diskPrefixWrong)

/-- 'needlestorelaw10.DiskMoves': WHATEVER THE INPUT: true; the input reads as it did. -/
def diskMovesSpec : ChangeSpec := { name := "diskMoves", fn := fun _ => fun
  | [d1, d2, d3] => { results := [.lit (.bool true)], args := [d1, d2, d3] }
  | _ => none }
def diskMovesRow : OpenClaim := { program := "ytpipgbjkkiheaaa", sum := "27393a0bde56093d289cbe862a1c31f93892f557c148f4e3720c13acbdd16396", func := "needlestore/needlestorelaw10.DiskMoves", spec := "diskMoves", unfollowed := true, recurses := true, apart := false }
def DiskMovesSaid : Prop := diskMovesRow.holds Try.pinned (OpenSpec.ofChange diskMovesSpec)

/-- ITS FALSE NEIGHBOUR: 'it returns false'. Refute it at one input. -/
def diskMovesWrong : ChangeSpec := { name := "diskMoves", fn := fun _ => fun
  | [d1, d2, d3] => { results := [.lit (.bool false)], args := [d1, d2, d3] }
  | _ => none }
def DiskMovesWrongFalsely : Prop := diskMovesRow.holds Try.pinned (OpenSpec.ofChange diskMovesWrong)

/-- 'needlestorelaw10.DiskPower': WHATEVER THE INPUT: true; the input reads as it did. -/
def diskPowerSpec : ChangeSpec := { name := "diskPower", fn := fun _ => fun
  | [d1, d2] => { results := [.lit (.bool true)], args := [d1, d2] }
  | _ => none }
def diskPowerRow : OpenClaim := { program := "ytpipgbjkkiheaaa", sum := "27393a0bde56093d289cbe862a1c31f93892f557c148f4e3720c13acbdd16396", func := "needlestore/needlestorelaw10.DiskPower", spec := "diskPower", unfollowed := true, recurses := true, apart := false }
def DiskPowerSaid : Prop := diskPowerRow.holds Try.pinned (OpenSpec.ofChange diskPowerSpec)

/-- ITS FALSE NEIGHBOUR: 'it returns false'. Refute it at one input. -/
def diskPowerWrong : ChangeSpec := { name := "diskPower", fn := fun _ => fun
  | [d1, d2] => { results := [.lit (.bool false)], args := [d1, d2] }
  | _ => none }
def DiskPowerWrongFalsely : Prop := diskPowerRow.holds Try.pinned (OpenSpec.ofChange diskPowerWrong)

/-- 'needlestorelaw10.DiskCapacity': WHATEVER THE INPUT: true; the input reads as it did. -/
def diskCapacitySpec : ChangeSpec := { name := "diskCapacity", fn := fun _ => fun
  | [d1, d2] => { results := [.lit (.bool true)], args := [d1, d2] }
  | _ => none }
def diskCapacityRow : OpenClaim := { program := "ytpipgbjkkiheaaa", sum := "27393a0bde56093d289cbe862a1c31f93892f557c148f4e3720c13acbdd16396", func := "needlestore/needlestorelaw10.DiskCapacity", spec := "diskCapacity", unfollowed := true, recurses := true, apart := false }
def DiskCapacitySaid : Prop := diskCapacityRow.holds Try.pinned (OpenSpec.ofChange diskCapacitySpec)

/-- ITS FALSE NEIGHBOUR: 'it returns false'. Refute it at one input. -/
def diskCapacityWrong : ChangeSpec := { name := "diskCapacity", fn := fun _ => fun
  | [d1, d2] => { results := [.lit (.bool false)], args := [d1, d2] }
  | _ => none }
def DiskCapacityWrongFalsely : Prop := diskCapacityRow.holds Try.pinned (OpenSpec.ofChange diskCapacityWrong)

/- THE SECOND FORM. 'bulk': how many values and letters a reading holds, each counted each time it is reached (what is shared counts as often as it is met; a slice's spare places count too). A statement '..UptoSaid' is the law's where the arguments, and the package variables that the reading takes, are together of bulk at most 1048576: NARROWER than '..Said'. Prove '..Said' where nothing that the law and all that it calls make is longer than what came in: it says more and counts as full. Else prove '..UptoSaid'. A law counts once. -/
mutual
def uptoBulk {H : Type} : DataW H → Nat
  | .lit (.string bytes) => bytes.length + 1
  | .lit _ => 1
  | .nil => 1
  | .ptr d => uptoBulk d + 1
  | .slice elems spare => uptoBulkAll elems + uptoBulkAll spare + 1
  | .agg parts => uptoBulkAll parts + 1
  | .iface _ d => uptoBulk d + 1
  | .map entries => uptoBulkEntries entries + 1
  | .held _ => 1
def uptoBulkAll {H : Type} : List (DataW H) → Nat
  | [] => 0
  | d :: r => uptoBulk d + uptoBulkAll r
def uptoBulkEntries {H : Type} : List (Lit × DataW H) → Nat
  | [] => 0
  | x :: r => uptoBulkEntry x + uptoBulkEntries r
def uptoBulkEntry {H : Type} : Lit × DataW H → Nat
  | (.string bytes, d) => bytes.length + uptoBulk d + 1
  | (_, d) => uptoBulk d + 1
 end
def uptoSmall : (H : Type) → List (DataW H) → Bool := fun _ ds => decide (uptoBulkAll ds ≤ 1048576)
def OpenSpec.upto (s : _root_.Go.ChangeSpec) : _root_.Go.OpenSpec := { _root_.Go.OpenSpec.ofChange s with cond := some uptoSmall }

/-- 'needlestorelaw10.DiskValid', WHERE WHAT IT READS IS OF BULK AT MOST 1048576: true; the input reads as it did. -/
def diskValidUptoRow : OpenClaim := { program := "ytpipgbjkkiheaaa", sum := "27393a0bde56093d289cbe862a1c31f93892f557c148f4e3720c13acbdd16396", func := "needlestore/needlestorelaw10.DiskValid", spec := "diskValid", unfollowed := true, recurses := true, apart := false, narrowed := true }
def DiskValidUptoSaid : Prop := diskValidUptoRow.holds Try.pinned (OpenSpec.upto diskValidSpec)

/-- 'needlestorelaw10.DiskReads', WHERE WHAT IT READS IS OF BULK AT MOST 1048576: true; the input reads as it did. -/
def diskReadsUptoRow : OpenClaim := { program := "ytpipgbjkkiheaaa", sum := "27393a0bde56093d289cbe862a1c31f93892f557c148f4e3720c13acbdd16396", func := "needlestore/needlestorelaw10.DiskReads", spec := "diskReads", unfollowed := true, recurses := true, apart := false, narrowed := true }
def DiskReadsUptoSaid : Prop := diskReadsUptoRow.holds Try.pinned (OpenSpec.upto diskReadsSpec)

/-- 'needlestorelaw10.DiskOps', WHERE WHAT IT READS IS OF BULK AT MOST 1048576: true; the input reads as it did. -/
def diskOpsUptoRow : OpenClaim := { program := "ytpipgbjkkiheaaa", sum := "27393a0bde56093d289cbe862a1c31f93892f557c148f4e3720c13acbdd16396", func := "needlestore/needlestorelaw10.DiskOps", spec := "diskOps", unfollowed := true, recurses := true, apart := false, narrowed := true }
def DiskOpsUptoSaid : Prop := diskOpsUptoRow.holds Try.pinned (OpenSpec.upto diskOpsSpec)

/-- 'needlestorelaw10.DiskHistories', WHERE WHAT IT READS IS OF BULK AT MOST 1048576: true; the input reads as it did. -/
def diskHistoriesUptoRow : OpenClaim := { program := "ytpipgbjkkiheaaa", sum := "27393a0bde56093d289cbe862a1c31f93892f557c148f4e3720c13acbdd16396", func := "needlestore/needlestorelaw10.DiskHistories", spec := "diskHistories", unfollowed := true, recurses := true, apart := false, narrowed := true }
def DiskHistoriesUptoSaid : Prop := diskHistoriesUptoRow.holds Try.pinned (OpenSpec.upto diskHistoriesSpec)

/-- 'needlestorelaw10.DiskWrites', WHERE WHAT IT READS IS OF BULK AT MOST 1048576: true; the input reads as it did. -/
def diskWritesUptoRow : OpenClaim := { program := "ytpipgbjkkiheaaa", sum := "27393a0bde56093d289cbe862a1c31f93892f557c148f4e3720c13acbdd16396", func := "needlestore/needlestorelaw10.DiskWrites", spec := "diskWrites", unfollowed := true, recurses := true, apart := false, narrowed := true }
def DiskWritesUptoSaid : Prop := diskWritesUptoRow.holds Try.pinned (OpenSpec.upto diskWritesSpec)

/-- 'needlestorelaw10.DiskDurable', WHERE WHAT IT READS IS OF BULK AT MOST 1048576: true; the input reads as it did. -/
def diskDurableUptoRow : OpenClaim := { program := "ytpipgbjkkiheaaa", sum := "27393a0bde56093d289cbe862a1c31f93892f557c148f4e3720c13acbdd16396", func := "needlestore/needlestorelaw10.DiskDurable", spec := "diskDurable", unfollowed := true, recurses := true, apart := false, narrowed := true }
def DiskDurableUptoSaid : Prop := diskDurableUptoRow.holds Try.pinned (OpenSpec.upto diskDurableSpec)

/-- 'needlestorelaw10.DiskPrefix', WHERE WHAT IT READS IS OF BULK AT MOST 1048576: true; the input reads as it did. -/
def diskPrefixUptoRow : OpenClaim := { program := "ytpipgbjkkiheaaa", sum := "27393a0bde56093d289cbe862a1c31f93892f557c148f4e3720c13acbdd16396", func := "needlestore/needlestorelaw10.DiskPrefix", spec := "diskPrefix", unfollowed := true, recurses := true, apart := false, narrowed := true }
def DiskPrefixUptoSaid : Prop := diskPrefixUptoRow.holds Try.pinned (OpenSpec.upto diskPrefixSpec)

/-- 'needlestorelaw10.DiskMoves', WHERE WHAT IT READS IS OF BULK AT MOST 1048576: true; the input reads as it did. -/
def diskMovesUptoRow : OpenClaim := { program := "ytpipgbjkkiheaaa", sum := "27393a0bde56093d289cbe862a1c31f93892f557c148f4e3720c13acbdd16396", func := "needlestore/needlestorelaw10.DiskMoves", spec := "diskMoves", unfollowed := true, recurses := true, apart := false, narrowed := true }
def DiskMovesUptoSaid : Prop := diskMovesUptoRow.holds Try.pinned (OpenSpec.upto diskMovesSpec)

/-- 'needlestorelaw10.DiskPower', WHERE WHAT IT READS IS OF BULK AT MOST 1048576: true; the input reads as it did. -/
def diskPowerUptoRow : OpenClaim := { program := "ytpipgbjkkiheaaa", sum := "27393a0bde56093d289cbe862a1c31f93892f557c148f4e3720c13acbdd16396", func := "needlestore/needlestorelaw10.DiskPower", spec := "diskPower", unfollowed := true, recurses := true, apart := false, narrowed := true }
def DiskPowerUptoSaid : Prop := diskPowerUptoRow.holds Try.pinned (OpenSpec.upto diskPowerSpec)

/-- 'needlestorelaw10.DiskCapacity', WHERE WHAT IT READS IS OF BULK AT MOST 1048576: true; the input reads as it did. -/
def diskCapacityUptoRow : OpenClaim := { program := "ytpipgbjkkiheaaa", sum := "27393a0bde56093d289cbe862a1c31f93892f557c148f4e3720c13acbdd16396", func := "needlestore/needlestorelaw10.DiskCapacity", spec := "diskCapacity", unfollowed := true, recurses := true, apart := false, narrowed := true }
def DiskCapacityUptoSaid : Prop := diskCapacityUptoRow.holds Try.pinned (OpenSpec.upto diskCapacitySpec)

end Rows
end Go.Proofs.Ytpipgbjkkiheaaa
