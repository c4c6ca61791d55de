/-
  No cell of these rows narrows 'for every input' (looked for: loops, veiled, ifaces, maps, wideKeys, modest, calm, conditions, laid).
  DERIVED. THE GIVEN ROWS OF THIS SEAT. 6 by the template 'for every input the law returns true; each argument reads behind the call as it read before'; 0 by the template 'total and deterministic' (their statements: YtlooldnaoooehaaTotals.lean).
  GIVEN WITH THE SEED: the statements are not yours to turn. If you find one false, say at which input.
  Laid BY PROGRAM, IN A SANDBOX (cutbox-rows.mjs): the forced cells as the released guide's own fill.sh prints them over the translation d1ad8ba2cfe621b7… (all of the seat's roots in one cut). By AI agents, Wed Nov 11 2026. No macro, syntax, notation, axiom, sorry.
-/
import Derived.Test.YtlooldnaoooehaaChecked
import GoSem.Claim
import GoSem.ClaimJoined
import GoSem.ClaimMapViews
import Derived.JoinedTies
import Derived.KernelRfl
namespace Go.Proofs.Ytlooldnaoooehaa
/- THE CELL 'sum', in the pinned program and in every row, IS THE sha256 OF THE DUMP (.gsa) THAT YtlooldnaoooehaaProg.lean LOADS. Nothing in Lean hashes anything: it is a label: what it is worth is what the hold of that sum in a sandbox is worth. -/
noncomputable def Try.pinned : Pinned := { name := "ytlooldnaoooehaa", sum := "d1ad8ba2cfe621b7961af6d0bcc3100a579ebcf1337966e670d6a3f94cb7a31d", checked := Try.checked }
namespace Rows
def none {H : Type} : Left H := { results := [], args := [] }

/-- 'needlestorelaw11.NmapReads': WHATEVER THE INPUT: true; the input reads as it did. -/
def nmapReadsSpec : ChangeSpec := { name := "nmapReads", fn := fun _ => fun
  | [d1, d2, d3, d4] => { results := [.lit (.bool true)], args := [d1, d2, d3, d4] }
  | _ => none }
def nmapReadsRow : OpenClaim := { program := "ytlooldnaoooehaa", sum := "d1ad8ba2cfe621b7961af6d0bcc3100a579ebcf1337966e670d6a3f94cb7a31d", func := "needlestore/needlestorelaw11.NmapReads", spec := "nmapReads", unfollowed := true, recurses := true, apart := false }
def NmapReadsSaid : Prop := nmapReadsRow.holds Try.pinned (OpenSpec.ofChange nmapReadsSpec)

/-- ITS FALSE NEIGHBOUR: 'it returns false'. Refute it at one input. -/
def nmapReadsWrong : ChangeSpec := { name := "nmapReads", fn := fun _ => fun
  | [d1, d2, d3, d4] => { results := [.lit (.bool false)], args := [d1, d2, d3, d4] }
  | _ => none }
def NmapReadsWrongFalsely : Prop := nmapReadsRow.holds Try.pinned (OpenSpec.ofChange nmapReadsWrong)

/-- 'needlestorelaw11.NmapChanges': WHATEVER THE INPUT: true; the input reads as it did. -/
def nmapChangesSpec : ChangeSpec := { name := "nmapChanges", fn := fun _ => fun
  | [d1, d2, d3, d4, d5] => { results := [.lit (.bool true)], args := [d1, d2, d3, d4, d5] }
  | _ => none }
def nmapChangesRow : OpenClaim := { program := "ytlooldnaoooehaa", sum := "d1ad8ba2cfe621b7961af6d0bcc3100a579ebcf1337966e670d6a3f94cb7a31d", func := "needlestore/needlestorelaw11.NmapChanges", spec := "nmapChanges", unfollowed := true, recurses := true, apart := false }
def NmapChangesSaid : Prop := nmapChangesRow.holds Try.pinned (OpenSpec.ofChange nmapChangesSpec)

/-- ITS FALSE NEIGHBOUR: 'it returns false'. Refute it at one input. -/
def nmapChangesWrong : ChangeSpec := { name := "nmapChanges", fn := fun _ => fun
  | [d1, d2, d3, d4, d5] => { results := [.lit (.bool false)], args := [d1, d2, d3, d4, d5] }
  | _ => none }
def NmapChangesWrongFalsely : Prop := nmapChangesRow.holds Try.pinned (OpenSpec.ofChange nmapChangesWrong)

/-- 'needlestorelaw11.NmapKeys': WHATEVER THE INPUT: true; the input reads as it did. -/
def nmapKeysSpec : ChangeSpec := { name := "nmapKeys", fn := fun _ => fun
  | [d1, d2, d3] => { results := [.lit (.bool true)], args := [d1, d2, d3] }
  | _ => none }
def nmapKeysRow : OpenClaim := { program := "ytlooldnaoooehaa", sum := "d1ad8ba2cfe621b7961af6d0bcc3100a579ebcf1337966e670d6a3f94cb7a31d", func := "needlestore/needlestorelaw11.NmapKeys", spec := "nmapKeys", unfollowed := true, recurses := true, apart := false }
def NmapKeysSaid : Prop := nmapKeysRow.holds Try.pinned (OpenSpec.ofChange nmapKeysSpec)

/-- ITS FALSE NEIGHBOUR: 'it returns false'. Refute it at one input. -/
def nmapKeysWrong : ChangeSpec := { name := "nmapKeys", fn := fun _ => fun
  | [d1, d2, d3] => { results := [.lit (.bool false)], args := [d1, d2, d3] }
  | _ => none }
def NmapKeysWrongFalsely : Prop := nmapKeysRow.holds Try.pinned (OpenSpec.ofChange nmapKeysWrong)

/-- 'needlestorelaw11.NmapCounts': WHATEVER THE INPUT: true; the input reads as it did. -/
def nmapCountsSpec : ChangeSpec := { name := "nmapCounts", fn := fun _ => fun
  | [d1, d2, d3] => { results := [.lit (.bool true)], args := [d1, d2, d3] }
  | _ => none }
def nmapCountsRow : OpenClaim := { program := "ytlooldnaoooehaa", sum := "d1ad8ba2cfe621b7961af6d0bcc3100a579ebcf1337966e670d6a3f94cb7a31d", func := "needlestore/needlestorelaw11.NmapCounts", spec := "nmapCounts", unfollowed := true, recurses := true, apart := false }
def NmapCountsSaid : Prop := nmapCountsRow.holds Try.pinned (OpenSpec.ofChange nmapCountsSpec)

/-- ITS FALSE NEIGHBOUR: 'it returns false'. Refute it at one input. -/
def nmapCountsWrong : ChangeSpec := { name := "nmapCounts", fn := fun _ => fun
  | [d1, d2, d3] => { results := [.lit (.bool false)], args := [d1, d2, d3] }
  | _ => none }
def NmapCountsWrongFalsely : Prop := nmapCountsRow.holds Try.pinned (OpenSpec.ofChange nmapCountsWrong)

/-- 'needlestorelaw11.NmapOrder': WHATEVER THE INPUT: true; the input reads as it did. -/
def nmapOrderSpec : ChangeSpec := { name := "nmapOrder", fn := fun _ => fun
  | [d1, d2, d3] => { results := [.lit (.bool true)], args := [d1, d2, d3] }
  | _ => none }
def nmapOrderRow : OpenClaim := { program := "ytlooldnaoooehaa", sum := "d1ad8ba2cfe621b7961af6d0bcc3100a579ebcf1337966e670d6a3f94cb7a31d", func := "needlestore/needlestorelaw11.NmapOrder", spec := "nmapOrder", unfollowed := true, recurses := true, apart := false }
def NmapOrderSaid : Prop := nmapOrderRow.holds Try.pinned (OpenSpec.ofChange nmapOrderSpec)

/-- ITS FALSE NEIGHBOUR: 'it returns false'. Refute it at one input. -/
def nmapOrderWrong : ChangeSpec := { name := "nmapOrder", fn := fun _ => fun
  | [d1, d2, d3] => { results := [.lit (.bool false)], args := [d1, d2, d3] }
  | _ => none }
def NmapOrderWrongFalsely : Prop := nmapOrderRow.holds Try.pinned (OpenSpec.ofChange nmapOrderWrong)

/-- 'needlestorelaw11.NmapWhole': WHATEVER THE INPUT: true; the input reads as it did. -/
def nmapWholeSpec : ChangeSpec := { name := "nmapWhole", fn := fun _ => fun
  | [d1, d2] => { results := [.lit (.bool true)], args := [d1, d2] }
  | _ => none }
def nmapWholeRow : OpenClaim := { program := "ytlooldnaoooehaa", sum := "d1ad8ba2cfe621b7961af6d0bcc3100a579ebcf1337966e670d6a3f94cb7a31d", func := "needlestore/needlestorelaw11.NmapWhole", spec := "nmapWhole", unfollowed := true, recurses := true, apart := false }
def NmapWholeSaid : Prop := nmapWholeRow.holds Try.pinned (OpenSpec.ofChange nmapWholeSpec)

/-- ITS FALSE NEIGHBOUR: 'it returns false'. Refute it at one input. -/
def nmapWholeWrong : ChangeSpec := { name := "nmapWhole", fn := fun _ => fun
  | [d1, d2] => { results := [.lit (.bool false)], args := [d1, d2] }
  | _ => none }
def NmapWholeWrongFalsely : Prop := nmapWholeRow.holds Try.pinned (OpenSpec.ofChange nmapWholeWrong)

/- THE SECOND FORM. 'bulk': how many values and letters a reading holds, each counted each time it is reached (what is shared counts as often as it is met; a slice's spare places count too). A statement '..UptoSaid' is the law's where the arguments, and the package variables that the reading takes, are together of bulk at most 1048576: NARROWER than '..Said'. Prove '..Said' where nothing that the law and all that it calls make is longer than what came in: it says more and counts as full. Else prove '..UptoSaid'. A law counts once. -/
mutual
def uptoBulk {H : Type} : DataW H → Nat
  | .lit (.string bytes) => bytes.length + 1
  | .lit _ => 1
  | .nil => 1
  | .ptr d => uptoBulk d + 1
  | .slice elems spare => uptoBulkAll elems + uptoBulkAll spare + 1
  | .agg parts => uptoBulkAll parts + 1
  | .iface _ d => uptoBulk d + 1
  | .map entries => uptoBulkEntries entries + 1
  | .held _ => 1
def uptoBulkAll {H : Type} : List (DataW H) → Nat
  | [] => 0
  | d :: r => uptoBulk d + uptoBulkAll r
def uptoBulkEntries {H : Type} : List (Lit × DataW H) → Nat
  | [] => 0
  | x :: r => uptoBulkEntry x + uptoBulkEntries r
def uptoBulkEntry {H : Type} : Lit × DataW H → Nat
  | (.string bytes, d) => bytes.length + uptoBulk d + 1
  | (_, d) => uptoBulk d + 1
 end
def uptoSmall : (H : Type) → List (DataW H) → Bool := fun _ ds => decide (uptoBulkAll ds ≤ 1048576)
def OpenSpec.upto (s : _root_.Go.ChangeSpec) : _root_.Go.OpenSpec := { _root_.Go.OpenSpec.ofChange s with cond := some uptoSmall }

/-- 'needlestorelaw11.NmapReads', WHERE WHAT IT READS IS OF BULK AT MOST 1048576: true; the input reads as it did. -/
def nmapReadsUptoRow : OpenClaim := { program := "ytlooldnaoooehaa", sum := "d1ad8ba2cfe621b7961af6d0bcc3100a579ebcf1337966e670d6a3f94cb7a31d", func := "needlestore/needlestorelaw11.NmapReads", spec := "nmapReads", unfollowed := true, recurses := true, apart := false, narrowed := true }
def NmapReadsUptoSaid : Prop := nmapReadsUptoRow.holds Try.pinned (OpenSpec.upto nmapReadsSpec)

/-- 'needlestorelaw11.NmapChanges', WHERE WHAT IT READS IS OF BULK AT MOST 1048576: true; the input reads as it did. -/
def nmapChangesUptoRow : OpenClaim := { program := "ytlooldnaoooehaa", sum := "d1ad8ba2cfe621b7961af6d0bcc3100a579ebcf1337966e670d6a3f94cb7a31d", func := "needlestore/needlestorelaw11.NmapChanges", spec := "nmapChanges", unfollowed := true, recurses := true, apart := false, narrowed := true }
def NmapChangesUptoSaid : Prop := nmapChangesUptoRow.holds Try.pinned (OpenSpec.upto nmapChangesSpec)

/-- 'needlestorelaw11.NmapKeys', WHERE WHAT IT READS IS OF BULK AT MOST 1048576: true; the input reads as it did. -/
def nmapKeysUptoRow : OpenClaim := { program := "ytlooldnaoooehaa", sum := "d1ad8ba2cfe621b7961af6d0bcc3100a579ebcf1337966e670d6a3f94cb7a31d", func := "needlestore/needlestorelaw11.NmapKeys", spec := "nmapKeys", unfollowed := true, recurses := true, apart := false, narrowed := true }
def NmapKeysUptoSaid : Prop := nmapKeysUptoRow.holds Try.pinned (OpenSpec.upto nmapKeysSpec)

/-- 'needlestorelaw11.NmapCounts', WHERE WHAT IT READS IS OF BULK AT MOST 1048576: true; the input reads as it did. -/
def nmapCountsUptoRow : OpenClaim := { program := "ytlooldnaoooehaa", sum := "d1ad8ba2cfe621b7961af6d0bcc3100a579ebcf1337966e670d6a3f94cb7a31d", func := "needlestore/needlestorelaw11.NmapCounts", spec := "nmapCounts", unfollowed := true, recurses := true, apart := false, narrowed := true }
def NmapCountsUptoSaid : Prop := nmapCountsUptoRow.holds Try.pinned (OpenSpec.upto nmapCountsSpec)

/-- 'needlestorelaw11.NmapOrder', WHERE WHAT IT READS IS OF BULK AT MOST 1048576: true; the input reads as it did. -/
def nmapOrderUptoRow : OpenClaim := { program := "ytlooldnaoooehaa", sum := "d1ad8ba2cfe621b7961af6d0bcc3100a579ebcf1337966e670d6a3f94cb7a31d", func := "needlestore/needlestorelaw11.NmapOrder", spec := "nmapOrder", unfollowed := true, recurses := true, apart := false, narrowed := true }
def NmapOrderUptoSaid : Prop := nmapOrderUptoRow.holds Try.pinned (OpenSpec.upto nmapOrderSpec)

/-- 'needlestorelaw11.NmapWhole', WHERE WHAT IT READS IS OF BULK AT MOST 1048576: true; the input reads as it did. -/
def nmapWholeUptoRow : OpenClaim := { program := "ytlooldnaoooehaa", sum := "d1ad8ba2cfe621b7961af6d0bcc3100a579ebcf1337966e670d6a3f94cb7a31d", func := "needlestore/needlestorelaw11.NmapWhole", spec := "nmapWhole", unfollowed := true, recurses := true, apart := false, narrowed := true }
def NmapWholeUptoSaid : Prop := nmapWholeUptoRow.holds Try.pinned (OpenSpec.upto nmapWholeSpec)

end Rows
end Go.Proofs.Ytlooldnaoooehaa
