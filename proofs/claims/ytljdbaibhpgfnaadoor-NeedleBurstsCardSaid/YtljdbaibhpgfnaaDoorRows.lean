/-
  NARROWER THAN 'FOR EVERY INPUT', by the rows' own cells (each row's printed sentence says how): NeedleSizes: laid · NeedleEncodes: laid · NeedleDecodes: laid · NeedleBack: laid · NeedleUnique: laid · NeedleBursts: laid · NeedleShort: laid.
  DERIVED. THE GIVEN ROWS OF THIS SEAT. 7 by the template 'for every input the law returns true; each argument reads behind the call as it read before'; 0 by the template 'total and deterministic' (their statements: YtljdbaibhpgfnaaDoorTotals.lean).
  GIVEN WITH THE SEED: the statements are not yours to turn. If you find one false, say at which input.
  Laid BY PROGRAM, IN A SANDBOX (cutbox-rows.mjs): the forced cells as the released guide's own fill.sh prints them over the translation b7cb673d72e34c3c… (all of the seat's roots in one cut). By AI agents, Wed Nov 11 2026. No macro, syntax, notation, axiom, sorry.
-/
import Derived.Test.YtljdbaibhpgfnaaDoorChecked
import GoSem.Claim
import GoSem.ClaimJoined
import GoSem.ClaimMapViews
import Derived.JoinedTies
import Derived.KernelRfl
namespace Go.Proofs.YtljdbaibhpgfnaaDoor
/- THE CELL 'sum', in the pinned program and in every row, IS THE sha256 OF THE DUMP (.gsa) THAT YtljdbaibhpgfnaaDoorProg.lean LOADS. Nothing in Lean hashes anything: it is a label: what it is worth is what the hold of that sum in a sandbox is worth. -/
noncomputable def Tryd.pinned : Pinned := { name := "ytljdbaibhpgfnaadoor", sum := "b7cb673d72e34c3c46432a77421207a0029d69ff6d6ccbbc8e84b7d4007ae7e5", checked := Tryd.checked }
namespace Rows
def none {H : Type} : Left H := { results := [], args := [] }

/- WHAT THE LISTED PACKAGE-LEVEL VARIABLES READ AS WHEN THE CALL BEGINS. Each datum BY PROGRAM (the guide's laid-datum.mjs) off the statement by which the dump's own 'gosem.cut.vars' lays the variable. In a bare row this is a premise. The card (YtljdbaibhpgfnaaDoorCards.lean) ties it to the program's text. -/
def laid_needlestore_crc32c_nibbles {H : Type} : DataW H := .agg [.lit (.int .u32 0), .lit (.int .u32 274646895), .lit (.int .u32 549293790), .lit (.int .u32 820201905), .lit (.int .u32 1098587580), .lit (.int .u32 1361435347), .lit (.int .u32 1640403810), .lit (.int .u32 1905808397), .lit (.int .u32 2197175160), .lit (.int .u32 2460548119), .lit (.int .u32 2722870694), .lit (.int .u32 2987750089), .lit (.int .u32 3280807620), .lit (.int .u32 3553878443), .lit (.int .u32 3811616794), .lit (.int .u32 4084100981)]

/-- 'needlestorelaw06.NeedleSizes': WHATEVER THE INPUT: true; the input reads as it did. -/
def needleSizesSpec : ChangeSpec := { name := "needleSizes", fn := fun _ => fun
  | [d1, d2] => { results := [.lit (.bool true)], args := [d1, d2] }
  | _ => none }
def needleSizesRow : OpenClaim := { program := "ytljdbaibhpgfnaadoor", sum := "b7cb673d72e34c3c46432a77421207a0029d69ff6d6ccbbc8e84b7d4007ae7e5", func := "needlestore/needlestorelaw06.NeedleSizes", spec := "needleSizes", unfollowed := true, recurses := true, named := ["needlestore/crc32c.nibbles"], apart := false, laid := [("needlestore/crc32c.nibbles", laid_needlestore_crc32c_nibbles)] }
def NeedleSizesSaid : Prop := needleSizesRow.holds Tryd.pinned (OpenSpec.ofChange needleSizesSpec)

/-- ITS FALSE NEIGHBOUR: 'it returns false'. Refute it at one input. -/
def needleSizesWrong : ChangeSpec := { name := "needleSizes", fn := fun _ => fun
  | [d1, d2] => { results := [.lit (.bool false)], args := [d1, d2] }
  | _ => none }
def NeedleSizesWrongFalsely : Prop := needleSizesRow.holds Tryd.pinned (OpenSpec.ofChange needleSizesWrong)

/-- 'needlestorelaw06.NeedleEncodes': WHATEVER THE INPUT: true; the input reads as it did. -/
def needleEncodesSpec : ChangeSpec := { name := "needleEncodes", fn := fun _ => fun
  | [d1, d2] => { results := [.lit (.bool true)], args := [d1, d2] }
  | _ => none }
def needleEncodesRow : OpenClaim := { program := "ytljdbaibhpgfnaadoor", sum := "b7cb673d72e34c3c46432a77421207a0029d69ff6d6ccbbc8e84b7d4007ae7e5", func := "needlestore/needlestorelaw06.NeedleEncodes", spec := "needleEncodes", unfollowed := true, recurses := true, named := ["needlestore/crc32c.nibbles"], apart := false, laid := [("needlestore/crc32c.nibbles", laid_needlestore_crc32c_nibbles)] }
def NeedleEncodesSaid : Prop := needleEncodesRow.holds Tryd.pinned (OpenSpec.ofChange needleEncodesSpec)

/-- ITS FALSE NEIGHBOUR: 'it returns false'. Refute it at one input. -/
def needleEncodesWrong : ChangeSpec := { name := "needleEncodes", fn := fun _ => fun
  | [d1, d2] => { results := [.lit (.bool false)], args := [d1, d2] }
  | _ => none }
def NeedleEncodesWrongFalsely : Prop := needleEncodesRow.holds Tryd.pinned (OpenSpec.ofChange needleEncodesWrong)

/-- 'needlestorelaw06.NeedleDecodes': WHATEVER THE INPUT: true; the input reads as it did. -/
def needleDecodesSpec : ChangeSpec := { name := "needleDecodes", fn := fun _ => fun
  | [d1, d2, d3, d4, d5] => { results := [.lit (.bool true)], args := [d1, d2, d3, d4, d5] }
  | _ => none }
def needleDecodesRow : OpenClaim := { program := "ytljdbaibhpgfnaadoor", sum := "b7cb673d72e34c3c46432a77421207a0029d69ff6d6ccbbc8e84b7d4007ae7e5", func := "needlestore/needlestorelaw06.NeedleDecodes", spec := "needleDecodes", unfollowed := true, recurses := true, named := ["needlestore/crc32c.nibbles"], apart := false, laid := [("needlestore/crc32c.nibbles", laid_needlestore_crc32c_nibbles)] }
def NeedleDecodesSaid : Prop := needleDecodesRow.holds Tryd.pinned (OpenSpec.ofChange needleDecodesSpec)

/-- ITS FALSE NEIGHBOUR: 'it returns false'. Refute it at one input. -/
def needleDecodesWrong : ChangeSpec := { name := "needleDecodes", fn := fun _ => fun
  | [d1, d2, d3, d4, d5] => { results := [.lit (.bool false)], args := [d1, d2, d3, d4, d5] }
  | _ => none }
def NeedleDecodesWrongFalsely : Prop := needleDecodesRow.holds Tryd.pinned (OpenSpec.ofChange needleDecodesWrong)

/-- 'needlestorelaw06.NeedleBack': WHATEVER THE INPUT: true; the input reads as it did. -/
def needleBackSpec : ChangeSpec := { name := "needleBack", fn := fun _ => fun
  | [d1, d2] => { results := [.lit (.bool true)], args := [d1, d2] }
  | _ => none }
def needleBackRow : OpenClaim := { program := "ytljdbaibhpgfnaadoor", sum := "b7cb673d72e34c3c46432a77421207a0029d69ff6d6ccbbc8e84b7d4007ae7e5", func := "needlestore/needlestorelaw06.NeedleBack", spec := "needleBack", unfollowed := true, recurses := true, named := ["needlestore/crc32c.nibbles"], apart := false, laid := [("needlestore/crc32c.nibbles", laid_needlestore_crc32c_nibbles)] }
def NeedleBackSaid : Prop := needleBackRow.holds Tryd.pinned (OpenSpec.ofChange needleBackSpec)

/-- ITS FALSE NEIGHBOUR: 'it returns false'. Refute it at one input. -/
def needleBackWrong : ChangeSpec := { name := "needleBack", fn := fun _ => fun
  | [d1, d2] => { results := [.lit (.bool false)], args := [d1, d2] }
  | _ => none }
def NeedleBackWrongFalsely : Prop := needleBackRow.holds Tryd.pinned (OpenSpec.ofChange needleBackWrong)

/-- 'needlestorelaw06.NeedleUnique': WHATEVER THE INPUT: true; the input reads as it did. -/
def needleUniqueSpec : ChangeSpec := { name := "needleUnique", fn := fun _ => fun
  | [d1, d2, d3, d4] => { results := [.lit (.bool true)], args := [d1, d2, d3, d4] }
  | _ => none }
def needleUniqueRow : OpenClaim := { program := "ytljdbaibhpgfnaadoor", sum := "b7cb673d72e34c3c46432a77421207a0029d69ff6d6ccbbc8e84b7d4007ae7e5", func := "needlestore/needlestorelaw06.NeedleUnique", spec := "needleUnique", unfollowed := true, recurses := true, named := ["needlestore/crc32c.nibbles"], apart := false, laid := [("needlestore/crc32c.nibbles", laid_needlestore_crc32c_nibbles)] }
def NeedleUniqueSaid : Prop := needleUniqueRow.holds Tryd.pinned (OpenSpec.ofChange needleUniqueSpec)

/-- ITS FALSE NEIGHBOUR: 'it returns false'. Refute it at one input. -/
def needleUniqueWrong : ChangeSpec := { name := "needleUnique", fn := fun _ => fun
  | [d1, d2, d3, d4] => { results := [.lit (.bool false)], args := [d1, d2, d3, d4] }
  | _ => none }
def NeedleUniqueWrongFalsely : Prop := needleUniqueRow.holds Tryd.pinned (OpenSpec.ofChange needleUniqueWrong)

/-- 'needlestorelaw06.NeedleBursts': WHATEVER THE INPUT: true; the input reads as it did. -/
def needleBurstsSpec : ChangeSpec := { name := "needleBursts", fn := fun _ => fun
  | [d1, d2, d3] => { results := [.lit (.bool true)], args := [d1, d2, d3] }
  | _ => none }
def needleBurstsRow : OpenClaim := { program := "ytljdbaibhpgfnaadoor", sum := "b7cb673d72e34c3c46432a77421207a0029d69ff6d6ccbbc8e84b7d4007ae7e5", func := "needlestore/needlestorelaw06.NeedleBursts", spec := "needleBursts", unfollowed := true, recurses := true, named := ["needlestore/crc32c.nibbles"], apart := false, laid := [("needlestore/crc32c.nibbles", laid_needlestore_crc32c_nibbles)] }
def NeedleBurstsSaid : Prop := needleBurstsRow.holds Tryd.pinned (OpenSpec.ofChange needleBurstsSpec)

/-- ITS FALSE NEIGHBOUR: 'it returns false'. Refute it at one input. -/
def needleBurstsWrong : ChangeSpec := { name := "needleBursts", fn := fun _ => fun
  | [d1, d2, d3] => { results := [.lit (.bool false)], args := [d1, d2, d3] }
  | _ => none }
def NeedleBurstsWrongFalsely : Prop := needleBurstsRow.holds Tryd.pinned (OpenSpec.ofChange needleBurstsWrong)

/-- 'needlestorelaw06.NeedleShort': WHATEVER THE INPUT: true; the input reads as it did. -/
def needleShortSpec : ChangeSpec := { name := "needleShort", fn := fun _ => fun
  | [d1, d2] => { results := [.lit (.bool true)], args := [d1, d2] }
  | _ => none }
def needleShortRow : OpenClaim := { program := "ytljdbaibhpgfnaadoor", sum := "b7cb673d72e34c3c46432a77421207a0029d69ff6d6ccbbc8e84b7d4007ae7e5", func := "needlestore/needlestorelaw06.NeedleShort", spec := "needleShort", unfollowed := true, recurses := true, named := ["needlestore/crc32c.nibbles"], apart := false, laid := [("needlestore/crc32c.nibbles", laid_needlestore_crc32c_nibbles)] }
def NeedleShortSaid : Prop := needleShortRow.holds Tryd.pinned (OpenSpec.ofChange needleShortSpec)

/-- ITS FALSE NEIGHBOUR: 'it returns false'. Refute it at one input. -/
def needleShortWrong : ChangeSpec := { name := "needleShort", fn := fun _ => fun
  | [d1, d2] => { results := [.lit (.bool false)], args := [d1, d2] }
  | _ => none }
def NeedleShortWrongFalsely : Prop := needleShortRow.holds Tryd.pinned (OpenSpec.ofChange needleShortWrong)

/- THE SECOND FORM. 'bulk': how many values and letters a reading holds, each counted each time it is reached (what is shared counts as often as it is met; a slice's spare places count too). A statement '..UptoSaid' is the law's where the arguments, and the package variables that the reading takes, are together of bulk at most 1048576: NARROWER than '..Said'. Prove '..Said' where nothing that the law and all that it calls make is longer than what came in: it says more and counts as full. Else prove '..UptoSaid'. A law counts once. -/
mutual
def uptoBulk {H : Type} : DataW H → Nat
  | .lit (.string bytes) => bytes.length + 1
  | .lit _ => 1
  | .nil => 1
  | .ptr d => uptoBulk d + 1
  | .slice elems spare => uptoBulkAll elems + uptoBulkAll spare + 1
  | .agg parts => uptoBulkAll parts + 1
  | .iface _ d => uptoBulk d + 1
  | .map entries => uptoBulkEntries entries + 1
  | .held _ => 1
def uptoBulkAll {H : Type} : List (DataW H) → Nat
  | [] => 0
  | d :: r => uptoBulk d + uptoBulkAll r
def uptoBulkEntries {H : Type} : List (Lit × DataW H) → Nat
  | [] => 0
  | x :: r => uptoBulkEntry x + uptoBulkEntries r
def uptoBulkEntry {H : Type} : Lit × DataW H → Nat
  | (.string bytes, d) => bytes.length + uptoBulk d + 1
  | (_, d) => uptoBulk d + 1
 end
def uptoSmall : (H : Type) → List (DataW H) → Bool := fun _ ds => decide (uptoBulkAll ds ≤ 1048576)
def OpenSpec.upto (s : _root_.Go.ChangeSpec) : _root_.Go.OpenSpec := { _root_.Go.OpenSpec.ofChange s with cond := some uptoSmall }

/-- 'needlestorelaw06.NeedleSizes', WHERE WHAT IT READS IS OF BULK AT MOST 1048576: true; the input reads as it did. -/
def needleSizesUptoRow : OpenClaim := { program := "ytljdbaibhpgfnaadoor", sum := "b7cb673d72e34c3c46432a77421207a0029d69ff6d6ccbbc8e84b7d4007ae7e5", func := "needlestore/needlestorelaw06.NeedleSizes", spec := "needleSizes", unfollowed := true, recurses := true, named := ["needlestore/crc32c.nibbles"], apart := false, laid := [("needlestore/crc32c.nibbles", laid_needlestore_crc32c_nibbles)], narrowed := true }
def NeedleSizesUptoSaid : Prop := needleSizesUptoRow.holds Tryd.pinned (OpenSpec.upto needleSizesSpec)

/-- 'needlestorelaw06.NeedleEncodes', WHERE WHAT IT READS IS OF BULK AT MOST 1048576: true; the input reads as it did. -/
def needleEncodesUptoRow : OpenClaim := { program := "ytljdbaibhpgfnaadoor", sum := "b7cb673d72e34c3c46432a77421207a0029d69ff6d6ccbbc8e84b7d4007ae7e5", func := "needlestore/needlestorelaw06.NeedleEncodes", spec := "needleEncodes", unfollowed := true, recurses := true, named := ["needlestore/crc32c.nibbles"], apart := false, laid := [("needlestore/crc32c.nibbles", laid_needlestore_crc32c_nibbles)], narrowed := true }
def NeedleEncodesUptoSaid : Prop := needleEncodesUptoRow.holds Tryd.pinned (OpenSpec.upto needleEncodesSpec)

/-- 'needlestorelaw06.NeedleDecodes', WHERE WHAT IT READS IS OF BULK AT MOST 1048576: true; the input reads as it did. -/
def needleDecodesUptoRow : OpenClaim := { program := "ytljdbaibhpgfnaadoor", sum := "b7cb673d72e34c3c46432a77421207a0029d69ff6d6ccbbc8e84b7d4007ae7e5", func := "needlestore/needlestorelaw06.NeedleDecodes", spec := "needleDecodes", unfollowed := true, recurses := true, named := ["needlestore/crc32c.nibbles"], apart := false, laid := [("needlestore/crc32c.nibbles", laid_needlestore_crc32c_nibbles)], narrowed := true }
def NeedleDecodesUptoSaid : Prop := needleDecodesUptoRow.holds Tryd.pinned (OpenSpec.upto needleDecodesSpec)

/-- 'needlestorelaw06.NeedleBack', WHERE WHAT IT READS IS OF BULK AT MOST 1048576: true; the input reads as it did. -/
def needleBackUptoRow : OpenClaim := { program := "ytljdbaibhpgfnaadoor", sum := "b7cb673d72e34c3c46432a77421207a0029d69ff6d6ccbbc8e84b7d4007ae7e5", func := "needlestore/needlestorelaw06.NeedleBack", spec := "needleBack", unfollowed := true, recurses := true, named := ["needlestore/crc32c.nibbles"], apart := false, laid := [("needlestore/crc32c.nibbles", laid_needlestore_crc32c_nibbles)], narrowed := true }
def NeedleBackUptoSaid : Prop := needleBackUptoRow.holds Tryd.pinned (OpenSpec.upto needleBackSpec)

/-- 'needlestorelaw06.NeedleUnique', WHERE WHAT IT READS IS OF BULK AT MOST 1048576: true; the input reads as it did. -/
def needleUniqueUptoRow : OpenClaim := { program := "ytljdbaibhpgfnaadoor", sum := "b7cb673d72e34c3c46432a77421207a0029d69ff6d6ccbbc8e84b7d4007ae7e5", func := "needlestore/needlestorelaw06.NeedleUnique", spec := "needleUnique", unfollowed := true, recurses := true, named := ["needlestore/crc32c.nibbles"], apart := false, laid := [("needlestore/crc32c.nibbles", laid_needlestore_crc32c_nibbles)], narrowed := true }
def NeedleUniqueUptoSaid : Prop := needleUniqueUptoRow.holds Tryd.pinned (OpenSpec.upto needleUniqueSpec)

/-- 'needlestorelaw06.NeedleBursts', WHERE WHAT IT READS IS OF BULK AT MOST 1048576: true; the input reads as it did. -/
def needleBurstsUptoRow : OpenClaim := { program := "ytljdbaibhpgfnaadoor", sum := "b7cb673d72e34c3c46432a77421207a0029d69ff6d6ccbbc8e84b7d4007ae7e5", func := "needlestore/needlestorelaw06.NeedleBursts", spec := "needleBursts", unfollowed := true, recurses := true, named := ["needlestore/crc32c.nibbles"], apart := false, laid := [("needlestore/crc32c.nibbles", laid_needlestore_crc32c_nibbles)], narrowed := true }
def NeedleBurstsUptoSaid : Prop := needleBurstsUptoRow.holds Tryd.pinned (OpenSpec.upto needleBurstsSpec)

/-- 'needlestorelaw06.NeedleShort', WHERE WHAT IT READS IS OF BULK AT MOST 1048576: true; the input reads as it did. -/
def needleShortUptoRow : OpenClaim := { program := "ytljdbaibhpgfnaadoor", sum := "b7cb673d72e34c3c46432a77421207a0029d69ff6d6ccbbc8e84b7d4007ae7e5", func := "needlestore/needlestorelaw06.NeedleShort", spec := "needleShort", unfollowed := true, recurses := true, named := ["needlestore/crc32c.nibbles"], apart := false, laid := [("needlestore/crc32c.nibbles", laid_needlestore_crc32c_nibbles)], narrowed := true }
def NeedleShortUptoSaid : Prop := needleShortUptoRow.holds Tryd.pinned (OpenSpec.upto needleShortSpec)

end Rows
end Go.Proofs.YtljdbaibhpgfnaaDoor
