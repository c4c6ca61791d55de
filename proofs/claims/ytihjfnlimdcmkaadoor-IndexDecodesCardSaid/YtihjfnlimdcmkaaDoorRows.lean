/-
  NARROWER THAN 'FOR EVERY INPUT', by the rows' own cells (each row's printed sentence says how): IndexValid: laid · IndexEncodes: laid · IndexDecodes: laid · IndexBack: laid · IndexMaps: laid · IndexFinds: laid · IndexMerges: laid · IndexBursts: laid.
  DERIVED. THE GIVEN ROWS OF THIS SEAT. 8 by the template 'for every input the law returns true; each argument reads behind the call as it read before'; 0 by the template 'total and deterministic' (their statements: YtihjfnlimdcmkaaDoorTotals.lean).
  GIVEN WITH THE SEED: the statements are not yours to turn. If you find one false, say at which input.
  Laid BY PROGRAM, IN A SANDBOX (cutbox-rows.mjs): the forced cells as the released guide's own fill.sh prints them over the translation cde4d7df5833f657… (all of the seat's roots in one cut). By AI agents, Wed Nov 11 2026. No macro, syntax, notation, axiom, sorry.
-/
import Derived.Test.YtihjfnlimdcmkaaDoorChecked
import GoSem.Claim
import GoSem.ClaimJoined
import GoSem.ClaimMapViews
import Derived.JoinedTies
import Derived.KernelRfl
namespace Go.Proofs.YtihjfnlimdcmkaaDoor
/- THE CELL 'sum', in the pinned program and in every row, IS THE sha256 OF THE DUMP (.gsa) THAT YtihjfnlimdcmkaaDoorProg.lean LOADS. Nothing in Lean hashes anything: it is a label: what it is worth is what the hold of that sum in a sandbox is worth. -/
noncomputable def Tryd.pinned : Pinned := { name := "ytihjfnlimdcmkaadoor", sum := "cde4d7df5833f6574432a518af2f1123253662bf6b46183d1eb99241b22d883f", checked := Tryd.checked }
namespace Rows
def none {H : Type} : Left H := { results := [], args := [] }

/- WHAT THE LISTED PACKAGE-LEVEL VARIABLES READ AS WHEN THE CALL BEGINS. Each datum BY PROGRAM (the guide's laid-datum.mjs) off the statement by which the dump's own 'gosem.cut.vars' lays the variable. In a bare row this is a premise. The card (YtihjfnlimdcmkaaDoorCards.lean) ties it to the program's text. -/
def laid_needlestore_crc32c_nibbles {H : Type} : DataW H := .agg [.lit (.int .u32 0), .lit (.int .u32 274646895), .lit (.int .u32 549293790), .lit (.int .u32 820201905), .lit (.int .u32 1098587580), .lit (.int .u32 1361435347), .lit (.int .u32 1640403810), .lit (.int .u32 1905808397), .lit (.int .u32 2197175160), .lit (.int .u32 2460548119), .lit (.int .u32 2722870694), .lit (.int .u32 2987750089), .lit (.int .u32 3280807620), .lit (.int .u32 3553878443), .lit (.int .u32 3811616794), .lit (.int .u32 4084100981)]

/-- 'needlestorelaw08.IndexValid': WHATEVER THE INPUT: true; the input reads as it did. -/
def indexValidSpec : ChangeSpec := { name := "indexValid", fn := fun _ => fun
  | [d] => { results := [.lit (.bool true)], args := [d] }
  | _ => none }
def indexValidRow : OpenClaim := { program := "ytihjfnlimdcmkaadoor", sum := "cde4d7df5833f6574432a518af2f1123253662bf6b46183d1eb99241b22d883f", func := "needlestore/needlestorelaw08.IndexValid", spec := "indexValid", unfollowed := true, recurses := true, named := ["needlestore/crc32c.nibbles"], apart := false, laid := [("needlestore/crc32c.nibbles", laid_needlestore_crc32c_nibbles)] }
def IndexValidSaid : Prop := indexValidRow.holds Tryd.pinned (OpenSpec.ofChange indexValidSpec)

/-- ITS FALSE NEIGHBOUR: 'it returns false'. Refute it at one input. -/
def indexValidWrong : ChangeSpec := { name := "indexValid", fn := fun _ => fun
  | [d] => { results := [.lit (.bool false)], args := [d] }
  | _ => none }
def IndexValidWrongFalsely : Prop := indexValidRow.holds Tryd.pinned (OpenSpec.ofChange indexValidWrong)

/-- 'needlestorelaw08.IndexEncodes': WHATEVER THE INPUT: true; the input reads as it did. -/
def indexEncodesSpec : ChangeSpec := { name := "indexEncodes", fn := fun _ => fun
  | [d] => { results := [.lit (.bool true)], args := [d] }
  | _ => none }
def indexEncodesRow : OpenClaim := { program := "ytihjfnlimdcmkaadoor", sum := "cde4d7df5833f6574432a518af2f1123253662bf6b46183d1eb99241b22d883f", func := "needlestore/needlestorelaw08.IndexEncodes", spec := "indexEncodes", unfollowed := true, recurses := true, named := ["needlestore/crc32c.nibbles"], apart := false, laid := [("needlestore/crc32c.nibbles", laid_needlestore_crc32c_nibbles)] }
def IndexEncodesSaid : Prop := indexEncodesRow.holds Tryd.pinned (OpenSpec.ofChange indexEncodesSpec)

/-- ITS FALSE NEIGHBOUR: 'it returns false'. Refute it at one input. -/
def indexEncodesWrong : ChangeSpec := { name := "indexEncodes", fn := fun _ => fun
  | [d] => { results := [.lit (.bool false)], args := [d] }
  | _ => none }
def IndexEncodesWrongFalsely : Prop := indexEncodesRow.holds Tryd.pinned (OpenSpec.ofChange indexEncodesWrong)

/-- 'needlestorelaw08.IndexDecodes': WHATEVER THE INPUT: true; the input reads as it did. -/
def indexDecodesSpec : ChangeSpec := { name := "indexDecodes", fn := fun _ => fun
  | [d1, d2, d3, d4, d5] => { results := [.lit (.bool true)], args := [d1, d2, d3, d4, d5] }
  | _ => none }
def indexDecodesRow : OpenClaim := { program := "ytihjfnlimdcmkaadoor", sum := "cde4d7df5833f6574432a518af2f1123253662bf6b46183d1eb99241b22d883f", func := "needlestore/needlestorelaw08.IndexDecodes", spec := "indexDecodes", unfollowed := true, recurses := true, named := ["needlestore/crc32c.nibbles"], apart := false, laid := [("needlestore/crc32c.nibbles", laid_needlestore_crc32c_nibbles)] }
def IndexDecodesSaid : Prop := indexDecodesRow.holds Tryd.pinned (OpenSpec.ofChange indexDecodesSpec)

/-- ITS FALSE NEIGHBOUR: 'it returns false'. Refute it at one input. -/
def indexDecodesWrong : ChangeSpec := { name := "indexDecodes", fn := fun _ => fun
  | [d1, d2, d3, d4, d5] => { results := [.lit (.bool false)], args := [d1, d2, d3, d4, d5] }
  | _ => none }
def IndexDecodesWrongFalsely : Prop := indexDecodesRow.holds Tryd.pinned (OpenSpec.ofChange indexDecodesWrong)

/-- 'needlestorelaw08.IndexBack': WHATEVER THE INPUT: true; the input reads as it did. -/
def indexBackSpec : ChangeSpec := { name := "indexBack", fn := fun _ => fun
  | [d1, d2] => { results := [.lit (.bool true)], args := [d1, d2] }
  | _ => none }
def indexBackRow : OpenClaim := { program := "ytihjfnlimdcmkaadoor", sum := "cde4d7df5833f6574432a518af2f1123253662bf6b46183d1eb99241b22d883f", func := "needlestore/needlestorelaw08.IndexBack", spec := "indexBack", unfollowed := true, recurses := true, named := ["needlestore/crc32c.nibbles"], apart := false, laid := [("needlestore/crc32c.nibbles", laid_needlestore_crc32c_nibbles)] }
def IndexBackSaid : Prop := indexBackRow.holds Tryd.pinned (OpenSpec.ofChange indexBackSpec)

/-- ITS FALSE NEIGHBOUR: 'it returns false'. Refute it at one input. -/
def indexBackWrong : ChangeSpec := { name := "indexBack", fn := fun _ => fun
  | [d1, d2] => { results := [.lit (.bool false)], args := [d1, d2] }
  | _ => none }
def IndexBackWrongFalsely : Prop := indexBackRow.holds Tryd.pinned (OpenSpec.ofChange indexBackWrong)

/-- 'needlestorelaw08.IndexMaps': WHATEVER THE INPUT: true; the input reads as it did. -/
def indexMapsSpec : ChangeSpec := { name := "indexMaps", fn := fun _ => fun
  | [d1, d2, d3, d4, d5] => { results := [.lit (.bool true)], args := [d1, d2, d3, d4, d5] }
  | _ => none }
def indexMapsRow : OpenClaim := { program := "ytihjfnlimdcmkaadoor", sum := "cde4d7df5833f6574432a518af2f1123253662bf6b46183d1eb99241b22d883f", func := "needlestore/needlestorelaw08.IndexMaps", spec := "indexMaps", unfollowed := true, recurses := true, named := ["needlestore/crc32c.nibbles"], apart := false, laid := [("needlestore/crc32c.nibbles", laid_needlestore_crc32c_nibbles)] }
def IndexMapsSaid : Prop := indexMapsRow.holds Tryd.pinned (OpenSpec.ofChange indexMapsSpec)

/-- ITS FALSE NEIGHBOUR: 'it returns false'. Refute it at one input. -/
def indexMapsWrong : ChangeSpec := { name := "indexMaps", fn := fun _ => fun
  | [d1, d2, d3, d4, d5] => { results := [.lit (.bool false)], args := [d1, d2, d3, d4, d5] }
  | _ => none }
def IndexMapsWrongFalsely : Prop := indexMapsRow.holds Tryd.pinned (OpenSpec.ofChange indexMapsWrong)

/-- 'needlestorelaw08.IndexFinds': WHATEVER THE INPUT: true; the input reads as it did. -/
def indexFindsSpec : ChangeSpec := { name := "indexFinds", fn := fun _ => fun
  | [d1, d2, d3] => { results := [.lit (.bool true)], args := [d1, d2, d3] }
  | _ => none }
def indexFindsRow : OpenClaim := { program := "ytihjfnlimdcmkaadoor", sum := "cde4d7df5833f6574432a518af2f1123253662bf6b46183d1eb99241b22d883f", func := "needlestore/needlestorelaw08.IndexFinds", spec := "indexFinds", unfollowed := true, recurses := true, named := ["needlestore/crc32c.nibbles"], apart := false, laid := [("needlestore/crc32c.nibbles", laid_needlestore_crc32c_nibbles)] }
def IndexFindsSaid : Prop := indexFindsRow.holds Tryd.pinned (OpenSpec.ofChange indexFindsSpec)

/-- ITS FALSE NEIGHBOUR: 'it returns false'. Refute it at one input. -/
def indexFindsWrong : ChangeSpec := { name := "indexFinds", fn := fun _ => fun
  | [d1, d2, d3] => { results := [.lit (.bool false)], args := [d1, d2, d3] }
  | _ => none }
def IndexFindsWrongFalsely : Prop := indexFindsRow.holds Tryd.pinned (OpenSpec.ofChange indexFindsWrong)

/-- 'needlestorelaw08.IndexMerges': WHATEVER THE INPUT: true; the input reads as it did. -/
def indexMergesSpec : ChangeSpec := { name := "indexMerges", fn := fun _ => fun
  | [d1, d2, d3, d4] => { results := [.lit (.bool true)], args := [d1, d2, d3, d4] }
  | _ => none }
def indexMergesRow : OpenClaim := { program := "ytihjfnlimdcmkaadoor", sum := "cde4d7df5833f6574432a518af2f1123253662bf6b46183d1eb99241b22d883f", func := "needlestore/needlestorelaw08.IndexMerges", spec := "indexMerges", unfollowed := true, recurses := true, named := ["needlestore/crc32c.nibbles"], apart := false, laid := [("needlestore/crc32c.nibbles", laid_needlestore_crc32c_nibbles)] }
def IndexMergesSaid : Prop := indexMergesRow.holds Tryd.pinned (OpenSpec.ofChange indexMergesSpec)

/-- ITS FALSE NEIGHBOUR: 'it returns false'. Refute it at one input. -/
def indexMergesWrong : ChangeSpec := { name := "indexMerges", fn := fun _ => fun
  | [d1, d2, d3, d4] => { results := [.lit (.bool false)], args := [d1, d2, d3, d4] }
  | _ => none }
def IndexMergesWrongFalsely : Prop := indexMergesRow.holds Tryd.pinned (OpenSpec.ofChange indexMergesWrong)

/-- 'needlestorelaw08.IndexBursts': WHATEVER THE INPUT: true; the input reads as it did. -/
def indexBurstsSpec : ChangeSpec := { name := "indexBursts", fn := fun _ => fun
  | [d1, d2, d3, d4] => { results := [.lit (.bool true)], args := [d1, d2, d3, d4] }
  | _ => none }
def indexBurstsRow : OpenClaim := { program := "ytihjfnlimdcmkaadoor", sum := "cde4d7df5833f6574432a518af2f1123253662bf6b46183d1eb99241b22d883f", func := "needlestore/needlestorelaw08.IndexBursts", spec := "indexBursts", unfollowed := true, recurses := true, named := ["needlestore/crc32c.nibbles"], apart := false, laid := [("needlestore/crc32c.nibbles", laid_needlestore_crc32c_nibbles)] }
def IndexBurstsSaid : Prop := indexBurstsRow.holds Tryd.pinned (OpenSpec.ofChange indexBurstsSpec)

/-- ITS FALSE NEIGHBOUR: 'it returns false'. Refute it at one input. -/
def indexBurstsWrong : ChangeSpec := { name := "indexBursts", fn := fun _ => fun
  | [d1, d2, d3, d4] => { results := [.lit (.bool false)], args := [d1, d2, d3, d4] }
  | _ => none }
def IndexBurstsWrongFalsely : Prop := indexBurstsRow.holds Tryd.pinned (OpenSpec.ofChange indexBurstsWrong)

/- THE SECOND FORM. 'bulk': how many values and letters a reading holds, each counted each time it is reached (what is shared counts as often as it is met; a slice's spare places count too). A statement '..UptoSaid' is the law's where the arguments, and the package variables that the reading takes, are together of bulk at most 1048576: NARROWER than '..Said'. Prove '..Said' where nothing that the law and all that it calls make is longer than what came in: it says more and counts as full. Else prove '..UptoSaid'. A law counts once. -/
mutual
def uptoBulk {H : Type} : DataW H → Nat
  | .lit (.string bytes) => bytes.length + 1
  | .lit _ => 1
  | .nil => 1
  | .ptr d => uptoBulk d + 1
  | .slice elems spare => uptoBulkAll elems + uptoBulkAll spare + 1
  | .agg parts => uptoBulkAll parts + 1
  | .iface _ d => uptoBulk d + 1
  | .map entries => uptoBulkEntries entries + 1
  | .held _ => 1
def uptoBulkAll {H : Type} : List (DataW H) → Nat
  | [] => 0
  | d :: r => uptoBulk d + uptoBulkAll r
def uptoBulkEntries {H : Type} : List (Lit × DataW H) → Nat
  | [] => 0
  | x :: r => uptoBulkEntry x + uptoBulkEntries r
def uptoBulkEntry {H : Type} : Lit × DataW H → Nat
  | (.string bytes, d) => bytes.length + uptoBulk d + 1
  | (_, d) => uptoBulk d + 1
 end
def uptoSmall : (H : Type) → List (DataW H) → Bool := fun _ ds => decide (uptoBulkAll ds ≤ 1048576)
def OpenSpec.upto (s : _root_.Go.ChangeSpec) : _root_.Go.OpenSpec := { _root_.Go.OpenSpec.ofChange s with cond := some uptoSmall }

/-- 'needlestorelaw08.IndexValid', WHERE WHAT IT READS IS OF BULK AT MOST 1048576: true; the input reads as it did. -/
def indexValidUptoRow : OpenClaim := { program := "ytihjfnlimdcmkaadoor", sum := "cde4d7df5833f6574432a518af2f1123253662bf6b46183d1eb99241b22d883f", func := "needlestore/needlestorelaw08.IndexValid", spec := "indexValid", unfollowed := true, recurses := true, named := ["needlestore/crc32c.nibbles"], apart := false, laid := [("needlestore/crc32c.nibbles", laid_needlestore_crc32c_nibbles)], narrowed := true }
def IndexValidUptoSaid : Prop := indexValidUptoRow.holds Tryd.pinned (OpenSpec.upto indexValidSpec)

/-- 'needlestorelaw08.IndexEncodes', WHERE WHAT IT READS IS OF BULK AT MOST 1048576: true; the input reads as it did. -/
def indexEncodesUptoRow : OpenClaim := { program := "ytihjfnlimdcmkaadoor", sum := "cde4d7df5833f6574432a518af2f1123253662bf6b46183d1eb99241b22d883f", func := "needlestore/needlestorelaw08.IndexEncodes", spec := "indexEncodes", unfollowed := true, recurses := true, named := ["needlestore/crc32c.nibbles"], apart := false, laid := [("needlestore/crc32c.nibbles", laid_needlestore_crc32c_nibbles)], narrowed := true }
def IndexEncodesUptoSaid : Prop := indexEncodesUptoRow.holds Tryd.pinned (OpenSpec.upto indexEncodesSpec)

/-- 'needlestorelaw08.IndexDecodes', WHERE WHAT IT READS IS OF BULK AT MOST 1048576: true; the input reads as it did. -/
def indexDecodesUptoRow : OpenClaim := { program := "ytihjfnlimdcmkaadoor", sum := "cde4d7df5833f6574432a518af2f1123253662bf6b46183d1eb99241b22d883f", func := "needlestore/needlestorelaw08.IndexDecodes", spec := "indexDecodes", unfollowed := true, recurses := true, named := ["needlestore/crc32c.nibbles"], apart := false, laid := [("needlestore/crc32c.nibbles", laid_needlestore_crc32c_nibbles)], narrowed := true }
def IndexDecodesUptoSaid : Prop := indexDecodesUptoRow.holds Tryd.pinned (OpenSpec.upto indexDecodesSpec)

/-- 'needlestorelaw08.IndexBack', WHERE WHAT IT READS IS OF BULK AT MOST 1048576: true; the input reads as it did. -/
def indexBackUptoRow : OpenClaim := { program := "ytihjfnlimdcmkaadoor", sum := "cde4d7df5833f6574432a518af2f1123253662bf6b46183d1eb99241b22d883f", func := "needlestore/needlestorelaw08.IndexBack", spec := "indexBack", unfollowed := true, recurses := true, named := ["needlestore/crc32c.nibbles"], apart := false, laid := [("needlestore/crc32c.nibbles", laid_needlestore_crc32c_nibbles)], narrowed := true }
def IndexBackUptoSaid : Prop := indexBackUptoRow.holds Tryd.pinned (OpenSpec.upto indexBackSpec)

/-- 'needlestorelaw08.IndexMaps', WHERE WHAT IT READS IS OF BULK AT MOST 1048576: true; the input reads as it did. -/
def indexMapsUptoRow : OpenClaim := { program := "ytihjfnlimdcmkaadoor", sum := "cde4d7df5833f6574432a518af2f1123253662bf6b46183d1eb99241b22d883f", func := "needlestore/needlestorelaw08.IndexMaps", spec := "indexMaps", unfollowed := true, recurses := true, named := ["needlestore/crc32c.nibbles"], apart := false, laid := [("needlestore/crc32c.nibbles", laid_needlestore_crc32c_nibbles)], narrowed := true }
def IndexMapsUptoSaid : Prop := indexMapsUptoRow.holds Tryd.pinned (OpenSpec.upto indexMapsSpec)

/-- 'needlestorelaw08.IndexFinds', WHERE WHAT IT READS IS OF BULK AT MOST 1048576: true; the input reads as it did. -/
def indexFindsUptoRow : OpenClaim := { program := "ytihjfnlimdcmkaadoor", sum := "cde4d7df5833f6574432a518af2f1123253662bf6b46183d1eb99241b22d883f", func := "needlestore/needlestorelaw08.IndexFinds", spec := "indexFinds", unfollowed := true, recurses := true, named := ["needlestore/crc32c.nibbles"], apart := false, laid := [("needlestore/crc32c.nibbles", laid_needlestore_crc32c_nibbles)], narrowed := true }
def IndexFindsUptoSaid : Prop := indexFindsUptoRow.holds Tryd.pinned (OpenSpec.upto indexFindsSpec)

/-- 'needlestorelaw08.IndexMerges', WHERE WHAT IT READS IS OF BULK AT MOST 1048576: true; the input reads as it did. -/
def indexMergesUptoRow : OpenClaim := { program := "ytihjfnlimdcmkaadoor", sum := "cde4d7df5833f6574432a518af2f1123253662bf6b46183d1eb99241b22d883f", func := "needlestore/needlestorelaw08.IndexMerges", spec := "indexMerges", unfollowed := true, recurses := true, named := ["needlestore/crc32c.nibbles"], apart := false, laid := [("needlestore/crc32c.nibbles", laid_needlestore_crc32c_nibbles)], narrowed := true }
def IndexMergesUptoSaid : Prop := indexMergesUptoRow.holds Tryd.pinned (OpenSpec.upto indexMergesSpec)

/-- 'needlestorelaw08.IndexBursts', WHERE WHAT IT READS IS OF BULK AT MOST 1048576: true; the input reads as it did. -/
def indexBurstsUptoRow : OpenClaim := { program := "ytihjfnlimdcmkaadoor", sum := "cde4d7df5833f6574432a518af2f1123253662bf6b46183d1eb99241b22d883f", func := "needlestore/needlestorelaw08.IndexBursts", spec := "indexBursts", unfollowed := true, recurses := true, named := ["needlestore/crc32c.nibbles"], apart := false, laid := [("needlestore/crc32c.nibbles", laid_needlestore_crc32c_nibbles)], narrowed := true }
def IndexBurstsUptoSaid : Prop := indexBurstsUptoRow.holds Tryd.pinned (OpenSpec.upto indexBurstsSpec)

end Rows
end Go.Proofs.YtihjfnlimdcmkaaDoor
