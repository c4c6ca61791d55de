/-
  NARROWER THAN 'FOR EVERY INPUT', by the rows' own cells (each row's printed sentence says how): JournalCodes: laid · JournalTorn: laid · JournalJoins: laid · JournalBursts: laid.
  DERIVED. THE GIVEN ROWS OF THIS SEAT. 4 by the template 'for every input the law returns true; each argument reads behind the call as it read before'; 0 by the template 'total and deterministic' (their statements: YtbkhedfhnmkodaaDoorTotals.lean).
  GIVEN WITH THE SEED: the statements are not yours to turn. If you find one false, say at which input.
  Laid BY PROGRAM, IN A SANDBOX (cutbox-rows.mjs): the forced cells as the released guide's own fill.sh prints them over the translation 0b9213ca44364da3… (all of the seat's roots in one cut). By AI agents, Wed Nov 11 2026. No macro, syntax, notation, axiom, sorry.
-/
import Derived.Test.YtbkhedfhnmkodaaDoorChecked
import GoSem.Claim
import GoSem.ClaimJoined
import GoSem.ClaimMapViews
import Derived.JoinedTies
import Derived.KernelRfl
namespace Go.Proofs.YtbkhedfhnmkodaaDoor
/- THE CELL 'sum', in the pinned program and in every row, IS THE sha256 OF THE DUMP (.gsa) THAT YtbkhedfhnmkodaaDoorProg.lean LOADS. Nothing in Lean hashes anything: it is a label: what it is worth is what the hold of that sum in a sandbox is worth. -/
noncomputable def Tryd.pinned : Pinned := { name := "ytbkhedfhnmkodaadoor", sum := "0b9213ca44364da326f69a24d271bd1d74012560c6878c7295f6ec1c13558647", checked := Tryd.checked }
namespace Rows
def none {H : Type} : Left H := { results := [], args := [] }

/- WHAT THE LISTED PACKAGE-LEVEL VARIABLES READ AS WHEN THE CALL BEGINS. Each datum BY PROGRAM (the guide's laid-datum.mjs) off the statement by which the dump's own 'gosem.cut.vars' lays the variable. In a bare row this is a premise. The card (YtbkhedfhnmkodaaDoorCards.lean) ties it to the program's text. -/
def laid_needlestore_crc32c_nibbles {H : Type} : DataW H := .agg [.lit (.int .u32 0), .lit (.int .u32 274646895), .lit (.int .u32 549293790), .lit (.int .u32 820201905), .lit (.int .u32 1098587580), .lit (.int .u32 1361435347), .lit (.int .u32 1640403810), .lit (.int .u32 1905808397), .lit (.int .u32 2197175160), .lit (.int .u32 2460548119), .lit (.int .u32 2722870694), .lit (.int .u32 2987750089), .lit (.int .u32 3280807620), .lit (.int .u32 3553878443), .lit (.int .u32 3811616794), .lit (.int .u32 4084100981)]

/-- 'needlestorelaw14.JournalCodes': WHATEVER THE INPUT: true; the input reads as it did. -/
def journalCodesSpec : ChangeSpec := { name := "journalCodes", fn := fun _ => fun
  | [d1, d2, d3, d4] => { results := [.lit (.bool true)], args := [d1, d2, d3, d4] }
  | _ => none }
def journalCodesRow : OpenClaim := { program := "ytbkhedfhnmkodaadoor", sum := "0b9213ca44364da326f69a24d271bd1d74012560c6878c7295f6ec1c13558647", func := "needlestore/needlestorelaw14.JournalCodes", spec := "journalCodes", named := ["needlestore/crc32c.nibbles"], apart := false, laid := [("needlestore/crc32c.nibbles", laid_needlestore_crc32c_nibbles)] }
def JournalCodesSaid : Prop := journalCodesRow.holds Tryd.pinned (OpenSpec.ofChange journalCodesSpec)

/-- ITS FALSE NEIGHBOUR: 'it returns false'. Refute it at one input. -/
def journalCodesWrong : ChangeSpec := { name := "journalCodes", fn := fun _ => fun
  | [d1, d2, d3, d4] => { results := [.lit (.bool false)], args := [d1, d2, d3, d4] }
  | _ => none }
def JournalCodesWrongFalsely : Prop := journalCodesRow.holds Tryd.pinned (OpenSpec.ofChange journalCodesWrong)

/-- 'needlestorelaw14.JournalTorn': WHATEVER THE INPUT: true; the input reads as it did. -/
def journalTornSpec : ChangeSpec := { name := "journalTorn", fn := fun _ => fun
  | [d1, d2] => { results := [.lit (.bool true)], args := [d1, d2] }
  | _ => none }
def journalTornRow : OpenClaim := { program := "ytbkhedfhnmkodaadoor", sum := "0b9213ca44364da326f69a24d271bd1d74012560c6878c7295f6ec1c13558647", func := "needlestore/needlestorelaw14.JournalTorn", spec := "journalTorn", named := ["needlestore/crc32c.nibbles"], apart := false, laid := [("needlestore/crc32c.nibbles", laid_needlestore_crc32c_nibbles)] }
def JournalTornSaid : Prop := journalTornRow.holds Tryd.pinned (OpenSpec.ofChange journalTornSpec)

/-- ITS FALSE NEIGHBOUR: 'it returns false'. Refute it at one input. -/
def journalTornWrong : ChangeSpec := { name := "journalTorn", fn := fun _ => fun
  | [d1, d2] => { results := [.lit (.bool false)], args := [d1, d2] }
  | _ => none }
def JournalTornWrongFalsely : Prop := journalTornRow.holds Tryd.pinned (OpenSpec.ofChange journalTornWrong)

/-- 'needlestorelaw14.JournalJoins': WHATEVER THE INPUT: true; the input reads as it did. -/
def journalJoinsSpec : ChangeSpec := { name := "journalJoins", fn := fun _ => fun
  | [d1, d2] => { results := [.lit (.bool true)], args := [d1, d2] }
  | _ => none }
def journalJoinsRow : OpenClaim := { program := "ytbkhedfhnmkodaadoor", sum := "0b9213ca44364da326f69a24d271bd1d74012560c6878c7295f6ec1c13558647", func := "needlestore/needlestorelaw14.JournalJoins", spec := "journalJoins", named := ["needlestore/crc32c.nibbles"], apart := false, laid := [("needlestore/crc32c.nibbles", laid_needlestore_crc32c_nibbles)] }
def JournalJoinsSaid : Prop := journalJoinsRow.holds Tryd.pinned (OpenSpec.ofChange journalJoinsSpec)

/-- ITS FALSE NEIGHBOUR: 'it returns false'. Refute it at one input. -/
def journalJoinsWrong : ChangeSpec := { name := "journalJoins", fn := fun _ => fun
  | [d1, d2] => { results := [.lit (.bool false)], args := [d1, d2] }
  | _ => none }
def JournalJoinsWrongFalsely : Prop := journalJoinsRow.holds Tryd.pinned (OpenSpec.ofChange journalJoinsWrong)

/-- 'needlestorelaw14.JournalBursts': WHATEVER THE INPUT: true; the input reads as it did. -/
def journalBurstsSpec : ChangeSpec := { name := "journalBursts", fn := fun _ => fun
  | [d1, d2, d3, d4] => { results := [.lit (.bool true)], args := [d1, d2, d3, d4] }
  | _ => none }
def journalBurstsRow : OpenClaim := { program := "ytbkhedfhnmkodaadoor", sum := "0b9213ca44364da326f69a24d271bd1d74012560c6878c7295f6ec1c13558647", func := "needlestore/needlestorelaw14.JournalBursts", spec := "journalBursts", named := ["needlestore/crc32c.nibbles"], apart := false, laid := [("needlestore/crc32c.nibbles", laid_needlestore_crc32c_nibbles)] }
def JournalBurstsSaid : Prop := journalBurstsRow.holds Tryd.pinned (OpenSpec.ofChange journalBurstsSpec)

/-- ITS FALSE NEIGHBOUR: 'it returns false'. Refute it at one input. -/
def journalBurstsWrong : ChangeSpec := { name := "journalBursts", fn := fun _ => fun
  | [d1, d2, d3, d4] => { results := [.lit (.bool false)], args := [d1, d2, d3, d4] }
  | _ => none }
def JournalBurstsWrongFalsely : Prop := journalBurstsRow.holds Tryd.pinned (OpenSpec.ofChange journalBurstsWrong)

/- THE SECOND FORM. 'bulk': how many values and letters a reading holds, each counted each time it is reached (what is shared counts as often as it is met; a slice's spare places count too). A statement '..UptoSaid' is the law's where the arguments, and the package variables that the reading takes, are together of bulk at most 1048576: NARROWER than '..Said'. Prove '..Said' where nothing that the law and all that it calls make is longer than what came in: it says more and counts as full. Else prove '..UptoSaid'. A law counts once. -/
mutual
def uptoBulk {H : Type} : DataW H → Nat
  | .lit (.string bytes) => bytes.length + 1
  | .lit _ => 1
  | .nil => 1
  | .ptr d => uptoBulk d + 1
  | .slice elems spare => uptoBulkAll elems + uptoBulkAll spare + 1
  | .agg parts => uptoBulkAll parts + 1
  | .iface _ d => uptoBulk d + 1
  | .map entries => uptoBulkEntries entries + 1
  | .held _ => 1
def uptoBulkAll {H : Type} : List (DataW H) → Nat
  | [] => 0
  | d :: r => uptoBulk d + uptoBulkAll r
def uptoBulkEntries {H : Type} : List (Lit × DataW H) → Nat
  | [] => 0
  | x :: r => uptoBulkEntry x + uptoBulkEntries r
def uptoBulkEntry {H : Type} : Lit × DataW H → Nat
  | (.string bytes, d) => bytes.length + uptoBulk d + 1
  | (_, d) => uptoBulk d + 1
 end
def uptoSmall : (H : Type) → List (DataW H) → Bool := fun _ ds => decide (uptoBulkAll ds ≤ 1048576)
def OpenSpec.upto (s : _root_.Go.ChangeSpec) : _root_.Go.OpenSpec := { _root_.Go.OpenSpec.ofChange s with cond := some uptoSmall }

/-- 'needlestorelaw14.JournalCodes', WHERE WHAT IT READS IS OF BULK AT MOST 1048576: true; the input reads as it did. -/
def journalCodesUptoRow : OpenClaim := { program := "ytbkhedfhnmkodaadoor", sum := "0b9213ca44364da326f69a24d271bd1d74012560c6878c7295f6ec1c13558647", func := "needlestore/needlestorelaw14.JournalCodes", spec := "journalCodes", named := ["needlestore/crc32c.nibbles"], apart := false, laid := [("needlestore/crc32c.nibbles", laid_needlestore_crc32c_nibbles)], narrowed := true }
def JournalCodesUptoSaid : Prop := journalCodesUptoRow.holds Tryd.pinned (OpenSpec.upto journalCodesSpec)

/-- 'needlestorelaw14.JournalTorn', WHERE WHAT IT READS IS OF BULK AT MOST 1048576: true; the input reads as it did. -/
def journalTornUptoRow : OpenClaim := { program := "ytbkhedfhnmkodaadoor", sum := "0b9213ca44364da326f69a24d271bd1d74012560c6878c7295f6ec1c13558647", func := "needlestore/needlestorelaw14.JournalTorn", spec := "journalTorn", named := ["needlestore/crc32c.nibbles"], apart := false, laid := [("needlestore/crc32c.nibbles", laid_needlestore_crc32c_nibbles)], narrowed := true }
def JournalTornUptoSaid : Prop := journalTornUptoRow.holds Tryd.pinned (OpenSpec.upto journalTornSpec)

/-- 'needlestorelaw14.JournalJoins', WHERE WHAT IT READS IS OF BULK AT MOST 1048576: true; the input reads as it did. -/
def journalJoinsUptoRow : OpenClaim := { program := "ytbkhedfhnmkodaadoor", sum := "0b9213ca44364da326f69a24d271bd1d74012560c6878c7295f6ec1c13558647", func := "needlestore/needlestorelaw14.JournalJoins", spec := "journalJoins", named := ["needlestore/crc32c.nibbles"], apart := false, laid := [("needlestore/crc32c.nibbles", laid_needlestore_crc32c_nibbles)], narrowed := true }
def JournalJoinsUptoSaid : Prop := journalJoinsUptoRow.holds Tryd.pinned (OpenSpec.upto journalJoinsSpec)

/-- 'needlestorelaw14.JournalBursts', WHERE WHAT IT READS IS OF BULK AT MOST 1048576: true; the input reads as it did. -/
def journalBurstsUptoRow : OpenClaim := { program := "ytbkhedfhnmkodaadoor", sum := "0b9213ca44364da326f69a24d271bd1d74012560c6878c7295f6ec1c13558647", func := "needlestore/needlestorelaw14.JournalBursts", spec := "journalBursts", named := ["needlestore/crc32c.nibbles"], apart := false, laid := [("needlestore/crc32c.nibbles", laid_needlestore_crc32c_nibbles)], narrowed := true }
def JournalBurstsUptoSaid : Prop := journalBurstsUptoRow.holds Tryd.pinned (OpenSpec.upto journalBurstsSpec)

end Rows
end Go.Proofs.YtbkhedfhnmkodaaDoor
