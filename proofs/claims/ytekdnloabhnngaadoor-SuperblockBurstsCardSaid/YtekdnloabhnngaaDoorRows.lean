/-
  NARROWER THAN 'FOR EVERY INPUT', by the rows' own cells (each row's printed sentence says how): SuperblockEncodes: laid · SuperblockDecodes: laid · SuperblockBack: laid · SuperblockBursts: laid · SuperblockNext: laid.
  DERIVED. THE GIVEN ROWS OF THIS SEAT. 5 by the template 'for every input the law returns true; each argument reads behind the call as it read before'; 0 by the template 'total and deterministic' (their statements: YtekdnloabhnngaaDoorTotals.lean).
  GIVEN WITH THE SEED: the statements are not yours to turn. If you find one false, say at which input.
  Laid BY PROGRAM, IN A SANDBOX (cutbox-rows.mjs): the forced cells as the released guide's own fill.sh prints them over the translation 4b522f48bbf41963… (all of the seat's roots in one cut). By AI agents, Wed Nov 11 2026. No macro, syntax, notation, axiom, sorry.
-/
import Derived.Test.YtekdnloabhnngaaDoorChecked
import GoSem.Claim
import GoSem.ClaimJoined
import GoSem.ClaimMapViews
import Derived.JoinedTies
import Derived.KernelRfl
namespace Go.Proofs.YtekdnloabhnngaaDoor
/- THE CELL 'sum', in the pinned program and in every row, IS THE sha256 OF THE DUMP (.gsa) THAT YtekdnloabhnngaaDoorProg.lean LOADS. Nothing in Lean hashes anything: it is a label: what it is worth is what the hold of that sum in a sandbox is worth. -/
noncomputable def Tryd.pinned : Pinned := { name := "ytekdnloabhnngaadoor", sum := "4b522f48bbf419634ca36236fdc41aca4907061889fa5e5fb73e656161248c11", checked := Tryd.checked }
namespace Rows
def none {H : Type} : Left H := { results := [], args := [] }

/- WHAT THE LISTED PACKAGE-LEVEL VARIABLES READ AS WHEN THE CALL BEGINS. Each datum BY PROGRAM (the guide's laid-datum.mjs) off the statement by which the dump's own 'gosem.cut.vars' lays the variable. In a bare row this is a premise. The card (YtekdnloabhnngaaDoorCards.lean) ties it to the program's text. -/
def laid_needlestore_crc32c_nibbles {H : Type} : DataW H := .agg [.lit (.int .u32 0), .lit (.int .u32 274646895), .lit (.int .u32 549293790), .lit (.int .u32 820201905), .lit (.int .u32 1098587580), .lit (.int .u32 1361435347), .lit (.int .u32 1640403810), .lit (.int .u32 1905808397), .lit (.int .u32 2197175160), .lit (.int .u32 2460548119), .lit (.int .u32 2722870694), .lit (.int .u32 2987750089), .lit (.int .u32 3280807620), .lit (.int .u32 3553878443), .lit (.int .u32 3811616794), .lit (.int .u32 4084100981)]

/-- 'needlestorelaw07.SuperblockEncodes': WHATEVER THE INPUT: true; the input reads as it did. -/
def superblockEncodesSpec : ChangeSpec := { name := "superblockEncodes", fn := fun _ => fun
  | [d] => { results := [.lit (.bool true)], args := [d] }
  | _ => none }
def superblockEncodesRow : OpenClaim := { program := "ytekdnloabhnngaadoor", sum := "4b522f48bbf419634ca36236fdc41aca4907061889fa5e5fb73e656161248c11", func := "needlestore/needlestorelaw07.SuperblockEncodes", spec := "superblockEncodes", named := ["needlestore/crc32c.nibbles"], apart := false, laid := [("needlestore/crc32c.nibbles", laid_needlestore_crc32c_nibbles)] }
def SuperblockEncodesSaid : Prop := superblockEncodesRow.holds Tryd.pinned (OpenSpec.ofChange superblockEncodesSpec)

/-- ITS FALSE NEIGHBOUR: 'it returns false'. Refute it at one input. -/
def superblockEncodesWrong : ChangeSpec := { name := "superblockEncodes", fn := fun _ => fun
  | [d] => { results := [.lit (.bool false)], args := [d] }
  | _ => none }
def SuperblockEncodesWrongFalsely : Prop := superblockEncodesRow.holds Tryd.pinned (OpenSpec.ofChange superblockEncodesWrong)

/-- 'needlestorelaw07.SuperblockDecodes': WHATEVER THE INPUT: true; the input reads as it did. -/
def superblockDecodesSpec : ChangeSpec := { name := "superblockDecodes", fn := fun _ => fun
  | [d1, d2, d3, d4, d5] => { results := [.lit (.bool true)], args := [d1, d2, d3, d4, d5] }
  | _ => none }
def superblockDecodesRow : OpenClaim := { program := "ytekdnloabhnngaadoor", sum := "4b522f48bbf419634ca36236fdc41aca4907061889fa5e5fb73e656161248c11", func := "needlestore/needlestorelaw07.SuperblockDecodes", spec := "superblockDecodes", named := ["needlestore/crc32c.nibbles"], apart := false, laid := [("needlestore/crc32c.nibbles", laid_needlestore_crc32c_nibbles)] }
def SuperblockDecodesSaid : Prop := superblockDecodesRow.holds Tryd.pinned (OpenSpec.ofChange superblockDecodesSpec)

/-- ITS FALSE NEIGHBOUR: 'it returns false'. Refute it at one input. -/
def superblockDecodesWrong : ChangeSpec := { name := "superblockDecodes", fn := fun _ => fun
  | [d1, d2, d3, d4, d5] => { results := [.lit (.bool false)], args := [d1, d2, d3, d4, d5] }
  | _ => none }
def SuperblockDecodesWrongFalsely : Prop := superblockDecodesRow.holds Tryd.pinned (OpenSpec.ofChange superblockDecodesWrong)

/-- 'needlestorelaw07.SuperblockBack': WHATEVER THE INPUT: true; the input reads as it did. -/
def superblockBackSpec : ChangeSpec := { name := "superblockBack", fn := fun _ => fun
  | [d1, d2] => { results := [.lit (.bool true)], args := [d1, d2] }
  | _ => none }
def superblockBackRow : OpenClaim := { program := "ytekdnloabhnngaadoor", sum := "4b522f48bbf419634ca36236fdc41aca4907061889fa5e5fb73e656161248c11", func := "needlestore/needlestorelaw07.SuperblockBack", spec := "superblockBack", named := ["needlestore/crc32c.nibbles"], apart := false, laid := [("needlestore/crc32c.nibbles", laid_needlestore_crc32c_nibbles)] }
def SuperblockBackSaid : Prop := superblockBackRow.holds Tryd.pinned (OpenSpec.ofChange superblockBackSpec)

/-- ITS FALSE NEIGHBOUR: 'it returns false'. Refute it at one input. -/
def superblockBackWrong : ChangeSpec := { name := "superblockBack", fn := fun _ => fun
  | [d1, d2] => { results := [.lit (.bool false)], args := [d1, d2] }
  | _ => none }
def SuperblockBackWrongFalsely : Prop := superblockBackRow.holds Tryd.pinned (OpenSpec.ofChange superblockBackWrong)

/-- 'needlestorelaw07.SuperblockBursts': WHATEVER THE INPUT: true; the input reads as it did. -/
def superblockBurstsSpec : ChangeSpec := { name := "superblockBursts", fn := fun _ => fun
  | [d1, d2, d3] => { results := [.lit (.bool true)], args := [d1, d2, d3] }
  | _ => none }
def superblockBurstsRow : OpenClaim := { program := "ytekdnloabhnngaadoor", sum := "4b522f48bbf419634ca36236fdc41aca4907061889fa5e5fb73e656161248c11", func := "needlestore/needlestorelaw07.SuperblockBursts", spec := "superblockBursts", named := ["needlestore/crc32c.nibbles"], apart := false, laid := [("needlestore/crc32c.nibbles", laid_needlestore_crc32c_nibbles)] }
def SuperblockBurstsSaid : Prop := superblockBurstsRow.holds Tryd.pinned (OpenSpec.ofChange superblockBurstsSpec)

/-- ITS FALSE NEIGHBOUR: 'it returns false'. Refute it at one input. -/
def superblockBurstsWrong : ChangeSpec := { name := "superblockBursts", fn := fun _ => fun
  | [d1, d2, d3] => { results := [.lit (.bool false)], args := [d1, d2, d3] }
  | _ => none }
def SuperblockBurstsWrongFalsely : Prop := superblockBurstsRow.holds Tryd.pinned (OpenSpec.ofChange superblockBurstsWrong)

/-- 'needlestorelaw07.SuperblockNext': WHATEVER THE INPUT: true; the input reads as it did. -/
def superblockNextSpec : ChangeSpec := { name := "superblockNext", fn := fun _ => fun
  | [d1, d2] => { results := [.lit (.bool true)], args := [d1, d2] }
  | _ => none }
def superblockNextRow : OpenClaim := { program := "ytekdnloabhnngaadoor", sum := "4b522f48bbf419634ca36236fdc41aca4907061889fa5e5fb73e656161248c11", func := "needlestore/needlestorelaw07.SuperblockNext", spec := "superblockNext", named := ["needlestore/crc32c.nibbles"], apart := false, laid := [("needlestore/crc32c.nibbles", laid_needlestore_crc32c_nibbles)] }
def SuperblockNextSaid : Prop := superblockNextRow.holds Tryd.pinned (OpenSpec.ofChange superblockNextSpec)

/-- ITS FALSE NEIGHBOUR: 'it returns false'. Refute it at one input. -/
def superblockNextWrong : ChangeSpec := { name := "superblockNext", fn := fun _ => fun
  | [d1, d2] => { results := [.lit (.bool false)], args := [d1, d2] }
  | _ => none }
def SuperblockNextWrongFalsely : Prop := superblockNextRow.holds Tryd.pinned (OpenSpec.ofChange superblockNextWrong)

/- THE SECOND FORM. 'bulk': how many values and letters a reading holds, each counted each time it is reached (what is shared counts as often as it is met; a slice's spare places count too). A statement '..UptoSaid' is the law's where the arguments, and the package variables that the reading takes, are together of bulk at most 1048576: NARROWER than '..Said'. Prove '..Said' where nothing that the law and all that it calls make is longer than what came in: it says more and counts as full. Else prove '..UptoSaid'. A law counts once. -/
mutual
def uptoBulk {H : Type} : DataW H → Nat
  | .lit (.string bytes) => bytes.length + 1
  | .lit _ => 1
  | .nil => 1
  | .ptr d => uptoBulk d + 1
  | .slice elems spare => uptoBulkAll elems + uptoBulkAll spare + 1
  | .agg parts => uptoBulkAll parts + 1
  | .iface _ d => uptoBulk d + 1
  | .map entries => uptoBulkEntries entries + 1
  | .held _ => 1
def uptoBulkAll {H : Type} : List (DataW H) → Nat
  | [] => 0
  | d :: r => uptoBulk d + uptoBulkAll r
def uptoBulkEntries {H : Type} : List (Lit × DataW H) → Nat
  | [] => 0
  | x :: r => uptoBulkEntry x + uptoBulkEntries r
def uptoBulkEntry {H : Type} : Lit × DataW H → Nat
  | (.string bytes, d) => bytes.length + uptoBulk d + 1
  | (_, d) => uptoBulk d + 1
 end
def uptoSmall : (H : Type) → List (DataW H) → Bool := fun _ ds => decide (uptoBulkAll ds ≤ 1048576)
def OpenSpec.upto (s : _root_.Go.ChangeSpec) : _root_.Go.OpenSpec := { _root_.Go.OpenSpec.ofChange s with cond := some uptoSmall }

/-- 'needlestorelaw07.SuperblockEncodes', WHERE WHAT IT READS IS OF BULK AT MOST 1048576: true; the input reads as it did. -/
def superblockEncodesUptoRow : OpenClaim := { program := "ytekdnloabhnngaadoor", sum := "4b522f48bbf419634ca36236fdc41aca4907061889fa5e5fb73e656161248c11", func := "needlestore/needlestorelaw07.SuperblockEncodes", spec := "superblockEncodes", named := ["needlestore/crc32c.nibbles"], apart := false, laid := [("needlestore/crc32c.nibbles", laid_needlestore_crc32c_nibbles)], narrowed := true }
def SuperblockEncodesUptoSaid : Prop := superblockEncodesUptoRow.holds Tryd.pinned (OpenSpec.upto superblockEncodesSpec)

/-- 'needlestorelaw07.SuperblockDecodes', WHERE WHAT IT READS IS OF BULK AT MOST 1048576: true; the input reads as it did. -/
def superblockDecodesUptoRow : OpenClaim := { program := "ytekdnloabhnngaadoor", sum := "4b522f48bbf419634ca36236fdc41aca4907061889fa5e5fb73e656161248c11", func := "needlestore/needlestorelaw07.SuperblockDecodes", spec := "superblockDecodes", named := ["needlestore/crc32c.nibbles"], apart := false, laid := [("needlestore/crc32c.nibbles", laid_needlestore_crc32c_nibbles)], narrowed := true }
def SuperblockDecodesUptoSaid : Prop := superblockDecodesUptoRow.holds Tryd.pinned (OpenSpec.upto superblockDecodesSpec)

/-- 'needlestorelaw07.SuperblockBack', WHERE WHAT IT READS IS OF BULK AT MOST 1048576: true; the input reads as it did. -/
def superblockBackUptoRow : OpenClaim := { program := "ytekdnloabhnngaadoor", sum := "4b522f48bbf419634ca36236fdc41aca4907061889fa5e5fb73e656161248c11", func := "needlestore/needlestorelaw07.SuperblockBack", spec := "superblockBack", named := ["needlestore/crc32c.nibbles"], apart := false, laid := [("needlestore/crc32c.nibbles", laid_needlestore_crc32c_nibbles)], narrowed := true }
def SuperblockBackUptoSaid : Prop := superblockBackUptoRow.holds Tryd.pinned (OpenSpec.upto superblockBackSpec)

/-- 'needlestorelaw07.SuperblockBursts', WHERE WHAT IT READS IS OF BULK AT MOST 1048576: true; the input reads as it did. -/
def superblockBurstsUptoRow : OpenClaim := { program := "ytekdnloabhnngaadoor", sum := "4b522f48bbf419634ca36236fdc41aca4907061889fa5e5fb73e656161248c11", func := "needlestore/needlestorelaw07.SuperblockBursts", spec := "superblockBursts", named := ["needlestore/crc32c.nibbles"], apart := false, laid := [("needlestore/crc32c.nibbles", laid_needlestore_crc32c_nibbles)], narrowed := true }
def SuperblockBurstsUptoSaid : Prop := superblockBurstsUptoRow.holds Tryd.pinned (OpenSpec.upto superblockBurstsSpec)

/-- 'needlestorelaw07.SuperblockNext', WHERE WHAT IT READS IS OF BULK AT MOST 1048576: true; the input reads as it did. -/
def superblockNextUptoRow : OpenClaim := { program := "ytekdnloabhnngaadoor", sum := "4b522f48bbf419634ca36236fdc41aca4907061889fa5e5fb73e656161248c11", func := "needlestore/needlestorelaw07.SuperblockNext", spec := "superblockNext", named := ["needlestore/crc32c.nibbles"], apart := false, laid := [("needlestore/crc32c.nibbles", laid_needlestore_crc32c_nibbles)], narrowed := true }
def SuperblockNextUptoSaid : Prop := superblockNextUptoRow.holds Tryd.pinned (OpenSpec.upto superblockNextSpec)

end Rows
end Go.Proofs.YtekdnloabhnngaaDoor
