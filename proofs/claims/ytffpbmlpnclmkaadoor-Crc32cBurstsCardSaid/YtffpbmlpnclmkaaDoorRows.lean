/-
  NARROWER THAN 'FOR EVERY INPUT', by the rows' own cells (each row's printed sentence says how): Crc32cSums: laid · Crc32cExtends: laid · Crc32cCombines: laid · Crc32cJoins: laid · Crc32cAssociates: laid · Crc32cLinear: laid · Crc32cBursts: laid.
  DERIVED. THE GIVEN ROWS OF THIS SEAT. 7 by the template 'for every input the law returns true; each argument reads behind the call as it read before'; 0 by the template 'total and deterministic' (their statements: YtffpbmlpnclmkaaDoorTotals.lean).
  GIVEN WITH THE SEED: the statements are not yours to turn. If you find one false, say at which input.
  Laid BY PROGRAM, IN A SANDBOX (cutbox-rows.mjs): the forced cells as the released guide's own fill.sh prints them over the translation a9760510463d4c1c… (all of the seat's roots in one cut). By AI agents, Wed Nov 11 2026. No macro, syntax, notation, axiom, sorry.
-/
import Derived.Test.YtffpbmlpnclmkaaDoorChecked
import GoSem.Claim
import GoSem.ClaimJoined
import GoSem.ClaimMapViews
import Derived.JoinedTies
import Derived.KernelRfl
namespace Go.Proofs.YtffpbmlpnclmkaaDoor
/- THE CELL 'sum', in the pinned program and in every row, IS THE sha256 OF THE DUMP (.gsa) THAT YtffpbmlpnclmkaaDoorProg.lean LOADS. Nothing in Lean hashes anything: it is a label: what it is worth is what the hold of that sum in a sandbox is worth. -/
noncomputable def Tryd.pinned : Pinned := { name := "ytffpbmlpnclmkaadoor", sum := "a9760510463d4c1c0ae39eecbededd7b0e95bfbe40b9da0ae2cf9c90709d2558", checked := Tryd.checked }
namespace Rows
def none {H : Type} : Left H := { results := [], args := [] }

/- WHAT THE LISTED PACKAGE-LEVEL VARIABLES READ AS WHEN THE CALL BEGINS. Each datum BY PROGRAM (the guide's laid-datum.mjs) off the statement by which the dump's own 'gosem.cut.vars' lays the variable. In a bare row this is a premise. The card (YtffpbmlpnclmkaaDoorCards.lean) ties it to the program's text. -/
def laid_needlestore_crc32c_nibbles {H : Type} : DataW H := .agg [.lit (.int .u32 0), .lit (.int .u32 274646895), .lit (.int .u32 549293790), .lit (.int .u32 820201905), .lit (.int .u32 1098587580), .lit (.int .u32 1361435347), .lit (.int .u32 1640403810), .lit (.int .u32 1905808397), .lit (.int .u32 2197175160), .lit (.int .u32 2460548119), .lit (.int .u32 2722870694), .lit (.int .u32 2987750089), .lit (.int .u32 3280807620), .lit (.int .u32 3553878443), .lit (.int .u32 3811616794), .lit (.int .u32 4084100981)]

/-- 'needlestorelaw01.Crc32cSums': WHATEVER THE INPUT: true; the input reads as it did. -/
def crc32cSumsSpec : ChangeSpec := { name := "crc32cSums", fn := fun _ => fun
  | [d1, d2] => { results := [.lit (.bool true)], args := [d1, d2] }
  | _ => none }
def crc32cSumsRow : OpenClaim := { program := "ytffpbmlpnclmkaadoor", sum := "a9760510463d4c1c0ae39eecbededd7b0e95bfbe40b9da0ae2cf9c90709d2558", func := "needlestore/needlestorelaw01.Crc32cSums", spec := "crc32cSums", named := ["needlestore/crc32c.nibbles"], apart := false, laid := [("needlestore/crc32c.nibbles", laid_needlestore_crc32c_nibbles)] }
def Crc32cSumsSaid : Prop := crc32cSumsRow.holds Tryd.pinned (OpenSpec.ofChange crc32cSumsSpec)

/-- ITS FALSE NEIGHBOUR: 'it returns false'. Refute it at one input. -/
def crc32cSumsWrong : ChangeSpec := { name := "crc32cSums", fn := fun _ => fun
  | [d1, d2] => { results := [.lit (.bool false)], args := [d1, d2] }
  | _ => none }
def Crc32cSumsWrongFalsely : Prop := crc32cSumsRow.holds Tryd.pinned (OpenSpec.ofChange crc32cSumsWrong)

/-- 'needlestorelaw01.Crc32cExtends': WHATEVER THE INPUT: true; the input reads as it did. -/
def crc32cExtendsSpec : ChangeSpec := { name := "crc32cExtends", fn := fun _ => fun
  | [d1, d2] => { results := [.lit (.bool true)], args := [d1, d2] }
  | _ => none }
def crc32cExtendsRow : OpenClaim := { program := "ytffpbmlpnclmkaadoor", sum := "a9760510463d4c1c0ae39eecbededd7b0e95bfbe40b9da0ae2cf9c90709d2558", func := "needlestore/needlestorelaw01.Crc32cExtends", spec := "crc32cExtends", named := ["needlestore/crc32c.nibbles"], apart := false, laid := [("needlestore/crc32c.nibbles", laid_needlestore_crc32c_nibbles)] }
def Crc32cExtendsSaid : Prop := crc32cExtendsRow.holds Tryd.pinned (OpenSpec.ofChange crc32cExtendsSpec)

/-- ITS FALSE NEIGHBOUR: 'it returns false'. Refute it at one input. -/
def crc32cExtendsWrong : ChangeSpec := { name := "crc32cExtends", fn := fun _ => fun
  | [d1, d2] => { results := [.lit (.bool false)], args := [d1, d2] }
  | _ => none }
def Crc32cExtendsWrongFalsely : Prop := crc32cExtendsRow.holds Tryd.pinned (OpenSpec.ofChange crc32cExtendsWrong)

/-- 'needlestorelaw01.Crc32cCombines': WHATEVER THE INPUT: true; the input reads as it did. -/
def crc32cCombinesSpec : ChangeSpec := { name := "crc32cCombines", fn := fun _ => fun
  | [d1, d2, d3] => { results := [.lit (.bool true)], args := [d1, d2, d3] }
  | _ => none }
def crc32cCombinesRow : OpenClaim := { program := "ytffpbmlpnclmkaadoor", sum := "a9760510463d4c1c0ae39eecbededd7b0e95bfbe40b9da0ae2cf9c90709d2558", func := "needlestore/needlestorelaw01.Crc32cCombines", spec := "crc32cCombines", named := ["needlestore/crc32c.nibbles"], apart := false, laid := [("needlestore/crc32c.nibbles", laid_needlestore_crc32c_nibbles)] }
def Crc32cCombinesSaid : Prop := crc32cCombinesRow.holds Tryd.pinned (OpenSpec.ofChange crc32cCombinesSpec)

/-- ITS FALSE NEIGHBOUR: 'it returns false'. Refute it at one input. -/
def crc32cCombinesWrong : ChangeSpec := { name := "crc32cCombines", fn := fun _ => fun
  | [d1, d2, d3] => { results := [.lit (.bool false)], args := [d1, d2, d3] }
  | _ => none }
def Crc32cCombinesWrongFalsely : Prop := crc32cCombinesRow.holds Tryd.pinned (OpenSpec.ofChange crc32cCombinesWrong)

/-- 'needlestorelaw01.Crc32cJoins': WHATEVER THE INPUT: true; the input reads as it did. -/
def crc32cJoinsSpec : ChangeSpec := { name := "crc32cJoins", fn := fun _ => fun
  | [d1, d2] => { results := [.lit (.bool true)], args := [d1, d2] }
  | _ => none }
def crc32cJoinsRow : OpenClaim := { program := "ytffpbmlpnclmkaadoor", sum := "a9760510463d4c1c0ae39eecbededd7b0e95bfbe40b9da0ae2cf9c90709d2558", func := "needlestore/needlestorelaw01.Crc32cJoins", spec := "crc32cJoins", named := ["needlestore/crc32c.nibbles"], apart := false, laid := [("needlestore/crc32c.nibbles", laid_needlestore_crc32c_nibbles)] }
def Crc32cJoinsSaid : Prop := crc32cJoinsRow.holds Tryd.pinned (OpenSpec.ofChange crc32cJoinsSpec)

/-- ITS FALSE NEIGHBOUR: 'it returns false'. Refute it at one input. -/
def crc32cJoinsWrong : ChangeSpec := { name := "crc32cJoins", fn := fun _ => fun
  | [d1, d2] => { results := [.lit (.bool false)], args := [d1, d2] }
  | _ => none }
def Crc32cJoinsWrongFalsely : Prop := crc32cJoinsRow.holds Tryd.pinned (OpenSpec.ofChange crc32cJoinsWrong)

/-- 'needlestorelaw01.Crc32cAssociates': WHATEVER THE INPUT: true; the input reads as it did. -/
def crc32cAssociatesSpec : ChangeSpec := { name := "crc32cAssociates", fn := fun _ => fun
  | [d1, d2, d3, d4, d5] => { results := [.lit (.bool true)], args := [d1, d2, d3, d4, d5] }
  | _ => none }
def crc32cAssociatesRow : OpenClaim := { program := "ytffpbmlpnclmkaadoor", sum := "a9760510463d4c1c0ae39eecbededd7b0e95bfbe40b9da0ae2cf9c90709d2558", func := "needlestore/needlestorelaw01.Crc32cAssociates", spec := "crc32cAssociates", named := ["needlestore/crc32c.nibbles"], apart := false, laid := [("needlestore/crc32c.nibbles", laid_needlestore_crc32c_nibbles)] }
def Crc32cAssociatesSaid : Prop := crc32cAssociatesRow.holds Tryd.pinned (OpenSpec.ofChange crc32cAssociatesSpec)

/-- ITS FALSE NEIGHBOUR: 'it returns false'. Refute it at one input. -/
def crc32cAssociatesWrong : ChangeSpec := { name := "crc32cAssociates", fn := fun _ => fun
  | [d1, d2, d3, d4, d5] => { results := [.lit (.bool false)], args := [d1, d2, d3, d4, d5] }
  | _ => none }
def Crc32cAssociatesWrongFalsely : Prop := crc32cAssociatesRow.holds Tryd.pinned (OpenSpec.ofChange crc32cAssociatesWrong)

/-- 'needlestorelaw01.Crc32cLinear': WHATEVER THE INPUT: true; the input reads as it did. -/
def crc32cLinearSpec : ChangeSpec := { name := "crc32cLinear", fn := fun _ => fun
  | [d1, d2, d3] => { results := [.lit (.bool true)], args := [d1, d2, d3] }
  | _ => none }
def crc32cLinearRow : OpenClaim := { program := "ytffpbmlpnclmkaadoor", sum := "a9760510463d4c1c0ae39eecbededd7b0e95bfbe40b9da0ae2cf9c90709d2558", func := "needlestore/needlestorelaw01.Crc32cLinear", spec := "crc32cLinear", named := ["needlestore/crc32c.nibbles"], apart := false, laid := [("needlestore/crc32c.nibbles", laid_needlestore_crc32c_nibbles)] }
def Crc32cLinearSaid : Prop := crc32cLinearRow.holds Tryd.pinned (OpenSpec.ofChange crc32cLinearSpec)

/-- ITS FALSE NEIGHBOUR: 'it returns false'. Refute it at one input. -/
def crc32cLinearWrong : ChangeSpec := { name := "crc32cLinear", fn := fun _ => fun
  | [d1, d2, d3] => { results := [.lit (.bool false)], args := [d1, d2, d3] }
  | _ => none }
def Crc32cLinearWrongFalsely : Prop := crc32cLinearRow.holds Tryd.pinned (OpenSpec.ofChange crc32cLinearWrong)

/-- 'needlestorelaw01.Crc32cBursts': WHATEVER THE INPUT: true; the input reads as it did. -/
def crc32cBurstsSpec : ChangeSpec := { name := "crc32cBursts", fn := fun _ => fun
  | [d1, d2, d3] => { results := [.lit (.bool true)], args := [d1, d2, d3] }
  | _ => none }
def crc32cBurstsRow : OpenClaim := { program := "ytffpbmlpnclmkaadoor", sum := "a9760510463d4c1c0ae39eecbededd7b0e95bfbe40b9da0ae2cf9c90709d2558", func := "needlestore/needlestorelaw01.Crc32cBursts", spec := "crc32cBursts", named := ["needlestore/crc32c.nibbles"], apart := false, laid := [("needlestore/crc32c.nibbles", laid_needlestore_crc32c_nibbles)] }
def Crc32cBurstsSaid : Prop := crc32cBurstsRow.holds Tryd.pinned (OpenSpec.ofChange crc32cBurstsSpec)

/-- ITS FALSE NEIGHBOUR: 'it returns false'. Refute it at one input. -/
def crc32cBurstsWrong : ChangeSpec := { name := "crc32cBursts", fn := fun _ => fun
  | [d1, d2, d3] => { results := [.lit (.bool false)], args := [d1, d2, d3] }
  | _ => none }
def Crc32cBurstsWrongFalsely : Prop := crc32cBurstsRow.holds Tryd.pinned (OpenSpec.ofChange crc32cBurstsWrong)

/- THE SECOND FORM. 'bulk': how many values and letters a reading holds, each counted each time it is reached (what is shared counts as often as it is met; a slice's spare places count too). A statement '..UptoSaid' is the law's where the arguments, and the package variables that the reading takes, are together of bulk at most 1048576: NARROWER than '..Said'. Prove '..Said' where nothing that the law and all that it calls make is longer than what came in: it says more and counts as full. Else prove '..UptoSaid'. A law counts once. -/
mutual
def uptoBulk {H : Type} : DataW H → Nat
  | .lit (.string bytes) => bytes.length + 1
  | .lit _ => 1
  | .nil => 1
  | .ptr d => uptoBulk d + 1
  | .slice elems spare => uptoBulkAll elems + uptoBulkAll spare + 1
  | .agg parts => uptoBulkAll parts + 1
  | .iface _ d => uptoBulk d + 1
  | .map entries => uptoBulkEntries entries + 1
  | .held _ => 1
def uptoBulkAll {H : Type} : List (DataW H) → Nat
  | [] => 0
  | d :: r => uptoBulk d + uptoBulkAll r
def uptoBulkEntries {H : Type} : List (Lit × DataW H) → Nat
  | [] => 0
  | x :: r => uptoBulkEntry x + uptoBulkEntries r
def uptoBulkEntry {H : Type} : Lit × DataW H → Nat
  | (.string bytes, d) => bytes.length + uptoBulk d + 1
  | (_, d) => uptoBulk d + 1
 end
def uptoSmall : (H : Type) → List (DataW H) → Bool := fun _ ds => decide (uptoBulkAll ds ≤ 1048576)
def OpenSpec.upto (s : _root_.Go.ChangeSpec) : _root_.Go.OpenSpec := { _root_.Go.OpenSpec.ofChange s with cond := some uptoSmall }

/-- 'needlestorelaw01.Crc32cSums', WHERE WHAT IT READS IS OF BULK AT MOST 1048576: true; the input reads as it did. -/
def crc32cSumsUptoRow : OpenClaim := { program := "ytffpbmlpnclmkaadoor", sum := "a9760510463d4c1c0ae39eecbededd7b0e95bfbe40b9da0ae2cf9c90709d2558", func := "needlestore/needlestorelaw01.Crc32cSums", spec := "crc32cSums", named := ["needlestore/crc32c.nibbles"], apart := false, laid := [("needlestore/crc32c.nibbles", laid_needlestore_crc32c_nibbles)], narrowed := true }
def Crc32cSumsUptoSaid : Prop := crc32cSumsUptoRow.holds Tryd.pinned (OpenSpec.upto crc32cSumsSpec)

/-- 'needlestorelaw01.Crc32cExtends', WHERE WHAT IT READS IS OF BULK AT MOST 1048576: true; the input reads as it did. -/
def crc32cExtendsUptoRow : OpenClaim := { program := "ytffpbmlpnclmkaadoor", sum := "a9760510463d4c1c0ae39eecbededd7b0e95bfbe40b9da0ae2cf9c90709d2558", func := "needlestore/needlestorelaw01.Crc32cExtends", spec := "crc32cExtends", named := ["needlestore/crc32c.nibbles"], apart := false, laid := [("needlestore/crc32c.nibbles", laid_needlestore_crc32c_nibbles)], narrowed := true }
def Crc32cExtendsUptoSaid : Prop := crc32cExtendsUptoRow.holds Tryd.pinned (OpenSpec.upto crc32cExtendsSpec)

/-- 'needlestorelaw01.Crc32cCombines', WHERE WHAT IT READS IS OF BULK AT MOST 1048576: true; the input reads as it did. -/
def crc32cCombinesUptoRow : OpenClaim := { program := "ytffpbmlpnclmkaadoor", sum := "a9760510463d4c1c0ae39eecbededd7b0e95bfbe40b9da0ae2cf9c90709d2558", func := "needlestore/needlestorelaw01.Crc32cCombines", spec := "crc32cCombines", named := ["needlestore/crc32c.nibbles"], apart := false, laid := [("needlestore/crc32c.nibbles", laid_needlestore_crc32c_nibbles)], narrowed := true }
def Crc32cCombinesUptoSaid : Prop := crc32cCombinesUptoRow.holds Tryd.pinned (OpenSpec.upto crc32cCombinesSpec)

/-- 'needlestorelaw01.Crc32cJoins', WHERE WHAT IT READS IS OF BULK AT MOST 1048576: true; the input reads as it did. -/
def crc32cJoinsUptoRow : OpenClaim := { program := "ytffpbmlpnclmkaadoor", sum := "a9760510463d4c1c0ae39eecbededd7b0e95bfbe40b9da0ae2cf9c90709d2558", func := "needlestore/needlestorelaw01.Crc32cJoins", spec := "crc32cJoins", named := ["needlestore/crc32c.nibbles"], apart := false, laid := [("needlestore/crc32c.nibbles", laid_needlestore_crc32c_nibbles)], narrowed := true }
def Crc32cJoinsUptoSaid : Prop := crc32cJoinsUptoRow.holds Tryd.pinned (OpenSpec.upto crc32cJoinsSpec)

/-- 'needlestorelaw01.Crc32cAssociates', WHERE WHAT IT READS IS OF BULK AT MOST 1048576: true; the input reads as it did. -/
def crc32cAssociatesUptoRow : OpenClaim := { program := "ytffpbmlpnclmkaadoor", sum := "a9760510463d4c1c0ae39eecbededd7b0e95bfbe40b9da0ae2cf9c90709d2558", func := "needlestore/needlestorelaw01.Crc32cAssociates", spec := "crc32cAssociates", named := ["needlestore/crc32c.nibbles"], apart := false, laid := [("needlestore/crc32c.nibbles", laid_needlestore_crc32c_nibbles)], narrowed := true }
def Crc32cAssociatesUptoSaid : Prop := crc32cAssociatesUptoRow.holds Tryd.pinned (OpenSpec.upto crc32cAssociatesSpec)

/-- 'needlestorelaw01.Crc32cLinear', WHERE WHAT IT READS IS OF BULK AT MOST 1048576: true; the input reads as it did. -/
def crc32cLinearUptoRow : OpenClaim := { program := "ytffpbmlpnclmkaadoor", sum := "a9760510463d4c1c0ae39eecbededd7b0e95bfbe40b9da0ae2cf9c90709d2558", func := "needlestore/needlestorelaw01.Crc32cLinear", spec := "crc32cLinear", named := ["needlestore/crc32c.nibbles"], apart := false, laid := [("needlestore/crc32c.nibbles", laid_needlestore_crc32c_nibbles)], narrowed := true }
def Crc32cLinearUptoSaid : Prop := crc32cLinearUptoRow.holds Tryd.pinned (OpenSpec.upto crc32cLinearSpec)

/-- 'needlestorelaw01.Crc32cBursts', WHERE WHAT IT READS IS OF BULK AT MOST 1048576: true; the input reads as it did. -/
def crc32cBurstsUptoRow : OpenClaim := { program := "ytffpbmlpnclmkaadoor", sum := "a9760510463d4c1c0ae39eecbededd7b0e95bfbe40b9da0ae2cf9c90709d2558", func := "needlestore/needlestorelaw01.Crc32cBursts", spec := "crc32cBursts", named := ["needlestore/crc32c.nibbles"], apart := false, laid := [("needlestore/crc32c.nibbles", laid_needlestore_crc32c_nibbles)], narrowed := true }
def Crc32cBurstsUptoSaid : Prop := crc32cBurstsUptoRow.holds Tryd.pinned (OpenSpec.upto crc32cBurstsSpec)

end Rows
end Go.Proofs.YtffpbmlpnclmkaaDoor
