/-
  NARROWER THAN 'FOR EVERY INPUT', by the rows' own cells (each row's printed sentence says how): ScanOpens: laid · ScanItems: laid · ScanReads: laid · ScanTorn: laid · ScanLast: laid · ScanSums: laid · ScanSalvages: laid.
  DERIVED. THE GIVEN ROWS OF THIS SEAT. 7 by the template 'for every input the law returns true; each argument reads behind the call as it read before'; 0 by the template 'total and deterministic' (their statements: YtlnccofanicihaaDoorTotals.lean).
  GIVEN WITH THE SEED: the statements are not yours to turn. If you find one false, say at which input.
  Laid BY PROGRAM, IN A SANDBOX (cutbox-rows.mjs): the forced cells as the released guide's own fill.sh prints them over the translation 6a8b576d4238cdf5… (all of the seat's roots in one cut). By AI agents, Wed Nov 11 2026. No macro, syntax, notation, axiom, sorry.
-/
import Derived.Test.YtlnccofanicihaaDoorChecked
import GoSem.Claim
import GoSem.ClaimJoined
import GoSem.ClaimMapViews
import Derived.JoinedTies
import Derived.KernelRfl
namespace Go.Proofs.YtlnccofanicihaaDoor
/- THE CELL 'sum', in the pinned program and in every row, IS THE sha256 OF THE DUMP (.gsa) THAT YtlnccofanicihaaDoorProg.lean LOADS. Nothing in Lean hashes anything: it is a label: what it is worth is what the hold of that sum in a sandbox is worth. -/
noncomputable def Tryd.pinned : Pinned := { name := "ytlnccofanicihaadoor", sum := "6a8b576d4238cdf558ef6b7c2101d2a3cb0e1ae804e2962b3830829ea21598c3", checked := Tryd.checked }
namespace Rows
def none {H : Type} : Left H := { results := [], args := [] }

/- WHAT THE LISTED PACKAGE-LEVEL VARIABLES READ AS WHEN THE CALL BEGINS. Each datum BY PROGRAM (the guide's laid-datum.mjs) off the statement by which the dump's own 'gosem.cut.vars' lays the variable. In a bare row this is a premise. The card (YtlnccofanicihaaDoorCards.lean) ties it to the program's text. -/
def laid_needlestore_crc32c_nibbles {H : Type} : DataW H := .agg [.lit (.int .u32 0), .lit (.int .u32 274646895), .lit (.int .u32 549293790), .lit (.int .u32 820201905), .lit (.int .u32 1098587580), .lit (.int .u32 1361435347), .lit (.int .u32 1640403810), .lit (.int .u32 1905808397), .lit (.int .u32 2197175160), .lit (.int .u32 2460548119), .lit (.int .u32 2722870694), .lit (.int .u32 2987750089), .lit (.int .u32 3280807620), .lit (.int .u32 3553878443), .lit (.int .u32 3811616794), .lit (.int .u32 4084100981)]

/-- 'needlestorelaw09.ScanOpens': WHATEVER THE INPUT: true; the input reads as it did. -/
def scanOpensSpec : ChangeSpec := { name := "scanOpens", fn := fun _ => fun
  | [d1, d2, d3, d4] => { results := [.lit (.bool true)], args := [d1, d2, d3, d4] }
  | _ => none }
def scanOpensRow : OpenClaim := { program := "ytlnccofanicihaadoor", sum := "6a8b576d4238cdf558ef6b7c2101d2a3cb0e1ae804e2962b3830829ea21598c3", func := "needlestore/needlestorelaw09.ScanOpens", spec := "scanOpens", unfollowed := true, recurses := true, named := ["needlestore/crc32c.nibbles"], apart := false, laid := [("needlestore/crc32c.nibbles", laid_needlestore_crc32c_nibbles)] }
def ScanOpensSaid : Prop := scanOpensRow.holds Tryd.pinned (OpenSpec.ofChange scanOpensSpec)

/-- ITS FALSE NEIGHBOUR: 'it returns false'. Refute it at one input. -/
def scanOpensWrong : ChangeSpec := { name := "scanOpens", fn := fun _ => fun
  | [d1, d2, d3, d4] => { results := [.lit (.bool false)], args := [d1, d2, d3, d4] }
  | _ => none }
def ScanOpensWrongFalsely : Prop := scanOpensRow.holds Tryd.pinned (OpenSpec.ofChange scanOpensWrong)

/-- 'needlestorelaw09.ScanItems': WHATEVER THE INPUT: true; the input reads as it did. -/
def scanItemsSpec : ChangeSpec := { name := "scanItems", fn := fun _ => fun
  | [d1, d2] => { results := [.lit (.bool true)], args := [d1, d2] }
  | _ => none }
def scanItemsRow : OpenClaim := { program := "ytlnccofanicihaadoor", sum := "6a8b576d4238cdf558ef6b7c2101d2a3cb0e1ae804e2962b3830829ea21598c3", func := "needlestore/needlestorelaw09.ScanItems", spec := "scanItems", unfollowed := true, recurses := true, named := ["needlestore/crc32c.nibbles"], apart := false, laid := [("needlestore/crc32c.nibbles", laid_needlestore_crc32c_nibbles)] }
def ScanItemsSaid : Prop := scanItemsRow.holds Tryd.pinned (OpenSpec.ofChange scanItemsSpec)

/-- ITS FALSE NEIGHBOUR: 'it returns false'. Refute it at one input. -/
def scanItemsWrong : ChangeSpec := { name := "scanItems", fn := fun _ => fun
  | [d1, d2] => { results := [.lit (.bool false)], args := [d1, d2] }
  | _ => none }
def ScanItemsWrongFalsely : Prop := scanItemsRow.holds Tryd.pinned (OpenSpec.ofChange scanItemsWrong)

/-- 'needlestorelaw09.ScanReads': WHATEVER THE INPUT: true; the input reads as it did. -/
def scanReadsSpec : ChangeSpec := { name := "scanReads", fn := fun _ => fun
  | [d1, d2] => { results := [.lit (.bool true)], args := [d1, d2] }
  | _ => none }
def scanReadsRow : OpenClaim := { program := "ytlnccofanicihaadoor", sum := "6a8b576d4238cdf558ef6b7c2101d2a3cb0e1ae804e2962b3830829ea21598c3", func := "needlestore/needlestorelaw09.ScanReads", spec := "scanReads", unfollowed := true, recurses := true, named := ["needlestore/crc32c.nibbles"], apart := false, laid := [("needlestore/crc32c.nibbles", laid_needlestore_crc32c_nibbles)] }
def ScanReadsSaid : Prop := scanReadsRow.holds Tryd.pinned (OpenSpec.ofChange scanReadsSpec)

/-- ITS FALSE NEIGHBOUR: 'it returns false'. Refute it at one input. -/
def scanReadsWrong : ChangeSpec := { name := "scanReads", fn := fun _ => fun
  | [d1, d2] => { results := [.lit (.bool false)], args := [d1, d2] }
  | _ => none }
def ScanReadsWrongFalsely : Prop := scanReadsRow.holds Tryd.pinned (OpenSpec.ofChange scanReadsWrong)

/-- 'needlestorelaw09.ScanTorn': WHATEVER THE INPUT: true; the input reads as it did. -/
def scanTornSpec : ChangeSpec := { name := "scanTorn", fn := fun _ => fun
  | [d1, d2] => { results := [.lit (.bool true)], args := [d1, d2] }
  | _ => none }
def scanTornRow : OpenClaim := { program := "ytlnccofanicihaadoor", sum := "6a8b576d4238cdf558ef6b7c2101d2a3cb0e1ae804e2962b3830829ea21598c3", func := "needlestore/needlestorelaw09.ScanTorn", spec := "scanTorn", unfollowed := true, recurses := true, named := ["needlestore/crc32c.nibbles"], apart := false, laid := [("needlestore/crc32c.nibbles", laid_needlestore_crc32c_nibbles)] }
def ScanTornSaid : Prop := scanTornRow.holds Tryd.pinned (OpenSpec.ofChange scanTornSpec)

/-- ITS FALSE NEIGHBOUR: 'it returns false'. Refute it at one input. -/
def scanTornWrong : ChangeSpec := { name := "scanTorn", fn := fun _ => fun
  | [d1, d2] => { results := [.lit (.bool false)], args := [d1, d2] }
  | _ => none }
def ScanTornWrongFalsely : Prop := scanTornRow.holds Tryd.pinned (OpenSpec.ofChange scanTornWrong)

/-- 'needlestorelaw09.ScanLast': WHATEVER THE INPUT: true; the input reads as it did. -/
def scanLastSpec : ChangeSpec := { name := "scanLast", fn := fun _ => fun
  | [d1, d2] => { results := [.lit (.bool true)], args := [d1, d2] }
  | _ => none }
def scanLastRow : OpenClaim := { program := "ytlnccofanicihaadoor", sum := "6a8b576d4238cdf558ef6b7c2101d2a3cb0e1ae804e2962b3830829ea21598c3", func := "needlestore/needlestorelaw09.ScanLast", spec := "scanLast", unfollowed := true, recurses := true, named := ["needlestore/crc32c.nibbles"], apart := false, laid := [("needlestore/crc32c.nibbles", laid_needlestore_crc32c_nibbles)] }
def ScanLastSaid : Prop := scanLastRow.holds Tryd.pinned (OpenSpec.ofChange scanLastSpec)

/-- ITS FALSE NEIGHBOUR: 'it returns false'. Refute it at one input. -/
def scanLastWrong : ChangeSpec := { name := "scanLast", fn := fun _ => fun
  | [d1, d2] => { results := [.lit (.bool false)], args := [d1, d2] }
  | _ => none }
def ScanLastWrongFalsely : Prop := scanLastRow.holds Tryd.pinned (OpenSpec.ofChange scanLastWrong)

/-- 'needlestorelaw09.ScanSums': WHATEVER THE INPUT: true; the input reads as it did. -/
def scanSumsSpec : ChangeSpec := { name := "scanSums", fn := fun _ => fun
  | [d] => { results := [.lit (.bool true)], args := [d] }
  | _ => none }
def scanSumsRow : OpenClaim := { program := "ytlnccofanicihaadoor", sum := "6a8b576d4238cdf558ef6b7c2101d2a3cb0e1ae804e2962b3830829ea21598c3", func := "needlestore/needlestorelaw09.ScanSums", spec := "scanSums", unfollowed := true, recurses := true, named := ["needlestore/crc32c.nibbles"], apart := false, laid := [("needlestore/crc32c.nibbles", laid_needlestore_crc32c_nibbles)] }
def ScanSumsSaid : Prop := scanSumsRow.holds Tryd.pinned (OpenSpec.ofChange scanSumsSpec)

/-- ITS FALSE NEIGHBOUR: 'it returns false'. Refute it at one input. -/
def scanSumsWrong : ChangeSpec := { name := "scanSums", fn := fun _ => fun
  | [d] => { results := [.lit (.bool false)], args := [d] }
  | _ => none }
def ScanSumsWrongFalsely : Prop := scanSumsRow.holds Tryd.pinned (OpenSpec.ofChange scanSumsWrong)

/-- 'needlestorelaw09.ScanSalvages': WHATEVER THE INPUT: true; the input reads as it did. -/
def scanSalvagesSpec : ChangeSpec := { name := "scanSalvages", fn := fun _ => fun
  | [d1, d2, d3, d4] => { results := [.lit (.bool true)], args := [d1, d2, d3, d4] }
  | _ => none }
def scanSalvagesRow : OpenClaim := { program := "ytlnccofanicihaadoor", sum := "6a8b576d4238cdf558ef6b7c2101d2a3cb0e1ae804e2962b3830829ea21598c3", func := "needlestore/needlestorelaw09.ScanSalvages", spec := "scanSalvages", unfollowed := true, recurses := true, named := ["needlestore/crc32c.nibbles"], apart := false, laid := [("needlestore/crc32c.nibbles", laid_needlestore_crc32c_nibbles)] }
def ScanSalvagesSaid : Prop := scanSalvagesRow.holds Tryd.pinned (OpenSpec.ofChange scanSalvagesSpec)

/-- ITS FALSE NEIGHBOUR: 'it returns false'. Refute it at one input. -/
def scanSalvagesWrong : ChangeSpec := { name := "scanSalvages", fn := fun _ => fun
  | [d1, d2, d3, d4] => { results := [.lit (.bool false)], args := [d1, d2, d3, d4] }
  | _ => none }
def ScanSalvagesWrongFalsely : Prop := scanSalvagesRow.holds Tryd.pinned (OpenSpec.ofChange scanSalvagesWrong)

/- THE SECOND FORM. 'bulk': how many values and letters a reading holds, each counted each time it is reached (what is shared counts as often as it is met; a slice's spare places count too). A statement '..UptoSaid' is the law's where the arguments, and the package variables that the reading takes, are together of bulk at most 1048576: NARROWER than '..Said'. Prove '..Said' where nothing that the law and all that it calls make is longer than what came in: it says more and counts as full. Else prove '..UptoSaid'. A law counts once. -/
mutual
def uptoBulk {H : Type} : DataW H → Nat
  | .lit (.string bytes) => bytes.length + 1
  | .lit _ => 1
  | .nil => 1
  | .ptr d => uptoBulk d + 1
  | .slice elems spare => uptoBulkAll elems + uptoBulkAll spare + 1
  | .agg parts => uptoBulkAll parts + 1
  | .iface _ d => uptoBulk d + 1
  | .map entries => uptoBulkEntries entries + 1
  | .held _ => 1
def uptoBulkAll {H : Type} : List (DataW H) → Nat
  | [] => 0
  | d :: r => uptoBulk d + uptoBulkAll r
def uptoBulkEntries {H : Type} : List (Lit × DataW H) → Nat
  | [] => 0
  | x :: r => uptoBulkEntry x + uptoBulkEntries r
def uptoBulkEntry {H : Type} : Lit × DataW H → Nat
  | (.string bytes, d) => bytes.length + uptoBulk d + 1
  | (_, d) => uptoBulk d + 1
 end
def uptoSmall : (H : Type) → List (DataW H) → Bool := fun _ ds => decide (uptoBulkAll ds ≤ 1048576)
def OpenSpec.upto (s : _root_.Go.ChangeSpec) : _root_.Go.OpenSpec := { _root_.Go.OpenSpec.ofChange s with cond := some uptoSmall }

/-- 'needlestorelaw09.ScanOpens', WHERE WHAT IT READS IS OF BULK AT MOST 1048576: true; the input reads as it did. -/
def scanOpensUptoRow : OpenClaim := { program := "ytlnccofanicihaadoor", sum := "6a8b576d4238cdf558ef6b7c2101d2a3cb0e1ae804e2962b3830829ea21598c3", func := "needlestore/needlestorelaw09.ScanOpens", spec := "scanOpens", unfollowed := true, recurses := true, named := ["needlestore/crc32c.nibbles"], apart := false, laid := [("needlestore/crc32c.nibbles", laid_needlestore_crc32c_nibbles)], narrowed := true }
def ScanOpensUptoSaid : Prop := scanOpensUptoRow.holds Tryd.pinned (OpenSpec.upto scanOpensSpec)

/-- 'needlestorelaw09.ScanItems', WHERE WHAT IT READS IS OF BULK AT MOST 1048576: true; the input reads as it did. -/
def scanItemsUptoRow : OpenClaim := { program := "ytlnccofanicihaadoor", sum := "6a8b576d4238cdf558ef6b7c2101d2a3cb0e1ae804e2962b3830829ea21598c3", func := "needlestore/needlestorelaw09.ScanItems", spec := "scanItems", unfollowed := true, recurses := true, named := ["needlestore/crc32c.nibbles"], apart := false, laid := [("needlestore/crc32c.nibbles", laid_needlestore_crc32c_nibbles)], narrowed := true }
def ScanItemsUptoSaid : Prop := scanItemsUptoRow.holds Tryd.pinned (OpenSpec.upto scanItemsSpec)

/-- 'needlestorelaw09.ScanReads', WHERE WHAT IT READS IS OF BULK AT MOST 1048576: true; the input reads as it did. -/
def scanReadsUptoRow : OpenClaim := { program := "ytlnccofanicihaadoor", sum := "6a8b576d4238cdf558ef6b7c2101d2a3cb0e1ae804e2962b3830829ea21598c3", func := "needlestore/needlestorelaw09.ScanReads", spec := "scanReads", unfollowed := true, recurses := true, named := ["needlestore/crc32c.nibbles"], apart := false, laid := [("needlestore/crc32c.nibbles", laid_needlestore_crc32c_nibbles)], narrowed := true }
def ScanReadsUptoSaid : Prop := scanReadsUptoRow.holds Tryd.pinned (OpenSpec.upto scanReadsSpec)

/-- 'needlestorelaw09.ScanTorn', WHERE WHAT IT READS IS OF BULK AT MOST 1048576: true; the input reads as it did. -/
def scanTornUptoRow : OpenClaim := { program := "ytlnccofanicihaadoor", sum := "6a8b576d4238cdf558ef6b7c2101d2a3cb0e1ae804e2962b3830829ea21598c3", func := "needlestore/needlestorelaw09.ScanTorn", spec := "scanTorn", unfollowed := true, recurses := true, named := ["needlestore/crc32c.nibbles"], apart := false, laid := [("needlestore/crc32c.nibbles", laid_needlestore_crc32c_nibbles)], narrowed := true }
def ScanTornUptoSaid : Prop := scanTornUptoRow.holds Tryd.pinned (OpenSpec.upto scanTornSpec)

/-- 'needlestorelaw09.ScanLast', WHERE WHAT IT READS IS OF BULK AT MOST 1048576: true; the input reads as it did. -/
def scanLastUptoRow : OpenClaim := { program := "ytlnccofanicihaadoor", sum := "6a8b576d4238cdf558ef6b7c2101d2a3cb0e1ae804e2962b3830829ea21598c3", func := "needlestore/needlestorelaw09.ScanLast", spec := "scanLast", unfollowed := true, recurses := true, named := ["needlestore/crc32c.nibbles"], apart := false, laid := [("needlestore/crc32c.nibbles", laid_needlestore_crc32c_nibbles)], narrowed := true }
def ScanLastUptoSaid : Prop := scanLastUptoRow.holds Tryd.pinned (OpenSpec.upto scanLastSpec)

/-- 'needlestorelaw09.ScanSums', WHERE WHAT IT READS IS OF BULK AT MOST 1048576: true; the input reads as it did. -/
def scanSumsUptoRow : OpenClaim := { program := "ytlnccofanicihaadoor", sum := "6a8b576d4238cdf558ef6b7c2101d2a3cb0e1ae804e2962b3830829ea21598c3", func := "needlestore/needlestorelaw09.ScanSums", spec := "scanSums", unfollowed := true, recurses := true, named := ["needlestore/crc32c.nibbles"], apart := false, laid := [("needlestore/crc32c.nibbles", laid_needlestore_crc32c_nibbles)], narrowed := true }
def ScanSumsUptoSaid : Prop := scanSumsUptoRow.holds Tryd.pinned (OpenSpec.upto scanSumsSpec)

/-- 'needlestorelaw09.ScanSalvages', WHERE WHAT IT READS IS OF BULK AT MOST 1048576: true; the input reads as it did. -/
def scanSalvagesUptoRow : OpenClaim := { program := "ytlnccofanicihaadoor", sum := "6a8b576d4238cdf558ef6b7c2101d2a3cb0e1ae804e2962b3830829ea21598c3", func := "needlestore/needlestorelaw09.ScanSalvages", spec := "scanSalvages", unfollowed := true, recurses := true, named := ["needlestore/crc32c.nibbles"], apart := false, laid := [("needlestore/crc32c.nibbles", laid_needlestore_crc32c_nibbles)], narrowed := true }
def ScanSalvagesUptoSaid : Prop := scanSalvagesUptoRow.holds Tryd.pinned (OpenSpec.upto scanSalvagesSpec)

end Rows
end Go.Proofs.YtlnccofanicihaaDoor
