/-
  No cell of these rows narrows 'for every input' (looked for: loops, veiled, ifaces, maps, wideKeys, modest, calm, conditions, laid).
  DERIVED. THE GIVEN ROWS OF THIS SEAT. 8 by the template 'for every input the law returns true; each argument reads behind the call as it read before'; 0 by the template 'total and deterministic' (their statements: YtkmmpfmemjnbmaaTotals.lean).
  GIVEN WITH THE SEED: the statements are not yours to turn. If you find one false, say at which input.
  Laid BY PROGRAM, IN A SANDBOX (cutbox-rows.mjs): the forced cells as the released guide's own fill.sh prints them over the translation 831dea5034b90d4e… (all of the seat's roots in one cut). By AI agents, Wed Nov 11 2026. No macro, syntax, notation, axiom, sorry.
-/
import Derived.Test.YtkmmpfmemjnbmaaChecked
import GoSem.Claim
import GoSem.ClaimJoined
import GoSem.ClaimMapViews
import Derived.JoinedTies
import Derived.KernelRfl
namespace Go.Proofs.Ytkmmpfmemjnbmaa
/- THE CELL 'sum', in the pinned program and in every row, IS THE sha256 OF THE DUMP (.gsa) THAT YtkmmpfmemjnbmaaProg.lean LOADS. Nothing in Lean hashes anything: it is a label: what it is worth is what the hold of that sum in a sandbox is worth. -/
noncomputable def Try.pinned : Pinned := { name := "ytkmmpfmemjnbmaa", sum := "831dea5034b90d4e4ec22435095dbd2a775a527072385581a1c619b41498148d", checked := Try.checked }
namespace Rows
def none {H : Type} : Left H := { results := [], args := [] }

/-- 'needlestorelaw02.Gf256Products': WHATEVER THE INPUT: true; the input reads as it did. -/
def gf256ProductsSpec : ChangeSpec := { name := "gf256Products", fn := fun _ => fun
  | [d1, d2] => { results := [.lit (.bool true)], args := [d1, d2] }
  | _ => none }
def gf256ProductsRow : OpenClaim := { program := "ytkmmpfmemjnbmaa", sum := "831dea5034b90d4e4ec22435095dbd2a775a527072385581a1c619b41498148d", func := "needlestore/needlestorelaw02.Gf256Products", spec := "gf256Products", apart := false }
def Gf256ProductsSaid : Prop := gf256ProductsRow.holds Try.pinned (OpenSpec.ofChange gf256ProductsSpec)

/-- ITS FALSE NEIGHBOUR: 'it returns false'. Refute it at one input. -/
def gf256ProductsWrong : ChangeSpec := { name := "gf256Products", fn := fun _ => fun
  | [d1, d2] => { results := [.lit (.bool false)], args := [d1, d2] }
  | _ => none }
def Gf256ProductsWrongFalsely : Prop := gf256ProductsRow.holds Try.pinned (OpenSpec.ofChange gf256ProductsWrong)

/-- 'needlestorelaw02.Gf256Quotients': WHATEVER THE INPUT: true; the input reads as it did. -/
def gf256QuotientsSpec : ChangeSpec := { name := "gf256Quotients", fn := fun _ => fun
  | [d1, d2] => { results := [.lit (.bool true)], args := [d1, d2] }
  | _ => none }
def gf256QuotientsRow : OpenClaim := { program := "ytkmmpfmemjnbmaa", sum := "831dea5034b90d4e4ec22435095dbd2a775a527072385581a1c619b41498148d", func := "needlestore/needlestorelaw02.Gf256Quotients", spec := "gf256Quotients", apart := false }
def Gf256QuotientsSaid : Prop := gf256QuotientsRow.holds Try.pinned (OpenSpec.ofChange gf256QuotientsSpec)

/-- ITS FALSE NEIGHBOUR: 'it returns false'. Refute it at one input. -/
def gf256QuotientsWrong : ChangeSpec := { name := "gf256Quotients", fn := fun _ => fun
  | [d1, d2] => { results := [.lit (.bool false)], args := [d1, d2] }
  | _ => none }
def Gf256QuotientsWrongFalsely : Prop := gf256QuotientsRow.holds Try.pinned (OpenSpec.ofChange gf256QuotientsWrong)

/-- 'needlestorelaw02.Gf256Powers': WHATEVER THE INPUT: true; the input reads as it did. -/
def gf256PowersSpec : ChangeSpec := { name := "gf256Powers", fn := fun _ => fun
  | [d1, d2] => { results := [.lit (.bool true)], args := [d1, d2] }
  | _ => none }
def gf256PowersRow : OpenClaim := { program := "ytkmmpfmemjnbmaa", sum := "831dea5034b90d4e4ec22435095dbd2a775a527072385581a1c619b41498148d", func := "needlestore/needlestorelaw02.Gf256Powers", spec := "gf256Powers", apart := false }
def Gf256PowersSaid : Prop := gf256PowersRow.holds Try.pinned (OpenSpec.ofChange gf256PowersSpec)

/-- ITS FALSE NEIGHBOUR: 'it returns false'. Refute it at one input. -/
def gf256PowersWrong : ChangeSpec := { name := "gf256Powers", fn := fun _ => fun
  | [d1, d2] => { results := [.lit (.bool false)], args := [d1, d2] }
  | _ => none }
def Gf256PowersWrongFalsely : Prop := gf256PowersRow.holds Try.pinned (OpenSpec.ofChange gf256PowersWrong)

/-- 'needlestorelaw02.Gf256Field': WHATEVER THE INPUT: true; the input reads as it did. -/
def gf256FieldSpec : ChangeSpec := { name := "gf256Field", fn := fun _ => fun
  | [d1, d2, d3] => { results := [.lit (.bool true)], args := [d1, d2, d3] }
  | _ => none }
def gf256FieldRow : OpenClaim := { program := "ytkmmpfmemjnbmaa", sum := "831dea5034b90d4e4ec22435095dbd2a775a527072385581a1c619b41498148d", func := "needlestore/needlestorelaw02.Gf256Field", spec := "gf256Field", apart := false }
def Gf256FieldSaid : Prop := gf256FieldRow.holds Try.pinned (OpenSpec.ofChange gf256FieldSpec)

/-- ITS FALSE NEIGHBOUR: 'it returns false'. Refute it at one input. -/
def gf256FieldWrong : ChangeSpec := { name := "gf256Field", fn := fun _ => fun
  | [d1, d2, d3] => { results := [.lit (.bool false)], args := [d1, d2, d3] }
  | _ => none }
def Gf256FieldWrongFalsely : Prop := gf256FieldRow.holds Try.pinned (OpenSpec.ofChange gf256FieldWrong)

/-- 'needlestorelaw02.Gf256Inverse': WHATEVER THE INPUT: true; the input reads as it did. -/
def gf256InverseSpec : ChangeSpec := { name := "gf256Inverse", fn := fun _ => fun
  | [d1, d2] => { results := [.lit (.bool true)], args := [d1, d2] }
  | _ => none }
def gf256InverseRow : OpenClaim := { program := "ytkmmpfmemjnbmaa", sum := "831dea5034b90d4e4ec22435095dbd2a775a527072385581a1c619b41498148d", func := "needlestore/needlestorelaw02.Gf256Inverse", spec := "gf256Inverse", apart := false }
def Gf256InverseSaid : Prop := gf256InverseRow.holds Try.pinned (OpenSpec.ofChange gf256InverseSpec)

/-- ITS FALSE NEIGHBOUR: 'it returns false'. Refute it at one input. -/
def gf256InverseWrong : ChangeSpec := { name := "gf256Inverse", fn := fun _ => fun
  | [d1, d2] => { results := [.lit (.bool false)], args := [d1, d2] }
  | _ => none }
def Gf256InverseWrongFalsely : Prop := gf256InverseRow.holds Try.pinned (OpenSpec.ofChange gf256InverseWrong)

/-- 'needlestorelaw02.Gf256Logs': WHATEVER THE INPUT: true; the input reads as it did. -/
def gf256LogsSpec : ChangeSpec := { name := "gf256Logs", fn := fun _ => fun
  | [d1, d2, d3] => { results := [.lit (.bool true)], args := [d1, d2, d3] }
  | _ => none }
def gf256LogsRow : OpenClaim := { program := "ytkmmpfmemjnbmaa", sum := "831dea5034b90d4e4ec22435095dbd2a775a527072385581a1c619b41498148d", func := "needlestore/needlestorelaw02.Gf256Logs", spec := "gf256Logs", apart := false }
def Gf256LogsSaid : Prop := gf256LogsRow.holds Try.pinned (OpenSpec.ofChange gf256LogsSpec)

/-- ITS FALSE NEIGHBOUR: 'it returns false'. Refute it at one input. -/
def gf256LogsWrong : ChangeSpec := { name := "gf256Logs", fn := fun _ => fun
  | [d1, d2, d3] => { results := [.lit (.bool false)], args := [d1, d2, d3] }
  | _ => none }
def Gf256LogsWrongFalsely : Prop := gf256LogsRow.holds Try.pinned (OpenSpec.ofChange gf256LogsWrong)

/-- 'needlestorelaw02.Gf256Squares': WHATEVER THE INPUT: true; the input reads as it did. -/
def gf256SquaresSpec : ChangeSpec := { name := "gf256Squares", fn := fun _ => fun
  | [d1, d2] => { results := [.lit (.bool true)], args := [d1, d2] }
  | _ => none }
def gf256SquaresRow : OpenClaim := { program := "ytkmmpfmemjnbmaa", sum := "831dea5034b90d4e4ec22435095dbd2a775a527072385581a1c619b41498148d", func := "needlestore/needlestorelaw02.Gf256Squares", spec := "gf256Squares", apart := false }
def Gf256SquaresSaid : Prop := gf256SquaresRow.holds Try.pinned (OpenSpec.ofChange gf256SquaresSpec)

/-- ITS FALSE NEIGHBOUR: 'it returns false'. Refute it at one input. -/
def gf256SquaresWrong : ChangeSpec := { name := "gf256Squares", fn := fun _ => fun
  | [d1, d2] => { results := [.lit (.bool false)], args := [d1, d2] }
  | _ => none }
def Gf256SquaresWrongFalsely : Prop := gf256SquaresRow.holds Try.pinned (OpenSpec.ofChange gf256SquaresWrong)

/-- 'needlestorelaw02.Gf256Slices': WHATEVER THE INPUT: true; the input reads as it did. -/
def gf256SlicesSpec : ChangeSpec := { name := "gf256Slices", fn := fun _ => fun
  | [d1, d2, d3, d4] => { results := [.lit (.bool true)], args := [d1, d2, d3, d4] }
  | _ => none }
def gf256SlicesRow : OpenClaim := { program := "ytkmmpfmemjnbmaa", sum := "831dea5034b90d4e4ec22435095dbd2a775a527072385581a1c619b41498148d", func := "needlestore/needlestorelaw02.Gf256Slices", spec := "gf256Slices", apart := false }
def Gf256SlicesSaid : Prop := gf256SlicesRow.holds Try.pinned (OpenSpec.ofChange gf256SlicesSpec)

/-- ITS FALSE NEIGHBOUR: 'it returns false'. Refute it at one input. -/
def gf256SlicesWrong : ChangeSpec := { name := "gf256Slices", fn := fun _ => fun
  | [d1, d2, d3, d4] => { results := [.lit (.bool false)], args := [d1, d2, d3, d4] }
  | _ => none }
def Gf256SlicesWrongFalsely : Prop := gf256SlicesRow.holds Try.pinned (OpenSpec.ofChange gf256SlicesWrong)

/- THE SECOND FORM. 'bulk': how many values and letters a reading holds, each counted each time it is reached (what is shared counts as often as it is met; a slice's spare places count too). A statement '..UptoSaid' is the law's where the arguments, and the package variables that the reading takes, are together of bulk at most 1048576: NARROWER than '..Said'. Prove '..Said' where nothing that the law and all that it calls make is longer than what came in: it says more and counts as full. Else prove '..UptoSaid'. A law counts once. -/
mutual
def uptoBulk {H : Type} : DataW H → Nat
  | .lit (.string bytes) => bytes.length + 1
  | .lit _ => 1
  | .nil => 1
  | .ptr d => uptoBulk d + 1
  | .slice elems spare => uptoBulkAll elems + uptoBulkAll spare + 1
  | .agg parts => uptoBulkAll parts + 1
  | .iface _ d => uptoBulk d + 1
  | .map entries => uptoBulkEntries entries + 1
  | .held _ => 1
def uptoBulkAll {H : Type} : List (DataW H) → Nat
  | [] => 0
  | d :: r => uptoBulk d + uptoBulkAll r
def uptoBulkEntries {H : Type} : List (Lit × DataW H) → Nat
  | [] => 0
  | x :: r => uptoBulkEntry x + uptoBulkEntries r
def uptoBulkEntry {H : Type} : Lit × DataW H → Nat
  | (.string bytes, d) => bytes.length + uptoBulk d + 1
  | (_, d) => uptoBulk d + 1
 end
def uptoSmall : (H : Type) → List (DataW H) → Bool := fun _ ds => decide (uptoBulkAll ds ≤ 1048576)
def OpenSpec.upto (s : _root_.Go.ChangeSpec) : _root_.Go.OpenSpec := { _root_.Go.OpenSpec.ofChange s with cond := some uptoSmall }

/-- 'needlestorelaw02.Gf256Products', WHERE WHAT IT READS IS OF BULK AT MOST 1048576: true; the input reads as it did. -/
def gf256ProductsUptoRow : OpenClaim := { program := "ytkmmpfmemjnbmaa", sum := "831dea5034b90d4e4ec22435095dbd2a775a527072385581a1c619b41498148d", func := "needlestore/needlestorelaw02.Gf256Products", spec := "gf256Products", apart := false, narrowed := true }
def Gf256ProductsUptoSaid : Prop := gf256ProductsUptoRow.holds Try.pinned (OpenSpec.upto gf256ProductsSpec)

/-- 'needlestorelaw02.Gf256Quotients', WHERE WHAT IT READS IS OF BULK AT MOST 1048576: true; the input reads as it did. -/
def gf256QuotientsUptoRow : OpenClaim := { program := "ytkmmpfmemjnbmaa", sum := "831dea5034b90d4e4ec22435095dbd2a775a527072385581a1c619b41498148d", func := "needlestore/needlestorelaw02.Gf256Quotients", spec := "gf256Quotients", apart := false, narrowed := true }
def Gf256QuotientsUptoSaid : Prop := gf256QuotientsUptoRow.holds Try.pinned (OpenSpec.upto gf256QuotientsSpec)

/-- 'needlestorelaw02.Gf256Powers', WHERE WHAT IT READS IS OF BULK AT MOST 1048576: true; the input reads as it did. -/
def gf256PowersUptoRow : OpenClaim := { program := "ytkmmpfmemjnbmaa", sum := "831dea5034b90d4e4ec22435095dbd2a775a527072385581a1c619b41498148d", func := "needlestore/needlestorelaw02.Gf256Powers", spec := "gf256Powers", apart := false, narrowed := true }
def Gf256PowersUptoSaid : Prop := gf256PowersUptoRow.holds Try.pinned (OpenSpec.upto gf256PowersSpec)

/-- 'needlestorelaw02.Gf256Field', WHERE WHAT IT READS IS OF BULK AT MOST 1048576: true; the input reads as it did. -/
def gf256FieldUptoRow : OpenClaim := { program := "ytkmmpfmemjnbmaa", sum := "831dea5034b90d4e4ec22435095dbd2a775a527072385581a1c619b41498148d", func := "needlestore/needlestorelaw02.Gf256Field", spec := "gf256Field", apart := false, narrowed := true }
def Gf256FieldUptoSaid : Prop := gf256FieldUptoRow.holds Try.pinned (OpenSpec.upto gf256FieldSpec)

/-- 'needlestorelaw02.Gf256Inverse', WHERE WHAT IT READS IS OF BULK AT MOST 1048576: true; the input reads as it did. -/
def gf256InverseUptoRow : OpenClaim := { program := "ytkmmpfmemjnbmaa", sum := "831dea5034b90d4e4ec22435095dbd2a775a527072385581a1c619b41498148d", func := "needlestore/needlestorelaw02.Gf256Inverse", spec := "gf256Inverse", apart := false, narrowed := true }
def Gf256InverseUptoSaid : Prop := gf256InverseUptoRow.holds Try.pinned (OpenSpec.upto gf256InverseSpec)

/-- 'needlestorelaw02.Gf256Logs', WHERE WHAT IT READS IS OF BULK AT MOST 1048576: true; the input reads as it did. -/
def gf256LogsUptoRow : OpenClaim := { program := "ytkmmpfmemjnbmaa", sum := "831dea5034b90d4e4ec22435095dbd2a775a527072385581a1c619b41498148d", func := "needlestore/needlestorelaw02.Gf256Logs", spec := "gf256Logs", apart := false, narrowed := true }
def Gf256LogsUptoSaid : Prop := gf256LogsUptoRow.holds Try.pinned (OpenSpec.upto gf256LogsSpec)

/-- 'needlestorelaw02.Gf256Squares', WHERE WHAT IT READS IS OF BULK AT MOST 1048576: true; the input reads as it did. -/
def gf256SquaresUptoRow : OpenClaim := { program := "ytkmmpfmemjnbmaa", sum := "831dea5034b90d4e4ec22435095dbd2a775a527072385581a1c619b41498148d", func := "needlestore/needlestorelaw02.Gf256Squares", spec := "gf256Squares", apart := false, narrowed := true }
def Gf256SquaresUptoSaid : Prop := gf256SquaresUptoRow.holds Try.pinned (OpenSpec.upto gf256SquaresSpec)

/-- 'needlestorelaw02.Gf256Slices', WHERE WHAT IT READS IS OF BULK AT MOST 1048576: true; the input reads as it did. -/
def gf256SlicesUptoRow : OpenClaim := { program := "ytkmmpfmemjnbmaa", sum := "831dea5034b90d4e4ec22435095dbd2a775a527072385581a1c619b41498148d", func := "needlestore/needlestorelaw02.Gf256Slices", spec := "gf256Slices", apart := false, narrowed := true }
def Gf256SlicesUptoSaid : Prop := gf256SlicesUptoRow.holds Try.pinned (OpenSpec.upto gf256SlicesSpec)

end Rows
end Go.Proofs.Ytkmmpfmemjnbmaa
