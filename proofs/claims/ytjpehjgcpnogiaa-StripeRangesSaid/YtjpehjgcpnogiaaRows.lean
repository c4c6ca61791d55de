/-
  No cell of these rows narrows 'for every input' (looked for: loops, veiled, ifaces, maps, wideKeys, modest, calm, conditions, laid).
  DERIVED. THE GIVEN ROWS OF THIS SEAT. 7 by the template 'for every input the law returns true; each argument reads behind the call as it read before'; 0 by the template 'total and deterministic' (their statements: YtjpehjgcpnogiaaTotals.lean).
  GIVEN WITH THE SEED: the statements are not yours to turn. If you find one false, say at which input.
  Laid BY PROGRAM, IN A SANDBOX (cutbox-rows.mjs): the forced cells as the released guide's own fill.sh prints them over the translation e4d62b5dd7442230… (all of the seat's roots in one cut). By AI agents, Wed Nov 11 2026. No macro, syntax, notation, axiom, sorry.
-/
import Derived.Test.YtjpehjgcpnogiaaChecked
import GoSem.Claim
import GoSem.ClaimJoined
import GoSem.ClaimMapViews
import Derived.JoinedTies
import Derived.KernelRfl
namespace Go.Proofs.Ytjpehjgcpnogiaa
/- THE CELL 'sum', in the pinned program and in every row, IS THE sha256 OF THE DUMP (.gsa) THAT YtjpehjgcpnogiaaProg.lean LOADS. Nothing in Lean hashes anything: it is a label: what it is worth is what the hold of that sum in a sandbox is worth. -/
noncomputable def Try.pinned : Pinned := { name := "ytjpehjgcpnogiaa", sum := "e4d62b5dd7442230f3819b111719c44a4b681d0a0964e0ae80d82306d277eabd", checked := Try.checked }
namespace Rows
def none {H : Type} : Left H := { results := [], args := [] }

/-- 'needlestorelaw05.StripeSizes': WHATEVER THE INPUT: true; the input reads as it did. -/
def stripeSizesSpec : ChangeSpec := { name := "stripeSizes", fn := fun _ => fun
  | [d] => { results := [.lit (.bool true)], args := [d] }
  | _ => none }
def stripeSizesRow : OpenClaim := { program := "ytjpehjgcpnogiaa", sum := "e4d62b5dd7442230f3819b111719c44a4b681d0a0964e0ae80d82306d277eabd", func := "needlestore/needlestorelaw05.StripeSizes", spec := "stripeSizes", unfollowed := true, recurses := true, apart := false }
def StripeSizesSaid : Prop := stripeSizesRow.holds Try.pinned (OpenSpec.ofChange stripeSizesSpec)

/-- ITS FALSE NEIGHBOUR: 'it returns false'. Refute it at one input. -/
def stripeSizesWrong : ChangeSpec := { name := "stripeSizes", fn := fun _ => fun
  | [d] => { results := [.lit (.bool false)], args := [d] }
  | _ => none }
def StripeSizesWrongFalsely : Prop := stripeSizesRow.holds Try.pinned (OpenSpec.ofChange stripeSizesWrong)

/-- 'needlestorelaw05.StripeSplits': WHATEVER THE INPUT: true; the input reads as it did. -/
def stripeSplitsSpec : ChangeSpec := { name := "stripeSplits", fn := fun _ => fun
  | [d] => { results := [.lit (.bool true)], args := [d] }
  | _ => none }
def stripeSplitsRow : OpenClaim := { program := "ytjpehjgcpnogiaa", sum := "e4d62b5dd7442230f3819b111719c44a4b681d0a0964e0ae80d82306d277eabd", func := "needlestore/needlestorelaw05.StripeSplits", spec := "stripeSplits", unfollowed := true, recurses := true, apart := false }
def StripeSplitsSaid : Prop := stripeSplitsRow.holds Try.pinned (OpenSpec.ofChange stripeSplitsSpec)

/-- ITS FALSE NEIGHBOUR: 'it returns false'. Refute it at one input. -/
def stripeSplitsWrong : ChangeSpec := { name := "stripeSplits", fn := fun _ => fun
  | [d] => { results := [.lit (.bool false)], args := [d] }
  | _ => none }
def StripeSplitsWrongFalsely : Prop := stripeSplitsRow.holds Try.pinned (OpenSpec.ofChange stripeSplitsWrong)

/-- 'needlestorelaw05.StripeJoins': WHATEVER THE INPUT: true; the input reads as it did. -/
def stripeJoinsSpec : ChangeSpec := { name := "stripeJoins", fn := fun _ => fun
  | [d1, d2, d3] => { results := [.lit (.bool true)], args := [d1, d2, d3] }
  | _ => none }
def stripeJoinsRow : OpenClaim := { program := "ytjpehjgcpnogiaa", sum := "e4d62b5dd7442230f3819b111719c44a4b681d0a0964e0ae80d82306d277eabd", func := "needlestore/needlestorelaw05.StripeJoins", spec := "stripeJoins", unfollowed := true, recurses := true, apart := false }
def StripeJoinsSaid : Prop := stripeJoinsRow.holds Try.pinned (OpenSpec.ofChange stripeJoinsSpec)

/-- ITS FALSE NEIGHBOUR: 'it returns false'. Refute it at one input. -/
def stripeJoinsWrong : ChangeSpec := { name := "stripeJoins", fn := fun _ => fun
  | [d1, d2, d3] => { results := [.lit (.bool false)], args := [d1, d2, d3] }
  | _ => none }
def StripeJoinsWrongFalsely : Prop := stripeJoinsRow.holds Try.pinned (OpenSpec.ofChange stripeJoinsWrong)

/-- 'needlestorelaw05.StripeBack': WHATEVER THE INPUT: true; the input reads as it did. -/
def stripeBackSpec : ChangeSpec := { name := "stripeBack", fn := fun _ => fun
  | [d1, d2] => { results := [.lit (.bool true)], args := [d1, d2] }
  | _ => none }
def stripeBackRow : OpenClaim := { program := "ytjpehjgcpnogiaa", sum := "e4d62b5dd7442230f3819b111719c44a4b681d0a0964e0ae80d82306d277eabd", func := "needlestore/needlestorelaw05.StripeBack", spec := "stripeBack", unfollowed := true, recurses := true, apart := false }
def StripeBackSaid : Prop := stripeBackRow.holds Try.pinned (OpenSpec.ofChange stripeBackSpec)

/-- ITS FALSE NEIGHBOUR: 'it returns false'. Refute it at one input. -/
def stripeBackWrong : ChangeSpec := { name := "stripeBack", fn := fun _ => fun
  | [d1, d2] => { results := [.lit (.bool false)], args := [d1, d2] }
  | _ => none }
def StripeBackWrongFalsely : Prop := stripeBackRow.holds Try.pinned (OpenSpec.ofChange stripeBackWrong)

/-- 'needlestorelaw05.StripePieces': WHATEVER THE INPUT: true; the input reads as it did. -/
def stripePiecesSpec : ChangeSpec := { name := "stripePieces", fn := fun _ => fun
  | [d1, d2] => { results := [.lit (.bool true)], args := [d1, d2] }
  | _ => none }
def stripePiecesRow : OpenClaim := { program := "ytjpehjgcpnogiaa", sum := "e4d62b5dd7442230f3819b111719c44a4b681d0a0964e0ae80d82306d277eabd", func := "needlestore/needlestorelaw05.StripePieces", spec := "stripePieces", unfollowed := true, recurses := true, apart := false }
def StripePiecesSaid : Prop := stripePiecesRow.holds Try.pinned (OpenSpec.ofChange stripePiecesSpec)

/-- ITS FALSE NEIGHBOUR: 'it returns false'. Refute it at one input. -/
def stripePiecesWrong : ChangeSpec := { name := "stripePieces", fn := fun _ => fun
  | [d1, d2] => { results := [.lit (.bool false)], args := [d1, d2] }
  | _ => none }
def StripePiecesWrongFalsely : Prop := stripePiecesRow.holds Try.pinned (OpenSpec.ofChange stripePiecesWrong)

/-- 'needlestorelaw05.StripeRanges': WHATEVER THE INPUT: true; the input reads as it did. -/
def stripeRangesSpec : ChangeSpec := { name := "stripeRanges", fn := fun _ => fun
  | [d1, d2, d3] => { results := [.lit (.bool true)], args := [d1, d2, d3] }
  | _ => none }
def stripeRangesRow : OpenClaim := { program := "ytjpehjgcpnogiaa", sum := "e4d62b5dd7442230f3819b111719c44a4b681d0a0964e0ae80d82306d277eabd", func := "needlestore/needlestorelaw05.StripeRanges", spec := "stripeRanges", unfollowed := true, recurses := true, apart := false }
def StripeRangesSaid : Prop := stripeRangesRow.holds Try.pinned (OpenSpec.ofChange stripeRangesSpec)

/-- ITS FALSE NEIGHBOUR: 'it returns false'. Refute it at one input. -/
def stripeRangesWrong : ChangeSpec := { name := "stripeRanges", fn := fun _ => fun
  | [d1, d2, d3] => { results := [.lit (.bool false)], args := [d1, d2, d3] }
  | _ => none }
def StripeRangesWrongFalsely : Prop := stripeRangesRow.holds Try.pinned (OpenSpec.ofChange stripeRangesWrong)

/-- 'needlestorelaw05.StripePlaces': WHATEVER THE INPUT: true; the input reads as it did. -/
def stripePlacesSpec : ChangeSpec := { name := "stripePlaces", fn := fun _ => fun
  | [d1, d2] => { results := [.lit (.bool true)], args := [d1, d2] }
  | _ => none }
def stripePlacesRow : OpenClaim := { program := "ytjpehjgcpnogiaa", sum := "e4d62b5dd7442230f3819b111719c44a4b681d0a0964e0ae80d82306d277eabd", func := "needlestore/needlestorelaw05.StripePlaces", spec := "stripePlaces", unfollowed := true, recurses := true, apart := false }
def StripePlacesSaid : Prop := stripePlacesRow.holds Try.pinned (OpenSpec.ofChange stripePlacesSpec)

/-- ITS FALSE NEIGHBOUR: 'it returns false'. Refute it at one input. -/
def stripePlacesWrong : ChangeSpec := { name := "stripePlaces", fn := fun _ => fun
  | [d1, d2] => { results := [.lit (.bool false)], args := [d1, d2] }
  | _ => none }
def StripePlacesWrongFalsely : Prop := stripePlacesRow.holds Try.pinned (OpenSpec.ofChange stripePlacesWrong)

/- THE SECOND FORM. 'bulk': how many values and letters a reading holds, each counted each time it is reached (what is shared counts as often as it is met; a slice's spare places count too). A statement '..UptoSaid' is the law's where the arguments, and the package variables that the reading takes, are together of bulk at most 1048576: NARROWER than '..Said'. Prove '..Said' where nothing that the law and all that it calls make is longer than what came in: it says more and counts as full. Else prove '..UptoSaid'. A law counts once. -/
mutual
def uptoBulk {H : Type} : DataW H → Nat
  | .lit (.string bytes) => bytes.length + 1
  | .lit _ => 1
  | .nil => 1
  | .ptr d => uptoBulk d + 1
  | .slice elems spare => uptoBulkAll elems + uptoBulkAll spare + 1
  | .agg parts => uptoBulkAll parts + 1
  | .iface _ d => uptoBulk d + 1
  | .map entries => uptoBulkEntries entries + 1
  | .held _ => 1
def uptoBulkAll {H : Type} : List (DataW H) → Nat
  | [] => 0
  | d :: r => uptoBulk d + uptoBulkAll r
def uptoBulkEntries {H : Type} : List (Lit × DataW H) → Nat
  | [] => 0
  | x :: r => uptoBulkEntry x + uptoBulkEntries r
def uptoBulkEntry {H : Type} : Lit × DataW H → Nat
  | (.string bytes, d) => bytes.length + uptoBulk d + 1
  | (_, d) => uptoBulk d + 1
 end
def uptoSmall : (H : Type) → List (DataW H) → Bool := fun _ ds => decide (uptoBulkAll ds ≤ 1048576)
def OpenSpec.upto (s : _root_.Go.ChangeSpec) : _root_.Go.OpenSpec := { _root_.Go.OpenSpec.ofChange s with cond := some uptoSmall }

/-- 'needlestorelaw05.StripeSizes', WHERE WHAT IT READS IS OF BULK AT MOST 1048576: true; the input reads as it did. -/
def stripeSizesUptoRow : OpenClaim := { program := "ytjpehjgcpnogiaa", sum := "e4d62b5dd7442230f3819b111719c44a4b681d0a0964e0ae80d82306d277eabd", func := "needlestore/needlestorelaw05.StripeSizes", spec := "stripeSizes", unfollowed := true, recurses := true, apart := false, narrowed := true }
def StripeSizesUptoSaid : Prop := stripeSizesUptoRow.holds Try.pinned (OpenSpec.upto stripeSizesSpec)

/-- 'needlestorelaw05.StripeSplits', WHERE WHAT IT READS IS OF BULK AT MOST 1048576: true; the input reads as it did. -/
def stripeSplitsUptoRow : OpenClaim := { program := "ytjpehjgcpnogiaa", sum := "e4d62b5dd7442230f3819b111719c44a4b681d0a0964e0ae80d82306d277eabd", func := "needlestore/needlestorelaw05.StripeSplits", spec := "stripeSplits", unfollowed := true, recurses := true, apart := false, narrowed := true }
def StripeSplitsUptoSaid : Prop := stripeSplitsUptoRow.holds Try.pinned (OpenSpec.upto stripeSplitsSpec)

/-- 'needlestorelaw05.StripeJoins', WHERE WHAT IT READS IS OF BULK AT MOST 1048576: true; the input reads as it did. -/
def stripeJoinsUptoRow : OpenClaim := { program := "ytjpehjgcpnogiaa", sum := "e4d62b5dd7442230f3819b111719c44a4b681d0a0964e0ae80d82306d277eabd", func := "needlestore/needlestorelaw05.StripeJoins", spec := "stripeJoins", unfollowed := true, recurses := true, apart := false, narrowed := true }
def StripeJoinsUptoSaid : Prop := stripeJoinsUptoRow.holds Try.pinned (OpenSpec.upto stripeJoinsSpec)

/-- 'needlestorelaw05.StripeBack', WHERE WHAT IT READS IS OF BULK AT MOST 1048576: true; the input reads as it did. -/
def stripeBackUptoRow : OpenClaim := { program := "ytjpehjgcpnogiaa", sum := "e4d62b5dd7442230f3819b111719c44a4b681d0a0964e0ae80d82306d277eabd", func := "needlestore/needlestorelaw05.StripeBack", spec := "stripeBack", unfollowed := true, recurses := true, apart := false, narrowed := true }
def StripeBackUptoSaid : Prop := stripeBackUptoRow.holds Try.pinned (OpenSpec.upto stripeBackSpec)

/-- 'needlestorelaw05.StripePieces', WHERE WHAT IT READS IS OF BULK AT MOST 1048576: true; the input reads as it did. -/
def stripePiecesUptoRow : OpenClaim := { program := "ytjpehjgcpnogiaa", sum := "e4d62b5dd7442230f3819b111719c44a4b681d0a0964e0ae80d82306d277eabd", func := "needlestore/needlestorelaw05.StripePieces", spec := "stripePieces", unfollowed := true, recurses := true, apart := false, narrowed := true }
def StripePiecesUptoSaid : Prop := stripePiecesUptoRow.holds Try.pinned (OpenSpec.upto stripePiecesSpec)

/-- 'needlestorelaw05.StripeRanges', WHERE WHAT IT READS IS OF BULK AT MOST 1048576: true; the input reads as it did. -/
def stripeRangesUptoRow : OpenClaim := { program := "ytjpehjgcpnogiaa", sum := "e4d62b5dd7442230f3819b111719c44a4b681d0a0964e0ae80d82306d277eabd", func := "needlestore/needlestorelaw05.StripeRanges", spec := "stripeRanges", unfollowed := true, recurses := true, apart := false, narrowed := true }
def StripeRangesUptoSaid : Prop := stripeRangesUptoRow.holds Try.pinned (OpenSpec.upto stripeRangesSpec)

/-- 'needlestorelaw05.StripePlaces', WHERE WHAT IT READS IS OF BULK AT MOST 1048576: true; the input reads as it did. -/
def stripePlacesUptoRow : OpenClaim := { program := "ytjpehjgcpnogiaa", sum := "e4d62b5dd7442230f3819b111719c44a4b681d0a0964e0ae80d82306d277eabd", func := "needlestore/needlestorelaw05.StripePlaces", spec := "stripePlaces", unfollowed := true, recurses := true, apart := false, narrowed := true }
def StripePlacesUptoSaid : Prop := stripePlacesUptoRow.holds Try.pinned (OpenSpec.upto stripePlacesSpec)

end Rows
end Go.Proofs.Ytjpehjgcpnogiaa
