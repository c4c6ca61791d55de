/-
  DERIVED. GIVEN WITH THE SEED: THE CARDS: each row of YtihjfnlimdcmkaaDoorRows.lean that lists a variable, with what it lists TIED to the program's text (the seventh form; the later family's looks); each row that meets fmt, with fmt's text TOLD by the authors' own Lean function (tested against real Go, not proved from fmt's source: count such statements apart). THE CARD IS WHAT COUNTS. Prove the row's statement (the work); the ties are given (YtihjfnlimdcmkaaDoorTie.lean); close each card by the builder's one call (the guide's Derived/Test/ToyasCard.lean, 'card_holds'). Laid BY PROGRAM, IN A SANDBOX (cutbox-door.mjs). By AI agents, Wed Nov 11 2026. No macro, syntax, notation, axiom, sorry.
-/
import Derived.Test.YtihjfnlimdcmkaaDoorRows
import GoSem.ClaimSeven
namespace Go.Proofs.YtihjfnlimdcmkaaDoor
namespace Rows

/-- THE TIED CARD OF 'needlestorelaw08.IndexValid'. -/
def indexValidCard : Claim7 := { stood := { row := indexValidRow, standIns := [], harness := (true, "17b2bcb8ac0facde7c8def3fa9d6d24bf9c9ed9fcfb2e3d964a3086acede2844"), looks := false }, kinds := [], alts := [], laidByText := true, laidKinds := [.data], laidTests := true, laidLooks := .later }
def IndexValidCardSaid : Prop := Claim7.holds Tryd.pinned (.plain (OpenSpec.ofChange indexValidSpec)) indexValidCard

/-- THE TIED CARD OF 'needlestorelaw08.IndexEncodes'. -/
def indexEncodesCard : Claim7 := { stood := { row := indexEncodesRow, standIns := [], harness := (true, "17b2bcb8ac0facde7c8def3fa9d6d24bf9c9ed9fcfb2e3d964a3086acede2844"), looks := false }, kinds := [], alts := [], laidByText := true, laidKinds := [.data], laidTests := true, laidLooks := .later }
def IndexEncodesCardSaid : Prop := Claim7.holds Tryd.pinned (.plain (OpenSpec.ofChange indexEncodesSpec)) indexEncodesCard

/-- THE TIED CARD OF 'needlestorelaw08.IndexDecodes'. -/
def indexDecodesCard : Claim7 := { stood := { row := indexDecodesRow, standIns := [], harness := (true, "17b2bcb8ac0facde7c8def3fa9d6d24bf9c9ed9fcfb2e3d964a3086acede2844"), looks := false }, kinds := [], alts := [], laidByText := true, laidKinds := [.data], laidTests := true, laidLooks := .later }
def IndexDecodesCardSaid : Prop := Claim7.holds Tryd.pinned (.plain (OpenSpec.ofChange indexDecodesSpec)) indexDecodesCard

/-- THE TIED CARD OF 'needlestorelaw08.IndexBack'. -/
def indexBackCard : Claim7 := { stood := { row := indexBackRow, standIns := [], harness := (true, "17b2bcb8ac0facde7c8def3fa9d6d24bf9c9ed9fcfb2e3d964a3086acede2844"), looks := false }, kinds := [], alts := [], laidByText := true, laidKinds := [.data], laidTests := true, laidLooks := .later }
def IndexBackCardSaid : Prop := Claim7.holds Tryd.pinned (.plain (OpenSpec.ofChange indexBackSpec)) indexBackCard

/-- THE TIED CARD OF 'needlestorelaw08.IndexMaps'. -/
def indexMapsCard : Claim7 := { stood := { row := indexMapsRow, standIns := [], harness := (true, "17b2bcb8ac0facde7c8def3fa9d6d24bf9c9ed9fcfb2e3d964a3086acede2844"), looks := false }, kinds := [], alts := [], laidByText := true, laidKinds := [.data], laidTests := true, laidLooks := .later }
def IndexMapsCardSaid : Prop := Claim7.holds Tryd.pinned (.plain (OpenSpec.ofChange indexMapsSpec)) indexMapsCard

/-- THE TIED CARD OF 'needlestorelaw08.IndexFinds'. -/
def indexFindsCard : Claim7 := { stood := { row := indexFindsRow, standIns := [], harness := (true, "17b2bcb8ac0facde7c8def3fa9d6d24bf9c9ed9fcfb2e3d964a3086acede2844"), looks := false }, kinds := [], alts := [], laidByText := true, laidKinds := [.data], laidTests := true, laidLooks := .later }
def IndexFindsCardSaid : Prop := Claim7.holds Tryd.pinned (.plain (OpenSpec.ofChange indexFindsSpec)) indexFindsCard

/-- THE TIED CARD OF 'needlestorelaw08.IndexMerges'. -/
def indexMergesCard : Claim7 := { stood := { row := indexMergesRow, standIns := [], harness := (true, "17b2bcb8ac0facde7c8def3fa9d6d24bf9c9ed9fcfb2e3d964a3086acede2844"), looks := false }, kinds := [], alts := [], laidByText := true, laidKinds := [.data], laidTests := true, laidLooks := .later }
def IndexMergesCardSaid : Prop := Claim7.holds Tryd.pinned (.plain (OpenSpec.ofChange indexMergesSpec)) indexMergesCard

/-- THE TIED CARD OF 'needlestorelaw08.IndexBursts'. -/
def indexBurstsCard : Claim7 := { stood := { row := indexBurstsRow, standIns := [], harness := (true, "17b2bcb8ac0facde7c8def3fa9d6d24bf9c9ed9fcfb2e3d964a3086acede2844"), looks := false }, kinds := [], alts := [], laidByText := true, laidKinds := [.data], laidTests := true, laidLooks := .later }
def IndexBurstsCardSaid : Prop := Claim7.holds Tryd.pinned (.plain (OpenSpec.ofChange indexBurstsSpec)) indexBurstsCard

/-- THE SECOND FORM's CARD OF 'needlestorelaw08.IndexValid'. -/
def indexValidUptoCard : Claim7 := { stood := { row := indexValidUptoRow, standIns := [], harness := (true, "17b2bcb8ac0facde7c8def3fa9d6d24bf9c9ed9fcfb2e3d964a3086acede2844"), looks := false }, kinds := [], alts := [], laidByText := true, laidKinds := [.data], laidTests := true, laidLooks := .later }
def IndexValidUptoCardSaid : Prop := Claim7.holds Tryd.pinned (.plain (OpenSpec.upto indexValidSpec)) indexValidUptoCard

/-- THE SECOND FORM's CARD OF 'needlestorelaw08.IndexEncodes'. -/
def indexEncodesUptoCard : Claim7 := { stood := { row := indexEncodesUptoRow, standIns := [], harness := (true, "17b2bcb8ac0facde7c8def3fa9d6d24bf9c9ed9fcfb2e3d964a3086acede2844"), looks := false }, kinds := [], alts := [], laidByText := true, laidKinds := [.data], laidTests := true, laidLooks := .later }
def IndexEncodesUptoCardSaid : Prop := Claim7.holds Tryd.pinned (.plain (OpenSpec.upto indexEncodesSpec)) indexEncodesUptoCard

/-- THE SECOND FORM's CARD OF 'needlestorelaw08.IndexDecodes'. -/
def indexDecodesUptoCard : Claim7 := { stood := { row := indexDecodesUptoRow, standIns := [], harness := (true, "17b2bcb8ac0facde7c8def3fa9d6d24bf9c9ed9fcfb2e3d964a3086acede2844"), looks := false }, kinds := [], alts := [], laidByText := true, laidKinds := [.data], laidTests := true, laidLooks := .later }
def IndexDecodesUptoCardSaid : Prop := Claim7.holds Tryd.pinned (.plain (OpenSpec.upto indexDecodesSpec)) indexDecodesUptoCard

/-- THE SECOND FORM's CARD OF 'needlestorelaw08.IndexBack'. -/
def indexBackUptoCard : Claim7 := { stood := { row := indexBackUptoRow, standIns := [], harness := (true, "17b2bcb8ac0facde7c8def3fa9d6d24bf9c9ed9fcfb2e3d964a3086acede2844"), looks := false }, kinds := [], alts := [], laidByText := true, laidKinds := [.data], laidTests := true, laidLooks := .later }
def IndexBackUptoCardSaid : Prop := Claim7.holds Tryd.pinned (.plain (OpenSpec.upto indexBackSpec)) indexBackUptoCard

/-- THE SECOND FORM's CARD OF 'needlestorelaw08.IndexMaps'. -/
def indexMapsUptoCard : Claim7 := { stood := { row := indexMapsUptoRow, standIns := [], harness := (true, "17b2bcb8ac0facde7c8def3fa9d6d24bf9c9ed9fcfb2e3d964a3086acede2844"), looks := false }, kinds := [], alts := [], laidByText := true, laidKinds := [.data], laidTests := true, laidLooks := .later }
def IndexMapsUptoCardSaid : Prop := Claim7.holds Tryd.pinned (.plain (OpenSpec.upto indexMapsSpec)) indexMapsUptoCard

/-- THE SECOND FORM's CARD OF 'needlestorelaw08.IndexFinds'. -/
def indexFindsUptoCard : Claim7 := { stood := { row := indexFindsUptoRow, standIns := [], harness := (true, "17b2bcb8ac0facde7c8def3fa9d6d24bf9c9ed9fcfb2e3d964a3086acede2844"), looks := false }, kinds := [], alts := [], laidByText := true, laidKinds := [.data], laidTests := true, laidLooks := .later }
def IndexFindsUptoCardSaid : Prop := Claim7.holds Tryd.pinned (.plain (OpenSpec.upto indexFindsSpec)) indexFindsUptoCard

/-- THE SECOND FORM's CARD OF 'needlestorelaw08.IndexMerges'. -/
def indexMergesUptoCard : Claim7 := { stood := { row := indexMergesUptoRow, standIns := [], harness := (true, "17b2bcb8ac0facde7c8def3fa9d6d24bf9c9ed9fcfb2e3d964a3086acede2844"), looks := false }, kinds := [], alts := [], laidByText := true, laidKinds := [.data], laidTests := true, laidLooks := .later }
def IndexMergesUptoCardSaid : Prop := Claim7.holds Tryd.pinned (.plain (OpenSpec.upto indexMergesSpec)) indexMergesUptoCard

/-- THE SECOND FORM's CARD OF 'needlestorelaw08.IndexBursts'. -/
def indexBurstsUptoCard : Claim7 := { stood := { row := indexBurstsUptoRow, standIns := [], harness := (true, "17b2bcb8ac0facde7c8def3fa9d6d24bf9c9ed9fcfb2e3d964a3086acede2844"), looks := false }, kinds := [], alts := [], laidByText := true, laidKinds := [.data], laidTests := true, laidLooks := .later }
def IndexBurstsUptoCardSaid : Prop := Claim7.holds Tryd.pinned (.plain (OpenSpec.upto indexBurstsSpec)) indexBurstsUptoCard
end Rows
end Go.Proofs.YtihjfnlimdcmkaaDoor
