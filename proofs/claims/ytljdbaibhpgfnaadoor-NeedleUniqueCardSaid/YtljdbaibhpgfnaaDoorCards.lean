/-
  DERIVED. GIVEN WITH THE SEED: THE CARDS: each row of YtljdbaibhpgfnaaDoorRows.lean that lists a variable, with what it lists TIED to the program's text (the seventh form; the later family's looks); each row that meets fmt, with fmt's text TOLD by the authors' own Lean function (tested against real Go, not proved from fmt's source: count such statements apart). THE CARD IS WHAT COUNTS. Prove the row's statement (the work); the ties are given (YtljdbaibhpgfnaaDoorTie.lean); close each card by the builder's one call (the guide's Derived/Test/ToyasCard.lean, 'card_holds'). Laid BY PROGRAM, IN A SANDBOX (cutbox-door.mjs). By AI agents, Wed Nov 11 2026. No macro, syntax, notation, axiom, sorry.
-/
import Derived.Test.YtljdbaibhpgfnaaDoorRows
import GoSem.ClaimSeven
namespace Go.Proofs.YtljdbaibhpgfnaaDoor
namespace Rows

/-- THE TIED CARD OF 'needlestorelaw06.NeedleSizes'. -/
def needleSizesCard : Claim7 := { stood := { row := needleSizesRow, standIns := [], harness := (true, "ef97621dc83b88e75b2a384180d777793ec52c5e3f5c45050b4114249a65a2ca"), looks := false }, kinds := [], alts := [], laidByText := true, laidKinds := [.data], laidTests := true, laidLooks := .later }
def NeedleSizesCardSaid : Prop := Claim7.holds Tryd.pinned (.plain (OpenSpec.ofChange needleSizesSpec)) needleSizesCard

/-- THE TIED CARD OF 'needlestorelaw06.NeedleEncodes'. -/
def needleEncodesCard : Claim7 := { stood := { row := needleEncodesRow, standIns := [], harness := (true, "ef97621dc83b88e75b2a384180d777793ec52c5e3f5c45050b4114249a65a2ca"), looks := false }, kinds := [], alts := [], laidByText := true, laidKinds := [.data], laidTests := true, laidLooks := .later }
def NeedleEncodesCardSaid : Prop := Claim7.holds Tryd.pinned (.plain (OpenSpec.ofChange needleEncodesSpec)) needleEncodesCard

/-- THE TIED CARD OF 'needlestorelaw06.NeedleDecodes'. -/
def needleDecodesCard : Claim7 := { stood := { row := needleDecodesRow, standIns := [], harness := (true, "ef97621dc83b88e75b2a384180d777793ec52c5e3f5c45050b4114249a65a2ca"), looks := false }, kinds := [], alts := [], laidByText := true, laidKinds := [.data], laidTests := true, laidLooks := .later }
def NeedleDecodesCardSaid : Prop := Claim7.holds Tryd.pinned (.plain (OpenSpec.ofChange needleDecodesSpec)) needleDecodesCard

/-- THE TIED CARD OF 'needlestorelaw06.NeedleBack'. -/
def needleBackCard : Claim7 := { stood := { row := needleBackRow, standIns := [], harness := (true, "ef97621dc83b88e75b2a384180d777793ec52c5e3f5c45050b4114249a65a2ca"), looks := false }, kinds := [], alts := [], laidByText := true, laidKinds := [.data], laidTests := true, laidLooks := .later }
def NeedleBackCardSaid : Prop := Claim7.holds Tryd.pinned (.plain (OpenSpec.ofChange needleBackSpec)) needleBackCard

/-- THE TIED CARD OF 'needlestorelaw06.NeedleUnique'. -/
def needleUniqueCard : Claim7 := { stood := { row := needleUniqueRow, standIns := [], harness := (true, "ef97621dc83b88e75b2a384180d777793ec52c5e3f5c45050b4114249a65a2ca"), looks := false }, kinds := [], alts := [], laidByText := true, laidKinds := [.data], laidTests := true, laidLooks := .later }
def NeedleUniqueCardSaid : Prop := Claim7.holds Tryd.pinned (.plain (OpenSpec.ofChange needleUniqueSpec)) needleUniqueCard

/-- THE TIED CARD OF 'needlestorelaw06.NeedleBursts'. -/
def needleBurstsCard : Claim7 := { stood := { row := needleBurstsRow, standIns := [], harness := (true, "ef97621dc83b88e75b2a384180d777793ec52c5e3f5c45050b4114249a65a2ca"), looks := false }, kinds := [], alts := [], laidByText := true, laidKinds := [.data], laidTests := true, laidLooks := .later }
def NeedleBurstsCardSaid : Prop := Claim7.holds Tryd.pinned (.plain (OpenSpec.ofChange needleBurstsSpec)) needleBurstsCard

/-- THE TIED CARD OF 'needlestorelaw06.NeedleShort'. -/
def needleShortCard : Claim7 := { stood := { row := needleShortRow, standIns := [], harness := (true, "ef97621dc83b88e75b2a384180d777793ec52c5e3f5c45050b4114249a65a2ca"), looks := false }, kinds := [], alts := [], laidByText := true, laidKinds := [.data], laidTests := true, laidLooks := .later }
def NeedleShortCardSaid : Prop := Claim7.holds Tryd.pinned (.plain (OpenSpec.ofChange needleShortSpec)) needleShortCard

/-- THE SECOND FORM's CARD OF 'needlestorelaw06.NeedleSizes'. -/
def needleSizesUptoCard : Claim7 := { stood := { row := needleSizesUptoRow, standIns := [], harness := (true, "ef97621dc83b88e75b2a384180d777793ec52c5e3f5c45050b4114249a65a2ca"), looks := false }, kinds := [], alts := [], laidByText := true, laidKinds := [.data], laidTests := true, laidLooks := .later }
def NeedleSizesUptoCardSaid : Prop := Claim7.holds Tryd.pinned (.plain (OpenSpec.upto needleSizesSpec)) needleSizesUptoCard

/-- THE SECOND FORM's CARD OF 'needlestorelaw06.NeedleEncodes'. -/
def needleEncodesUptoCard : Claim7 := { stood := { row := needleEncodesUptoRow, standIns := [], harness := (true, "ef97621dc83b88e75b2a384180d777793ec52c5e3f5c45050b4114249a65a2ca"), looks := false }, kinds := [], alts := [], laidByText := true, laidKinds := [.data], laidTests := true, laidLooks := .later }
def NeedleEncodesUptoCardSaid : Prop := Claim7.holds Tryd.pinned (.plain (OpenSpec.upto needleEncodesSpec)) needleEncodesUptoCard

/-- THE SECOND FORM's CARD OF 'needlestorelaw06.NeedleDecodes'. -/
def needleDecodesUptoCard : Claim7 := { stood := { row := needleDecodesUptoRow, standIns := [], harness := (true, "ef97621dc83b88e75b2a384180d777793ec52c5e3f5c45050b4114249a65a2ca"), looks := false }, kinds := [], alts := [], laidByText := true, laidKinds := [.data], laidTests := true, laidLooks := .later }
def NeedleDecodesUptoCardSaid : Prop := Claim7.holds Tryd.pinned (.plain (OpenSpec.upto needleDecodesSpec)) needleDecodesUptoCard

/-- THE SECOND FORM's CARD OF 'needlestorelaw06.NeedleBack'. -/
def needleBackUptoCard : Claim7 := { stood := { row := needleBackUptoRow, standIns := [], harness := (true, "ef97621dc83b88e75b2a384180d777793ec52c5e3f5c45050b4114249a65a2ca"), looks := false }, kinds := [], alts := [], laidByText := true, laidKinds := [.data], laidTests := true, laidLooks := .later }
def NeedleBackUptoCardSaid : Prop := Claim7.holds Tryd.pinned (.plain (OpenSpec.upto needleBackSpec)) needleBackUptoCard

/-- THE SECOND FORM's CARD OF 'needlestorelaw06.NeedleUnique'. -/
def needleUniqueUptoCard : Claim7 := { stood := { row := needleUniqueUptoRow, standIns := [], harness := (true, "ef97621dc83b88e75b2a384180d777793ec52c5e3f5c45050b4114249a65a2ca"), looks := false }, kinds := [], alts := [], laidByText := true, laidKinds := [.data], laidTests := true, laidLooks := .later }
def NeedleUniqueUptoCardSaid : Prop := Claim7.holds Tryd.pinned (.plain (OpenSpec.upto needleUniqueSpec)) needleUniqueUptoCard

/-- THE SECOND FORM's CARD OF 'needlestorelaw06.NeedleBursts'. -/
def needleBurstsUptoCard : Claim7 := { stood := { row := needleBurstsUptoRow, standIns := [], harness := (true, "ef97621dc83b88e75b2a384180d777793ec52c5e3f5c45050b4114249a65a2ca"), looks := false }, kinds := [], alts := [], laidByText := true, laidKinds := [.data], laidTests := true, laidLooks := .later }
def NeedleBurstsUptoCardSaid : Prop := Claim7.holds Tryd.pinned (.plain (OpenSpec.upto needleBurstsSpec)) needleBurstsUptoCard

/-- THE SECOND FORM's CARD OF 'needlestorelaw06.NeedleShort'. -/
def needleShortUptoCard : Claim7 := { stood := { row := needleShortUptoRow, standIns := [], harness := (true, "ef97621dc83b88e75b2a384180d777793ec52c5e3f5c45050b4114249a65a2ca"), looks := false }, kinds := [], alts := [], laidByText := true, laidKinds := [.data], laidTests := true, laidLooks := .later }
def NeedleShortUptoCardSaid : Prop := Claim7.holds Tryd.pinned (.plain (OpenSpec.upto needleShortSpec)) needleShortUptoCard
end Rows
end Go.Proofs.YtljdbaibhpgfnaaDoor
