/-
  DERIVED. GIVEN WITH THE SEED: THE CARDS: each row of YtbmlpafbdbhaiaaGreatDoorRows.lean that lists a variable, with what it lists TIED to the program's text (the seventh form; the later family's looks); each row that meets fmt, with fmt's text TOLD by the authors' own Lean function (tested against real Go, not proved from fmt's source: count such statements apart). THE CARD IS WHAT COUNTS. Prove the row's statement (the work); the ties are given (YtbmlpafbdbhaiaaGreatDoorTie.lean); close each card by the builder's one call (the guide's Derived/Test/ToyasCard.lean, 'card_holds'). Laid BY PROGRAM, IN A SANDBOX (cutbox-door.mjs). By AI agents, Wed Nov 11 2026. No macro, syntax, notation, axiom, sorry.
-/
import Derived.Test.YtbmlpafbdbhaiaaGreatDoorRows
import GoSem.ClaimSeven
namespace Go.Proofs.YtbmlpafbdbhaiaaGreatDoor
namespace Rows

/-- THE TIED CARD OF 'needlestorelaw12.GenerationNames'. -/
def generationNamesCard : Claim7 := { stood := { row := generationNamesRow, standIns := [], harness := (true, "76395c58879f555247801231e5dca300072d0488f6f0eb4c80eca88c0e66d4b8"), looks := true }, kinds := [], alts := [], laidByText := true, laidKinds := [.data, .data, .data, .data, .sentinel, .sentinel, .pinned], laidTests := true, laidLooks := .later }
def GenerationNamesCardSaid : Prop := Claim7.holds Tryz.pinned (.plain (OpenSpec.ofChange generationNamesSpec)) generationNamesCard

/-- THE TIED CARD OF 'needlestorelaw12.GenerationValid'. -/
def generationValidCard : Claim7 := { stood := { row := generationValidRow, standIns := [], harness := (true, "76395c58879f555247801231e5dca300072d0488f6f0eb4c80eca88c0e66d4b8"), looks := true }, kinds := [], alts := [], laidByText := true, laidKinds := [.data, .data, .data, .data, .sentinel, .sentinel, .pinned], laidTests := true, laidLooks := .later }
def GenerationValidCardSaid : Prop := Claim7.holds Tryz.pinned (.plain (OpenSpec.ofChange generationValidSpec)) generationValidCard

/-- THE TIED CARD OF 'needlestorelaw12.GenerationChanges'. -/
def generationChangesCard : Claim7 := { stood := { row := generationChangesRow, standIns := [], harness := (true, "76395c58879f555247801231e5dca300072d0488f6f0eb4c80eca88c0e66d4b8"), looks := true }, kinds := [], alts := [], laidByText := true, laidKinds := [.data, .data, .data, .data, .sentinel, .sentinel, .pinned], laidTests := true, laidLooks := .later }
def GenerationChangesCardSaid : Prop := Claim7.holds Tryz.pinned (.plain (OpenSpec.ofChange generationChangesSpec)) generationChangesCard

/-- THE TIED CARD OF 'needlestorelaw12.GenerationSteps'. -/
def generationStepsCard : Claim7 := { stood := { row := generationStepsRow, standIns := [], harness := (true, "76395c58879f555247801231e5dca300072d0488f6f0eb4c80eca88c0e66d4b8"), looks := true }, kinds := [], alts := [], laidByText := true, laidKinds := [.data, .data, .data, .data, .sentinel, .sentinel, .pinned], laidTests := true, laidLooks := .later }
def GenerationStepsCardSaid : Prop := Claim7.holds Tryz.pinned (.plain (OpenSpec.ofChange generationStepsSpec)) generationStepsCard

/-- THE TIED CARD OF 'needlestorelaw12.GenerationModes'. -/
def generationModesCard : Claim7 := { stood := { row := generationModesRow, standIns := [], harness := (true, "76395c58879f555247801231e5dca300072d0488f6f0eb4c80eca88c0e66d4b8"), looks := true }, kinds := [], alts := [], laidByText := true, laidKinds := [.data, .data, .data, .data, .sentinel, .sentinel, .pinned], laidTests := true, laidLooks := .later }
def GenerationModesCardSaid : Prop := Claim7.holds Tryz.pinned (.plain (OpenSpec.ofChange generationModesSpec)) generationModesCard

/-- THE SECOND FORM's CARD OF 'needlestorelaw12.GenerationNames'. -/
def generationNamesUptoCard : Claim7 := { stood := { row := generationNamesUptoRow, standIns := [], harness := (true, "76395c58879f555247801231e5dca300072d0488f6f0eb4c80eca88c0e66d4b8"), looks := true }, kinds := [], alts := [], laidByText := true, laidKinds := [.data, .data, .data, .data, .sentinel, .sentinel, .pinned], laidTests := true, laidLooks := .later }
def GenerationNamesUptoCardSaid : Prop := Claim7.holds Tryz.pinned (.plain (OpenSpec.upto generationNamesSpec)) generationNamesUptoCard

/-- THE SECOND FORM's CARD OF 'needlestorelaw12.GenerationValid'. -/
def generationValidUptoCard : Claim7 := { stood := { row := generationValidUptoRow, standIns := [], harness := (true, "76395c58879f555247801231e5dca300072d0488f6f0eb4c80eca88c0e66d4b8"), looks := true }, kinds := [], alts := [], laidByText := true, laidKinds := [.data, .data, .data, .data, .sentinel, .sentinel, .pinned], laidTests := true, laidLooks := .later }
def GenerationValidUptoCardSaid : Prop := Claim7.holds Tryz.pinned (.plain (OpenSpec.upto generationValidSpec)) generationValidUptoCard

/-- THE SECOND FORM's CARD OF 'needlestorelaw12.GenerationChanges'. -/
def generationChangesUptoCard : Claim7 := { stood := { row := generationChangesUptoRow, standIns := [], harness := (true, "76395c58879f555247801231e5dca300072d0488f6f0eb4c80eca88c0e66d4b8"), looks := true }, kinds := [], alts := [], laidByText := true, laidKinds := [.data, .data, .data, .data, .sentinel, .sentinel, .pinned], laidTests := true, laidLooks := .later }
def GenerationChangesUptoCardSaid : Prop := Claim7.holds Tryz.pinned (.plain (OpenSpec.upto generationChangesSpec)) generationChangesUptoCard

/-- THE SECOND FORM's CARD OF 'needlestorelaw12.GenerationSteps'. -/
def generationStepsUptoCard : Claim7 := { stood := { row := generationStepsUptoRow, standIns := [], harness := (true, "76395c58879f555247801231e5dca300072d0488f6f0eb4c80eca88c0e66d4b8"), looks := true }, kinds := [], alts := [], laidByText := true, laidKinds := [.data, .data, .data, .data, .sentinel, .sentinel, .pinned], laidTests := true, laidLooks := .later }
def GenerationStepsUptoCardSaid : Prop := Claim7.holds Tryz.pinned (.plain (OpenSpec.upto generationStepsSpec)) generationStepsUptoCard

/-- THE SECOND FORM's CARD OF 'needlestorelaw12.GenerationModes'. -/
def generationModesUptoCard : Claim7 := { stood := { row := generationModesUptoRow, standIns := [], harness := (true, "76395c58879f555247801231e5dca300072d0488f6f0eb4c80eca88c0e66d4b8"), looks := true }, kinds := [], alts := [], laidByText := true, laidKinds := [.data, .data, .data, .data, .sentinel, .sentinel, .pinned], laidTests := true, laidLooks := .later }
def GenerationModesUptoCardSaid : Prop := Claim7.holds Tryz.pinned (.plain (OpenSpec.upto generationModesSpec)) generationModesUptoCard
end Rows
end Go.Proofs.YtbmlpafbdbhaiaaGreatDoor
