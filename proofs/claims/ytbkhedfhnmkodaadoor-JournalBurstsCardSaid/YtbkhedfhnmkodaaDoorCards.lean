/-
  DERIVED. GIVEN WITH THE SEED: THE CARDS: each row of YtbkhedfhnmkodaaDoorRows.lean that lists a variable, with what it lists TIED to the program's text (the seventh form; the later family's looks); each row that meets fmt, with fmt's text TOLD by the authors' own Lean function (tested against real Go, not proved from fmt's source: count such statements apart). THE CARD IS WHAT COUNTS. Prove the row's statement (the work); the ties are given (YtbkhedfhnmkodaaDoorTie.lean); close each card by the builder's one call (the guide's Derived/Test/ToyasCard.lean, 'card_holds'). Laid BY PROGRAM, IN A SANDBOX (cutbox-door.mjs). By AI agents, Wed Nov 11 2026. No macro, syntax, notation, axiom, sorry.
-/
import Derived.Test.YtbkhedfhnmkodaaDoorRows
import GoSem.ClaimSeven
namespace Go.Proofs.YtbkhedfhnmkodaaDoor
namespace Rows

/-- THE TIED CARD OF 'needlestorelaw14.JournalCodes'. -/
def journalCodesCard : Claim7 := { stood := { row := journalCodesRow, standIns := [], harness := (true, "020d3ed6a4da3100b4b850f63a226e0cd48d055d50d3d5ad093d9e1f67a198e7"), looks := false }, kinds := [], alts := [], laidByText := true, laidKinds := [.data], laidTests := true, laidLooks := .later }
def JournalCodesCardSaid : Prop := Claim7.holds Tryd.pinned (.plain (OpenSpec.ofChange journalCodesSpec)) journalCodesCard

/-- THE TIED CARD OF 'needlestorelaw14.JournalTorn'. -/
def journalTornCard : Claim7 := { stood := { row := journalTornRow, standIns := [], harness := (true, "020d3ed6a4da3100b4b850f63a226e0cd48d055d50d3d5ad093d9e1f67a198e7"), looks := false }, kinds := [], alts := [], laidByText := true, laidKinds := [.data], laidTests := true, laidLooks := .later }
def JournalTornCardSaid : Prop := Claim7.holds Tryd.pinned (.plain (OpenSpec.ofChange journalTornSpec)) journalTornCard

/-- THE TIED CARD OF 'needlestorelaw14.JournalJoins'. -/
def journalJoinsCard : Claim7 := { stood := { row := journalJoinsRow, standIns := [], harness := (true, "020d3ed6a4da3100b4b850f63a226e0cd48d055d50d3d5ad093d9e1f67a198e7"), looks := false }, kinds := [], alts := [], laidByText := true, laidKinds := [.data], laidTests := true, laidLooks := .later }
def JournalJoinsCardSaid : Prop := Claim7.holds Tryd.pinned (.plain (OpenSpec.ofChange journalJoinsSpec)) journalJoinsCard

/-- THE TIED CARD OF 'needlestorelaw14.JournalBursts'. -/
def journalBurstsCard : Claim7 := { stood := { row := journalBurstsRow, standIns := [], harness := (true, "020d3ed6a4da3100b4b850f63a226e0cd48d055d50d3d5ad093d9e1f67a198e7"), looks := false }, kinds := [], alts := [], laidByText := true, laidKinds := [.data], laidTests := true, laidLooks := .later }
def JournalBurstsCardSaid : Prop := Claim7.holds Tryd.pinned (.plain (OpenSpec.ofChange journalBurstsSpec)) journalBurstsCard

/-- THE SECOND FORM's CARD OF 'needlestorelaw14.JournalCodes'. -/
def journalCodesUptoCard : Claim7 := { stood := { row := journalCodesUptoRow, standIns := [], harness := (true, "020d3ed6a4da3100b4b850f63a226e0cd48d055d50d3d5ad093d9e1f67a198e7"), looks := false }, kinds := [], alts := [], laidByText := true, laidKinds := [.data], laidTests := true, laidLooks := .later }
def JournalCodesUptoCardSaid : Prop := Claim7.holds Tryd.pinned (.plain (OpenSpec.upto journalCodesSpec)) journalCodesUptoCard

/-- THE SECOND FORM's CARD OF 'needlestorelaw14.JournalTorn'. -/
def journalTornUptoCard : Claim7 := { stood := { row := journalTornUptoRow, standIns := [], harness := (true, "020d3ed6a4da3100b4b850f63a226e0cd48d055d50d3d5ad093d9e1f67a198e7"), looks := false }, kinds := [], alts := [], laidByText := true, laidKinds := [.data], laidTests := true, laidLooks := .later }
def JournalTornUptoCardSaid : Prop := Claim7.holds Tryd.pinned (.plain (OpenSpec.upto journalTornSpec)) journalTornUptoCard

/-- THE SECOND FORM's CARD OF 'needlestorelaw14.JournalJoins'. -/
def journalJoinsUptoCard : Claim7 := { stood := { row := journalJoinsUptoRow, standIns := [], harness := (true, "020d3ed6a4da3100b4b850f63a226e0cd48d055d50d3d5ad093d9e1f67a198e7"), looks := false }, kinds := [], alts := [], laidByText := true, laidKinds := [.data], laidTests := true, laidLooks := .later }
def JournalJoinsUptoCardSaid : Prop := Claim7.holds Tryd.pinned (.plain (OpenSpec.upto journalJoinsSpec)) journalJoinsUptoCard

/-- THE SECOND FORM's CARD OF 'needlestorelaw14.JournalBursts'. -/
def journalBurstsUptoCard : Claim7 := { stood := { row := journalBurstsUptoRow, standIns := [], harness := (true, "020d3ed6a4da3100b4b850f63a226e0cd48d055d50d3d5ad093d9e1f67a198e7"), looks := false }, kinds := [], alts := [], laidByText := true, laidKinds := [.data], laidTests := true, laidLooks := .later }
def JournalBurstsUptoCardSaid : Prop := Claim7.holds Tryd.pinned (.plain (OpenSpec.upto journalBurstsSpec)) journalBurstsUptoCard
end Rows
end Go.Proofs.YtbkhedfhnmkodaaDoor
