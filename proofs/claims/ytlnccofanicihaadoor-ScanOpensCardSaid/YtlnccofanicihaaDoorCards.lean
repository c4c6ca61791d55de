/-
  DERIVED. GIVEN WITH THE SEED: THE CARDS: each row of YtlnccofanicihaaDoorRows.lean that lists a variable, with what it lists TIED to the program's text (the seventh form; the later family's looks); each row that meets fmt, with fmt's text TOLD by the authors' own Lean function (tested against real Go, not proved from fmt's source: count such statements apart). THE CARD IS WHAT COUNTS. Prove the row's statement (the work); the ties are given (YtlnccofanicihaaDoorTie.lean); close each card by the builder's one call (the guide's Derived/Test/ToyasCard.lean, 'card_holds'). Laid BY PROGRAM, IN A SANDBOX (cutbox-door.mjs). By AI agents, Wed Nov 11 2026. No macro, syntax, notation, axiom, sorry.
-/
import Derived.Test.YtlnccofanicihaaDoorRows
import GoSem.ClaimSeven
namespace Go.Proofs.YtlnccofanicihaaDoor
namespace Rows

/-- THE TIED CARD OF 'needlestorelaw09.ScanOpens'. -/
def scanOpensCard : Claim7 := { stood := { row := scanOpensRow, standIns := [], harness := (true, "0132e9b5ba405c29f029f27ea28af22a6fa1539c82ce64d26977d50af51481fa"), looks := false }, kinds := [], alts := [], laidByText := true, laidKinds := [.data], laidTests := true, laidLooks := .later }
def ScanOpensCardSaid : Prop := Claim7.holds Tryd.pinned (.plain (OpenSpec.ofChange scanOpensSpec)) scanOpensCard

/-- THE TIED CARD OF 'needlestorelaw09.ScanItems'. -/
def scanItemsCard : Claim7 := { stood := { row := scanItemsRow, standIns := [], harness := (true, "0132e9b5ba405c29f029f27ea28af22a6fa1539c82ce64d26977d50af51481fa"), looks := false }, kinds := [], alts := [], laidByText := true, laidKinds := [.data], laidTests := true, laidLooks := .later }
def ScanItemsCardSaid : Prop := Claim7.holds Tryd.pinned (.plain (OpenSpec.ofChange scanItemsSpec)) scanItemsCard

/-- THE TIED CARD OF 'needlestorelaw09.ScanReads'. -/
def scanReadsCard : Claim7 := { stood := { row := scanReadsRow, standIns := [], harness := (true, "0132e9b5ba405c29f029f27ea28af22a6fa1539c82ce64d26977d50af51481fa"), looks := false }, kinds := [], alts := [], laidByText := true, laidKinds := [.data], laidTests := true, laidLooks := .later }
def ScanReadsCardSaid : Prop := Claim7.holds Tryd.pinned (.plain (OpenSpec.ofChange scanReadsSpec)) scanReadsCard

/-- THE TIED CARD OF 'needlestorelaw09.ScanTorn'. -/
def scanTornCard : Claim7 := { stood := { row := scanTornRow, standIns := [], harness := (true, "0132e9b5ba405c29f029f27ea28af22a6fa1539c82ce64d26977d50af51481fa"), looks := false }, kinds := [], alts := [], laidByText := true, laidKinds := [.data], laidTests := true, laidLooks := .later }
def ScanTornCardSaid : Prop := Claim7.holds Tryd.pinned (.plain (OpenSpec.ofChange scanTornSpec)) scanTornCard

/-- THE TIED CARD OF 'needlestorelaw09.ScanLast'. -/
def scanLastCard : Claim7 := { stood := { row := scanLastRow, standIns := [], harness := (true, "0132e9b5ba405c29f029f27ea28af22a6fa1539c82ce64d26977d50af51481fa"), looks := false }, kinds := [], alts := [], laidByText := true, laidKinds := [.data], laidTests := true, laidLooks := .later }
def ScanLastCardSaid : Prop := Claim7.holds Tryd.pinned (.plain (OpenSpec.ofChange scanLastSpec)) scanLastCard

/-- THE TIED CARD OF 'needlestorelaw09.ScanSums'. -/
def scanSumsCard : Claim7 := { stood := { row := scanSumsRow, standIns := [], harness := (true, "0132e9b5ba405c29f029f27ea28af22a6fa1539c82ce64d26977d50af51481fa"), looks := false }, kinds := [], alts := [], laidByText := true, laidKinds := [.data], laidTests := true, laidLooks := .later }
def ScanSumsCardSaid : Prop := Claim7.holds Tryd.pinned (.plain (OpenSpec.ofChange scanSumsSpec)) scanSumsCard

/-- THE TIED CARD OF 'needlestorelaw09.ScanSalvages'. -/
def scanSalvagesCard : Claim7 := { stood := { row := scanSalvagesRow, standIns := [], harness := (true, "0132e9b5ba405c29f029f27ea28af22a6fa1539c82ce64d26977d50af51481fa"), looks := false }, kinds := [], alts := [], laidByText := true, laidKinds := [.data], laidTests := true, laidLooks := .later }
def ScanSalvagesCardSaid : Prop := Claim7.holds Tryd.pinned (.plain (OpenSpec.ofChange scanSalvagesSpec)) scanSalvagesCard

/-- THE SECOND FORM's CARD OF 'needlestorelaw09.ScanOpens'. -/
def scanOpensUptoCard : Claim7 := { stood := { row := scanOpensUptoRow, standIns := [], harness := (true, "0132e9b5ba405c29f029f27ea28af22a6fa1539c82ce64d26977d50af51481fa"), looks := false }, kinds := [], alts := [], laidByText := true, laidKinds := [.data], laidTests := true, laidLooks := .later }
def ScanOpensUptoCardSaid : Prop := Claim7.holds Tryd.pinned (.plain (OpenSpec.upto scanOpensSpec)) scanOpensUptoCard

/-- THE SECOND FORM's CARD OF 'needlestorelaw09.ScanItems'. -/
def scanItemsUptoCard : Claim7 := { stood := { row := scanItemsUptoRow, standIns := [], harness := (true, "0132e9b5ba405c29f029f27ea28af22a6fa1539c82ce64d26977d50af51481fa"), looks := false }, kinds := [], alts := [], laidByText := true, laidKinds := [.data], laidTests := true, laidLooks := .later }
def ScanItemsUptoCardSaid : Prop := Claim7.holds Tryd.pinned (.plain (OpenSpec.upto scanItemsSpec)) scanItemsUptoCard

/-- THE SECOND FORM's CARD OF 'needlestorelaw09.ScanReads'. -/
def scanReadsUptoCard : Claim7 := { stood := { row := scanReadsUptoRow, standIns := [], harness := (true, "0132e9b5ba405c29f029f27ea28af22a6fa1539c82ce64d26977d50af51481fa"), looks := false }, kinds := [], alts := [], laidByText := true, laidKinds := [.data], laidTests := true, laidLooks := .later }
def ScanReadsUptoCardSaid : Prop := Claim7.holds Tryd.pinned (.plain (OpenSpec.upto scanReadsSpec)) scanReadsUptoCard

/-- THE SECOND FORM's CARD OF 'needlestorelaw09.ScanTorn'. -/
def scanTornUptoCard : Claim7 := { stood := { row := scanTornUptoRow, standIns := [], harness := (true, "0132e9b5ba405c29f029f27ea28af22a6fa1539c82ce64d26977d50af51481fa"), looks := false }, kinds := [], alts := [], laidByText := true, laidKinds := [.data], laidTests := true, laidLooks := .later }
def ScanTornUptoCardSaid : Prop := Claim7.holds Tryd.pinned (.plain (OpenSpec.upto scanTornSpec)) scanTornUptoCard

/-- THE SECOND FORM's CARD OF 'needlestorelaw09.ScanLast'. -/
def scanLastUptoCard : Claim7 := { stood := { row := scanLastUptoRow, standIns := [], harness := (true, "0132e9b5ba405c29f029f27ea28af22a6fa1539c82ce64d26977d50af51481fa"), looks := false }, kinds := [], alts := [], laidByText := true, laidKinds := [.data], laidTests := true, laidLooks := .later }
def ScanLastUptoCardSaid : Prop := Claim7.holds Tryd.pinned (.plain (OpenSpec.upto scanLastSpec)) scanLastUptoCard

/-- THE SECOND FORM's CARD OF 'needlestorelaw09.ScanSums'. -/
def scanSumsUptoCard : Claim7 := { stood := { row := scanSumsUptoRow, standIns := [], harness := (true, "0132e9b5ba405c29f029f27ea28af22a6fa1539c82ce64d26977d50af51481fa"), looks := false }, kinds := [], alts := [], laidByText := true, laidKinds := [.data], laidTests := true, laidLooks := .later }
def ScanSumsUptoCardSaid : Prop := Claim7.holds Tryd.pinned (.plain (OpenSpec.upto scanSumsSpec)) scanSumsUptoCard

/-- THE SECOND FORM's CARD OF 'needlestorelaw09.ScanSalvages'. -/
def scanSalvagesUptoCard : Claim7 := { stood := { row := scanSalvagesUptoRow, standIns := [], harness := (true, "0132e9b5ba405c29f029f27ea28af22a6fa1539c82ce64d26977d50af51481fa"), looks := false }, kinds := [], alts := [], laidByText := true, laidKinds := [.data], laidTests := true, laidLooks := .later }
def ScanSalvagesUptoCardSaid : Prop := Claim7.holds Tryd.pinned (.plain (OpenSpec.upto scanSalvagesSpec)) scanSalvagesUptoCard
end Rows
end Go.Proofs.YtlnccofanicihaaDoor
