/-
  DERIVED. GIVEN WITH THE SEED: THE CARDS: each row of YtekdnloabhnngaaDoorRows.lean that lists a variable, with what it lists TIED to the program's text (the seventh form; the later family's looks); each row that meets fmt, with fmt's text TOLD by the authors' own Lean function (tested against real Go, not proved from fmt's source: count such statements apart). THE CARD IS WHAT COUNTS. Prove the row's statement (the work); the ties are given (YtekdnloabhnngaaDoorTie.lean); close each card by the builder's one call (the guide's Derived/Test/ToyasCard.lean, 'card_holds'). Laid BY PROGRAM, IN A SANDBOX (cutbox-door.mjs). By AI agents, Wed Nov 11 2026. No macro, syntax, notation, axiom, sorry.
-/
import Derived.Test.YtekdnloabhnngaaDoorRows
import GoSem.ClaimSeven
namespace Go.Proofs.YtekdnloabhnngaaDoor
namespace Rows

/-- THE TIED CARD OF 'needlestorelaw07.SuperblockEncodes'. -/
def superblockEncodesCard : Claim7 := { stood := { row := superblockEncodesRow, standIns := [], harness := (true, "1e191f6720c25887d5a5d30eca877b14ea73413db1fa4fd4d6a3243f1d6bc607"), looks := false }, kinds := [], alts := [], laidByText := true, laidKinds := [.data], laidTests := true, laidLooks := .later }
def SuperblockEncodesCardSaid : Prop := Claim7.holds Tryd.pinned (.plain (OpenSpec.ofChange superblockEncodesSpec)) superblockEncodesCard

/-- THE TIED CARD OF 'needlestorelaw07.SuperblockDecodes'. -/
def superblockDecodesCard : Claim7 := { stood := { row := superblockDecodesRow, standIns := [], harness := (true, "1e191f6720c25887d5a5d30eca877b14ea73413db1fa4fd4d6a3243f1d6bc607"), looks := false }, kinds := [], alts := [], laidByText := true, laidKinds := [.data], laidTests := true, laidLooks := .later }
def SuperblockDecodesCardSaid : Prop := Claim7.holds Tryd.pinned (.plain (OpenSpec.ofChange superblockDecodesSpec)) superblockDecodesCard

/-- THE TIED CARD OF 'needlestorelaw07.SuperblockBack'. -/
def superblockBackCard : Claim7 := { stood := { row := superblockBackRow, standIns := [], harness := (true, "1e191f6720c25887d5a5d30eca877b14ea73413db1fa4fd4d6a3243f1d6bc607"), looks := false }, kinds := [], alts := [], laidByText := true, laidKinds := [.data], laidTests := true, laidLooks := .later }
def SuperblockBackCardSaid : Prop := Claim7.holds Tryd.pinned (.plain (OpenSpec.ofChange superblockBackSpec)) superblockBackCard

/-- THE TIED CARD OF 'needlestorelaw07.SuperblockBursts'. -/
def superblockBurstsCard : Claim7 := { stood := { row := superblockBurstsRow, standIns := [], harness := (true, "1e191f6720c25887d5a5d30eca877b14ea73413db1fa4fd4d6a3243f1d6bc607"), looks := false }, kinds := [], alts := [], laidByText := true, laidKinds := [.data], laidTests := true, laidLooks := .later }
def SuperblockBurstsCardSaid : Prop := Claim7.holds Tryd.pinned (.plain (OpenSpec.ofChange superblockBurstsSpec)) superblockBurstsCard

/-- THE TIED CARD OF 'needlestorelaw07.SuperblockNext'. -/
def superblockNextCard : Claim7 := { stood := { row := superblockNextRow, standIns := [], harness := (true, "1e191f6720c25887d5a5d30eca877b14ea73413db1fa4fd4d6a3243f1d6bc607"), looks := false }, kinds := [], alts := [], laidByText := true, laidKinds := [.data], laidTests := true, laidLooks := .later }
def SuperblockNextCardSaid : Prop := Claim7.holds Tryd.pinned (.plain (OpenSpec.ofChange superblockNextSpec)) superblockNextCard

/-- THE SECOND FORM's CARD OF 'needlestorelaw07.SuperblockEncodes'. -/
def superblockEncodesUptoCard : Claim7 := { stood := { row := superblockEncodesUptoRow, standIns := [], harness := (true, "1e191f6720c25887d5a5d30eca877b14ea73413db1fa4fd4d6a3243f1d6bc607"), looks := false }, kinds := [], alts := [], laidByText := true, laidKinds := [.data], laidTests := true, laidLooks := .later }
def SuperblockEncodesUptoCardSaid : Prop := Claim7.holds Tryd.pinned (.plain (OpenSpec.upto superblockEncodesSpec)) superblockEncodesUptoCard

/-- THE SECOND FORM's CARD OF 'needlestorelaw07.SuperblockDecodes'. -/
def superblockDecodesUptoCard : Claim7 := { stood := { row := superblockDecodesUptoRow, standIns := [], harness := (true, "1e191f6720c25887d5a5d30eca877b14ea73413db1fa4fd4d6a3243f1d6bc607"), looks := false }, kinds := [], alts := [], laidByText := true, laidKinds := [.data], laidTests := true, laidLooks := .later }
def SuperblockDecodesUptoCardSaid : Prop := Claim7.holds Tryd.pinned (.plain (OpenSpec.upto superblockDecodesSpec)) superblockDecodesUptoCard

/-- THE SECOND FORM's CARD OF 'needlestorelaw07.SuperblockBack'. -/
def superblockBackUptoCard : Claim7 := { stood := { row := superblockBackUptoRow, standIns := [], harness := (true, "1e191f6720c25887d5a5d30eca877b14ea73413db1fa4fd4d6a3243f1d6bc607"), looks := false }, kinds := [], alts := [], laidByText := true, laidKinds := [.data], laidTests := true, laidLooks := .later }
def SuperblockBackUptoCardSaid : Prop := Claim7.holds Tryd.pinned (.plain (OpenSpec.upto superblockBackSpec)) superblockBackUptoCard

/-- THE SECOND FORM's CARD OF 'needlestorelaw07.SuperblockBursts'. -/
def superblockBurstsUptoCard : Claim7 := { stood := { row := superblockBurstsUptoRow, standIns := [], harness := (true, "1e191f6720c25887d5a5d30eca877b14ea73413db1fa4fd4d6a3243f1d6bc607"), looks := false }, kinds := [], alts := [], laidByText := true, laidKinds := [.data], laidTests := true, laidLooks := .later }
def SuperblockBurstsUptoCardSaid : Prop := Claim7.holds Tryd.pinned (.plain (OpenSpec.upto superblockBurstsSpec)) superblockBurstsUptoCard

/-- THE SECOND FORM's CARD OF 'needlestorelaw07.SuperblockNext'. -/
def superblockNextUptoCard : Claim7 := { stood := { row := superblockNextUptoRow, standIns := [], harness := (true, "1e191f6720c25887d5a5d30eca877b14ea73413db1fa4fd4d6a3243f1d6bc607"), looks := false }, kinds := [], alts := [], laidByText := true, laidKinds := [.data], laidTests := true, laidLooks := .later }
def SuperblockNextUptoCardSaid : Prop := Claim7.holds Tryd.pinned (.plain (OpenSpec.upto superblockNextSpec)) superblockNextUptoCard
end Rows
end Go.Proofs.YtekdnloabhnngaaDoor
