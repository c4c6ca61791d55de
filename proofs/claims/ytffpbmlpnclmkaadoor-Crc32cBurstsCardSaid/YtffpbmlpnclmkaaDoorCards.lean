/-
  DERIVED. GIVEN WITH THE SEED: THE CARDS: each row of YtffpbmlpnclmkaaDoorRows.lean that lists a variable, with what it lists TIED to the program's text (the seventh form; the later family's looks); each row that meets fmt, with fmt's text TOLD by the authors' own Lean function (tested against real Go, not proved from fmt's source: count such statements apart). THE CARD IS WHAT COUNTS. Prove the row's statement (the work); the ties are given (YtffpbmlpnclmkaaDoorTie.lean); close each card by the builder's one call (the guide's Derived/Test/ToyasCard.lean, 'card_holds'). Laid BY PROGRAM, IN A SANDBOX (cutbox-door.mjs). By AI agents, Wed Nov 11 2026. No macro, syntax, notation, axiom, sorry.
-/
import Derived.Test.YtffpbmlpnclmkaaDoorRows
import GoSem.ClaimSeven
namespace Go.Proofs.YtffpbmlpnclmkaaDoor
namespace Rows

/-- THE TIED CARD OF 'needlestorelaw01.Crc32cSums'. -/
def crc32cSumsCard : Claim7 := { stood := { row := crc32cSumsRow, standIns := [], harness := (true, "c52e6c46a2d0f70118c76e18597f4a934bc2841ef911a0b0b8fc36776215b85d"), looks := false }, kinds := [], alts := [], laidByText := true, laidKinds := [.data], laidTests := true, laidLooks := .later }
def Crc32cSumsCardSaid : Prop := Claim7.holds Tryd.pinned (.plain (OpenSpec.ofChange crc32cSumsSpec)) crc32cSumsCard

/-- THE TIED CARD OF 'needlestorelaw01.Crc32cExtends'. -/
def crc32cExtendsCard : Claim7 := { stood := { row := crc32cExtendsRow, standIns := [], harness := (true, "c52e6c46a2d0f70118c76e18597f4a934bc2841ef911a0b0b8fc36776215b85d"), looks := false }, kinds := [], alts := [], laidByText := true, laidKinds := [.data], laidTests := true, laidLooks := .later }
def Crc32cExtendsCardSaid : Prop := Claim7.holds Tryd.pinned (.plain (OpenSpec.ofChange crc32cExtendsSpec)) crc32cExtendsCard

/-- THE TIED CARD OF 'needlestorelaw01.Crc32cCombines'. -/
def crc32cCombinesCard : Claim7 := { stood := { row := crc32cCombinesRow, standIns := [], harness := (true, "c52e6c46a2d0f70118c76e18597f4a934bc2841ef911a0b0b8fc36776215b85d"), looks := false }, kinds := [], alts := [], laidByText := true, laidKinds := [.data], laidTests := true, laidLooks := .later }
def Crc32cCombinesCardSaid : Prop := Claim7.holds Tryd.pinned (.plain (OpenSpec.ofChange crc32cCombinesSpec)) crc32cCombinesCard

/-- THE TIED CARD OF 'needlestorelaw01.Crc32cJoins'. -/
def crc32cJoinsCard : Claim7 := { stood := { row := crc32cJoinsRow, standIns := [], harness := (true, "c52e6c46a2d0f70118c76e18597f4a934bc2841ef911a0b0b8fc36776215b85d"), looks := false }, kinds := [], alts := [], laidByText := true, laidKinds := [.data], laidTests := true, laidLooks := .later }
def Crc32cJoinsCardSaid : Prop := Claim7.holds Tryd.pinned (.plain (OpenSpec.ofChange crc32cJoinsSpec)) crc32cJoinsCard

/-- THE TIED CARD OF 'needlestorelaw01.Crc32cAssociates'. -/
def crc32cAssociatesCard : Claim7 := { stood := { row := crc32cAssociatesRow, standIns := [], harness := (true, "c52e6c46a2d0f70118c76e18597f4a934bc2841ef911a0b0b8fc36776215b85d"), looks := false }, kinds := [], alts := [], laidByText := true, laidKinds := [.data], laidTests := true, laidLooks := .later }
def Crc32cAssociatesCardSaid : Prop := Claim7.holds Tryd.pinned (.plain (OpenSpec.ofChange crc32cAssociatesSpec)) crc32cAssociatesCard

/-- THE TIED CARD OF 'needlestorelaw01.Crc32cLinear'. -/
def crc32cLinearCard : Claim7 := { stood := { row := crc32cLinearRow, standIns := [], harness := (true, "c52e6c46a2d0f70118c76e18597f4a934bc2841ef911a0b0b8fc36776215b85d"), looks := false }, kinds := [], alts := [], laidByText := true, laidKinds := [.data], laidTests := true, laidLooks := .later }
def Crc32cLinearCardSaid : Prop := Claim7.holds Tryd.pinned (.plain (OpenSpec.ofChange crc32cLinearSpec)) crc32cLinearCard

/-- THE TIED CARD OF 'needlestorelaw01.Crc32cBursts'. -/
def crc32cBurstsCard : Claim7 := { stood := { row := crc32cBurstsRow, standIns := [], harness := (true, "c52e6c46a2d0f70118c76e18597f4a934bc2841ef911a0b0b8fc36776215b85d"), looks := false }, kinds := [], alts := [], laidByText := true, laidKinds := [.data], laidTests := true, laidLooks := .later }
def Crc32cBurstsCardSaid : Prop := Claim7.holds Tryd.pinned (.plain (OpenSpec.ofChange crc32cBurstsSpec)) crc32cBurstsCard

/-- THE SECOND FORM's CARD OF 'needlestorelaw01.Crc32cSums'. -/
def crc32cSumsUptoCard : Claim7 := { stood := { row := crc32cSumsUptoRow, standIns := [], harness := (true, "c52e6c46a2d0f70118c76e18597f4a934bc2841ef911a0b0b8fc36776215b85d"), looks := false }, kinds := [], alts := [], laidByText := true, laidKinds := [.data], laidTests := true, laidLooks := .later }
def Crc32cSumsUptoCardSaid : Prop := Claim7.holds Tryd.pinned (.plain (OpenSpec.upto crc32cSumsSpec)) crc32cSumsUptoCard

/-- THE SECOND FORM's CARD OF 'needlestorelaw01.Crc32cExtends'. -/
def crc32cExtendsUptoCard : Claim7 := { stood := { row := crc32cExtendsUptoRow, standIns := [], harness := (true, "c52e6c46a2d0f70118c76e18597f4a934bc2841ef911a0b0b8fc36776215b85d"), looks := false }, kinds := [], alts := [], laidByText := true, laidKinds := [.data], laidTests := true, laidLooks := .later }
def Crc32cExtendsUptoCardSaid : Prop := Claim7.holds Tryd.pinned (.plain (OpenSpec.upto crc32cExtendsSpec)) crc32cExtendsUptoCard

/-- THE SECOND FORM's CARD OF 'needlestorelaw01.Crc32cCombines'. -/
def crc32cCombinesUptoCard : Claim7 := { stood := { row := crc32cCombinesUptoRow, standIns := [], harness := (true, "c52e6c46a2d0f70118c76e18597f4a934bc2841ef911a0b0b8fc36776215b85d"), looks := false }, kinds := [], alts := [], laidByText := true, laidKinds := [.data], laidTests := true, laidLooks := .later }
def Crc32cCombinesUptoCardSaid : Prop := Claim7.holds Tryd.pinned (.plain (OpenSpec.upto crc32cCombinesSpec)) crc32cCombinesUptoCard

/-- THE SECOND FORM's CARD OF 'needlestorelaw01.Crc32cJoins'. -/
def crc32cJoinsUptoCard : Claim7 := { stood := { row := crc32cJoinsUptoRow, standIns := [], harness := (true, "c52e6c46a2d0f70118c76e18597f4a934bc2841ef911a0b0b8fc36776215b85d"), looks := false }, kinds := [], alts := [], laidByText := true, laidKinds := [.data], laidTests := true, laidLooks := .later }
def Crc32cJoinsUptoCardSaid : Prop := Claim7.holds Tryd.pinned (.plain (OpenSpec.upto crc32cJoinsSpec)) crc32cJoinsUptoCard

/-- THE SECOND FORM's CARD OF 'needlestorelaw01.Crc32cAssociates'. -/
def crc32cAssociatesUptoCard : Claim7 := { stood := { row := crc32cAssociatesUptoRow, standIns := [], harness := (true, "c52e6c46a2d0f70118c76e18597f4a934bc2841ef911a0b0b8fc36776215b85d"), looks := false }, kinds := [], alts := [], laidByText := true, laidKinds := [.data], laidTests := true, laidLooks := .later }
def Crc32cAssociatesUptoCardSaid : Prop := Claim7.holds Tryd.pinned (.plain (OpenSpec.upto crc32cAssociatesSpec)) crc32cAssociatesUptoCard

/-- THE SECOND FORM's CARD OF 'needlestorelaw01.Crc32cLinear'. -/
def crc32cLinearUptoCard : Claim7 := { stood := { row := crc32cLinearUptoRow, standIns := [], harness := (true, "c52e6c46a2d0f70118c76e18597f4a934bc2841ef911a0b0b8fc36776215b85d"), looks := false }, kinds := [], alts := [], laidByText := true, laidKinds := [.data], laidTests := true, laidLooks := .later }
def Crc32cLinearUptoCardSaid : Prop := Claim7.holds Tryd.pinned (.plain (OpenSpec.upto crc32cLinearSpec)) crc32cLinearUptoCard

/-- THE SECOND FORM's CARD OF 'needlestorelaw01.Crc32cBursts'. -/
def crc32cBurstsUptoCard : Claim7 := { stood := { row := crc32cBurstsUptoRow, standIns := [], harness := (true, "c52e6c46a2d0f70118c76e18597f4a934bc2841ef911a0b0b8fc36776215b85d"), looks := false }, kinds := [], alts := [], laidByText := true, laidKinds := [.data], laidTests := true, laidLooks := .later }
def Crc32cBurstsUptoCardSaid : Prop := Claim7.holds Tryd.pinned (.plain (OpenSpec.upto crc32cBurstsSpec)) crc32cBurstsUptoCard
end Rows
end Go.Proofs.YtffpbmlpnclmkaaDoor
