/-
  DERIVED. GIVEN WITH THE SEED: THE CARDS: each row of YtafclmbecmgbnaaGreatDoorRows.lean that lists a variable, with what it lists TIED to the program's text (the seventh form; the later family's looks); each row that meets fmt, with fmt's text TOLD by the authors' own Lean function (tested against real Go, not proved from fmt's source: count such statements apart). THE CARD IS WHAT COUNTS. Prove the row's statement (the work); the ties are given (YtafclmbecmgbnaaGreatDoorTie.lean); close each card by the builder's one call (the guide's Derived/Test/ToyasCard.lean, 'card_holds'). Laid BY PROGRAM, IN A SANDBOX (cutbox-door.mjs). By AI agents, Wed Nov 11 2026. No macro, syntax, notation, axiom, sorry.
-/
import Derived.Test.YtafclmbecmgbnaaGreatDoorRows
import GoSem.ClaimSeven
namespace Go.Proofs.YtafclmbecmgbnaaGreatDoor
namespace Rows

/-- THE TIED CARD OF 'dynamolaw11.CheckWhole'. -/
def checkWholeCard : Claim7 := { stood := { row := checkWholeRow, standIns := [], harness := (true, "2e593ff592b8920e692954e675c6c7b645abb2ffd40fc791f127fcccbd22eb4f"), looks := true }, kinds := [], alts := [], laidByText := true, laidKinds := [.data, .handle], laidTests := true, laidLooks := .later }
def CheckWholeCardSaid : Prop := Claim7.holds Tryz.pinned (.plain (OpenSpec.ofChange checkWholeSpec)) checkWholeCard

/-- THE TIED CARD OF 'dynamolaw11.CheckWrong'. -/
def checkWrongCard : Claim7 := { stood := { row := checkWrongRow, standIns := [], harness := (true, "2e593ff592b8920e692954e675c6c7b645abb2ffd40fc791f127fcccbd22eb4f"), looks := true }, kinds := [], alts := [], laidByText := true, laidKinds := [.data, .handle], laidTests := true, laidLooks := .later }
def CheckWrongCardSaid : Prop := Claim7.holds Tryz.pinned (.plain (OpenSpec.ofChange checkWrongSpec)) checkWrongCard

/-- THE TIED CARD OF 'dynamolaw11.CheckParts'. -/
def checkPartsCard : Claim7 := { stood := { row := checkPartsRow, standIns := [], harness := (true, "2e593ff592b8920e692954e675c6c7b645abb2ffd40fc791f127fcccbd22eb4f"), looks := true }, kinds := [], alts := [], laidByText := true, laidKinds := [.data, .handle], laidTests := true, laidLooks := .later }
def CheckPartsCardSaid : Prop := Claim7.holds Tryz.pinned (.plain (OpenSpec.ofChange checkPartsSpec)) checkPartsCard

/-- THE TIED CARD OF 'dynamolaw11.CheckNone'. -/
def checkNoneCard : Claim7 := { stood := { row := checkNoneRow, standIns := [], harness := (true, "2e593ff592b8920e692954e675c6c7b645abb2ffd40fc791f127fcccbd22eb4f"), looks := true }, kinds := [], alts := [], laidByText := true, laidKinds := [.data, .handle], laidTests := true, laidLooks := .later }
def CheckNoneCardSaid : Prop := Claim7.holds Tryz.pinned (.plain (OpenSpec.ofChange checkNoneSpec)) checkNoneCard

/-- THE TIED CARD OF 'dynamolaw13.LedLasts'. -/
def ledLastsCard : Claim7 := { stood := { row := ledLastsRow, standIns := [], harness := (true, "2e593ff592b8920e692954e675c6c7b645abb2ffd40fc791f127fcccbd22eb4f"), looks := true }, kinds := [], alts := [], laidByText := true, laidKinds := [.data, .handle], laidTests := true, laidLooks := .later }
def LedLastsCardSaid : Prop := Claim7.holds Tryz.pinned (.plain (OpenSpec.ofChange ledLastsSpec)) ledLastsCard

/-- THE TIED CARD OF 'dynamolaw13.LedTorn'. -/
def ledTornCard : Claim7 := { stood := { row := ledTornRow, standIns := [], harness := (true, "2e593ff592b8920e692954e675c6c7b645abb2ffd40fc791f127fcccbd22eb4f"), looks := true }, kinds := [], alts := [], laidByText := true, laidKinds := [.data, .handle], laidTests := true, laidLooks := .later }
def LedTornCardSaid : Prop := Claim7.holds Tryz.pinned (.plain (OpenSpec.ofChange ledTornSpec)) ledTornCard

/-- THE TIED CARD OF 'dynamolaw13.LedRefuses'. -/
def ledRefusesCard : Claim7 := { stood := { row := ledRefusesRow, standIns := [], harness := (true, "2e593ff592b8920e692954e675c6c7b645abb2ffd40fc791f127fcccbd22eb4f"), looks := true }, kinds := [], alts := [], laidByText := true, laidKinds := [.data, .handle], laidTests := true, laidLooks := .later }
def LedRefusesCardSaid : Prop := Claim7.holds Tryz.pinned (.plain (OpenSpec.ofChange ledRefusesSpec)) ledRefusesCard

/-- THE TIED CARD OF 'dynamolaw13.LedOnes'. -/
def ledOnesCard : Claim7 := { stood := { row := ledOnesRow, standIns := [], harness := (true, "2e593ff592b8920e692954e675c6c7b645abb2ffd40fc791f127fcccbd22eb4f"), looks := true }, kinds := [], alts := [], laidByText := true, laidKinds := [.data, .handle], laidTests := true, laidLooks := .later }
def LedOnesCardSaid : Prop := Claim7.holds Tryz.pinned (.plain (OpenSpec.ofChange ledOnesSpec)) ledOnesCard

/-- THE TIED CARD OF 'dynamolaw13.LedAgain'. -/
def ledAgainCard : Claim7 := { stood := { row := ledAgainRow, standIns := [], harness := (true, "2e593ff592b8920e692954e675c6c7b645abb2ffd40fc791f127fcccbd22eb4f"), looks := true }, kinds := [], alts := [], laidByText := true, laidKinds := [.data, .handle], laidTests := true, laidLooks := .later }
def LedAgainCardSaid : Prop := Claim7.holds Tryz.pinned (.plain (OpenSpec.ofChange ledAgainSpec)) ledAgainCard

/-- THE TIED CARD OF 'dynamolaw13.LedNone'. -/
def ledNoneCard : Claim7 := { stood := { row := ledNoneRow, standIns := [], harness := (true, "2e593ff592b8920e692954e675c6c7b645abb2ffd40fc791f127fcccbd22eb4f"), looks := true }, kinds := [], alts := [], laidByText := true, laidKinds := [.data, .handle], laidTests := true, laidLooks := .later }
def LedNoneCardSaid : Prop := Claim7.holds Tryz.pinned (.plain (OpenSpec.ofChange ledNoneSpec)) ledNoneCard

/-- THE TIED CARD OF 'dynamotop.WholePages'. -/
def wholePagesCard : Claim7 := { stood := { row := wholePagesRow, standIns := [], harness := (true, "2e593ff592b8920e692954e675c6c7b645abb2ffd40fc791f127fcccbd22eb4f"), looks := true }, kinds := [], alts := [], laidByText := true, laidKinds := [.data, .handle], laidTests := true, laidLooks := .later }
def WholePagesCardSaid : Prop := Claim7.holds Tryz.pinned (.plain (OpenSpec.ofChange wholePagesSpec)) wholePagesCard

/-- THE SECOND FORM's CARD OF 'dynamolaw11.CheckWhole'. -/
def checkWholeUptoCard : Claim7 := { stood := { row := checkWholeUptoRow, standIns := [], harness := (true, "2e593ff592b8920e692954e675c6c7b645abb2ffd40fc791f127fcccbd22eb4f"), looks := true }, kinds := [], alts := [], laidByText := true, laidKinds := [.data, .handle], laidTests := true, laidLooks := .later }
def CheckWholeUptoCardSaid : Prop := Claim7.holds Tryz.pinned (.plain (OpenSpec.upto checkWholeSpec)) checkWholeUptoCard

/-- THE SECOND FORM's CARD OF 'dynamolaw11.CheckWrong'. -/
def checkWrongUptoCard : Claim7 := { stood := { row := checkWrongUptoRow, standIns := [], harness := (true, "2e593ff592b8920e692954e675c6c7b645abb2ffd40fc791f127fcccbd22eb4f"), looks := true }, kinds := [], alts := [], laidByText := true, laidKinds := [.data, .handle], laidTests := true, laidLooks := .later }
def CheckWrongUptoCardSaid : Prop := Claim7.holds Tryz.pinned (.plain (OpenSpec.upto checkWrongSpec)) checkWrongUptoCard

/-- THE SECOND FORM's CARD OF 'dynamolaw11.CheckParts'. -/
def checkPartsUptoCard : Claim7 := { stood := { row := checkPartsUptoRow, standIns := [], harness := (true, "2e593ff592b8920e692954e675c6c7b645abb2ffd40fc791f127fcccbd22eb4f"), looks := true }, kinds := [], alts := [], laidByText := true, laidKinds := [.data, .handle], laidTests := true, laidLooks := .later }
def CheckPartsUptoCardSaid : Prop := Claim7.holds Tryz.pinned (.plain (OpenSpec.upto checkPartsSpec)) checkPartsUptoCard

/-- THE SECOND FORM's CARD OF 'dynamolaw11.CheckNone'. -/
def checkNoneUptoCard : Claim7 := { stood := { row := checkNoneUptoRow, standIns := [], harness := (true, "2e593ff592b8920e692954e675c6c7b645abb2ffd40fc791f127fcccbd22eb4f"), looks := true }, kinds := [], alts := [], laidByText := true, laidKinds := [.data, .handle], laidTests := true, laidLooks := .later }
def CheckNoneUptoCardSaid : Prop := Claim7.holds Tryz.pinned (.plain (OpenSpec.upto checkNoneSpec)) checkNoneUptoCard

/-- THE SECOND FORM's CARD OF 'dynamolaw13.LedLasts'. -/
def ledLastsUptoCard : Claim7 := { stood := { row := ledLastsUptoRow, standIns := [], harness := (true, "2e593ff592b8920e692954e675c6c7b645abb2ffd40fc791f127fcccbd22eb4f"), looks := true }, kinds := [], alts := [], laidByText := true, laidKinds := [.data, .handle], laidTests := true, laidLooks := .later }
def LedLastsUptoCardSaid : Prop := Claim7.holds Tryz.pinned (.plain (OpenSpec.upto ledLastsSpec)) ledLastsUptoCard

/-- THE SECOND FORM's CARD OF 'dynamolaw13.LedTorn'. -/
def ledTornUptoCard : Claim7 := { stood := { row := ledTornUptoRow, standIns := [], harness := (true, "2e593ff592b8920e692954e675c6c7b645abb2ffd40fc791f127fcccbd22eb4f"), looks := true }, kinds := [], alts := [], laidByText := true, laidKinds := [.data, .handle], laidTests := true, laidLooks := .later }
def LedTornUptoCardSaid : Prop := Claim7.holds Tryz.pinned (.plain (OpenSpec.upto ledTornSpec)) ledTornUptoCard

/-- THE SECOND FORM's CARD OF 'dynamolaw13.LedRefuses'. -/
def ledRefusesUptoCard : Claim7 := { stood := { row := ledRefusesUptoRow, standIns := [], harness := (true, "2e593ff592b8920e692954e675c6c7b645abb2ffd40fc791f127fcccbd22eb4f"), looks := true }, kinds := [], alts := [], laidByText := true, laidKinds := [.data, .handle], laidTests := true, laidLooks := .later }
def LedRefusesUptoCardSaid : Prop := Claim7.holds Tryz.pinned (.plain (OpenSpec.upto ledRefusesSpec)) ledRefusesUptoCard

/-- THE SECOND FORM's CARD OF 'dynamolaw13.LedOnes'. -/
def ledOnesUptoCard : Claim7 := { stood := { row := ledOnesUptoRow, standIns := [], harness := (true, "2e593ff592b8920e692954e675c6c7b645abb2ffd40fc791f127fcccbd22eb4f"), looks := true }, kinds := [], alts := [], laidByText := true, laidKinds := [.data, .handle], laidTests := true, laidLooks := .later }
def LedOnesUptoCardSaid : Prop := Claim7.holds Tryz.pinned (.plain (OpenSpec.upto ledOnesSpec)) ledOnesUptoCard

/-- THE SECOND FORM's CARD OF 'dynamolaw13.LedAgain'. -/
def ledAgainUptoCard : Claim7 := { stood := { row := ledAgainUptoRow, standIns := [], harness := (true, "2e593ff592b8920e692954e675c6c7b645abb2ffd40fc791f127fcccbd22eb4f"), looks := true }, kinds := [], alts := [], laidByText := true, laidKinds := [.data, .handle], laidTests := true, laidLooks := .later }
def LedAgainUptoCardSaid : Prop := Claim7.holds Tryz.pinned (.plain (OpenSpec.upto ledAgainSpec)) ledAgainUptoCard

/-- THE SECOND FORM's CARD OF 'dynamolaw13.LedNone'. -/
def ledNoneUptoCard : Claim7 := { stood := { row := ledNoneUptoRow, standIns := [], harness := (true, "2e593ff592b8920e692954e675c6c7b645abb2ffd40fc791f127fcccbd22eb4f"), looks := true }, kinds := [], alts := [], laidByText := true, laidKinds := [.data, .handle], laidTests := true, laidLooks := .later }
def LedNoneUptoCardSaid : Prop := Claim7.holds Tryz.pinned (.plain (OpenSpec.upto ledNoneSpec)) ledNoneUptoCard

/-- THE SECOND FORM's CARD OF 'dynamotop.WholePages'. -/
def wholePagesUptoCard : Claim7 := { stood := { row := wholePagesUptoRow, standIns := [], harness := (true, "2e593ff592b8920e692954e675c6c7b645abb2ffd40fc791f127fcccbd22eb4f"), looks := true }, kinds := [], alts := [], laidByText := true, laidKinds := [.data, .handle], laidTests := true, laidLooks := .later }
def WholePagesUptoCardSaid : Prop := Claim7.holds Tryz.pinned (.plain (OpenSpec.upto wholePagesSpec)) wholePagesUptoCard
end Rows
end Go.Proofs.YtafclmbecmgbnaaGreatDoor
