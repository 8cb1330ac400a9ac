/-
  DERIVED. GIVEN WITH THE SEED: THE CARDS: each row of YtogabocbjojnoaaDoorRows.lean that lists a variable, with what it lists TIED to the program's text (the seventh form; the later family's looks); each row that meets fmt, with fmt's text TOLD by the authors' own Lean function (tested against real Go, not proved from fmt's source: count such statements apart). THE CARD IS WHAT COUNTS. Prove the row's statement (the work); the ties are given (YtogabocbjojnoaaDoorTie.lean); close each card by the builder's one call (the guide's Derived/Test/ToyasCard.lean, 'card_holds'). Laid BY PROGRAM, IN A SANDBOX (cutbox-door.mjs). By AI agents, Wed Nov 11 2026. No macro, syntax, notation, axiom, sorry.
-/
import Derived.Test.YtogabocbjojnoaaDoorRows
import GoSem.ClaimSeven
namespace Go.Proofs.YtogabocbjojnoaaDoor
namespace Rows

/-- THE TIED CARD OF 'dynamolaw02.CrcPlays'. -/
def crcPlaysCard : Claim7 := { stood := { row := crcPlaysRow, standIns := [], harness := (true, "b53118f3cd8394ef0620562afe8ac21d6046c63642daa5664409f6422d910fb6"), looks := false }, kinds := [], alts := [], laidByText := true, laidKinds := [.data], laidTests := true, laidLooks := .later }
def CrcPlaysCardSaid : Prop := Claim7.holds Tryd.pinned (.plain (OpenSpec.ofChange crcPlaysSpec)) crcPlaysCard

/-- THE TIED CARD OF 'dynamolaw02.CrcBursts'. -/
def crcBurstsCard : Claim7 := { stood := { row := crcBurstsRow, standIns := [], harness := (true, "b53118f3cd8394ef0620562afe8ac21d6046c63642daa5664409f6422d910fb6"), looks := false }, kinds := [], alts := [], laidByText := true, laidKinds := [.data], laidTests := true, laidLooks := .later }
def CrcBurstsCardSaid : Prop := Claim7.holds Tryd.pinned (.plain (OpenSpec.ofChange crcBurstsSpec)) crcBurstsCard

/-- THE TIED CARD OF 'dynamolaw02.CrcMore'. -/
def crcMoreCard : Claim7 := { stood := { row := crcMoreRow, standIns := [], harness := (true, "b53118f3cd8394ef0620562afe8ac21d6046c63642daa5664409f6422d910fb6"), looks := false }, kinds := [], alts := [], laidByText := true, laidKinds := [.data], laidTests := true, laidLooks := .later }
def CrcMoreCardSaid : Prop := Claim7.holds Tryd.pinned (.plain (OpenSpec.ofChange crcMoreSpec)) crcMoreCard

/-- THE TIED CARD OF 'dynamolaw02.CrcUnlike'. -/
def crcUnlikeCard : Claim7 := { stood := { row := crcUnlikeRow, standIns := [], harness := (true, "b53118f3cd8394ef0620562afe8ac21d6046c63642daa5664409f6422d910fb6"), looks := false }, kinds := [], alts := [], laidByText := true, laidKinds := [.data], laidTests := true, laidLooks := .later }
def CrcUnlikeCardSaid : Prop := Claim7.holds Tryd.pinned (.plain (OpenSpec.ofChange crcUnlikeSpec)) crcUnlikeCard

/-- THE TIED CARD OF 'dynamolaw02.CrcLine'. -/
def crcLineCard : Claim7 := { stood := { row := crcLineRow, standIns := [], harness := (true, "b53118f3cd8394ef0620562afe8ac21d6046c63642daa5664409f6422d910fb6"), looks := false }, kinds := [], alts := [], laidByText := true, laidKinds := [.data], laidTests := true, laidLooks := .later }
def CrcLineCardSaid : Prop := Claim7.holds Tryd.pinned (.plain (OpenSpec.ofChange crcLineSpec)) crcLineCard

/-- THE TIED CARD OF 'dynamolaw02.CrcCut'. -/
def crcCutCard : Claim7 := { stood := { row := crcCutRow, standIns := [], harness := (true, "b53118f3cd8394ef0620562afe8ac21d6046c63642daa5664409f6422d910fb6"), looks := false }, kinds := [], alts := [], laidByText := true, laidKinds := [.data], laidTests := true, laidLooks := .later }
def CrcCutCardSaid : Prop := Claim7.holds Tryd.pinned (.plain (OpenSpec.ofChange crcCutSpec)) crcCutCard

/-- THE SECOND FORM's CARD OF 'dynamolaw02.CrcPlays'. -/
def crcPlaysUptoCard : Claim7 := { stood := { row := crcPlaysUptoRow, standIns := [], harness := (true, "b53118f3cd8394ef0620562afe8ac21d6046c63642daa5664409f6422d910fb6"), looks := false }, kinds := [], alts := [], laidByText := true, laidKinds := [.data], laidTests := true, laidLooks := .later }
def CrcPlaysUptoCardSaid : Prop := Claim7.holds Tryd.pinned (.plain (OpenSpec.upto crcPlaysSpec)) crcPlaysUptoCard

/-- THE SECOND FORM's CARD OF 'dynamolaw02.CrcBursts'. -/
def crcBurstsUptoCard : Claim7 := { stood := { row := crcBurstsUptoRow, standIns := [], harness := (true, "b53118f3cd8394ef0620562afe8ac21d6046c63642daa5664409f6422d910fb6"), looks := false }, kinds := [], alts := [], laidByText := true, laidKinds := [.data], laidTests := true, laidLooks := .later }
def CrcBurstsUptoCardSaid : Prop := Claim7.holds Tryd.pinned (.plain (OpenSpec.upto crcBurstsSpec)) crcBurstsUptoCard

/-- THE SECOND FORM's CARD OF 'dynamolaw02.CrcMore'. -/
def crcMoreUptoCard : Claim7 := { stood := { row := crcMoreUptoRow, standIns := [], harness := (true, "b53118f3cd8394ef0620562afe8ac21d6046c63642daa5664409f6422d910fb6"), looks := false }, kinds := [], alts := [], laidByText := true, laidKinds := [.data], laidTests := true, laidLooks := .later }
def CrcMoreUptoCardSaid : Prop := Claim7.holds Tryd.pinned (.plain (OpenSpec.upto crcMoreSpec)) crcMoreUptoCard

/-- THE SECOND FORM's CARD OF 'dynamolaw02.CrcUnlike'. -/
def crcUnlikeUptoCard : Claim7 := { stood := { row := crcUnlikeUptoRow, standIns := [], harness := (true, "b53118f3cd8394ef0620562afe8ac21d6046c63642daa5664409f6422d910fb6"), looks := false }, kinds := [], alts := [], laidByText := true, laidKinds := [.data], laidTests := true, laidLooks := .later }
def CrcUnlikeUptoCardSaid : Prop := Claim7.holds Tryd.pinned (.plain (OpenSpec.upto crcUnlikeSpec)) crcUnlikeUptoCard

/-- THE SECOND FORM's CARD OF 'dynamolaw02.CrcLine'. -/
def crcLineUptoCard : Claim7 := { stood := { row := crcLineUptoRow, standIns := [], harness := (true, "b53118f3cd8394ef0620562afe8ac21d6046c63642daa5664409f6422d910fb6"), looks := false }, kinds := [], alts := [], laidByText := true, laidKinds := [.data], laidTests := true, laidLooks := .later }
def CrcLineUptoCardSaid : Prop := Claim7.holds Tryd.pinned (.plain (OpenSpec.upto crcLineSpec)) crcLineUptoCard

/-- THE SECOND FORM's CARD OF 'dynamolaw02.CrcCut'. -/
def crcCutUptoCard : Claim7 := { stood := { row := crcCutUptoRow, standIns := [], harness := (true, "b53118f3cd8394ef0620562afe8ac21d6046c63642daa5664409f6422d910fb6"), looks := false }, kinds := [], alts := [], laidByText := true, laidKinds := [.data], laidTests := true, laidLooks := .later }
def CrcCutUptoCardSaid : Prop := Claim7.holds Tryd.pinned (.plain (OpenSpec.upto crcCutSpec)) crcCutUptoCard
end Rows
end Go.Proofs.YtogabocbjojnoaaDoor
