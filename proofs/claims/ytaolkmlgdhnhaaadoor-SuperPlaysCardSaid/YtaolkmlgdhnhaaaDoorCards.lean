/-
  DERIVED. GIVEN WITH THE SEED: THE CARDS: each row of YtaolkmlgdhnhaaaDoorRows.lean that lists a variable, with what it lists TIED to the program's text (the seventh form; the later family's looks); each row that meets fmt, with fmt's text TOLD by the authors' own Lean function (tested against real Go, not proved from fmt's source: count such statements apart). THE CARD IS WHAT COUNTS. Prove the row's statement (the work); the ties are given (YtaolkmlgdhnhaaaDoorTie.lean); close each card by the builder's one call (the guide's Derived/Test/ToyasCard.lean, 'card_holds'). Laid BY PROGRAM, IN A SANDBOX (cutbox-door.mjs). By AI agents, Wed Nov 11 2026. No macro, syntax, notation, axiom, sorry.
-/
import Derived.Test.YtaolkmlgdhnhaaaDoorRows
import GoSem.ClaimSeven
namespace Go.Proofs.YtaolkmlgdhnhaaaDoor
namespace Rows

/-- THE TIED CARD OF 'dynamolaw07.SuperBack'. -/
def superBackCard : Claim7 := { stood := { row := superBackRow, standIns := [], harness := (true, "240b5c9599d76beb9d01d4f0ec108005001b60ee5515b062af6f3c8935351f7e"), looks := true }, kinds := [], alts := [], laidByText := true, laidKinds := [.data, .handle], laidTests := true, laidLooks := .later }
def SuperBackCardSaid : Prop := Claim7.holds Tryd.pinned (.plain (OpenSpec.ofChange superBackSpec)) superBackCard

/-- THE TIED CARD OF 'dynamolaw07.SuperPlays'. -/
def superPlaysCard : Claim7 := { stood := { row := superPlaysRow, standIns := [], harness := (true, "240b5c9599d76beb9d01d4f0ec108005001b60ee5515b062af6f3c8935351f7e"), looks := true }, kinds := [], alts := [], laidByText := true, laidKinds := [.data, .handle], laidTests := true, laidLooks := .later }
def SuperPlaysCardSaid : Prop := Claim7.holds Tryd.pinned (.plain (OpenSpec.ofChange superPlaysSpec)) superPlaysCard

/-- THE TIED CARD OF 'dynamolaw07.SuperBest'. -/
def superBestCard : Claim7 := { stood := { row := superBestRow, standIns := [], harness := (true, "240b5c9599d76beb9d01d4f0ec108005001b60ee5515b062af6f3c8935351f7e"), looks := true }, kinds := [], alts := [], laidByText := true, laidKinds := [.data, .handle], laidTests := true, laidLooks := .later }
def SuperBestCardSaid : Prop := Claim7.holds Tryd.pinned (.plain (OpenSpec.ofChange superBestSpec)) superBestCard

/-- THE TIED CARD OF 'dynamolaw07.SuperGreater'. -/
def superGreaterCard : Claim7 := { stood := { row := superGreaterRow, standIns := [], harness := (true, "240b5c9599d76beb9d01d4f0ec108005001b60ee5515b062af6f3c8935351f7e"), looks := true }, kinds := [], alts := [], laidByText := true, laidKinds := [.data, .handle], laidTests := true, laidLooks := .later }
def SuperGreaterCardSaid : Prop := Claim7.holds Tryd.pinned (.plain (OpenSpec.ofChange superGreaterSpec)) superGreaterCard

/-- THE TIED CARD OF 'dynamolaw07.SuperUnlike'. -/
def superUnlikeCard : Claim7 := { stood := { row := superUnlikeRow, standIns := [], harness := (true, "240b5c9599d76beb9d01d4f0ec108005001b60ee5515b062af6f3c8935351f7e"), looks := true }, kinds := [], alts := [], laidByText := true, laidKinds := [.data, .handle], laidTests := true, laidLooks := .later }
def SuperUnlikeCardSaid : Prop := Claim7.holds Tryd.pinned (.plain (OpenSpec.ofChange superUnlikeSpec)) superUnlikeCard

/-- THE SECOND FORM's CARD OF 'dynamolaw07.SuperBack'. -/
def superBackUptoCard : Claim7 := { stood := { row := superBackUptoRow, standIns := [], harness := (true, "240b5c9599d76beb9d01d4f0ec108005001b60ee5515b062af6f3c8935351f7e"), looks := true }, kinds := [], alts := [], laidByText := true, laidKinds := [.data, .handle], laidTests := true, laidLooks := .later }
def SuperBackUptoCardSaid : Prop := Claim7.holds Tryd.pinned (.plain (OpenSpec.upto superBackSpec)) superBackUptoCard

/-- THE SECOND FORM's CARD OF 'dynamolaw07.SuperPlays'. -/
def superPlaysUptoCard : Claim7 := { stood := { row := superPlaysUptoRow, standIns := [], harness := (true, "240b5c9599d76beb9d01d4f0ec108005001b60ee5515b062af6f3c8935351f7e"), looks := true }, kinds := [], alts := [], laidByText := true, laidKinds := [.data, .handle], laidTests := true, laidLooks := .later }
def SuperPlaysUptoCardSaid : Prop := Claim7.holds Tryd.pinned (.plain (OpenSpec.upto superPlaysSpec)) superPlaysUptoCard

/-- THE SECOND FORM's CARD OF 'dynamolaw07.SuperBest'. -/
def superBestUptoCard : Claim7 := { stood := { row := superBestUptoRow, standIns := [], harness := (true, "240b5c9599d76beb9d01d4f0ec108005001b60ee5515b062af6f3c8935351f7e"), looks := true }, kinds := [], alts := [], laidByText := true, laidKinds := [.data, .handle], laidTests := true, laidLooks := .later }
def SuperBestUptoCardSaid : Prop := Claim7.holds Tryd.pinned (.plain (OpenSpec.upto superBestSpec)) superBestUptoCard

/-- THE SECOND FORM's CARD OF 'dynamolaw07.SuperGreater'. -/
def superGreaterUptoCard : Claim7 := { stood := { row := superGreaterUptoRow, standIns := [], harness := (true, "240b5c9599d76beb9d01d4f0ec108005001b60ee5515b062af6f3c8935351f7e"), looks := true }, kinds := [], alts := [], laidByText := true, laidKinds := [.data, .handle], laidTests := true, laidLooks := .later }
def SuperGreaterUptoCardSaid : Prop := Claim7.holds Tryd.pinned (.plain (OpenSpec.upto superGreaterSpec)) superGreaterUptoCard

/-- THE SECOND FORM's CARD OF 'dynamolaw07.SuperUnlike'. -/
def superUnlikeUptoCard : Claim7 := { stood := { row := superUnlikeUptoRow, standIns := [], harness := (true, "240b5c9599d76beb9d01d4f0ec108005001b60ee5515b062af6f3c8935351f7e"), looks := true }, kinds := [], alts := [], laidByText := true, laidKinds := [.data, .handle], laidTests := true, laidLooks := .later }
def SuperUnlikeUptoCardSaid : Prop := Claim7.holds Tryd.pinned (.plain (OpenSpec.upto superUnlikeSpec)) superUnlikeUptoCard
end Rows
end Go.Proofs.YtaolkmlgdhnhaaaDoor
