/-
  DERIVED. GIVEN WITH THE SEED: THE CARDS: each row of YtoempilmofbhdaaDoorRows.lean that lists a variable, with what it lists TIED to the program's text (the seventh form; the later family's looks); each row that meets fmt, with fmt's text TOLD by the authors' own Lean function (tested against real Go, not proved from fmt's source: count such statements apart). THE CARD IS WHAT COUNTS. Prove the row's statement (the work); the ties are given (YtoempilmofbhdaaDoorTie.lean); close each card by the builder's one call (the guide's Derived/Test/ToyasCard.lean, 'card_holds'). Laid BY PROGRAM, IN A SANDBOX (cutbox-door.mjs). By AI agents, Wed Nov 11 2026. No macro, syntax, notation, axiom, sorry.
-/
import Derived.Test.YtoempilmofbhdaaDoorRows
import GoSem.ClaimSeven
namespace Go.Proofs.YtoempilmofbhdaaDoor
namespace Rows

/-- THE TIED CARD OF 'dynamolaw14.GridBack'. -/
def gridBackCard : Claim7 := { stood := { row := gridBackRow, standIns := [], harness := (true, "fef25b5bd510b691bf64ce9b9ab86296a6c3de62795114b26a053c8dcd75d80b"), looks := true }, kinds := [], alts := [], laidByText := true, laidKinds := [.data, .handle, .pinned], laidTests := true, laidLooks := .later }
def GridBackCardSaid : Prop := Claim7.holds Tryd.pinned (.plain (OpenSpec.ofChange gridBackSpec)) gridBackCard

/-- THE TIED CARD OF 'dynamolaw14.GridPlays'. -/
def gridPlaysCard : Claim7 := { stood := { row := gridPlaysRow, standIns := [], harness := (true, "fef25b5bd510b691bf64ce9b9ab86296a6c3de62795114b26a053c8dcd75d80b"), looks := true }, kinds := [], alts := [], laidByText := true, laidKinds := [.data, .handle, .pinned], laidTests := true, laidLooks := .later }
def GridPlaysCardSaid : Prop := Claim7.holds Tryd.pinned (.plain (OpenSpec.ofChange gridPlaysSpec)) gridPlaysCard

/-- THE TIED CARD OF 'dynamolaw14.GridNears'. -/
def gridNearsCard : Claim7 := { stood := { row := gridNearsRow, standIns := [], harness := (true, "fef25b5bd510b691bf64ce9b9ab86296a6c3de62795114b26a053c8dcd75d80b"), looks := true }, kinds := [], alts := [], laidByText := true, laidKinds := [.data, .handle, .pinned], laidTests := true, laidLooks := .later }
def GridNearsCardSaid : Prop := Claim7.holds Tryd.pinned (.plain (OpenSpec.ofChange gridNearsSpec)) gridNearsCard

/-- THE TIED CARD OF 'dynamolaw14.GridMirrors'. -/
def gridMirrorsCard : Claim7 := { stood := { row := gridMirrorsRow, standIns := [], harness := (true, "fef25b5bd510b691bf64ce9b9ab86296a6c3de62795114b26a053c8dcd75d80b"), looks := true }, kinds := [], alts := [], laidByText := true, laidKinds := [.data, .handle, .pinned], laidTests := true, laidLooks := .later }
def GridMirrorsCardSaid : Prop := Claim7.holds Tryd.pinned (.plain (OpenSpec.ofChange gridMirrorsSpec)) gridMirrorsCard

/-- THE TIED CARD OF 'dynamolaw14.GridKinds'. -/
def gridKindsCard : Claim7 := { stood := { row := gridKindsRow, standIns := [], harness := (true, "fef25b5bd510b691bf64ce9b9ab86296a6c3de62795114b26a053c8dcd75d80b"), looks := true }, kinds := [], alts := [], laidByText := true, laidKinds := [.data, .handle, .pinned], laidTests := true, laidLooks := .later }
def GridKindsCardSaid : Prop := Claim7.holds Tryd.pinned (.plain (OpenSpec.ofChange gridKindsSpec)) gridKindsCard

/-- THE TIED CARD OF 'dynamolaw14.GridNearest'. -/
def gridNearestCard : Claim7 := { stood := { row := gridNearestRow, standIns := [], harness := (true, "fef25b5bd510b691bf64ce9b9ab86296a6c3de62795114b26a053c8dcd75d80b"), looks := true }, kinds := [], alts := [], laidByText := true, laidKinds := [.data, .handle, .pinned], laidTests := true, laidLooks := .later }
def GridNearestCardSaid : Prop := Claim7.holds Tryd.pinned (.plain (OpenSpec.ofChange gridNearestSpec)) gridNearestCard

/-- THE SECOND FORM's CARD OF 'dynamolaw14.GridBack'. -/
def gridBackUptoCard : Claim7 := { stood := { row := gridBackUptoRow, standIns := [], harness := (true, "fef25b5bd510b691bf64ce9b9ab86296a6c3de62795114b26a053c8dcd75d80b"), looks := true }, kinds := [], alts := [], laidByText := true, laidKinds := [.data, .handle, .pinned], laidTests := true, laidLooks := .later }
def GridBackUptoCardSaid : Prop := Claim7.holds Tryd.pinned (.plain (OpenSpec.upto gridBackSpec)) gridBackUptoCard

/-- THE SECOND FORM's CARD OF 'dynamolaw14.GridPlays'. -/
def gridPlaysUptoCard : Claim7 := { stood := { row := gridPlaysUptoRow, standIns := [], harness := (true, "fef25b5bd510b691bf64ce9b9ab86296a6c3de62795114b26a053c8dcd75d80b"), looks := true }, kinds := [], alts := [], laidByText := true, laidKinds := [.data, .handle, .pinned], laidTests := true, laidLooks := .later }
def GridPlaysUptoCardSaid : Prop := Claim7.holds Tryd.pinned (.plain (OpenSpec.upto gridPlaysSpec)) gridPlaysUptoCard

/-- THE SECOND FORM's CARD OF 'dynamolaw14.GridNears'. -/
def gridNearsUptoCard : Claim7 := { stood := { row := gridNearsUptoRow, standIns := [], harness := (true, "fef25b5bd510b691bf64ce9b9ab86296a6c3de62795114b26a053c8dcd75d80b"), looks := true }, kinds := [], alts := [], laidByText := true, laidKinds := [.data, .handle, .pinned], laidTests := true, laidLooks := .later }
def GridNearsUptoCardSaid : Prop := Claim7.holds Tryd.pinned (.plain (OpenSpec.upto gridNearsSpec)) gridNearsUptoCard

/-- THE SECOND FORM's CARD OF 'dynamolaw14.GridMirrors'. -/
def gridMirrorsUptoCard : Claim7 := { stood := { row := gridMirrorsUptoRow, standIns := [], harness := (true, "fef25b5bd510b691bf64ce9b9ab86296a6c3de62795114b26a053c8dcd75d80b"), looks := true }, kinds := [], alts := [], laidByText := true, laidKinds := [.data, .handle, .pinned], laidTests := true, laidLooks := .later }
def GridMirrorsUptoCardSaid : Prop := Claim7.holds Tryd.pinned (.plain (OpenSpec.upto gridMirrorsSpec)) gridMirrorsUptoCard

/-- THE SECOND FORM's CARD OF 'dynamolaw14.GridKinds'. -/
def gridKindsUptoCard : Claim7 := { stood := { row := gridKindsUptoRow, standIns := [], harness := (true, "fef25b5bd510b691bf64ce9b9ab86296a6c3de62795114b26a053c8dcd75d80b"), looks := true }, kinds := [], alts := [], laidByText := true, laidKinds := [.data, .handle, .pinned], laidTests := true, laidLooks := .later }
def GridKindsUptoCardSaid : Prop := Claim7.holds Tryd.pinned (.plain (OpenSpec.upto gridKindsSpec)) gridKindsUptoCard

/-- THE SECOND FORM's CARD OF 'dynamolaw14.GridNearest'. -/
def gridNearestUptoCard : Claim7 := { stood := { row := gridNearestUptoRow, standIns := [], harness := (true, "fef25b5bd510b691bf64ce9b9ab86296a6c3de62795114b26a053c8dcd75d80b"), looks := true }, kinds := [], alts := [], laidByText := true, laidKinds := [.data, .handle, .pinned], laidTests := true, laidLooks := .later }
def GridNearestUptoCardSaid : Prop := Claim7.holds Tryd.pinned (.plain (OpenSpec.upto gridNearestSpec)) gridNearestUptoCard
end Rows
end Go.Proofs.YtoempilmofbhdaaDoor
