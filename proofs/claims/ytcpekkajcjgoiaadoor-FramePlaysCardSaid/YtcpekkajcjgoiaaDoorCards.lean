/-
  DERIVED. GIVEN WITH THE SEED: THE CARDS: each row of YtcpekkajcjgoiaaDoorRows.lean that lists a variable, with what it lists TIED to the program's text (the seventh form; the later family's looks); each row that meets fmt, with fmt's text TOLD by the authors' own Lean function (tested against real Go, not proved from fmt's source: count such statements apart). THE CARD IS WHAT COUNTS. Prove the row's statement (the work); the ties are given (YtcpekkajcjgoiaaDoorTie.lean); close each card by the builder's one call (the guide's Derived/Test/ToyasCard.lean, 'card_holds'). Laid BY PROGRAM, IN A SANDBOX (cutbox-door.mjs). By AI agents, Wed Nov 11 2026. No macro, syntax, notation, axiom, sorry.
-/
import Derived.Test.YtcpekkajcjgoiaaDoorRows
import GoSem.ClaimSeven
namespace Go.Proofs.YtcpekkajcjgoiaaDoor
namespace Rows

/-- THE TIED CARD OF 'dynamolaw05.FrameBack'. -/
def frameBackCard : Claim7 := { stood := { row := frameBackRow, standIns := [], harness := (true, "9cb26df9e66c2fc544c35d55ccae336dd3b4a83cd59ffa3f5240e5be4731a3dc"), looks := true }, kinds := [], alts := [], laidByText := true, laidKinds := [.data, .handle], laidTests := true, laidLooks := .later }
def FrameBackCardSaid : Prop := Claim7.holds Tryd.pinned (.plain (OpenSpec.ofChange frameBackSpec)) frameBackCard

/-- THE TIED CARD OF 'dynamolaw05.FramePlays'. -/
def framePlaysCard : Claim7 := { stood := { row := framePlaysRow, standIns := [], harness := (true, "9cb26df9e66c2fc544c35d55ccae336dd3b4a83cd59ffa3f5240e5be4731a3dc"), looks := true }, kinds := [], alts := [], laidByText := true, laidKinds := [.data, .handle], laidTests := true, laidLooks := .later }
def FramePlaysCardSaid : Prop := Claim7.holds Tryd.pinned (.plain (OpenSpec.ofChange framePlaysSpec)) framePlaysCard

/-- THE TIED CARD OF 'dynamolaw05.FrameDisks'. -/
def frameDisksCard : Claim7 := { stood := { row := frameDisksRow, standIns := [], harness := (true, "9cb26df9e66c2fc544c35d55ccae336dd3b4a83cd59ffa3f5240e5be4731a3dc"), looks := true }, kinds := [], alts := [], laidByText := true, laidKinds := [.data, .handle], laidTests := true, laidLooks := .later }
def FrameDisksCardSaid : Prop := Claim7.holds Tryd.pinned (.plain (OpenSpec.ofChange frameDisksSpec)) frameDisksCard

/-- THE TIED CARD OF 'dynamolaw05.FrameUnlike'. -/
def frameUnlikeCard : Claim7 := { stood := { row := frameUnlikeRow, standIns := [], harness := (true, "9cb26df9e66c2fc544c35d55ccae336dd3b4a83cd59ffa3f5240e5be4731a3dc"), looks := true }, kinds := [], alts := [], laidByText := true, laidKinds := [.data, .handle], laidTests := true, laidLooks := .later }
def FrameUnlikeCardSaid : Prop := Claim7.holds Tryd.pinned (.plain (OpenSpec.ofChange frameUnlikeSpec)) frameUnlikeCard

/-- THE TIED CARD OF 'dynamolaw05.FrameTorn'. -/
def frameTornCard : Claim7 := { stood := { row := frameTornRow, standIns := [], harness := (true, "9cb26df9e66c2fc544c35d55ccae336dd3b4a83cd59ffa3f5240e5be4731a3dc"), looks := true }, kinds := [], alts := [], laidByText := true, laidKinds := [.data, .handle], laidTests := true, laidLooks := .later }
def FrameTornCardSaid : Prop := Claim7.holds Tryd.pinned (.plain (OpenSpec.ofChange frameTornSpec)) frameTornCard

/-- THE SECOND FORM's CARD OF 'dynamolaw05.FrameBack'. -/
def frameBackUptoCard : Claim7 := { stood := { row := frameBackUptoRow, standIns := [], harness := (true, "9cb26df9e66c2fc544c35d55ccae336dd3b4a83cd59ffa3f5240e5be4731a3dc"), looks := true }, kinds := [], alts := [], laidByText := true, laidKinds := [.data, .handle], laidTests := true, laidLooks := .later }
def FrameBackUptoCardSaid : Prop := Claim7.holds Tryd.pinned (.plain (OpenSpec.upto frameBackSpec)) frameBackUptoCard

/-- THE SECOND FORM's CARD OF 'dynamolaw05.FramePlays'. -/
def framePlaysUptoCard : Claim7 := { stood := { row := framePlaysUptoRow, standIns := [], harness := (true, "9cb26df9e66c2fc544c35d55ccae336dd3b4a83cd59ffa3f5240e5be4731a3dc"), looks := true }, kinds := [], alts := [], laidByText := true, laidKinds := [.data, .handle], laidTests := true, laidLooks := .later }
def FramePlaysUptoCardSaid : Prop := Claim7.holds Tryd.pinned (.plain (OpenSpec.upto framePlaysSpec)) framePlaysUptoCard

/-- THE SECOND FORM's CARD OF 'dynamolaw05.FrameDisks'. -/
def frameDisksUptoCard : Claim7 := { stood := { row := frameDisksUptoRow, standIns := [], harness := (true, "9cb26df9e66c2fc544c35d55ccae336dd3b4a83cd59ffa3f5240e5be4731a3dc"), looks := true }, kinds := [], alts := [], laidByText := true, laidKinds := [.data, .handle], laidTests := true, laidLooks := .later }
def FrameDisksUptoCardSaid : Prop := Claim7.holds Tryd.pinned (.plain (OpenSpec.upto frameDisksSpec)) frameDisksUptoCard

/-- THE SECOND FORM's CARD OF 'dynamolaw05.FrameUnlike'. -/
def frameUnlikeUptoCard : Claim7 := { stood := { row := frameUnlikeUptoRow, standIns := [], harness := (true, "9cb26df9e66c2fc544c35d55ccae336dd3b4a83cd59ffa3f5240e5be4731a3dc"), looks := true }, kinds := [], alts := [], laidByText := true, laidKinds := [.data, .handle], laidTests := true, laidLooks := .later }
def FrameUnlikeUptoCardSaid : Prop := Claim7.holds Tryd.pinned (.plain (OpenSpec.upto frameUnlikeSpec)) frameUnlikeUptoCard

/-- THE SECOND FORM's CARD OF 'dynamolaw05.FrameTorn'. -/
def frameTornUptoCard : Claim7 := { stood := { row := frameTornUptoRow, standIns := [], harness := (true, "9cb26df9e66c2fc544c35d55ccae336dd3b4a83cd59ffa3f5240e5be4731a3dc"), looks := true }, kinds := [], alts := [], laidByText := true, laidKinds := [.data, .handle], laidTests := true, laidLooks := .later }
def FrameTornUptoCardSaid : Prop := Claim7.holds Tryd.pinned (.plain (OpenSpec.upto frameTornSpec)) frameTornUptoCard
end Rows
end Go.Proofs.YtcpekkajcjgoiaaDoor
