/-
  DERIVED. GIVEN WITH THE SEED: THE CARDS: each row of YtjjlghdcpkkdhaaDoorRows.lean that lists a variable, with what it lists TIED to the program's text (the seventh form; the later family's looks); each row that meets fmt, with fmt's text TOLD by the authors' own Lean function (tested against real Go, not proved from fmt's source: count such statements apart). THE CARD IS WHAT COUNTS. Prove the row's statement (the work); the ties are given (YtjjlghdcpkkdhaaDoorTie.lean); close each card by the builder's one call (the guide's Derived/Test/ToyasCard.lean, 'card_holds'). Laid BY PROGRAM, IN A SANDBOX (cutbox-door.mjs). By AI agents, Wed Nov 11 2026. No macro, syntax, notation, axiom, sorry.
-/
import Derived.Test.YtjjlghdcpkkdhaaDoorRows
import GoSem.ClaimSeven
namespace Go.Proofs.YtjjlghdcpkkdhaaDoor
namespace Rows

/-- THE TIED CARD OF 'dynamolaw12.RecRobots'. -/
def recRobotsCard : Claim7 := { stood := { row := recRobotsRow, standIns := [], harness := (true, "2d34162a9fb8831cddb18dc0ec7197c4cb4de56733f39bba937976c58749f7dc"), looks := true }, kinds := [], alts := [], laidByText := true, laidKinds := [.handle], laidTests := true, laidLooks := .later }
def RecRobotsCardSaid : Prop := Claim7.holds Tryd.pinned (.plain (OpenSpec.ofChange recRobotsSpec)) recRobotsCard

/-- THE TIED CARD OF 'dynamolaw12.RecTasks'. -/
def recTasksCard : Claim7 := { stood := { row := recTasksRow, standIns := [], harness := (true, "2d34162a9fb8831cddb18dc0ec7197c4cb4de56733f39bba937976c58749f7dc"), looks := true }, kinds := [], alts := [], laidByText := true, laidKinds := [.handle], laidTests := true, laidLooks := .later }
def RecTasksCardSaid : Prop := Claim7.holds Tryd.pinned (.plain (OpenSpec.ofChange recTasksSpec)) recTasksCard

/-- THE TIED CARD OF 'dynamolaw12.RecOnly'. -/
def recOnlyCard : Claim7 := { stood := { row := recOnlyRow, standIns := [], harness := (true, "2d34162a9fb8831cddb18dc0ec7197c4cb4de56733f39bba937976c58749f7dc"), looks := true }, kinds := [], alts := [], laidByText := true, laidKinds := [.handle], laidTests := true, laidLooks := .later }
def RecOnlyCardSaid : Prop := Claim7.holds Tryd.pinned (.plain (OpenSpec.ofChange recOnlySpec)) recOnlyCard

/-- THE TIED CARD OF 'dynamolaw12.RecUnlike'. -/
def recUnlikeCard : Claim7 := { stood := { row := recUnlikeRow, standIns := [], harness := (true, "2d34162a9fb8831cddb18dc0ec7197c4cb4de56733f39bba937976c58749f7dc"), looks := true }, kinds := [], alts := [], laidByText := true, laidKinds := [.handle], laidTests := true, laidLooks := .later }
def RecUnlikeCardSaid : Prop := Claim7.holds Tryd.pinned (.plain (OpenSpec.ofChange recUnlikeSpec)) recUnlikeCard

/-- THE TIED CARD OF 'dynamolaw12.RecSizes'. -/
def recSizesCard : Claim7 := { stood := { row := recSizesRow, standIns := [], harness := (true, "2d34162a9fb8831cddb18dc0ec7197c4cb4de56733f39bba937976c58749f7dc"), looks := true }, kinds := [], alts := [], laidByText := true, laidKinds := [.handle], laidTests := true, laidLooks := .later }
def RecSizesCardSaid : Prop := Claim7.holds Tryd.pinned (.plain (OpenSpec.ofChange recSizesSpec)) recSizesCard

/-- THE SECOND FORM's CARD OF 'dynamolaw12.RecRobots'. -/
def recRobotsUptoCard : Claim7 := { stood := { row := recRobotsUptoRow, standIns := [], harness := (true, "2d34162a9fb8831cddb18dc0ec7197c4cb4de56733f39bba937976c58749f7dc"), looks := true }, kinds := [], alts := [], laidByText := true, laidKinds := [.handle], laidTests := true, laidLooks := .later }
def RecRobotsUptoCardSaid : Prop := Claim7.holds Tryd.pinned (.plain (OpenSpec.upto recRobotsSpec)) recRobotsUptoCard

/-- THE SECOND FORM's CARD OF 'dynamolaw12.RecTasks'. -/
def recTasksUptoCard : Claim7 := { stood := { row := recTasksUptoRow, standIns := [], harness := (true, "2d34162a9fb8831cddb18dc0ec7197c4cb4de56733f39bba937976c58749f7dc"), looks := true }, kinds := [], alts := [], laidByText := true, laidKinds := [.handle], laidTests := true, laidLooks := .later }
def RecTasksUptoCardSaid : Prop := Claim7.holds Tryd.pinned (.plain (OpenSpec.upto recTasksSpec)) recTasksUptoCard

/-- THE SECOND FORM's CARD OF 'dynamolaw12.RecOnly'. -/
def recOnlyUptoCard : Claim7 := { stood := { row := recOnlyUptoRow, standIns := [], harness := (true, "2d34162a9fb8831cddb18dc0ec7197c4cb4de56733f39bba937976c58749f7dc"), looks := true }, kinds := [], alts := [], laidByText := true, laidKinds := [.handle], laidTests := true, laidLooks := .later }
def RecOnlyUptoCardSaid : Prop := Claim7.holds Tryd.pinned (.plain (OpenSpec.upto recOnlySpec)) recOnlyUptoCard

/-- THE SECOND FORM's CARD OF 'dynamolaw12.RecUnlike'. -/
def recUnlikeUptoCard : Claim7 := { stood := { row := recUnlikeUptoRow, standIns := [], harness := (true, "2d34162a9fb8831cddb18dc0ec7197c4cb4de56733f39bba937976c58749f7dc"), looks := true }, kinds := [], alts := [], laidByText := true, laidKinds := [.handle], laidTests := true, laidLooks := .later }
def RecUnlikeUptoCardSaid : Prop := Claim7.holds Tryd.pinned (.plain (OpenSpec.upto recUnlikeSpec)) recUnlikeUptoCard

/-- THE SECOND FORM's CARD OF 'dynamolaw12.RecSizes'. -/
def recSizesUptoCard : Claim7 := { stood := { row := recSizesUptoRow, standIns := [], harness := (true, "2d34162a9fb8831cddb18dc0ec7197c4cb4de56733f39bba937976c58749f7dc"), looks := true }, kinds := [], alts := [], laidByText := true, laidKinds := [.handle], laidTests := true, laidLooks := .later }
def RecSizesUptoCardSaid : Prop := Claim7.holds Tryd.pinned (.plain (OpenSpec.upto recSizesSpec)) recSizesUptoCard
end Rows
end Go.Proofs.YtjjlghdcpkkdhaaDoor
