/-
  DERIVED. GIVEN WITH THE SEED: THE CARDS: each row of YtbcapaafoklhdaaDoorRows.lean that lists a variable, with what it lists TIED to the program's text (the seventh form; the later family's looks); each row that meets fmt, with fmt's text TOLD by the authors' own Lean function (tested against real Go, not proved from fmt's source: count such statements apart). THE CARD IS WHAT COUNTS. Prove the row's statement (the work); the ties are given (YtbcapaafoklhdaaDoorTie.lean); close each card by the builder's one call (the guide's Derived/Test/ToyasCard.lean, 'card_holds'). Laid BY PROGRAM, IN A SANDBOX (cutbox-door.mjs). By AI agents, Wed Nov 11 2026. No macro, syntax, notation, axiom, sorry.
-/
import Derived.Test.YtbcapaafoklhdaaDoorRows
import GoSem.ClaimSeven
namespace Go.Proofs.YtbcapaafoklhdaaDoor
namespace Rows

/-- THE TIED CARD OF 'dynamolaw08.PagerPlays'. -/
def pagerPlaysCard : Claim7 := { stood := { row := pagerPlaysRow, standIns := [], harness := (true, "4212be903375c6c319581990435e3c6ca360e793b4d16fd31277e84c473fb445"), looks := true }, kinds := [], alts := [], laidByText := true, laidKinds := [.data, .handle], laidTests := true, laidLooks := .later }
def PagerPlaysCardSaid : Prop := Claim7.holds Tryd.pinned (.plain (OpenSpec.ofChange pagerPlaysSpec)) pagerPlaysCard

/-- THE TIED CARD OF 'dynamolaw08.PagerTorn'. -/
def pagerTornCard : Claim7 := { stood := { row := pagerTornRow, standIns := [], harness := (true, "4212be903375c6c319581990435e3c6ca360e793b4d16fd31277e84c473fb445"), looks := true }, kinds := [], alts := [], laidByText := true, laidKinds := [.data, .handle], laidTests := true, laidLooks := .later }
def PagerTornCardSaid : Prop := Claim7.holds Tryd.pinned (.plain (OpenSpec.ofChange pagerTornSpec)) pagerTornCard

/-- THE TIED CARD OF 'dynamolaw08.PagerRefuses'. -/
def pagerRefusesCard : Claim7 := { stood := { row := pagerRefusesRow, standIns := [], harness := (true, "4212be903375c6c319581990435e3c6ca360e793b4d16fd31277e84c473fb445"), looks := true }, kinds := [], alts := [], laidByText := true, laidKinds := [.data, .handle], laidTests := true, laidLooks := .later }
def PagerRefusesCardSaid : Prop := Claim7.holds Tryd.pinned (.plain (OpenSpec.ofChange pagerRefusesSpec)) pagerRefusesCard

/-- THE TIED CARD OF 'dynamolaw08.PagerFills'. -/
def pagerFillsCard : Claim7 := { stood := { row := pagerFillsRow, standIns := [], harness := (true, "4212be903375c6c319581990435e3c6ca360e793b4d16fd31277e84c473fb445"), looks := true }, kinds := [], alts := [], laidByText := true, laidKinds := [.data, .handle], laidTests := true, laidLooks := .later }
def PagerFillsCardSaid : Prop := Claim7.holds Tryd.pinned (.plain (OpenSpec.ofChange pagerFillsSpec)) pagerFillsCard

/-- THE TIED CARD OF 'dynamolaw08.PagerAgain'. -/
def pagerAgainCard : Claim7 := { stood := { row := pagerAgainRow, standIns := [], harness := (true, "4212be903375c6c319581990435e3c6ca360e793b4d16fd31277e84c473fb445"), looks := true }, kinds := [], alts := [], laidByText := true, laidKinds := [.data, .handle], laidTests := true, laidLooks := .later }
def PagerAgainCardSaid : Prop := Claim7.holds Tryd.pinned (.plain (OpenSpec.ofChange pagerAgainSpec)) pagerAgainCard

/-- THE SECOND FORM's CARD OF 'dynamolaw08.PagerPlays'. -/
def pagerPlaysUptoCard : Claim7 := { stood := { row := pagerPlaysUptoRow, standIns := [], harness := (true, "4212be903375c6c319581990435e3c6ca360e793b4d16fd31277e84c473fb445"), looks := true }, kinds := [], alts := [], laidByText := true, laidKinds := [.data, .handle], laidTests := true, laidLooks := .later }
def PagerPlaysUptoCardSaid : Prop := Claim7.holds Tryd.pinned (.plain (OpenSpec.upto pagerPlaysSpec)) pagerPlaysUptoCard

/-- THE SECOND FORM's CARD OF 'dynamolaw08.PagerTorn'. -/
def pagerTornUptoCard : Claim7 := { stood := { row := pagerTornUptoRow, standIns := [], harness := (true, "4212be903375c6c319581990435e3c6ca360e793b4d16fd31277e84c473fb445"), looks := true }, kinds := [], alts := [], laidByText := true, laidKinds := [.data, .handle], laidTests := true, laidLooks := .later }
def PagerTornUptoCardSaid : Prop := Claim7.holds Tryd.pinned (.plain (OpenSpec.upto pagerTornSpec)) pagerTornUptoCard

/-- THE SECOND FORM's CARD OF 'dynamolaw08.PagerRefuses'. -/
def pagerRefusesUptoCard : Claim7 := { stood := { row := pagerRefusesUptoRow, standIns := [], harness := (true, "4212be903375c6c319581990435e3c6ca360e793b4d16fd31277e84c473fb445"), looks := true }, kinds := [], alts := [], laidByText := true, laidKinds := [.data, .handle], laidTests := true, laidLooks := .later }
def PagerRefusesUptoCardSaid : Prop := Claim7.holds Tryd.pinned (.plain (OpenSpec.upto pagerRefusesSpec)) pagerRefusesUptoCard

/-- THE SECOND FORM's CARD OF 'dynamolaw08.PagerFills'. -/
def pagerFillsUptoCard : Claim7 := { stood := { row := pagerFillsUptoRow, standIns := [], harness := (true, "4212be903375c6c319581990435e3c6ca360e793b4d16fd31277e84c473fb445"), looks := true }, kinds := [], alts := [], laidByText := true, laidKinds := [.data, .handle], laidTests := true, laidLooks := .later }
def PagerFillsUptoCardSaid : Prop := Claim7.holds Tryd.pinned (.plain (OpenSpec.upto pagerFillsSpec)) pagerFillsUptoCard

/-- THE SECOND FORM's CARD OF 'dynamolaw08.PagerAgain'. -/
def pagerAgainUptoCard : Claim7 := { stood := { row := pagerAgainUptoRow, standIns := [], harness := (true, "4212be903375c6c319581990435e3c6ca360e793b4d16fd31277e84c473fb445"), looks := true }, kinds := [], alts := [], laidByText := true, laidKinds := [.data, .handle], laidTests := true, laidLooks := .later }
def PagerAgainUptoCardSaid : Prop := Claim7.holds Tryd.pinned (.plain (OpenSpec.upto pagerAgainSpec)) pagerAgainUptoCard
end Rows
end Go.Proofs.YtbcapaafoklhdaaDoor
