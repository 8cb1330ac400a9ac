/-
  DERIVED. GIVEN WITH THE SEED: THE CARDS: each row of YtiffgmgefpoblaaDoorRows.lean that lists a variable, with what it lists TIED to the program's text (the seventh form; the later family's looks); each row that meets fmt, with fmt's text TOLD by the authors' own Lean function (tested against real Go, not proved from fmt's source: count such statements apart). THE CARD IS WHAT COUNTS. Prove the row's statement (the work); the ties are given (YtiffgmgefpoblaaDoorTie.lean); close each card by the builder's one call (the guide's Derived/Test/ToyasCard.lean, 'card_holds'). Laid BY PROGRAM, IN A SANDBOX (cutbox-door.mjs). By AI agents, Wed Nov 11 2026. No macro, syntax, notation, axiom, sorry.
-/
import Derived.Test.YtiffgmgefpoblaaDoorRows
import GoSem.ClaimSeven
namespace Go.Proofs.YtiffgmgefpoblaaDoor
namespace Rows

/-- THE TIED CARD OF 'dynamolaw16.FieldPlays'. -/
def fieldPlaysCard : Claim7 := { stood := { row := fieldPlaysRow, standIns := [], harness := (true, "306252170766b0c0395dc174b4958826da94b937fb6c68d76455e5c0bc464aae"), looks := true }, kinds := [], alts := [], laidByText := true, laidKinds := [.data, .handle, .pinned], laidTests := true, laidLooks := .later }
def FieldPlaysCardSaid : Prop := Claim7.holds Tryd.pinned (.plain (OpenSpec.ofChange fieldPlaysSpec)) fieldPlaysCard

/-- THE TIED CARD OF 'dynamolaw16.FieldSteps'. -/
def fieldStepsCard : Claim7 := { stood := { row := fieldStepsRow, standIns := [], harness := (true, "306252170766b0c0395dc174b4958826da94b937fb6c68d76455e5c0bc464aae"), looks := true }, kinds := [], alts := [], laidByText := true, laidKinds := [.data, .handle, .pinned], laidTests := true, laidLooks := .later }
def FieldStepsCardSaid : Prop := Claim7.holds Tryd.pinned (.plain (OpenSpec.ofChange fieldStepsSpec)) fieldStepsCard

/-- THE TIED CARD OF 'dynamolaw16.FieldDowns'. -/
def fieldDownsCard : Claim7 := { stood := { row := fieldDownsRow, standIns := [], harness := (true, "306252170766b0c0395dc174b4958826da94b937fb6c68d76455e5c0bc464aae"), looks := true }, kinds := [], alts := [], laidByText := true, laidKinds := [.data, .handle, .pinned], laidTests := true, laidLooks := .later }
def FieldDownsCardSaid : Prop := Claim7.holds Tryd.pinned (.plain (OpenSpec.ofChange fieldDownsSpec)) fieldDownsCard

/-- THE TIED CARD OF 'dynamolaw16.FieldMore'. -/
def fieldMoreCard : Claim7 := { stood := { row := fieldMoreRow, standIns := [], harness := (true, "306252170766b0c0395dc174b4958826da94b937fb6c68d76455e5c0bc464aae"), looks := true }, kinds := [], alts := [], laidByText := true, laidKinds := [.data, .handle, .pinned], laidTests := true, laidLooks := .later }
def FieldMoreCardSaid : Prop := Claim7.holds Tryd.pinned (.plain (OpenSpec.ofChange fieldMoreSpec)) fieldMoreCard

/-- THE TIED CARD OF 'dynamolaw16.FieldScales'. -/
def fieldScalesCard : Claim7 := { stood := { row := fieldScalesRow, standIns := [], harness := (true, "306252170766b0c0395dc174b4958826da94b937fb6c68d76455e5c0bc464aae"), looks := true }, kinds := [], alts := [], laidByText := true, laidKinds := [.data, .handle, .pinned], laidTests := true, laidLooks := .later }
def FieldScalesCardSaid : Prop := Claim7.holds Tryd.pinned (.plain (OpenSpec.ofChange fieldScalesSpec)) fieldScalesCard

/-- THE TIED CARD OF 'dynamolaw16.FieldNone'. -/
def fieldNoneCard : Claim7 := { stood := { row := fieldNoneRow, standIns := [], harness := (true, "306252170766b0c0395dc174b4958826da94b937fb6c68d76455e5c0bc464aae"), looks := true }, kinds := [], alts := [], laidByText := true, laidKinds := [.data, .handle, .pinned], laidTests := true, laidLooks := .later }
def FieldNoneCardSaid : Prop := Claim7.holds Tryd.pinned (.plain (OpenSpec.ofChange fieldNoneSpec)) fieldNoneCard

/-- THE SECOND FORM's CARD OF 'dynamolaw16.FieldPlays'. -/
def fieldPlaysUptoCard : Claim7 := { stood := { row := fieldPlaysUptoRow, standIns := [], harness := (true, "306252170766b0c0395dc174b4958826da94b937fb6c68d76455e5c0bc464aae"), looks := true }, kinds := [], alts := [], laidByText := true, laidKinds := [.data, .handle, .pinned], laidTests := true, laidLooks := .later }
def FieldPlaysUptoCardSaid : Prop := Claim7.holds Tryd.pinned (.plain (OpenSpec.upto fieldPlaysSpec)) fieldPlaysUptoCard

/-- THE SECOND FORM's CARD OF 'dynamolaw16.FieldSteps'. -/
def fieldStepsUptoCard : Claim7 := { stood := { row := fieldStepsUptoRow, standIns := [], harness := (true, "306252170766b0c0395dc174b4958826da94b937fb6c68d76455e5c0bc464aae"), looks := true }, kinds := [], alts := [], laidByText := true, laidKinds := [.data, .handle, .pinned], laidTests := true, laidLooks := .later }
def FieldStepsUptoCardSaid : Prop := Claim7.holds Tryd.pinned (.plain (OpenSpec.upto fieldStepsSpec)) fieldStepsUptoCard

/-- THE SECOND FORM's CARD OF 'dynamolaw16.FieldDowns'. -/
def fieldDownsUptoCard : Claim7 := { stood := { row := fieldDownsUptoRow, standIns := [], harness := (true, "306252170766b0c0395dc174b4958826da94b937fb6c68d76455e5c0bc464aae"), looks := true }, kinds := [], alts := [], laidByText := true, laidKinds := [.data, .handle, .pinned], laidTests := true, laidLooks := .later }
def FieldDownsUptoCardSaid : Prop := Claim7.holds Tryd.pinned (.plain (OpenSpec.upto fieldDownsSpec)) fieldDownsUptoCard

/-- THE SECOND FORM's CARD OF 'dynamolaw16.FieldMore'. -/
def fieldMoreUptoCard : Claim7 := { stood := { row := fieldMoreUptoRow, standIns := [], harness := (true, "306252170766b0c0395dc174b4958826da94b937fb6c68d76455e5c0bc464aae"), looks := true }, kinds := [], alts := [], laidByText := true, laidKinds := [.data, .handle, .pinned], laidTests := true, laidLooks := .later }
def FieldMoreUptoCardSaid : Prop := Claim7.holds Tryd.pinned (.plain (OpenSpec.upto fieldMoreSpec)) fieldMoreUptoCard

/-- THE SECOND FORM's CARD OF 'dynamolaw16.FieldScales'. -/
def fieldScalesUptoCard : Claim7 := { stood := { row := fieldScalesUptoRow, standIns := [], harness := (true, "306252170766b0c0395dc174b4958826da94b937fb6c68d76455e5c0bc464aae"), looks := true }, kinds := [], alts := [], laidByText := true, laidKinds := [.data, .handle, .pinned], laidTests := true, laidLooks := .later }
def FieldScalesUptoCardSaid : Prop := Claim7.holds Tryd.pinned (.plain (OpenSpec.upto fieldScalesSpec)) fieldScalesUptoCard

/-- THE SECOND FORM's CARD OF 'dynamolaw16.FieldNone'. -/
def fieldNoneUptoCard : Claim7 := { stood := { row := fieldNoneUptoRow, standIns := [], harness := (true, "306252170766b0c0395dc174b4958826da94b937fb6c68d76455e5c0bc464aae"), looks := true }, kinds := [], alts := [], laidByText := true, laidKinds := [.data, .handle, .pinned], laidTests := true, laidLooks := .later }
def FieldNoneUptoCardSaid : Prop := Claim7.holds Tryd.pinned (.plain (OpenSpec.upto fieldNoneSpec)) fieldNoneUptoCard
end Rows
end Go.Proofs.YtiffgmgefpoblaaDoor
