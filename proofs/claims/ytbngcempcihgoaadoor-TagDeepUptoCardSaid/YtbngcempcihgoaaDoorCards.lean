/-
  DERIVED. GIVEN WITH THE SEED: THE CARDS: each row of YtbngcempcihgoaaDoorRows.lean that lists a variable, with what it lists TIED to the program's text (the seventh form; the later family's looks); each row that meets fmt, with fmt's text TOLD by the authors' own Lean function (tested against real Go, not proved from fmt's source: count such statements apart). THE CARD IS WHAT COUNTS. Prove the row's statement (the work); the ties are given (YtbngcempcihgoaaDoorTie.lean); close each card by the builder's one call (the guide's Derived/Test/ToyasCard.lean, 'card_holds'). Laid BY PROGRAM, IN A SANDBOX (cutbox-door.mjs). By AI agents, Wed Nov 11 2026. No macro, syntax, notation, axiom, sorry.
-/
import Derived.Test.YtbngcempcihgoaaDoorRows
import GoSem.ClaimSeven
namespace Go.Proofs.YtbngcempcihgoaaDoor
namespace Rows

/-- THE TIED CARD OF 'dynamolaw01.TagNums'. -/
def tagNumsCard : Claim7 := { stood := { row := tagNumsRow, standIns := [], harness := (true, "f3a6ea0dc62d031052527857549da5a83ff03c9af46a346400b7cdbf8fa84f20"), looks := true }, kinds := [], alts := [], laidByText := true, laidKinds := [.handle], laidTests := true, laidLooks := .later }
def TagNumsCardSaid : Prop := Claim7.holds Tryd.pinned (.plain (OpenSpec.ofChange tagNumsSpec)) tagNumsCard

/-- THE TIED CARD OF 'dynamolaw01.TagTexts'. -/
def tagTextsCard : Claim7 := { stood := { row := tagTextsRow, standIns := [], harness := (true, "f3a6ea0dc62d031052527857549da5a83ff03c9af46a346400b7cdbf8fa84f20"), looks := true }, kinds := [], alts := [], laidByText := true, laidKinds := [.handle], laidTests := true, laidLooks := .later }
def TagTextsCardSaid : Prop := Claim7.holds Tryd.pinned (.plain (OpenSpec.ofChange tagTextsSpec)) tagTextsCard

/-- THE TIED CARD OF 'dynamolaw01.TagNil'. -/
def tagNilCard : Claim7 := { stood := { row := tagNilRow, standIns := [], harness := (true, "f3a6ea0dc62d031052527857549da5a83ff03c9af46a346400b7cdbf8fa84f20"), looks := true }, kinds := [], alts := [], laidByText := true, laidKinds := [.handle], laidTests := true, laidLooks := .later }
def TagNilCardSaid : Prop := Claim7.holds Tryd.pinned (.plain (OpenSpec.ofChange tagNilSpec)) tagNilCard

/-- THE TIED CARD OF 'dynamolaw01.TagMore'. -/
def tagMoreCard : Claim7 := { stood := { row := tagMoreRow, standIns := [], harness := (true, "f3a6ea0dc62d031052527857549da5a83ff03c9af46a346400b7cdbf8fa84f20"), looks := true }, kinds := [], alts := [], laidByText := true, laidKinds := [.handle], laidTests := true, laidLooks := .later }
def TagMoreCardSaid : Prop := Claim7.holds Tryd.pinned (.plain (OpenSpec.ofChange tagMoreSpec)) tagMoreCard

/-- THE TIED CARD OF 'dynamolaw01.TagUnlike'. -/
def tagUnlikeCard : Claim7 := { stood := { row := tagUnlikeRow, standIns := [], harness := (true, "f3a6ea0dc62d031052527857549da5a83ff03c9af46a346400b7cdbf8fa84f20"), looks := true }, kinds := [], alts := [], laidByText := true, laidKinds := [.handle], laidTests := true, laidLooks := .later }
def TagUnlikeCardSaid : Prop := Claim7.holds Tryd.pinned (.plain (OpenSpec.ofChange tagUnlikeSpec)) tagUnlikeCard

/-- THE TIED CARD OF 'dynamolaw01.TagDeep'. -/
def tagDeepCard : Claim7 := { stood := { row := tagDeepRow, standIns := [], harness := (true, "f3a6ea0dc62d031052527857549da5a83ff03c9af46a346400b7cdbf8fa84f20"), looks := true }, kinds := [], alts := [], laidByText := true, laidKinds := [.handle], laidTests := true, laidLooks := .later }
def TagDeepCardSaid : Prop := Claim7.holds Tryd.pinned (.plain (OpenSpec.ofChange tagDeepSpec)) tagDeepCard

/-- THE SECOND FORM's CARD OF 'dynamolaw01.TagNums'. -/
def tagNumsUptoCard : Claim7 := { stood := { row := tagNumsUptoRow, standIns := [], harness := (true, "f3a6ea0dc62d031052527857549da5a83ff03c9af46a346400b7cdbf8fa84f20"), looks := true }, kinds := [], alts := [], laidByText := true, laidKinds := [.handle], laidTests := true, laidLooks := .later }
def TagNumsUptoCardSaid : Prop := Claim7.holds Tryd.pinned (.plain (OpenSpec.upto tagNumsSpec)) tagNumsUptoCard

/-- THE SECOND FORM's CARD OF 'dynamolaw01.TagTexts'. -/
def tagTextsUptoCard : Claim7 := { stood := { row := tagTextsUptoRow, standIns := [], harness := (true, "f3a6ea0dc62d031052527857549da5a83ff03c9af46a346400b7cdbf8fa84f20"), looks := true }, kinds := [], alts := [], laidByText := true, laidKinds := [.handle], laidTests := true, laidLooks := .later }
def TagTextsUptoCardSaid : Prop := Claim7.holds Tryd.pinned (.plain (OpenSpec.upto tagTextsSpec)) tagTextsUptoCard

/-- THE SECOND FORM's CARD OF 'dynamolaw01.TagNil'. -/
def tagNilUptoCard : Claim7 := { stood := { row := tagNilUptoRow, standIns := [], harness := (true, "f3a6ea0dc62d031052527857549da5a83ff03c9af46a346400b7cdbf8fa84f20"), looks := true }, kinds := [], alts := [], laidByText := true, laidKinds := [.handle], laidTests := true, laidLooks := .later }
def TagNilUptoCardSaid : Prop := Claim7.holds Tryd.pinned (.plain (OpenSpec.upto tagNilSpec)) tagNilUptoCard

/-- THE SECOND FORM's CARD OF 'dynamolaw01.TagMore'. -/
def tagMoreUptoCard : Claim7 := { stood := { row := tagMoreUptoRow, standIns := [], harness := (true, "f3a6ea0dc62d031052527857549da5a83ff03c9af46a346400b7cdbf8fa84f20"), looks := true }, kinds := [], alts := [], laidByText := true, laidKinds := [.handle], laidTests := true, laidLooks := .later }
def TagMoreUptoCardSaid : Prop := Claim7.holds Tryd.pinned (.plain (OpenSpec.upto tagMoreSpec)) tagMoreUptoCard

/-- THE SECOND FORM's CARD OF 'dynamolaw01.TagUnlike'. -/
def tagUnlikeUptoCard : Claim7 := { stood := { row := tagUnlikeUptoRow, standIns := [], harness := (true, "f3a6ea0dc62d031052527857549da5a83ff03c9af46a346400b7cdbf8fa84f20"), looks := true }, kinds := [], alts := [], laidByText := true, laidKinds := [.handle], laidTests := true, laidLooks := .later }
def TagUnlikeUptoCardSaid : Prop := Claim7.holds Tryd.pinned (.plain (OpenSpec.upto tagUnlikeSpec)) tagUnlikeUptoCard

/-- THE SECOND FORM's CARD OF 'dynamolaw01.TagDeep'. -/
def tagDeepUptoCard : Claim7 := { stood := { row := tagDeepUptoRow, standIns := [], harness := (true, "f3a6ea0dc62d031052527857549da5a83ff03c9af46a346400b7cdbf8fa84f20"), looks := true }, kinds := [], alts := [], laidByText := true, laidKinds := [.handle], laidTests := true, laidLooks := .later }
def TagDeepUptoCardSaid : Prop := Claim7.holds Tryd.pinned (.plain (OpenSpec.upto tagDeepSpec)) tagDeepUptoCard
end Rows
end Go.Proofs.YtbngcempcihgoaaDoor
