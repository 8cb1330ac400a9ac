/-
  NARROWER THAN 'FOR EVERY INPUT', by the rows' own cells (each row's printed sentence says how): CheckWhole: laid · CheckWrong: laid · CheckParts: laid · CheckNone: laid · LedLasts: laid · LedTorn: laid · LedRefuses: laid · LedOnes: laid · LedAgain: laid · LedNone: laid · WholePages: laid.
  DERIVED. THE GIVEN ROWS OF THIS SEAT. 11 by the template 'for every input the law returns true; each argument reads behind the call as it read before'; 0 by the template 'total and deterministic' (their statements: YtafclmbecmgbnaaGreatDoorTotals.lean).
  GIVEN WITH THE SEED: the statements are not yours to turn. If you find one false, say at which input.
  Laid BY PROGRAM, IN A SANDBOX (cutbox-rows.mjs): the forced cells as the released guide's own fill.sh prints them over the translation 7bda47af4b9acbc7… (all of the seat's roots in one cut). By AI agents, Wed Nov 11 2026. No macro, syntax, notation, axiom, sorry.
-/
import Derived.Test.YtafclmbecmgbnaaGreatDoorChecked
import GoSem.Claim
import GoSem.ClaimJoined
import GoSem.ClaimMapViews
import Derived.JoinedTies
import Derived.KernelRfl
namespace Go.Proofs.YtafclmbecmgbnaaGreatDoor
/- THE CELL 'sum', in the pinned program and in every row, IS THE sha256 OF THE DUMP (.gsa) THAT YtafclmbecmgbnaaGreatDoorProg.lean LOADS. Nothing in Lean hashes anything: it is a label: what it is worth is what the hold of that sum in a sandbox is worth. -/
noncomputable def Tryz.pinned : Pinned := { name := "ytafclmbecmgbnaagreatdoor", sum := "7bda47af4b9acbc7b28a42472e2fae2a7668264a7759ee8f5523b21059d8e973", checked := Tryz.checked }
namespace Rows
def none {H : Type} : Left H := { results := [], args := [] }

/- WHAT THE LISTED PACKAGE-LEVEL VARIABLES READ AS WHEN THE CALL BEGINS. Each datum BY PROGRAM (the guide's laid-datum.mjs) off the statement by which the dump's own 'gosem.cut.vars' lays the variable. In a bare row this is a premise. The card (YtafclmbecmgbnaaGreatDoorCards.lean) ties it to the program's text. -/
def laid_dynamo_crc_halved {H : Type} : DataW H := .agg [.lit (.int .u32 0), .lit (.int .u32 498536548), .lit (.int .u32 997073096), .lit (.int .u32 651767980), .lit (.int .u32 1994146192), .lit (.int .u32 1802195444), .lit (.int .u32 1303535960), .lit (.int .u32 1342533948), .lit (.int .u32 3988292384), .lit (.int .u32 4027552580), .lit (.int .u32 3604390888), .lit (.int .u32 3412177804), .lit (.int .u32 2607071920), .lit (.int .u32 2262029012), .lit (.int .u32 2685067896), .lit (.int .u32 3183342108)]
def laid_errors_errorType {H : Type} : DataW H := .iface "internal/reflectlite.rtype" (.agg [.ptr (.lit (.string [101, 114, 114, 111, 114]))])

/-- 'dynamolaw11.CheckWhole': WHATEVER THE INPUT: true; the input reads as it did. -/
def checkWholeSpec : ChangeSpec := { name := "checkWhole", fn := fun _ => fun
  | [d1, d2, d3] => { results := [.lit (.bool true)], args := [d1, d2, d3] }
  | _ => none }
def checkWholeRow : OpenClaim := { program := "ytafclmbecmgbnaagreatdoor", sum := "7bda47af4b9acbc7b28a42472e2fae2a7668264a7759ee8f5523b21059d8e973", func := "dynamo/dynamolaw11.CheckWhole", spec := "checkWhole", inPlace := ["internal/reflectlite.TypeOf", "slices.overlaps[int]", "slices.overlaps[string]", "internal/reflectlite.ValueOf", "(internal/reflectlite.Value).Type", "(internal/reflectlite.Value).IsNil", "(internal/reflectlite.Value).Elem", "(internal/reflectlite.Value).Set"], unfollowed := true, recurses := true, named := ["dynamo/crc.halved", "errors.errorType"], apart := false, laid := [("dynamo/crc.halved", laid_dynamo_crc_halved), ("errors.errorType", laid_errors_errorType)] }
def CheckWholeSaid : Prop := checkWholeRow.holds Tryz.pinned (OpenSpec.ofChange checkWholeSpec)

/-- ITS FALSE NEIGHBOUR: 'it returns false'. Refute it at one input. -/
def checkWholeWrong : ChangeSpec := { name := "checkWhole", fn := fun _ => fun
  | [d1, d2, d3] => { results := [.lit (.bool false)], args := [d1, d2, d3] }
  | _ => none }
def CheckWholeWrongFalsely : Prop := checkWholeRow.holds Tryz.pinned (OpenSpec.ofChange checkWholeWrong)

/-- 'dynamolaw11.CheckWrong': WHATEVER THE INPUT: true; the input reads as it did. -/
def checkWrongSpec : ChangeSpec := { name := "checkWrong", fn := fun _ => fun
  | [d1, d2, d3, d4] => { results := [.lit (.bool true)], args := [d1, d2, d3, d4] }
  | _ => none }
def checkWrongRow : OpenClaim := { program := "ytafclmbecmgbnaagreatdoor", sum := "7bda47af4b9acbc7b28a42472e2fae2a7668264a7759ee8f5523b21059d8e973", func := "dynamo/dynamolaw11.CheckWrong", spec := "checkWrong", inPlace := ["internal/reflectlite.TypeOf", "slices.overlaps[int]", "slices.overlaps[string]", "internal/reflectlite.ValueOf", "(internal/reflectlite.Value).Type", "(internal/reflectlite.Value).IsNil", "(internal/reflectlite.Value).Elem", "(internal/reflectlite.Value).Set"], unfollowed := true, recurses := true, named := ["dynamo/crc.halved", "errors.errorType"], apart := false, laid := [("dynamo/crc.halved", laid_dynamo_crc_halved), ("errors.errorType", laid_errors_errorType)] }
def CheckWrongSaid : Prop := checkWrongRow.holds Tryz.pinned (OpenSpec.ofChange checkWrongSpec)

/-- ITS FALSE NEIGHBOUR: 'it returns false'. Refute it at one input. -/
def checkWrongWrong : ChangeSpec := { name := "checkWrong", fn := fun _ => fun
  | [d1, d2, d3, d4] => { results := [.lit (.bool false)], args := [d1, d2, d3, d4] }
  | _ => none }
def CheckWrongWrongFalsely : Prop := checkWrongRow.holds Tryz.pinned (OpenSpec.ofChange checkWrongWrong)

/-- 'dynamolaw11.CheckParts': WHATEVER THE INPUT: true; the input reads as it did. -/
def checkPartsSpec : ChangeSpec := { name := "checkParts", fn := fun _ => fun
  | [d1, d2] => { results := [.lit (.bool true)], args := [d1, d2] }
  | _ => none }
def checkPartsRow : OpenClaim := { program := "ytafclmbecmgbnaagreatdoor", sum := "7bda47af4b9acbc7b28a42472e2fae2a7668264a7759ee8f5523b21059d8e973", func := "dynamo/dynamolaw11.CheckParts", spec := "checkParts", inPlace := ["internal/reflectlite.TypeOf", "slices.overlaps[int]", "slices.overlaps[string]", "internal/reflectlite.ValueOf", "(internal/reflectlite.Value).Type", "(internal/reflectlite.Value).IsNil", "(internal/reflectlite.Value).Elem", "(internal/reflectlite.Value).Set"], unfollowed := true, recurses := true, named := ["dynamo/crc.halved", "errors.errorType"], apart := false, laid := [("dynamo/crc.halved", laid_dynamo_crc_halved), ("errors.errorType", laid_errors_errorType)] }
def CheckPartsSaid : Prop := checkPartsRow.holds Tryz.pinned (OpenSpec.ofChange checkPartsSpec)

/-- ITS FALSE NEIGHBOUR: 'it returns false'. Refute it at one input. -/
def checkPartsWrong : ChangeSpec := { name := "checkParts", fn := fun _ => fun
  | [d1, d2] => { results := [.lit (.bool false)], args := [d1, d2] }
  | _ => none }
def CheckPartsWrongFalsely : Prop := checkPartsRow.holds Tryz.pinned (OpenSpec.ofChange checkPartsWrong)

/-- 'dynamolaw11.CheckNone': WHATEVER THE INPUT: true; the input reads as it did. -/
def checkNoneSpec : ChangeSpec := { name := "checkNone", fn := fun _ => fun
  | [d1, d2] => { results := [.lit (.bool true)], args := [d1, d2] }
  | _ => none }
def checkNoneRow : OpenClaim := { program := "ytafclmbecmgbnaagreatdoor", sum := "7bda47af4b9acbc7b28a42472e2fae2a7668264a7759ee8f5523b21059d8e973", func := "dynamo/dynamolaw11.CheckNone", spec := "checkNone", inPlace := ["internal/reflectlite.TypeOf", "slices.overlaps[int]", "slices.overlaps[string]", "internal/reflectlite.ValueOf", "(internal/reflectlite.Value).Type", "(internal/reflectlite.Value).IsNil", "(internal/reflectlite.Value).Elem", "(internal/reflectlite.Value).Set"], unfollowed := true, recurses := true, named := ["dynamo/crc.halved", "errors.errorType"], apart := false, laid := [("dynamo/crc.halved", laid_dynamo_crc_halved), ("errors.errorType", laid_errors_errorType)] }
def CheckNoneSaid : Prop := checkNoneRow.holds Tryz.pinned (OpenSpec.ofChange checkNoneSpec)

/-- ITS FALSE NEIGHBOUR: 'it returns false'. Refute it at one input. -/
def checkNoneWrong : ChangeSpec := { name := "checkNone", fn := fun _ => fun
  | [d1, d2] => { results := [.lit (.bool false)], args := [d1, d2] }
  | _ => none }
def CheckNoneWrongFalsely : Prop := checkNoneRow.holds Tryz.pinned (OpenSpec.ofChange checkNoneWrong)

/-- 'dynamolaw13.LedLasts': WHATEVER THE INPUT: true; the input reads as it did. -/
def ledLastsSpec : ChangeSpec := { name := "ledLasts", fn := fun _ => fun
  | [d1, d2] => { results := [.lit (.bool true)], args := [d1, d2] }
  | _ => none }
def ledLastsRow : OpenClaim := { program := "ytafclmbecmgbnaagreatdoor", sum := "7bda47af4b9acbc7b28a42472e2fae2a7668264a7759ee8f5523b21059d8e973", func := "dynamo/dynamolaw13.LedLasts", spec := "ledLasts", inPlace := ["internal/reflectlite.TypeOf", "slices.overlaps[int]", "slices.overlaps[string]", "internal/reflectlite.ValueOf", "(internal/reflectlite.Value).Type", "(internal/reflectlite.Value).IsNil", "(internal/reflectlite.Value).Elem", "(internal/reflectlite.Value).Set"], unfollowed := true, recurses := true, named := ["dynamo/crc.halved", "errors.errorType"], apart := false, laid := [("dynamo/crc.halved", laid_dynamo_crc_halved), ("errors.errorType", laid_errors_errorType)] }
def LedLastsSaid : Prop := ledLastsRow.holds Tryz.pinned (OpenSpec.ofChange ledLastsSpec)

/-- ITS FALSE NEIGHBOUR: 'it returns false'. Refute it at one input. -/
def ledLastsWrong : ChangeSpec := { name := "ledLasts", fn := fun _ => fun
  | [d1, d2] => { results := [.lit (.bool false)], args := [d1, d2] }
  | _ => none }
def LedLastsWrongFalsely : Prop := ledLastsRow.holds Tryz.pinned (OpenSpec.ofChange ledLastsWrong)

/-- 'dynamolaw13.LedTorn': WHATEVER THE INPUT: true; the input reads as it did. -/
def ledTornSpec : ChangeSpec := { name := "ledTorn", fn := fun _ => fun
  | [d1, d2, d3, d4] => { results := [.lit (.bool true)], args := [d1, d2, d3, d4] }
  | _ => none }
def ledTornRow : OpenClaim := { program := "ytafclmbecmgbnaagreatdoor", sum := "7bda47af4b9acbc7b28a42472e2fae2a7668264a7759ee8f5523b21059d8e973", func := "dynamo/dynamolaw13.LedTorn", spec := "ledTorn", inPlace := ["internal/reflectlite.TypeOf", "slices.overlaps[int]", "slices.overlaps[string]", "internal/reflectlite.ValueOf", "(internal/reflectlite.Value).Type", "(internal/reflectlite.Value).IsNil", "(internal/reflectlite.Value).Elem", "(internal/reflectlite.Value).Set"], unfollowed := true, recurses := true, named := ["dynamo/crc.halved", "errors.errorType"], apart := false, laid := [("dynamo/crc.halved", laid_dynamo_crc_halved), ("errors.errorType", laid_errors_errorType)] }
def LedTornSaid : Prop := ledTornRow.holds Tryz.pinned (OpenSpec.ofChange ledTornSpec)

/-- ITS FALSE NEIGHBOUR: 'it returns false'. Refute it at one input. -/
def ledTornWrong : ChangeSpec := { name := "ledTorn", fn := fun _ => fun
  | [d1, d2, d3, d4] => { results := [.lit (.bool false)], args := [d1, d2, d3, d4] }
  | _ => none }
def LedTornWrongFalsely : Prop := ledTornRow.holds Tryz.pinned (OpenSpec.ofChange ledTornWrong)

/-- 'dynamolaw13.LedRefuses': WHATEVER THE INPUT: true; the input reads as it did. -/
def ledRefusesSpec : ChangeSpec := { name := "ledRefuses", fn := fun _ => fun
  | [d1, d2, d3] => { results := [.lit (.bool true)], args := [d1, d2, d3] }
  | _ => none }
def ledRefusesRow : OpenClaim := { program := "ytafclmbecmgbnaagreatdoor", sum := "7bda47af4b9acbc7b28a42472e2fae2a7668264a7759ee8f5523b21059d8e973", func := "dynamo/dynamolaw13.LedRefuses", spec := "ledRefuses", inPlace := ["internal/reflectlite.TypeOf", "slices.overlaps[int]", "slices.overlaps[string]", "internal/reflectlite.ValueOf", "(internal/reflectlite.Value).Type", "(internal/reflectlite.Value).IsNil", "(internal/reflectlite.Value).Elem", "(internal/reflectlite.Value).Set"], unfollowed := true, recurses := true, named := ["dynamo/crc.halved", "errors.errorType"], apart := false, laid := [("dynamo/crc.halved", laid_dynamo_crc_halved), ("errors.errorType", laid_errors_errorType)] }
def LedRefusesSaid : Prop := ledRefusesRow.holds Tryz.pinned (OpenSpec.ofChange ledRefusesSpec)

/-- ITS FALSE NEIGHBOUR: 'it returns false'. Refute it at one input. -/
def ledRefusesWrong : ChangeSpec := { name := "ledRefuses", fn := fun _ => fun
  | [d1, d2, d3] => { results := [.lit (.bool false)], args := [d1, d2, d3] }
  | _ => none }
def LedRefusesWrongFalsely : Prop := ledRefusesRow.holds Tryz.pinned (OpenSpec.ofChange ledRefusesWrong)

/-- 'dynamolaw13.LedOnes': WHATEVER THE INPUT: true; the input reads as it did. -/
def ledOnesSpec : ChangeSpec := { name := "ledOnes", fn := fun _ => fun
  | [d] => { results := [.lit (.bool true)], args := [d] }
  | _ => none }
def ledOnesRow : OpenClaim := { program := "ytafclmbecmgbnaagreatdoor", sum := "7bda47af4b9acbc7b28a42472e2fae2a7668264a7759ee8f5523b21059d8e973", func := "dynamo/dynamolaw13.LedOnes", spec := "ledOnes", inPlace := ["internal/reflectlite.TypeOf", "slices.overlaps[int]", "slices.overlaps[string]", "internal/reflectlite.ValueOf", "(internal/reflectlite.Value).Type", "(internal/reflectlite.Value).IsNil", "(internal/reflectlite.Value).Elem", "(internal/reflectlite.Value).Set"], unfollowed := true, recurses := true, named := ["dynamo/crc.halved", "errors.errorType"], apart := false, laid := [("dynamo/crc.halved", laid_dynamo_crc_halved), ("errors.errorType", laid_errors_errorType)] }
def LedOnesSaid : Prop := ledOnesRow.holds Tryz.pinned (OpenSpec.ofChange ledOnesSpec)

/-- ITS FALSE NEIGHBOUR: 'it returns false'. Refute it at one input. -/
def ledOnesWrong : ChangeSpec := { name := "ledOnes", fn := fun _ => fun
  | [d] => { results := [.lit (.bool false)], args := [d] }
  | _ => none }
def LedOnesWrongFalsely : Prop := ledOnesRow.holds Tryz.pinned (OpenSpec.ofChange ledOnesWrong)

/-- 'dynamolaw13.LedAgain': WHATEVER THE INPUT: true; the input reads as it did. -/
def ledAgainSpec : ChangeSpec := { name := "ledAgain", fn := fun _ => fun
  | [d] => { results := [.lit (.bool true)], args := [d] }
  | _ => none }
def ledAgainRow : OpenClaim := { program := "ytafclmbecmgbnaagreatdoor", sum := "7bda47af4b9acbc7b28a42472e2fae2a7668264a7759ee8f5523b21059d8e973", func := "dynamo/dynamolaw13.LedAgain", spec := "ledAgain", inPlace := ["internal/reflectlite.TypeOf", "slices.overlaps[int]", "slices.overlaps[string]", "internal/reflectlite.ValueOf", "(internal/reflectlite.Value).Type", "(internal/reflectlite.Value).IsNil", "(internal/reflectlite.Value).Elem", "(internal/reflectlite.Value).Set"], unfollowed := true, recurses := true, named := ["dynamo/crc.halved", "errors.errorType"], apart := false, laid := [("dynamo/crc.halved", laid_dynamo_crc_halved), ("errors.errorType", laid_errors_errorType)] }
def LedAgainSaid : Prop := ledAgainRow.holds Tryz.pinned (OpenSpec.ofChange ledAgainSpec)

/-- ITS FALSE NEIGHBOUR: 'it returns false'. Refute it at one input. -/
def ledAgainWrong : ChangeSpec := { name := "ledAgain", fn := fun _ => fun
  | [d] => { results := [.lit (.bool false)], args := [d] }
  | _ => none }
def LedAgainWrongFalsely : Prop := ledAgainRow.holds Tryz.pinned (OpenSpec.ofChange ledAgainWrong)

/-- 'dynamolaw13.LedNone': WHATEVER THE INPUT: true; the input reads as it did. -/
def ledNoneSpec : ChangeSpec := { name := "ledNone", fn := fun _ => fun
  | [d1, d2] => { results := [.lit (.bool true)], args := [d1, d2] }
  | _ => none }
def ledNoneRow : OpenClaim := { program := "ytafclmbecmgbnaagreatdoor", sum := "7bda47af4b9acbc7b28a42472e2fae2a7668264a7759ee8f5523b21059d8e973", func := "dynamo/dynamolaw13.LedNone", spec := "ledNone", inPlace := ["internal/reflectlite.TypeOf", "slices.overlaps[int]", "slices.overlaps[string]", "internal/reflectlite.ValueOf", "(internal/reflectlite.Value).Type", "(internal/reflectlite.Value).IsNil", "(internal/reflectlite.Value).Elem", "(internal/reflectlite.Value).Set"], unfollowed := true, recurses := true, named := ["dynamo/crc.halved", "errors.errorType"], apart := false, laid := [("dynamo/crc.halved", laid_dynamo_crc_halved), ("errors.errorType", laid_errors_errorType)] }
def LedNoneSaid : Prop := ledNoneRow.holds Tryz.pinned (OpenSpec.ofChange ledNoneSpec)

/-- ITS FALSE NEIGHBOUR: 'it returns false'. Refute it at one input. -/
def ledNoneWrong : ChangeSpec := { name := "ledNone", fn := fun _ => fun
  | [d1, d2] => { results := [.lit (.bool false)], args := [d1, d2] }
  | _ => none }
def LedNoneWrongFalsely : Prop := ledNoneRow.holds Tryz.pinned (OpenSpec.ofChange ledNoneWrong)

/-- 'dynamotop.WholePages': WHATEVER THE INPUT: true; the input reads as it did. -/
def wholePagesSpec : ChangeSpec := { name := "wholePages", fn := fun _ => fun
  | [d] => { results := [.lit (.bool true)], args := [d] }
  | _ => none }
def wholePagesRow : OpenClaim := { program := "ytafclmbecmgbnaagreatdoor", sum := "7bda47af4b9acbc7b28a42472e2fae2a7668264a7759ee8f5523b21059d8e973", func := "dynamo/dynamotop.WholePages", spec := "wholePages", inPlace := ["internal/reflectlite.TypeOf", "internal/reflectlite.ValueOf", "(internal/reflectlite.Value).Type", "(internal/reflectlite.Value).IsNil", "(internal/reflectlite.Value).Elem", "(internal/reflectlite.Value).Set", "slices.overlaps[int]", "slices.overlaps[string]"], unfollowed := true, recurses := true, named := ["dynamo/crc.halved", "errors.errorType"], apart := false, laid := [("dynamo/crc.halved", laid_dynamo_crc_halved), ("errors.errorType", laid_errors_errorType)] }
def WholePagesSaid : Prop := wholePagesRow.holds Tryz.pinned (OpenSpec.ofChange wholePagesSpec)

/-- ITS FALSE NEIGHBOUR: 'it returns false'. Refute it at one input. -/
def wholePagesWrong : ChangeSpec := { name := "wholePages", fn := fun _ => fun
  | [d] => { results := [.lit (.bool false)], args := [d] }
  | _ => none }
def WholePagesWrongFalsely : Prop := wholePagesRow.holds Tryz.pinned (OpenSpec.ofChange wholePagesWrong)

/- THE SECOND FORM. 'bulk': how many values and letters a reading holds, each counted each time it is reached (what is shared counts as often as it is met; a slice's spare places count too). A statement '..UptoSaid' is the law's where the arguments, and the package variables that the reading takes, are together of bulk at most 1048576: NARROWER than '..Said'. Prove '..Said' where nothing that the law and all that it calls make is longer than what came in: it says more and counts as full. Else prove '..UptoSaid'. A law counts once. -/
mutual
def uptoBulk {H : Type} : DataW H → Nat
  | .lit (.string bytes) => bytes.length + 1
  | .lit _ => 1
  | .nil => 1
  | .ptr d => uptoBulk d + 1
  | .slice elems spare => uptoBulkAll elems + uptoBulkAll spare + 1
  | .agg parts => uptoBulkAll parts + 1
  | .iface _ d => uptoBulk d + 1
  | .map entries => uptoBulkEntries entries + 1
  | .held _ => 1
def uptoBulkAll {H : Type} : List (DataW H) → Nat
  | [] => 0
  | d :: r => uptoBulk d + uptoBulkAll r
def uptoBulkEntries {H : Type} : List (Lit × DataW H) → Nat
  | [] => 0
  | x :: r => uptoBulkEntry x + uptoBulkEntries r
def uptoBulkEntry {H : Type} : Lit × DataW H → Nat
  | (.string bytes, d) => bytes.length + uptoBulk d + 1
  | (_, d) => uptoBulk d + 1
 end
def uptoSmall : (H : Type) → List (DataW H) → Bool := fun _ ds => decide (uptoBulkAll ds ≤ 1048576)
def OpenSpec.upto (s : _root_.Go.ChangeSpec) : _root_.Go.OpenSpec := { _root_.Go.OpenSpec.ofChange s with cond := some uptoSmall }

/-- 'dynamolaw11.CheckWhole', WHERE WHAT IT READS IS OF BULK AT MOST 1048576: true; the input reads as it did. -/
def checkWholeUptoRow : OpenClaim := { program := "ytafclmbecmgbnaagreatdoor", sum := "7bda47af4b9acbc7b28a42472e2fae2a7668264a7759ee8f5523b21059d8e973", func := "dynamo/dynamolaw11.CheckWhole", spec := "checkWhole", inPlace := ["internal/reflectlite.TypeOf", "slices.overlaps[int]", "slices.overlaps[string]", "internal/reflectlite.ValueOf", "(internal/reflectlite.Value).Type", "(internal/reflectlite.Value).IsNil", "(internal/reflectlite.Value).Elem", "(internal/reflectlite.Value).Set"], unfollowed := true, recurses := true, named := ["dynamo/crc.halved", "errors.errorType"], apart := false, laid := [("dynamo/crc.halved", laid_dynamo_crc_halved), ("errors.errorType", laid_errors_errorType)], narrowed := true }
def CheckWholeUptoSaid : Prop := checkWholeUptoRow.holds Tryz.pinned (OpenSpec.upto checkWholeSpec)

/-- 'dynamolaw11.CheckWrong', WHERE WHAT IT READS IS OF BULK AT MOST 1048576: true; the input reads as it did. -/
def checkWrongUptoRow : OpenClaim := { program := "ytafclmbecmgbnaagreatdoor", sum := "7bda47af4b9acbc7b28a42472e2fae2a7668264a7759ee8f5523b21059d8e973", func := "dynamo/dynamolaw11.CheckWrong", spec := "checkWrong", inPlace := ["internal/reflectlite.TypeOf", "slices.overlaps[int]", "slices.overlaps[string]", "internal/reflectlite.ValueOf", "(internal/reflectlite.Value).Type", "(internal/reflectlite.Value).IsNil", "(internal/reflectlite.Value).Elem", "(internal/reflectlite.Value).Set"], unfollowed := true, recurses := true, named := ["dynamo/crc.halved", "errors.errorType"], apart := false, laid := [("dynamo/crc.halved", laid_dynamo_crc_halved), ("errors.errorType", laid_errors_errorType)], narrowed := true }
def CheckWrongUptoSaid : Prop := checkWrongUptoRow.holds Tryz.pinned (OpenSpec.upto checkWrongSpec)

/-- 'dynamolaw11.CheckParts', WHERE WHAT IT READS IS OF BULK AT MOST 1048576: true; the input reads as it did. -/
def checkPartsUptoRow : OpenClaim := { program := "ytafclmbecmgbnaagreatdoor", sum := "7bda47af4b9acbc7b28a42472e2fae2a7668264a7759ee8f5523b21059d8e973", func := "dynamo/dynamolaw11.CheckParts", spec := "checkParts", inPlace := ["internal/reflectlite.TypeOf", "slices.overlaps[int]", "slices.overlaps[string]", "internal/reflectlite.ValueOf", "(internal/reflectlite.Value).Type", "(internal/reflectlite.Value).IsNil", "(internal/reflectlite.Value).Elem", "(internal/reflectlite.Value).Set"], unfollowed := true, recurses := true, named := ["dynamo/crc.halved", "errors.errorType"], apart := false, laid := [("dynamo/crc.halved", laid_dynamo_crc_halved), ("errors.errorType", laid_errors_errorType)], narrowed := true }
def CheckPartsUptoSaid : Prop := checkPartsUptoRow.holds Tryz.pinned (OpenSpec.upto checkPartsSpec)

/-- 'dynamolaw11.CheckNone', WHERE WHAT IT READS IS OF BULK AT MOST 1048576: true; the input reads as it did. -/
def checkNoneUptoRow : OpenClaim := { program := "ytafclmbecmgbnaagreatdoor", sum := "7bda47af4b9acbc7b28a42472e2fae2a7668264a7759ee8f5523b21059d8e973", func := "dynamo/dynamolaw11.CheckNone", spec := "checkNone", inPlace := ["internal/reflectlite.TypeOf", "slices.overlaps[int]", "slices.overlaps[string]", "internal/reflectlite.ValueOf", "(internal/reflectlite.Value).Type", "(internal/reflectlite.Value).IsNil", "(internal/reflectlite.Value).Elem", "(internal/reflectlite.Value).Set"], unfollowed := true, recurses := true, named := ["dynamo/crc.halved", "errors.errorType"], apart := false, laid := [("dynamo/crc.halved", laid_dynamo_crc_halved), ("errors.errorType", laid_errors_errorType)], narrowed := true }
def CheckNoneUptoSaid : Prop := checkNoneUptoRow.holds Tryz.pinned (OpenSpec.upto checkNoneSpec)

/-- 'dynamolaw13.LedLasts', WHERE WHAT IT READS IS OF BULK AT MOST 1048576: true; the input reads as it did. -/
def ledLastsUptoRow : OpenClaim := { program := "ytafclmbecmgbnaagreatdoor", sum := "7bda47af4b9acbc7b28a42472e2fae2a7668264a7759ee8f5523b21059d8e973", func := "dynamo/dynamolaw13.LedLasts", spec := "ledLasts", inPlace := ["internal/reflectlite.TypeOf", "slices.overlaps[int]", "slices.overlaps[string]", "internal/reflectlite.ValueOf", "(internal/reflectlite.Value).Type", "(internal/reflectlite.Value).IsNil", "(internal/reflectlite.Value).Elem", "(internal/reflectlite.Value).Set"], unfollowed := true, recurses := true, named := ["dynamo/crc.halved", "errors.errorType"], apart := false, laid := [("dynamo/crc.halved", laid_dynamo_crc_halved), ("errors.errorType", laid_errors_errorType)], narrowed := true }
def LedLastsUptoSaid : Prop := ledLastsUptoRow.holds Tryz.pinned (OpenSpec.upto ledLastsSpec)

/-- 'dynamolaw13.LedTorn', WHERE WHAT IT READS IS OF BULK AT MOST 1048576: true; the input reads as it did. -/
def ledTornUptoRow : OpenClaim := { program := "ytafclmbecmgbnaagreatdoor", sum := "7bda47af4b9acbc7b28a42472e2fae2a7668264a7759ee8f5523b21059d8e973", func := "dynamo/dynamolaw13.LedTorn", spec := "ledTorn", inPlace := ["internal/reflectlite.TypeOf", "slices.overlaps[int]", "slices.overlaps[string]", "internal/reflectlite.ValueOf", "(internal/reflectlite.Value).Type", "(internal/reflectlite.Value).IsNil", "(internal/reflectlite.Value).Elem", "(internal/reflectlite.Value).Set"], unfollowed := true, recurses := true, named := ["dynamo/crc.halved", "errors.errorType"], apart := false, laid := [("dynamo/crc.halved", laid_dynamo_crc_halved), ("errors.errorType", laid_errors_errorType)], narrowed := true }
def LedTornUptoSaid : Prop := ledTornUptoRow.holds Tryz.pinned (OpenSpec.upto ledTornSpec)

/-- 'dynamolaw13.LedRefuses', WHERE WHAT IT READS IS OF BULK AT MOST 1048576: true; the input reads as it did. -/
def ledRefusesUptoRow : OpenClaim := { program := "ytafclmbecmgbnaagreatdoor", sum := "7bda47af4b9acbc7b28a42472e2fae2a7668264a7759ee8f5523b21059d8e973", func := "dynamo/dynamolaw13.LedRefuses", spec := "ledRefuses", inPlace := ["internal/reflectlite.TypeOf", "slices.overlaps[int]", "slices.overlaps[string]", "internal/reflectlite.ValueOf", "(internal/reflectlite.Value).Type", "(internal/reflectlite.Value).IsNil", "(internal/reflectlite.Value).Elem", "(internal/reflectlite.Value).Set"], unfollowed := true, recurses := true, named := ["dynamo/crc.halved", "errors.errorType"], apart := false, laid := [("dynamo/crc.halved", laid_dynamo_crc_halved), ("errors.errorType", laid_errors_errorType)], narrowed := true }
def LedRefusesUptoSaid : Prop := ledRefusesUptoRow.holds Tryz.pinned (OpenSpec.upto ledRefusesSpec)

/-- 'dynamolaw13.LedOnes', WHERE WHAT IT READS IS OF BULK AT MOST 1048576: true; the input reads as it did. -/
def ledOnesUptoRow : OpenClaim := { program := "ytafclmbecmgbnaagreatdoor", sum := "7bda47af4b9acbc7b28a42472e2fae2a7668264a7759ee8f5523b21059d8e973", func := "dynamo/dynamolaw13.LedOnes", spec := "ledOnes", inPlace := ["internal/reflectlite.TypeOf", "slices.overlaps[int]", "slices.overlaps[string]", "internal/reflectlite.ValueOf", "(internal/reflectlite.Value).Type", "(internal/reflectlite.Value).IsNil", "(internal/reflectlite.Value).Elem", "(internal/reflectlite.Value).Set"], unfollowed := true, recurses := true, named := ["dynamo/crc.halved", "errors.errorType"], apart := false, laid := [("dynamo/crc.halved", laid_dynamo_crc_halved), ("errors.errorType", laid_errors_errorType)], narrowed := true }
def LedOnesUptoSaid : Prop := ledOnesUptoRow.holds Tryz.pinned (OpenSpec.upto ledOnesSpec)

/-- 'dynamolaw13.LedAgain', WHERE WHAT IT READS IS OF BULK AT MOST 1048576: true; the input reads as it did. -/
def ledAgainUptoRow : OpenClaim := { program := "ytafclmbecmgbnaagreatdoor", sum := "7bda47af4b9acbc7b28a42472e2fae2a7668264a7759ee8f5523b21059d8e973", func := "dynamo/dynamolaw13.LedAgain", spec := "ledAgain", inPlace := ["internal/reflectlite.TypeOf", "slices.overlaps[int]", "slices.overlaps[string]", "internal/reflectlite.ValueOf", "(internal/reflectlite.Value).Type", "(internal/reflectlite.Value).IsNil", "(internal/reflectlite.Value).Elem", "(internal/reflectlite.Value).Set"], unfollowed := true, recurses := true, named := ["dynamo/crc.halved", "errors.errorType"], apart := false, laid := [("dynamo/crc.halved", laid_dynamo_crc_halved), ("errors.errorType", laid_errors_errorType)], narrowed := true }
def LedAgainUptoSaid : Prop := ledAgainUptoRow.holds Tryz.pinned (OpenSpec.upto ledAgainSpec)

/-- 'dynamolaw13.LedNone', WHERE WHAT IT READS IS OF BULK AT MOST 1048576: true; the input reads as it did. -/
def ledNoneUptoRow : OpenClaim := { program := "ytafclmbecmgbnaagreatdoor", sum := "7bda47af4b9acbc7b28a42472e2fae2a7668264a7759ee8f5523b21059d8e973", func := "dynamo/dynamolaw13.LedNone", spec := "ledNone", inPlace := ["internal/reflectlite.TypeOf", "slices.overlaps[int]", "slices.overlaps[string]", "internal/reflectlite.ValueOf", "(internal/reflectlite.Value).Type", "(internal/reflectlite.Value).IsNil", "(internal/reflectlite.Value).Elem", "(internal/reflectlite.Value).Set"], unfollowed := true, recurses := true, named := ["dynamo/crc.halved", "errors.errorType"], apart := false, laid := [("dynamo/crc.halved", laid_dynamo_crc_halved), ("errors.errorType", laid_errors_errorType)], narrowed := true }
def LedNoneUptoSaid : Prop := ledNoneUptoRow.holds Tryz.pinned (OpenSpec.upto ledNoneSpec)

/-- 'dynamotop.WholePages', WHERE WHAT IT READS IS OF BULK AT MOST 1048576: true; the input reads as it did. -/
def wholePagesUptoRow : OpenClaim := { program := "ytafclmbecmgbnaagreatdoor", sum := "7bda47af4b9acbc7b28a42472e2fae2a7668264a7759ee8f5523b21059d8e973", func := "dynamo/dynamotop.WholePages", spec := "wholePages", inPlace := ["internal/reflectlite.TypeOf", "internal/reflectlite.ValueOf", "(internal/reflectlite.Value).Type", "(internal/reflectlite.Value).IsNil", "(internal/reflectlite.Value).Elem", "(internal/reflectlite.Value).Set", "slices.overlaps[int]", "slices.overlaps[string]"], unfollowed := true, recurses := true, named := ["dynamo/crc.halved", "errors.errorType"], apart := false, laid := [("dynamo/crc.halved", laid_dynamo_crc_halved), ("errors.errorType", laid_errors_errorType)], narrowed := true }
def WholePagesUptoSaid : Prop := wholePagesUptoRow.holds Tryz.pinned (OpenSpec.upto wholePagesSpec)

end Rows
end Go.Proofs.YtafclmbecmgbnaaGreatDoor
