/-
  NARROWER THAN 'FOR EVERY INPUT', by the rows' own cells (each row's printed sentence says how): TreeKeeps: laid · TreeOrder: laid · TreeFull: laid · CheckWhole: laid · CheckWrong: laid · CheckParts: laid · CheckNone: laid.
  DERIVED. THE GIVEN ROWS OF THIS SEAT. 7 by the template 'for every input the law returns true; each argument reads behind the call as it read before'; 0 by the template 'total and deterministic' (their statements: YticbgbngookmnaaGreatDoorTotals.lean).
  GIVEN WITH THE SEED: the statements are not yours to turn. If you find one false, say at which input.
  Laid BY PROGRAM, IN A SANDBOX (cutbox-rows.mjs): the forced cells as the released guide's own fill.sh prints them over the translation 59d56e662d929cc4… (all of the seat's roots in one cut). By AI agents, Wed Nov 11 2026. No macro, syntax, notation, axiom, sorry.
-/
import Derived.Test.YticbgbngookmnaaGreatDoorChecked
import GoSem.Claim
import GoSem.ClaimJoined
import GoSem.ClaimMapViews
import Derived.JoinedTies
import Derived.KernelRfl
namespace Go.Proofs.YticbgbngookmnaaGreatDoor
/- THE CELL 'sum', in the pinned program and in every row, IS THE sha256 OF THE DUMP (.gsa) THAT YticbgbngookmnaaGreatDoorProg.lean LOADS. Nothing in Lean hashes anything: it is a label: what it is worth is what the hold of that sum in a sandbox is worth. -/
noncomputable def Tryz.pinned : Pinned := { name := "yticbgbngookmnaagreatdoor", sum := "59d56e662d929cc42158663aea65b050f0b019aa12930261d62b5d5a39855586", checked := Tryz.checked }
namespace Rows
def none {H : Type} : Left H := { results := [], args := [] }

/- WHAT THE LISTED PACKAGE-LEVEL VARIABLES READ AS WHEN THE CALL BEGINS. Each datum BY PROGRAM (the guide's laid-datum.mjs) off the statement by which the dump's own 'gosem.cut.vars' lays the variable. In a bare row this is a premise. The card (YticbgbngookmnaaGreatDoorCards.lean) ties it to the program's text. -/
def laid_dynamo_crc_halved {H : Type} : DataW H := .agg [.lit (.int .u32 0), .lit (.int .u32 498536548), .lit (.int .u32 997073096), .lit (.int .u32 651767980), .lit (.int .u32 1994146192), .lit (.int .u32 1802195444), .lit (.int .u32 1303535960), .lit (.int .u32 1342533948), .lit (.int .u32 3988292384), .lit (.int .u32 4027552580), .lit (.int .u32 3604390888), .lit (.int .u32 3412177804), .lit (.int .u32 2607071920), .lit (.int .u32 2262029012), .lit (.int .u32 2685067896), .lit (.int .u32 3183342108)]
def laid_errors_errorType {H : Type} : DataW H := .iface "internal/reflectlite.rtype" (.agg [.ptr (.lit (.string [101, 114, 114, 111, 114]))])

/-- 'dynamolaw10.TreeKeeps': WHATEVER THE INPUT: true; the input reads as it did. -/
def treeKeepsSpec : ChangeSpec := { name := "treeKeeps", fn := fun _ => fun
  | [d1, d2, d3, d4] => { results := [.lit (.bool true)], args := [d1, d2, d3, d4] }
  | _ => none }
def treeKeepsRow : OpenClaim := { program := "yticbgbngookmnaagreatdoor", sum := "59d56e662d929cc42158663aea65b050f0b019aa12930261d62b5d5a39855586", func := "dynamo/dynamolaw10.TreeKeeps", spec := "treeKeeps", inPlace := ["internal/reflectlite.TypeOf", "slices.overlaps[int]", "slices.overlaps[string]", "internal/reflectlite.ValueOf", "(internal/reflectlite.Value).Type", "(internal/reflectlite.Value).IsNil", "(internal/reflectlite.Value).Elem", "(internal/reflectlite.Value).Set"], unfollowed := true, recurses := true, named := ["dynamo/crc.halved", "errors.errorType"], apart := false, laid := [("dynamo/crc.halved", laid_dynamo_crc_halved), ("errors.errorType", laid_errors_errorType)] }
def TreeKeepsSaid : Prop := treeKeepsRow.holds Tryz.pinned (OpenSpec.ofChange treeKeepsSpec)

/-- ITS FALSE NEIGHBOUR: 'it returns false'. Refute it at one input. -/
def treeKeepsWrong : ChangeSpec := { name := "treeKeeps", fn := fun _ => fun
  | [d1, d2, d3, d4] => { results := [.lit (.bool false)], args := [d1, d2, d3, d4] }
  | _ => none }
def TreeKeepsWrongFalsely : Prop := treeKeepsRow.holds Tryz.pinned (OpenSpec.ofChange treeKeepsWrong)

/-- 'dynamolaw10.TreeOrder': WHATEVER THE INPUT: true; the input reads as it did. -/
def treeOrderSpec : ChangeSpec := { name := "treeOrder", fn := fun _ => fun
  | [d] => { results := [.lit (.bool true)], args := [d] }
  | _ => none }
def treeOrderRow : OpenClaim := { program := "yticbgbngookmnaagreatdoor", sum := "59d56e662d929cc42158663aea65b050f0b019aa12930261d62b5d5a39855586", func := "dynamo/dynamolaw10.TreeOrder", spec := "treeOrder", inPlace := ["internal/reflectlite.TypeOf", "slices.overlaps[int]", "slices.overlaps[string]", "internal/reflectlite.ValueOf", "(internal/reflectlite.Value).Type", "(internal/reflectlite.Value).IsNil", "(internal/reflectlite.Value).Elem", "(internal/reflectlite.Value).Set"], unfollowed := true, recurses := true, named := ["dynamo/crc.halved", "errors.errorType"], apart := false, laid := [("dynamo/crc.halved", laid_dynamo_crc_halved), ("errors.errorType", laid_errors_errorType)] }
def TreeOrderSaid : Prop := treeOrderRow.holds Tryz.pinned (OpenSpec.ofChange treeOrderSpec)

/-- ITS FALSE NEIGHBOUR: 'it returns false'. Refute it at one input. -/
def treeOrderWrong : ChangeSpec := { name := "treeOrder", fn := fun _ => fun
  | [d] => { results := [.lit (.bool false)], args := [d] }
  | _ => none }
def TreeOrderWrongFalsely : Prop := treeOrderRow.holds Tryz.pinned (OpenSpec.ofChange treeOrderWrong)

/-- 'dynamolaw10.TreeFull': WHATEVER THE INPUT: true; the input reads as it did. -/
def treeFullSpec : ChangeSpec := { name := "treeFull", fn := fun _ => fun
  | [d1, d2] => { results := [.lit (.bool true)], args := [d1, d2] }
  | _ => none }
def treeFullRow : OpenClaim := { program := "yticbgbngookmnaagreatdoor", sum := "59d56e662d929cc42158663aea65b050f0b019aa12930261d62b5d5a39855586", func := "dynamo/dynamolaw10.TreeFull", spec := "treeFull", inPlace := ["internal/reflectlite.TypeOf", "slices.overlaps[int]", "slices.overlaps[string]", "internal/reflectlite.ValueOf", "(internal/reflectlite.Value).Type", "(internal/reflectlite.Value).IsNil", "(internal/reflectlite.Value).Elem", "(internal/reflectlite.Value).Set"], unfollowed := true, recurses := true, named := ["dynamo/crc.halved", "errors.errorType"], apart := false, laid := [("dynamo/crc.halved", laid_dynamo_crc_halved), ("errors.errorType", laid_errors_errorType)] }
def TreeFullSaid : Prop := treeFullRow.holds Tryz.pinned (OpenSpec.ofChange treeFullSpec)

/-- ITS FALSE NEIGHBOUR: 'it returns false'. Refute it at one input. -/
def treeFullWrong : ChangeSpec := { name := "treeFull", fn := fun _ => fun
  | [d1, d2] => { results := [.lit (.bool false)], args := [d1, d2] }
  | _ => none }
def TreeFullWrongFalsely : Prop := treeFullRow.holds Tryz.pinned (OpenSpec.ofChange treeFullWrong)

/-- 'dynamolaw11.CheckWhole': WHATEVER THE INPUT: true; the input reads as it did. -/
def checkWholeSpec : ChangeSpec := { name := "checkWhole", fn := fun _ => fun
  | [d1, d2, d3] => { results := [.lit (.bool true)], args := [d1, d2, d3] }
  | _ => none }
def checkWholeRow : OpenClaim := { program := "yticbgbngookmnaagreatdoor", sum := "59d56e662d929cc42158663aea65b050f0b019aa12930261d62b5d5a39855586", func := "dynamo/dynamolaw11.CheckWhole", spec := "checkWhole", inPlace := ["internal/reflectlite.TypeOf", "slices.overlaps[int]", "slices.overlaps[string]", "internal/reflectlite.ValueOf", "(internal/reflectlite.Value).Type", "(internal/reflectlite.Value).IsNil", "(internal/reflectlite.Value).Elem", "(internal/reflectlite.Value).Set"], unfollowed := true, recurses := true, named := ["dynamo/crc.halved", "errors.errorType"], apart := false, laid := [("dynamo/crc.halved", laid_dynamo_crc_halved), ("errors.errorType", laid_errors_errorType)] }
def CheckWholeSaid : Prop := checkWholeRow.holds Tryz.pinned (OpenSpec.ofChange checkWholeSpec)

/-- ITS FALSE NEIGHBOUR: 'it returns false'. Refute it at one input. -/
def checkWholeWrong : ChangeSpec := { name := "checkWhole", fn := fun _ => fun
  | [d1, d2, d3] => { results := [.lit (.bool false)], args := [d1, d2, d3] }
  | _ => none }
def CheckWholeWrongFalsely : Prop := checkWholeRow.holds Tryz.pinned (OpenSpec.ofChange checkWholeWrong)

/-- 'dynamolaw11.CheckWrong': WHATEVER THE INPUT: true; the input reads as it did. -/
def checkWrongSpec : ChangeSpec := { name := "checkWrong", fn := fun _ => fun
  | [d1, d2, d3, d4] => { results := [.lit (.bool true)], args := [d1, d2, d3, d4] }
  | _ => none }
def checkWrongRow : OpenClaim := { program := "yticbgbngookmnaagreatdoor", sum := "59d56e662d929cc42158663aea65b050f0b019aa12930261d62b5d5a39855586", func := "dynamo/dynamolaw11.CheckWrong", spec := "checkWrong", inPlace := ["internal/reflectlite.TypeOf", "slices.overlaps[int]", "slices.overlaps[string]", "internal/reflectlite.ValueOf", "(internal/reflectlite.Value).Type", "(internal/reflectlite.Value).IsNil", "(internal/reflectlite.Value).Elem", "(internal/reflectlite.Value).Set"], unfollowed := true, recurses := true, named := ["dynamo/crc.halved", "errors.errorType"], apart := false, laid := [("dynamo/crc.halved", laid_dynamo_crc_halved), ("errors.errorType", laid_errors_errorType)] }
def CheckWrongSaid : Prop := checkWrongRow.holds Tryz.pinned (OpenSpec.ofChange checkWrongSpec)

/-- ITS FALSE NEIGHBOUR: 'it returns false'. Refute it at one input. -/
def checkWrongWrong : ChangeSpec := { name := "checkWrong", fn := fun _ => fun
  | [d1, d2, d3, d4] => { results := [.lit (.bool false)], args := [d1, d2, d3, d4] }
  | _ => none }
def CheckWrongWrongFalsely : Prop := checkWrongRow.holds Tryz.pinned (OpenSpec.ofChange checkWrongWrong)

/-- 'dynamolaw11.CheckParts': WHATEVER THE INPUT: true; the input reads as it did. -/
def checkPartsSpec : ChangeSpec := { name := "checkParts", fn := fun _ => fun
  | [d1, d2] => { results := [.lit (.bool true)], args := [d1, d2] }
  | _ => none }
def checkPartsRow : OpenClaim := { program := "yticbgbngookmnaagreatdoor", sum := "59d56e662d929cc42158663aea65b050f0b019aa12930261d62b5d5a39855586", func := "dynamo/dynamolaw11.CheckParts", spec := "checkParts", inPlace := ["internal/reflectlite.TypeOf", "slices.overlaps[int]", "slices.overlaps[string]", "internal/reflectlite.ValueOf", "(internal/reflectlite.Value).Type", "(internal/reflectlite.Value).IsNil", "(internal/reflectlite.Value).Elem", "(internal/reflectlite.Value).Set"], unfollowed := true, recurses := true, named := ["dynamo/crc.halved", "errors.errorType"], apart := false, laid := [("dynamo/crc.halved", laid_dynamo_crc_halved), ("errors.errorType", laid_errors_errorType)] }
def CheckPartsSaid : Prop := checkPartsRow.holds Tryz.pinned (OpenSpec.ofChange checkPartsSpec)

/-- ITS FALSE NEIGHBOUR: 'it returns false'. Refute it at one input. -/
def checkPartsWrong : ChangeSpec := { name := "checkParts", fn := fun _ => fun
  | [d1, d2] => { results := [.lit (.bool false)], args := [d1, d2] }
  | _ => none }
def CheckPartsWrongFalsely : Prop := checkPartsRow.holds Tryz.pinned (OpenSpec.ofChange checkPartsWrong)

/-- 'dynamolaw11.CheckNone': WHATEVER THE INPUT: true; the input reads as it did. -/
def checkNoneSpec : ChangeSpec := { name := "checkNone", fn := fun _ => fun
  | [d1, d2] => { results := [.lit (.bool true)], args := [d1, d2] }
  | _ => none }
def checkNoneRow : OpenClaim := { program := "yticbgbngookmnaagreatdoor", sum := "59d56e662d929cc42158663aea65b050f0b019aa12930261d62b5d5a39855586", func := "dynamo/dynamolaw11.CheckNone", spec := "checkNone", inPlace := ["internal/reflectlite.TypeOf", "slices.overlaps[int]", "slices.overlaps[string]", "internal/reflectlite.ValueOf", "(internal/reflectlite.Value).Type", "(internal/reflectlite.Value).IsNil", "(internal/reflectlite.Value).Elem", "(internal/reflectlite.Value).Set"], unfollowed := true, recurses := true, named := ["dynamo/crc.halved", "errors.errorType"], apart := false, laid := [("dynamo/crc.halved", laid_dynamo_crc_halved), ("errors.errorType", laid_errors_errorType)] }
def CheckNoneSaid : Prop := checkNoneRow.holds Tryz.pinned (OpenSpec.ofChange checkNoneSpec)

/-- ITS FALSE NEIGHBOUR: 'it returns false'. Refute it at one input. -/
def checkNoneWrong : ChangeSpec := { name := "checkNone", fn := fun _ => fun
  | [d1, d2] => { results := [.lit (.bool false)], args := [d1, d2] }
  | _ => none }
def CheckNoneWrongFalsely : Prop := checkNoneRow.holds Tryz.pinned (OpenSpec.ofChange checkNoneWrong)

/- THE SECOND FORM. 'bulk': how many values and letters a reading holds, each counted each time it is reached (what is shared counts as often as it is met; a slice's spare places count too). A statement '..UptoSaid' is the law's where the arguments, and the package variables that the reading takes, are together of bulk at most 1048576: NARROWER than '..Said'. Prove '..Said' where nothing that the law and all that it calls make is longer than what came in: it says more and counts as full. Else prove '..UptoSaid'. A law counts once. -/
mutual
def uptoBulk {H : Type} : DataW H → Nat
  | .lit (.string bytes) => bytes.length + 1
  | .lit _ => 1
  | .nil => 1
  | .ptr d => uptoBulk d + 1
  | .slice elems spare => uptoBulkAll elems + uptoBulkAll spare + 1
  | .agg parts => uptoBulkAll parts + 1
  | .iface _ d => uptoBulk d + 1
  | .map entries => uptoBulkEntries entries + 1
  | .held _ => 1
def uptoBulkAll {H : Type} : List (DataW H) → Nat
  | [] => 0
  | d :: r => uptoBulk d + uptoBulkAll r
def uptoBulkEntries {H : Type} : List (Lit × DataW H) → Nat
  | [] => 0
  | x :: r => uptoBulkEntry x + uptoBulkEntries r
def uptoBulkEntry {H : Type} : Lit × DataW H → Nat
  | (.string bytes, d) => bytes.length + uptoBulk d + 1
  | (_, d) => uptoBulk d + 1
 end
def uptoSmall : (H : Type) → List (DataW H) → Bool := fun _ ds => decide (uptoBulkAll ds ≤ 1048576)
def OpenSpec.upto (s : _root_.Go.ChangeSpec) : _root_.Go.OpenSpec := { _root_.Go.OpenSpec.ofChange s with cond := some uptoSmall }

/-- 'dynamolaw10.TreeKeeps', WHERE WHAT IT READS IS OF BULK AT MOST 1048576: true; the input reads as it did. -/
def treeKeepsUptoRow : OpenClaim := { program := "yticbgbngookmnaagreatdoor", sum := "59d56e662d929cc42158663aea65b050f0b019aa12930261d62b5d5a39855586", func := "dynamo/dynamolaw10.TreeKeeps", spec := "treeKeeps", inPlace := ["internal/reflectlite.TypeOf", "slices.overlaps[int]", "slices.overlaps[string]", "internal/reflectlite.ValueOf", "(internal/reflectlite.Value).Type", "(internal/reflectlite.Value).IsNil", "(internal/reflectlite.Value).Elem", "(internal/reflectlite.Value).Set"], unfollowed := true, recurses := true, named := ["dynamo/crc.halved", "errors.errorType"], apart := false, laid := [("dynamo/crc.halved", laid_dynamo_crc_halved), ("errors.errorType", laid_errors_errorType)], narrowed := true }
def TreeKeepsUptoSaid : Prop := treeKeepsUptoRow.holds Tryz.pinned (OpenSpec.upto treeKeepsSpec)

/-- 'dynamolaw10.TreeOrder', WHERE WHAT IT READS IS OF BULK AT MOST 1048576: true; the input reads as it did. -/
def treeOrderUptoRow : OpenClaim := { program := "yticbgbngookmnaagreatdoor", sum := "59d56e662d929cc42158663aea65b050f0b019aa12930261d62b5d5a39855586", func := "dynamo/dynamolaw10.TreeOrder", spec := "treeOrder", inPlace := ["internal/reflectlite.TypeOf", "slices.overlaps[int]", "slices.overlaps[string]", "internal/reflectlite.ValueOf", "(internal/reflectlite.Value).Type", "(internal/reflectlite.Value).IsNil", "(internal/reflectlite.Value).Elem", "(internal/reflectlite.Value).Set"], unfollowed := true, recurses := true, named := ["dynamo/crc.halved", "errors.errorType"], apart := false, laid := [("dynamo/crc.halved", laid_dynamo_crc_halved), ("errors.errorType", laid_errors_errorType)], narrowed := true }
def TreeOrderUptoSaid : Prop := treeOrderUptoRow.holds Tryz.pinned (OpenSpec.upto treeOrderSpec)

/-- 'dynamolaw10.TreeFull', WHERE WHAT IT READS IS OF BULK AT MOST 1048576: true; the input reads as it did. -/
def treeFullUptoRow : OpenClaim := { program := "yticbgbngookmnaagreatdoor", sum := "59d56e662d929cc42158663aea65b050f0b019aa12930261d62b5d5a39855586", func := "dynamo/dynamolaw10.TreeFull", spec := "treeFull", inPlace := ["internal/reflectlite.TypeOf", "slices.overlaps[int]", "slices.overlaps[string]", "internal/reflectlite.ValueOf", "(internal/reflectlite.Value).Type", "(internal/reflectlite.Value).IsNil", "(internal/reflectlite.Value).Elem", "(internal/reflectlite.Value).Set"], unfollowed := true, recurses := true, named := ["dynamo/crc.halved", "errors.errorType"], apart := false, laid := [("dynamo/crc.halved", laid_dynamo_crc_halved), ("errors.errorType", laid_errors_errorType)], narrowed := true }
def TreeFullUptoSaid : Prop := treeFullUptoRow.holds Tryz.pinned (OpenSpec.upto treeFullSpec)

/-- 'dynamolaw11.CheckWhole', WHERE WHAT IT READS IS OF BULK AT MOST 1048576: true; the input reads as it did. -/
def checkWholeUptoRow : OpenClaim := { program := "yticbgbngookmnaagreatdoor", sum := "59d56e662d929cc42158663aea65b050f0b019aa12930261d62b5d5a39855586", func := "dynamo/dynamolaw11.CheckWhole", spec := "checkWhole", inPlace := ["internal/reflectlite.TypeOf", "slices.overlaps[int]", "slices.overlaps[string]", "internal/reflectlite.ValueOf", "(internal/reflectlite.Value).Type", "(internal/reflectlite.Value).IsNil", "(internal/reflectlite.Value).Elem", "(internal/reflectlite.Value).Set"], unfollowed := true, recurses := true, named := ["dynamo/crc.halved", "errors.errorType"], apart := false, laid := [("dynamo/crc.halved", laid_dynamo_crc_halved), ("errors.errorType", laid_errors_errorType)], narrowed := true }
def CheckWholeUptoSaid : Prop := checkWholeUptoRow.holds Tryz.pinned (OpenSpec.upto checkWholeSpec)

/-- 'dynamolaw11.CheckWrong', WHERE WHAT IT READS IS OF BULK AT MOST 1048576: true; the input reads as it did. -/
def checkWrongUptoRow : OpenClaim := { program := "yticbgbngookmnaagreatdoor", sum := "59d56e662d929cc42158663aea65b050f0b019aa12930261d62b5d5a39855586", func := "dynamo/dynamolaw11.CheckWrong", spec := "checkWrong", inPlace := ["internal/reflectlite.TypeOf", "slices.overlaps[int]", "slices.overlaps[string]", "internal/reflectlite.ValueOf", "(internal/reflectlite.Value).Type", "(internal/reflectlite.Value).IsNil", "(internal/reflectlite.Value).Elem", "(internal/reflectlite.Value).Set"], unfollowed := true, recurses := true, named := ["dynamo/crc.halved", "errors.errorType"], apart := false, laid := [("dynamo/crc.halved", laid_dynamo_crc_halved), ("errors.errorType", laid_errors_errorType)], narrowed := true }
def CheckWrongUptoSaid : Prop := checkWrongUptoRow.holds Tryz.pinned (OpenSpec.upto checkWrongSpec)

/-- 'dynamolaw11.CheckParts', WHERE WHAT IT READS IS OF BULK AT MOST 1048576: true; the input reads as it did. -/
def checkPartsUptoRow : OpenClaim := { program := "yticbgbngookmnaagreatdoor", sum := "59d56e662d929cc42158663aea65b050f0b019aa12930261d62b5d5a39855586", func := "dynamo/dynamolaw11.CheckParts", spec := "checkParts", inPlace := ["internal/reflectlite.TypeOf", "slices.overlaps[int]", "slices.overlaps[string]", "internal/reflectlite.ValueOf", "(internal/reflectlite.Value).Type", "(internal/reflectlite.Value).IsNil", "(internal/reflectlite.Value).Elem", "(internal/reflectlite.Value).Set"], unfollowed := true, recurses := true, named := ["dynamo/crc.halved", "errors.errorType"], apart := false, laid := [("dynamo/crc.halved", laid_dynamo_crc_halved), ("errors.errorType", laid_errors_errorType)], narrowed := true }
def CheckPartsUptoSaid : Prop := checkPartsUptoRow.holds Tryz.pinned (OpenSpec.upto checkPartsSpec)

/-- 'dynamolaw11.CheckNone', WHERE WHAT IT READS IS OF BULK AT MOST 1048576: true; the input reads as it did. -/
def checkNoneUptoRow : OpenClaim := { program := "yticbgbngookmnaagreatdoor", sum := "59d56e662d929cc42158663aea65b050f0b019aa12930261d62b5d5a39855586", func := "dynamo/dynamolaw11.CheckNone", spec := "checkNone", inPlace := ["internal/reflectlite.TypeOf", "slices.overlaps[int]", "slices.overlaps[string]", "internal/reflectlite.ValueOf", "(internal/reflectlite.Value).Type", "(internal/reflectlite.Value).IsNil", "(internal/reflectlite.Value).Elem", "(internal/reflectlite.Value).Set"], unfollowed := true, recurses := true, named := ["dynamo/crc.halved", "errors.errorType"], apart := false, laid := [("dynamo/crc.halved", laid_dynamo_crc_halved), ("errors.errorType", laid_errors_errorType)], narrowed := true }
def CheckNoneUptoSaid : Prop := checkNoneUptoRow.holds Tryz.pinned (OpenSpec.upto checkNoneSpec)

end Rows
end Go.Proofs.YticbgbngookmnaaGreatDoor
