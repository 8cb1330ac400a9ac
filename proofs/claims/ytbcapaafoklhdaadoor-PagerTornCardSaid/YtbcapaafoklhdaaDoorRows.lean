/-
  NARROWER THAN 'FOR EVERY INPUT', by the rows' own cells (each row's printed sentence says how): PagerPlays: laid · PagerTorn: laid · PagerRefuses: laid · PagerFills: laid · PagerAgain: laid.
  DERIVED. THE GIVEN ROWS OF THIS SEAT. 5 by the template 'for every input the law returns true; each argument reads behind the call as it read before'; 0 by the template 'total and deterministic' (their statements: YtbcapaafoklhdaaDoorTotals.lean).
  GIVEN WITH THE SEED: the statements are not yours to turn. If you find one false, say at which input.
  Laid BY PROGRAM, IN A SANDBOX (cutbox-rows.mjs): the forced cells as the released guide's own fill.sh prints them over the translation 226bdb0b23dddd81… (all of the seat's roots in one cut). By AI agents, Wed Nov 11 2026. No macro, syntax, notation, axiom, sorry.
-/
import Derived.Test.YtbcapaafoklhdaaDoorChecked
import GoSem.Claim
import GoSem.ClaimJoined
import GoSem.ClaimMapViews
import Derived.JoinedTies
import Derived.KernelRfl
namespace Go.Proofs.YtbcapaafoklhdaaDoor
/- THE CELL 'sum', in the pinned program and in every row, IS THE sha256 OF THE DUMP (.gsa) THAT YtbcapaafoklhdaaDoorProg.lean LOADS. Nothing in Lean hashes anything: it is a label: what it is worth is what the hold of that sum in a sandbox is worth. -/
noncomputable def Tryd.pinned : Pinned := { name := "ytbcapaafoklhdaadoor", sum := "226bdb0b23dddd811db567fd7c1c393fd4b5ee297693bc12594acca51ac64b38", checked := Tryd.checked }
namespace Rows
def none {H : Type} : Left H := { results := [], args := [] }

/- WHAT THE LISTED PACKAGE-LEVEL VARIABLES READ AS WHEN THE CALL BEGINS. Each datum BY PROGRAM (the guide's laid-datum.mjs) off the statement by which the dump's own 'gosem.cut.vars' lays the variable. In a bare row this is a premise. The card (YtbcapaafoklhdaaDoorCards.lean) ties it to the program's text. -/
def laid_dynamo_crc_halved {H : Type} : DataW H := .agg [.lit (.int .u32 0), .lit (.int .u32 498536548), .lit (.int .u32 997073096), .lit (.int .u32 651767980), .lit (.int .u32 1994146192), .lit (.int .u32 1802195444), .lit (.int .u32 1303535960), .lit (.int .u32 1342533948), .lit (.int .u32 3988292384), .lit (.int .u32 4027552580), .lit (.int .u32 3604390888), .lit (.int .u32 3412177804), .lit (.int .u32 2607071920), .lit (.int .u32 2262029012), .lit (.int .u32 2685067896), .lit (.int .u32 3183342108)]
def laid_errors_errorType {H : Type} : DataW H := .iface "internal/reflectlite.rtype" (.agg [.ptr (.lit (.string [101, 114, 114, 111, 114]))])

/-- 'dynamolaw08.PagerPlays': WHATEVER THE INPUT: true; the input reads as it did. -/
def pagerPlaysSpec : ChangeSpec := { name := "pagerPlays", fn := fun _ => fun
  | [d1, d2] => { results := [.lit (.bool true)], args := [d1, d2] }
  | _ => none }
def pagerPlaysRow : OpenClaim := { program := "ytbcapaafoklhdaadoor", sum := "226bdb0b23dddd811db567fd7c1c393fd4b5ee297693bc12594acca51ac64b38", func := "dynamo/dynamolaw08.PagerPlays", spec := "pagerPlays", inPlace := ["internal/reflectlite.TypeOf", "internal/reflectlite.ValueOf", "(internal/reflectlite.Value).Type", "(internal/reflectlite.Value).IsNil", "(internal/reflectlite.Value).Elem", "(internal/reflectlite.Value).Set"], unfollowed := true, recurses := true, named := ["dynamo/crc.halved", "errors.errorType"], apart := false, laid := [("dynamo/crc.halved", laid_dynamo_crc_halved), ("errors.errorType", laid_errors_errorType)] }
def PagerPlaysSaid : Prop := pagerPlaysRow.holds Tryd.pinned (OpenSpec.ofChange pagerPlaysSpec)

/-- ITS FALSE NEIGHBOUR: 'it returns false'. Refute it at one input. -/
def pagerPlaysWrong : ChangeSpec := { name := "pagerPlays", fn := fun _ => fun
  | [d1, d2] => { results := [.lit (.bool false)], args := [d1, d2] }
  | _ => none }
def PagerPlaysWrongFalsely : Prop := pagerPlaysRow.holds Tryd.pinned (OpenSpec.ofChange pagerPlaysWrong)

/-- 'dynamolaw08.PagerTorn': WHATEVER THE INPUT: true; the input reads as it did. -/
def pagerTornSpec : ChangeSpec := { name := "pagerTorn", fn := fun _ => fun
  | [d1, d2, d3, d4, d5] => { results := [.lit (.bool true)], args := [d1, d2, d3, d4, d5] }
  | _ => none }
def pagerTornRow : OpenClaim := { program := "ytbcapaafoklhdaadoor", sum := "226bdb0b23dddd811db567fd7c1c393fd4b5ee297693bc12594acca51ac64b38", func := "dynamo/dynamolaw08.PagerTorn", spec := "pagerTorn", inPlace := ["internal/reflectlite.TypeOf", "internal/reflectlite.ValueOf", "(internal/reflectlite.Value).Type", "(internal/reflectlite.Value).IsNil", "(internal/reflectlite.Value).Elem", "(internal/reflectlite.Value).Set"], unfollowed := true, recurses := true, named := ["dynamo/crc.halved", "errors.errorType"], apart := false, laid := [("dynamo/crc.halved", laid_dynamo_crc_halved), ("errors.errorType", laid_errors_errorType)] }
def PagerTornSaid : Prop := pagerTornRow.holds Tryd.pinned (OpenSpec.ofChange pagerTornSpec)

/-- ITS FALSE NEIGHBOUR: 'it returns false'. Refute it at one input. -/
def pagerTornWrong : ChangeSpec := { name := "pagerTorn", fn := fun _ => fun
  | [d1, d2, d3, d4, d5] => { results := [.lit (.bool false)], args := [d1, d2, d3, d4, d5] }
  | _ => none }
def PagerTornWrongFalsely : Prop := pagerTornRow.holds Tryd.pinned (OpenSpec.ofChange pagerTornWrong)

/-- 'dynamolaw08.PagerRefuses': WHATEVER THE INPUT: true; the input reads as it did. -/
def pagerRefusesSpec : ChangeSpec := { name := "pagerRefuses", fn := fun _ => fun
  | [d1, d2, d3] => { results := [.lit (.bool true)], args := [d1, d2, d3] }
  | _ => none }
def pagerRefusesRow : OpenClaim := { program := "ytbcapaafoklhdaadoor", sum := "226bdb0b23dddd811db567fd7c1c393fd4b5ee297693bc12594acca51ac64b38", func := "dynamo/dynamolaw08.PagerRefuses", spec := "pagerRefuses", inPlace := ["internal/reflectlite.TypeOf", "internal/reflectlite.ValueOf", "(internal/reflectlite.Value).Type", "(internal/reflectlite.Value).IsNil", "(internal/reflectlite.Value).Elem", "(internal/reflectlite.Value).Set"], unfollowed := true, recurses := true, named := ["dynamo/crc.halved", "errors.errorType"], apart := false, laid := [("dynamo/crc.halved", laid_dynamo_crc_halved), ("errors.errorType", laid_errors_errorType)] }
def PagerRefusesSaid : Prop := pagerRefusesRow.holds Tryd.pinned (OpenSpec.ofChange pagerRefusesSpec)

/-- ITS FALSE NEIGHBOUR: 'it returns false'. Refute it at one input. -/
def pagerRefusesWrong : ChangeSpec := { name := "pagerRefuses", fn := fun _ => fun
  | [d1, d2, d3] => { results := [.lit (.bool false)], args := [d1, d2, d3] }
  | _ => none }
def PagerRefusesWrongFalsely : Prop := pagerRefusesRow.holds Tryd.pinned (OpenSpec.ofChange pagerRefusesWrong)

/-- 'dynamolaw08.PagerFills': WHATEVER THE INPUT: true; the input reads as it did. -/
def pagerFillsSpec : ChangeSpec := { name := "pagerFills", fn := fun _ => fun
  | [d1, d2] => { results := [.lit (.bool true)], args := [d1, d2] }
  | _ => none }
def pagerFillsRow : OpenClaim := { program := "ytbcapaafoklhdaadoor", sum := "226bdb0b23dddd811db567fd7c1c393fd4b5ee297693bc12594acca51ac64b38", func := "dynamo/dynamolaw08.PagerFills", spec := "pagerFills", inPlace := ["internal/reflectlite.TypeOf", "internal/reflectlite.ValueOf", "(internal/reflectlite.Value).Type", "(internal/reflectlite.Value).IsNil", "(internal/reflectlite.Value).Elem", "(internal/reflectlite.Value).Set"], unfollowed := true, recurses := true, named := ["dynamo/crc.halved", "errors.errorType"], apart := false, laid := [("dynamo/crc.halved", laid_dynamo_crc_halved), ("errors.errorType", laid_errors_errorType)] }
def PagerFillsSaid : Prop := pagerFillsRow.holds Tryd.pinned (OpenSpec.ofChange pagerFillsSpec)

/-- ITS FALSE NEIGHBOUR: 'it returns false'. Refute it at one input. -/
def pagerFillsWrong : ChangeSpec := { name := "pagerFills", fn := fun _ => fun
  | [d1, d2] => { results := [.lit (.bool false)], args := [d1, d2] }
  | _ => none }
def PagerFillsWrongFalsely : Prop := pagerFillsRow.holds Tryd.pinned (OpenSpec.ofChange pagerFillsWrong)

/-- 'dynamolaw08.PagerAgain': WHATEVER THE INPUT: true; the input reads as it did. -/
def pagerAgainSpec : ChangeSpec := { name := "pagerAgain", fn := fun _ => fun
  | [d] => { results := [.lit (.bool true)], args := [d] }
  | _ => none }
def pagerAgainRow : OpenClaim := { program := "ytbcapaafoklhdaadoor", sum := "226bdb0b23dddd811db567fd7c1c393fd4b5ee297693bc12594acca51ac64b38", func := "dynamo/dynamolaw08.PagerAgain", spec := "pagerAgain", inPlace := ["internal/reflectlite.TypeOf", "internal/reflectlite.ValueOf", "(internal/reflectlite.Value).Type", "(internal/reflectlite.Value).IsNil", "(internal/reflectlite.Value).Elem", "(internal/reflectlite.Value).Set"], unfollowed := true, recurses := true, named := ["dynamo/crc.halved", "errors.errorType"], apart := false, laid := [("dynamo/crc.halved", laid_dynamo_crc_halved), ("errors.errorType", laid_errors_errorType)] }
def PagerAgainSaid : Prop := pagerAgainRow.holds Tryd.pinned (OpenSpec.ofChange pagerAgainSpec)

/-- ITS FALSE NEIGHBOUR: 'it returns false'. Refute it at one input. -/
def pagerAgainWrong : ChangeSpec := { name := "pagerAgain", fn := fun _ => fun
  | [d] => { results := [.lit (.bool false)], args := [d] }
  | _ => none }
def PagerAgainWrongFalsely : Prop := pagerAgainRow.holds Tryd.pinned (OpenSpec.ofChange pagerAgainWrong)

/- THE SECOND FORM. 'bulk': how many values and letters a reading holds, each counted each time it is reached (what is shared counts as often as it is met; a slice's spare places count too). A statement '..UptoSaid' is the law's where the arguments, and the package variables that the reading takes, are together of bulk at most 1048576: NARROWER than '..Said'. Prove '..Said' where nothing that the law and all that it calls make is longer than what came in: it says more and counts as full. Else prove '..UptoSaid'. A law counts once. -/
mutual
def uptoBulk {H : Type} : DataW H → Nat
  | .lit (.string bytes) => bytes.length + 1
  | .lit _ => 1
  | .nil => 1
  | .ptr d => uptoBulk d + 1
  | .slice elems spare => uptoBulkAll elems + uptoBulkAll spare + 1
  | .agg parts => uptoBulkAll parts + 1
  | .iface _ d => uptoBulk d + 1
  | .map entries => uptoBulkEntries entries + 1
  | .held _ => 1
def uptoBulkAll {H : Type} : List (DataW H) → Nat
  | [] => 0
  | d :: r => uptoBulk d + uptoBulkAll r
def uptoBulkEntries {H : Type} : List (Lit × DataW H) → Nat
  | [] => 0
  | x :: r => uptoBulkEntry x + uptoBulkEntries r
def uptoBulkEntry {H : Type} : Lit × DataW H → Nat
  | (.string bytes, d) => bytes.length + uptoBulk d + 1
  | (_, d) => uptoBulk d + 1
 end
def uptoSmall : (H : Type) → List (DataW H) → Bool := fun _ ds => decide (uptoBulkAll ds ≤ 1048576)
def OpenSpec.upto (s : _root_.Go.ChangeSpec) : _root_.Go.OpenSpec := { _root_.Go.OpenSpec.ofChange s with cond := some uptoSmall }

/-- 'dynamolaw08.PagerPlays', WHERE WHAT IT READS IS OF BULK AT MOST 1048576: true; the input reads as it did. -/
def pagerPlaysUptoRow : OpenClaim := { program := "ytbcapaafoklhdaadoor", sum := "226bdb0b23dddd811db567fd7c1c393fd4b5ee297693bc12594acca51ac64b38", func := "dynamo/dynamolaw08.PagerPlays", spec := "pagerPlays", inPlace := ["internal/reflectlite.TypeOf", "internal/reflectlite.ValueOf", "(internal/reflectlite.Value).Type", "(internal/reflectlite.Value).IsNil", "(internal/reflectlite.Value).Elem", "(internal/reflectlite.Value).Set"], unfollowed := true, recurses := true, named := ["dynamo/crc.halved", "errors.errorType"], apart := false, laid := [("dynamo/crc.halved", laid_dynamo_crc_halved), ("errors.errorType", laid_errors_errorType)], narrowed := true }
def PagerPlaysUptoSaid : Prop := pagerPlaysUptoRow.holds Tryd.pinned (OpenSpec.upto pagerPlaysSpec)

/-- 'dynamolaw08.PagerTorn', WHERE WHAT IT READS IS OF BULK AT MOST 1048576: true; the input reads as it did. -/
def pagerTornUptoRow : OpenClaim := { program := "ytbcapaafoklhdaadoor", sum := "226bdb0b23dddd811db567fd7c1c393fd4b5ee297693bc12594acca51ac64b38", func := "dynamo/dynamolaw08.PagerTorn", spec := "pagerTorn", inPlace := ["internal/reflectlite.TypeOf", "internal/reflectlite.ValueOf", "(internal/reflectlite.Value).Type", "(internal/reflectlite.Value).IsNil", "(internal/reflectlite.Value).Elem", "(internal/reflectlite.Value).Set"], unfollowed := true, recurses := true, named := ["dynamo/crc.halved", "errors.errorType"], apart := false, laid := [("dynamo/crc.halved", laid_dynamo_crc_halved), ("errors.errorType", laid_errors_errorType)], narrowed := true }
def PagerTornUptoSaid : Prop := pagerTornUptoRow.holds Tryd.pinned (OpenSpec.upto pagerTornSpec)

/-- 'dynamolaw08.PagerRefuses', WHERE WHAT IT READS IS OF BULK AT MOST 1048576: true; the input reads as it did. -/
def pagerRefusesUptoRow : OpenClaim := { program := "ytbcapaafoklhdaadoor", sum := "226bdb0b23dddd811db567fd7c1c393fd4b5ee297693bc12594acca51ac64b38", func := "dynamo/dynamolaw08.PagerRefuses", spec := "pagerRefuses", inPlace := ["internal/reflectlite.TypeOf", "internal/reflectlite.ValueOf", "(internal/reflectlite.Value).Type", "(internal/reflectlite.Value).IsNil", "(internal/reflectlite.Value).Elem", "(internal/reflectlite.Value).Set"], unfollowed := true, recurses := true, named := ["dynamo/crc.halved", "errors.errorType"], apart := false, laid := [("dynamo/crc.halved", laid_dynamo_crc_halved), ("errors.errorType", laid_errors_errorType)], narrowed := true }
def PagerRefusesUptoSaid : Prop := pagerRefusesUptoRow.holds Tryd.pinned (OpenSpec.upto pagerRefusesSpec)

/-- 'dynamolaw08.PagerFills', WHERE WHAT IT READS IS OF BULK AT MOST 1048576: true; the input reads as it did. -/
def pagerFillsUptoRow : OpenClaim := { program := "ytbcapaafoklhdaadoor", sum := "226bdb0b23dddd811db567fd7c1c393fd4b5ee297693bc12594acca51ac64b38", func := "dynamo/dynamolaw08.PagerFills", spec := "pagerFills", inPlace := ["internal/reflectlite.TypeOf", "internal/reflectlite.ValueOf", "(internal/reflectlite.Value).Type", "(internal/reflectlite.Value).IsNil", "(internal/reflectlite.Value).Elem", "(internal/reflectlite.Value).Set"], unfollowed := true, recurses := true, named := ["dynamo/crc.halved", "errors.errorType"], apart := false, laid := [("dynamo/crc.halved", laid_dynamo_crc_halved), ("errors.errorType", laid_errors_errorType)], narrowed := true }
def PagerFillsUptoSaid : Prop := pagerFillsUptoRow.holds Tryd.pinned (OpenSpec.upto pagerFillsSpec)

/-- 'dynamolaw08.PagerAgain', WHERE WHAT IT READS IS OF BULK AT MOST 1048576: true; the input reads as it did. -/
def pagerAgainUptoRow : OpenClaim := { program := "ytbcapaafoklhdaadoor", sum := "226bdb0b23dddd811db567fd7c1c393fd4b5ee297693bc12594acca51ac64b38", func := "dynamo/dynamolaw08.PagerAgain", spec := "pagerAgain", inPlace := ["internal/reflectlite.TypeOf", "internal/reflectlite.ValueOf", "(internal/reflectlite.Value).Type", "(internal/reflectlite.Value).IsNil", "(internal/reflectlite.Value).Elem", "(internal/reflectlite.Value).Set"], unfollowed := true, recurses := true, named := ["dynamo/crc.halved", "errors.errorType"], apart := false, laid := [("dynamo/crc.halved", laid_dynamo_crc_halved), ("errors.errorType", laid_errors_errorType)], narrowed := true }
def PagerAgainUptoSaid : Prop := pagerAgainUptoRow.holds Tryd.pinned (OpenSpec.upto pagerAgainSpec)

end Rows
end Go.Proofs.YtbcapaafoklhdaaDoor
