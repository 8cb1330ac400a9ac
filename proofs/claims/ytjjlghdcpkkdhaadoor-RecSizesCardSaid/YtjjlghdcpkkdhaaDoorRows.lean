/-
  NARROWER THAN 'FOR EVERY INPUT', by the rows' own cells (each row's printed sentence says how): RecRobots: laid · RecTasks: laid · RecOnly: laid · RecUnlike: laid · RecSizes: laid.
  DERIVED. THE GIVEN ROWS OF THIS SEAT. 5 by the template 'for every input the law returns true; each argument reads behind the call as it read before'; 0 by the template 'total and deterministic' (their statements: YtjjlghdcpkkdhaaDoorTotals.lean).
  GIVEN WITH THE SEED: the statements are not yours to turn. If you find one false, say at which input.
  Laid BY PROGRAM, IN A SANDBOX (cutbox-rows.mjs): the forced cells as the released guide's own fill.sh prints them over the translation 06b57ab358d4a465… (all of the seat's roots in one cut). By AI agents, Wed Nov 11 2026. No macro, syntax, notation, axiom, sorry.
-/
import Derived.Test.YtjjlghdcpkkdhaaDoorChecked
import GoSem.Claim
import GoSem.ClaimJoined
import GoSem.ClaimMapViews
import Derived.JoinedTies
import Derived.KernelRfl
namespace Go.Proofs.YtjjlghdcpkkdhaaDoor
/- THE CELL 'sum', in the pinned program and in every row, IS THE sha256 OF THE DUMP (.gsa) THAT YtjjlghdcpkkdhaaDoorProg.lean LOADS. Nothing in Lean hashes anything: it is a label: what it is worth is what the hold of that sum in a sandbox is worth. -/
noncomputable def Tryd.pinned : Pinned := { name := "ytjjlghdcpkkdhaadoor", sum := "06b57ab358d4a465399c95b83d6b0fa8dce35d9524a7e41c92f1c18e09df276e", checked := Tryd.checked }
namespace Rows
def none {H : Type} : Left H := { results := [], args := [] }

/- WHAT THE LISTED PACKAGE-LEVEL VARIABLES READ AS WHEN THE CALL BEGINS. Each datum BY PROGRAM (the guide's laid-datum.mjs) off the statement by which the dump's own 'gosem.cut.vars' lays the variable. In a bare row this is a premise. The card (YtjjlghdcpkkdhaaDoorCards.lean) ties it to the program's text. -/
def laid_errors_errorType {H : Type} : DataW H := .iface "internal/reflectlite.rtype" (.agg [.ptr (.lit (.string [101, 114, 114, 111, 114]))])

/-- 'dynamolaw12.RecRobots': WHATEVER THE INPUT: true; the input reads as it did. -/
def recRobotsSpec : ChangeSpec := { name := "recRobots", fn := fun _ => fun
  | [d] => { results := [.lit (.bool true)], args := [d] }
  | _ => none }
def recRobotsRow : OpenClaim := { program := "ytjjlghdcpkkdhaadoor", sum := "06b57ab358d4a465399c95b83d6b0fa8dce35d9524a7e41c92f1c18e09df276e", func := "dynamo/dynamolaw12.RecRobots", spec := "recRobots", inPlace := ["internal/reflectlite.ValueOf", "(internal/reflectlite.Value).Type", "(internal/reflectlite.Value).IsNil", "internal/reflectlite.TypeOf", "(internal/reflectlite.Value).Elem", "(internal/reflectlite.Value).Set"], unfollowed := true, recurses := true, named := ["errors.errorType"], apart := false, laid := [("errors.errorType", laid_errors_errorType)] }
def RecRobotsSaid : Prop := recRobotsRow.holds Tryd.pinned (OpenSpec.ofChange recRobotsSpec)

/-- ITS FALSE NEIGHBOUR: 'it returns false'. Refute it at one input. -/
def recRobotsWrong : ChangeSpec := { name := "recRobots", fn := fun _ => fun
  | [d] => { results := [.lit (.bool false)], args := [d] }
  | _ => none }
def RecRobotsWrongFalsely : Prop := recRobotsRow.holds Tryd.pinned (OpenSpec.ofChange recRobotsWrong)

/-- 'dynamolaw12.RecTasks': WHATEVER THE INPUT: true; the input reads as it did. -/
def recTasksSpec : ChangeSpec := { name := "recTasks", fn := fun _ => fun
  | [d1, d2] => { results := [.lit (.bool true)], args := [d1, d2] }
  | _ => none }
def recTasksRow : OpenClaim := { program := "ytjjlghdcpkkdhaadoor", sum := "06b57ab358d4a465399c95b83d6b0fa8dce35d9524a7e41c92f1c18e09df276e", func := "dynamo/dynamolaw12.RecTasks", spec := "recTasks", inPlace := ["internal/reflectlite.ValueOf", "(internal/reflectlite.Value).Type", "(internal/reflectlite.Value).IsNil", "internal/reflectlite.TypeOf", "(internal/reflectlite.Value).Elem", "(internal/reflectlite.Value).Set"], unfollowed := true, recurses := true, named := ["errors.errorType"], apart := false, laid := [("errors.errorType", laid_errors_errorType)] }
def RecTasksSaid : Prop := recTasksRow.holds Tryd.pinned (OpenSpec.ofChange recTasksSpec)

/-- ITS FALSE NEIGHBOUR: 'it returns false'. Refute it at one input. -/
def recTasksWrong : ChangeSpec := { name := "recTasks", fn := fun _ => fun
  | [d1, d2] => { results := [.lit (.bool false)], args := [d1, d2] }
  | _ => none }
def RecTasksWrongFalsely : Prop := recTasksRow.holds Tryd.pinned (OpenSpec.ofChange recTasksWrong)

/-- 'dynamolaw12.RecOnly': WHATEVER THE INPUT: true; the input reads as it did. -/
def recOnlySpec : ChangeSpec := { name := "recOnly", fn := fun _ => fun
  | [d] => { results := [.lit (.bool true)], args := [d] }
  | _ => none }
def recOnlyRow : OpenClaim := { program := "ytjjlghdcpkkdhaadoor", sum := "06b57ab358d4a465399c95b83d6b0fa8dce35d9524a7e41c92f1c18e09df276e", func := "dynamo/dynamolaw12.RecOnly", spec := "recOnly", inPlace := ["internal/reflectlite.ValueOf", "(internal/reflectlite.Value).Type", "(internal/reflectlite.Value).IsNil", "internal/reflectlite.TypeOf", "(internal/reflectlite.Value).Elem", "(internal/reflectlite.Value).Set"], unfollowed := true, recurses := true, named := ["errors.errorType"], apart := false, laid := [("errors.errorType", laid_errors_errorType)] }
def RecOnlySaid : Prop := recOnlyRow.holds Tryd.pinned (OpenSpec.ofChange recOnlySpec)

/-- ITS FALSE NEIGHBOUR: 'it returns false'. Refute it at one input. -/
def recOnlyWrong : ChangeSpec := { name := "recOnly", fn := fun _ => fun
  | [d] => { results := [.lit (.bool false)], args := [d] }
  | _ => none }
def RecOnlyWrongFalsely : Prop := recOnlyRow.holds Tryd.pinned (OpenSpec.ofChange recOnlyWrong)

/-- 'dynamolaw12.RecUnlike': WHATEVER THE INPUT: true; the input reads as it did. -/
def recUnlikeSpec : ChangeSpec := { name := "recUnlike", fn := fun _ => fun
  | [d1, d2] => { results := [.lit (.bool true)], args := [d1, d2] }
  | _ => none }
def recUnlikeRow : OpenClaim := { program := "ytjjlghdcpkkdhaadoor", sum := "06b57ab358d4a465399c95b83d6b0fa8dce35d9524a7e41c92f1c18e09df276e", func := "dynamo/dynamolaw12.RecUnlike", spec := "recUnlike", inPlace := ["internal/reflectlite.ValueOf", "(internal/reflectlite.Value).Type", "(internal/reflectlite.Value).IsNil", "internal/reflectlite.TypeOf", "(internal/reflectlite.Value).Elem", "(internal/reflectlite.Value).Set"], unfollowed := true, recurses := true, named := ["errors.errorType"], apart := false, laid := [("errors.errorType", laid_errors_errorType)] }
def RecUnlikeSaid : Prop := recUnlikeRow.holds Tryd.pinned (OpenSpec.ofChange recUnlikeSpec)

/-- ITS FALSE NEIGHBOUR: 'it returns false'. Refute it at one input. -/
def recUnlikeWrong : ChangeSpec := { name := "recUnlike", fn := fun _ => fun
  | [d1, d2] => { results := [.lit (.bool false)], args := [d1, d2] }
  | _ => none }
def RecUnlikeWrongFalsely : Prop := recUnlikeRow.holds Tryd.pinned (OpenSpec.ofChange recUnlikeWrong)

/-- 'dynamolaw12.RecSizes': WHATEVER THE INPUT: true; the input reads as it did. -/
def recSizesSpec : ChangeSpec := { name := "recSizes", fn := fun _ => fun
  | [d] => { results := [.lit (.bool true)], args := [d] }
  | _ => none }
def recSizesRow : OpenClaim := { program := "ytjjlghdcpkkdhaadoor", sum := "06b57ab358d4a465399c95b83d6b0fa8dce35d9524a7e41c92f1c18e09df276e", func := "dynamo/dynamolaw12.RecSizes", spec := "recSizes", inPlace := ["internal/reflectlite.ValueOf", "(internal/reflectlite.Value).Type", "(internal/reflectlite.Value).IsNil", "internal/reflectlite.TypeOf", "(internal/reflectlite.Value).Elem", "(internal/reflectlite.Value).Set"], unfollowed := true, recurses := true, named := ["errors.errorType"], apart := false, laid := [("errors.errorType", laid_errors_errorType)] }
def RecSizesSaid : Prop := recSizesRow.holds Tryd.pinned (OpenSpec.ofChange recSizesSpec)

/-- ITS FALSE NEIGHBOUR: 'it returns false'. Refute it at one input. -/
def recSizesWrong : ChangeSpec := { name := "recSizes", fn := fun _ => fun
  | [d] => { results := [.lit (.bool false)], args := [d] }
  | _ => none }
def RecSizesWrongFalsely : Prop := recSizesRow.holds Tryd.pinned (OpenSpec.ofChange recSizesWrong)

/- THE SECOND FORM. 'bulk': how many values and letters a reading holds, each counted each time it is reached (what is shared counts as often as it is met; a slice's spare places count too). A statement '..UptoSaid' is the law's where the arguments, and the package variables that the reading takes, are together of bulk at most 1048576: NARROWER than '..Said'. Prove '..Said' where nothing that the law and all that it calls make is longer than what came in: it says more and counts as full. Else prove '..UptoSaid'. A law counts once. -/
mutual
def uptoBulk {H : Type} : DataW H → Nat
  | .lit (.string bytes) => bytes.length + 1
  | .lit _ => 1
  | .nil => 1
  | .ptr d => uptoBulk d + 1
  | .slice elems spare => uptoBulkAll elems + uptoBulkAll spare + 1
  | .agg parts => uptoBulkAll parts + 1
  | .iface _ d => uptoBulk d + 1
  | .map entries => uptoBulkEntries entries + 1
  | .held _ => 1
def uptoBulkAll {H : Type} : List (DataW H) → Nat
  | [] => 0
  | d :: r => uptoBulk d + uptoBulkAll r
def uptoBulkEntries {H : Type} : List (Lit × DataW H) → Nat
  | [] => 0
  | x :: r => uptoBulkEntry x + uptoBulkEntries r
def uptoBulkEntry {H : Type} : Lit × DataW H → Nat
  | (.string bytes, d) => bytes.length + uptoBulk d + 1
  | (_, d) => uptoBulk d + 1
 end
def uptoSmall : (H : Type) → List (DataW H) → Bool := fun _ ds => decide (uptoBulkAll ds ≤ 1048576)
def OpenSpec.upto (s : _root_.Go.ChangeSpec) : _root_.Go.OpenSpec := { _root_.Go.OpenSpec.ofChange s with cond := some uptoSmall }

/-- 'dynamolaw12.RecRobots', WHERE WHAT IT READS IS OF BULK AT MOST 1048576: true; the input reads as it did. -/
def recRobotsUptoRow : OpenClaim := { program := "ytjjlghdcpkkdhaadoor", sum := "06b57ab358d4a465399c95b83d6b0fa8dce35d9524a7e41c92f1c18e09df276e", func := "dynamo/dynamolaw12.RecRobots", spec := "recRobots", inPlace := ["internal/reflectlite.ValueOf", "(internal/reflectlite.Value).Type", "(internal/reflectlite.Value).IsNil", "internal/reflectlite.TypeOf", "(internal/reflectlite.Value).Elem", "(internal/reflectlite.Value).Set"], unfollowed := true, recurses := true, named := ["errors.errorType"], apart := false, laid := [("errors.errorType", laid_errors_errorType)], narrowed := true }
def RecRobotsUptoSaid : Prop := recRobotsUptoRow.holds Tryd.pinned (OpenSpec.upto recRobotsSpec)

/-- 'dynamolaw12.RecTasks', WHERE WHAT IT READS IS OF BULK AT MOST 1048576: true; the input reads as it did. -/
def recTasksUptoRow : OpenClaim := { program := "ytjjlghdcpkkdhaadoor", sum := "06b57ab358d4a465399c95b83d6b0fa8dce35d9524a7e41c92f1c18e09df276e", func := "dynamo/dynamolaw12.RecTasks", spec := "recTasks", inPlace := ["internal/reflectlite.ValueOf", "(internal/reflectlite.Value).Type", "(internal/reflectlite.Value).IsNil", "internal/reflectlite.TypeOf", "(internal/reflectlite.Value).Elem", "(internal/reflectlite.Value).Set"], unfollowed := true, recurses := true, named := ["errors.errorType"], apart := false, laid := [("errors.errorType", laid_errors_errorType)], narrowed := true }
def RecTasksUptoSaid : Prop := recTasksUptoRow.holds Tryd.pinned (OpenSpec.upto recTasksSpec)

/-- 'dynamolaw12.RecOnly', WHERE WHAT IT READS IS OF BULK AT MOST 1048576: true; the input reads as it did. -/
def recOnlyUptoRow : OpenClaim := { program := "ytjjlghdcpkkdhaadoor", sum := "06b57ab358d4a465399c95b83d6b0fa8dce35d9524a7e41c92f1c18e09df276e", func := "dynamo/dynamolaw12.RecOnly", spec := "recOnly", inPlace := ["internal/reflectlite.ValueOf", "(internal/reflectlite.Value).Type", "(internal/reflectlite.Value).IsNil", "internal/reflectlite.TypeOf", "(internal/reflectlite.Value).Elem", "(internal/reflectlite.Value).Set"], unfollowed := true, recurses := true, named := ["errors.errorType"], apart := false, laid := [("errors.errorType", laid_errors_errorType)], narrowed := true }
def RecOnlyUptoSaid : Prop := recOnlyUptoRow.holds Tryd.pinned (OpenSpec.upto recOnlySpec)

/-- 'dynamolaw12.RecUnlike', WHERE WHAT IT READS IS OF BULK AT MOST 1048576: true; the input reads as it did. -/
def recUnlikeUptoRow : OpenClaim := { program := "ytjjlghdcpkkdhaadoor", sum := "06b57ab358d4a465399c95b83d6b0fa8dce35d9524a7e41c92f1c18e09df276e", func := "dynamo/dynamolaw12.RecUnlike", spec := "recUnlike", inPlace := ["internal/reflectlite.ValueOf", "(internal/reflectlite.Value).Type", "(internal/reflectlite.Value).IsNil", "internal/reflectlite.TypeOf", "(internal/reflectlite.Value).Elem", "(internal/reflectlite.Value).Set"], unfollowed := true, recurses := true, named := ["errors.errorType"], apart := false, laid := [("errors.errorType", laid_errors_errorType)], narrowed := true }
def RecUnlikeUptoSaid : Prop := recUnlikeUptoRow.holds Tryd.pinned (OpenSpec.upto recUnlikeSpec)

/-- 'dynamolaw12.RecSizes', WHERE WHAT IT READS IS OF BULK AT MOST 1048576: true; the input reads as it did. -/
def recSizesUptoRow : OpenClaim := { program := "ytjjlghdcpkkdhaadoor", sum := "06b57ab358d4a465399c95b83d6b0fa8dce35d9524a7e41c92f1c18e09df276e", func := "dynamo/dynamolaw12.RecSizes", spec := "recSizes", inPlace := ["internal/reflectlite.ValueOf", "(internal/reflectlite.Value).Type", "(internal/reflectlite.Value).IsNil", "internal/reflectlite.TypeOf", "(internal/reflectlite.Value).Elem", "(internal/reflectlite.Value).Set"], unfollowed := true, recurses := true, named := ["errors.errorType"], apart := false, laid := [("errors.errorType", laid_errors_errorType)], narrowed := true }
def RecSizesUptoSaid : Prop := recSizesUptoRow.holds Tryd.pinned (OpenSpec.upto recSizesSpec)

end Rows
end Go.Proofs.YtjjlghdcpkkdhaaDoor
