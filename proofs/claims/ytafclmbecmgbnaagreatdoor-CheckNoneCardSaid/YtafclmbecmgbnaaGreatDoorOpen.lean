/-
 Open. Conditions: as each theorem says.
-/
import Derived.Test.YtafclmbecmgbnaaGreatDoorPacks
import Derived.ProofKit
import Derived.OpenShut
namespace Go.Proofs.YtafclmbecmgbnaaGreatDoor
open Go.ChangeShapes Go.WideShapes Go.ChangeAt Go.RowKit
theorem open_i64_bounds {n : Int} (h : (Lit.int .i64 n).wf = true) : -9223372036854775808 ≤ n ∧ n ≤ 9223372036854775807 := by
 have e1 : IntKind.i64.min = -9223372036854775808 := rfl
 have e2 : IntKind.i64.max = 9223372036854775807 := rfl
 simp [Lit.wf, e1, e2] at h
 omega
end Go.Proofs.YtafclmbecmgbnaaGreatDoor
