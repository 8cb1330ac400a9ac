/-
 Open. Conditions: as each theorem says.
-/
import Derived.Test.YtafclmbecmgbnaaGreatDoorPacks
import Derived.ProofKit
import Derived.OpenShut
namespace Go.Proofs.YtafclmbecmgbnaaGreatDoor
open Go.ChangeShapes Go.WideShapes Go.ChangeAt Go.RowKit
theorem open_u8_nat {n : Int} (h : (Lit.int .u8 n).wf = true) : ∃ m : Nat, n = (m : Int) ∧ m < 256 := by
 have e1 : IntKind.u8.min = 0 := rfl
 have e2 : IntKind.u8.max = 255 := rfl
 simp [Lit.wf, e1, e2] at h
 exact ⟨n.toNat, by omega, by omega⟩
end Go.Proofs.YtafclmbecmgbnaaGreatDoor
