/-
 StructEq. Conditions: as each theorem says.
-/
import Derived.Test.YticbgbngookmnaaGreatDoorRows
import Derived.WalkKit
import Derived.Laws.StructEq
namespace Go.Proofs.YticbgbngookmnaaGreatDoor
open Go.RowKit
def FlatEq (P : Program) (d : Nat) (xs ys : Array Value) : List Field → List Bool → Prop
 | [], [] => True
 | f :: fs, b :: bs => (f.name ≠ "_" ∧ ∃ a c, (∀ w, (part f.type xs f.offset).run P w = .ok a w) ∧ (∀ w, (part f.type ys f.offset).run P w = .ok c w) ∧ ∀ w, (Op.equalIn d f.type a c).run P w = .ok b w) ∧ FlatEq P d xs ys fs bs
 | _, _ => False
def u8Cells (l : List Nat) : List Value := l.map fun n : Nat => .int .u8 (n : Int)
end Go.Proofs.YticbgbngookmnaaGreatDoor
