/-
 StructOpen. Conditions: as each theorem says.
-/
import Derived.Test.YtafclmbecmgbnaaGreatDoorOpen
import Derived.Laws.StructEq
namespace Go.Proofs.YtafclmbecmgbnaaGreatDoor
open Go.ChangeShapes Go.WideShapes Go.ChangeAt Go.RowKit
theorem KJ {H:Type} {enc:TypeId × Value -> H} {P:Program} {w:World} {base:Nat} {sp:Nat -> Bool} {held:Bool} {fuel:Nat} {t:TypeId} {k:IntKind} {c:Value} {y:DataW H × List MemPlace}
  (ht:P.underlying t = some (.int k)) (h:DataW.trod enc P w base sp held fuel t [c] = some y):∃ n,c = .int k n /\ (Lit.int k n).wf = true:=by
 cases fuel with
 | zero=>simp [DataW.trod] at h
 | succ fuel =>
  cases c <;> simp [DataW.trod,ht] at h
  rename_i k' n
  obtain ⟨⟨rfl,hw⟩,rfl⟩:=h;exact ⟨n,rfl,hw⟩
theorem VW {H:Type} {enc:TypeId × Value -> H} {P:Program} {w:World} {base:Nat} {sp:Nat -> Bool} {held:Bool} {fuel:Nat} {t:TypeId} {c:Value} {y:DataW H × List MemPlace}
  (ht:P.underlying t = some .string) (h:DataW.trod enc P w base sp held fuel t [c] = some y):∃ s,c = .string s:=by
 cases fuel with
 | zero=>simp [DataW.trod] at h
 | succ fuel =>
  cases c <;> simp [DataW.trod,ht] at h;exact ⟨_,rfl⟩
