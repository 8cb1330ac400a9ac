/-
 ChkSurS. Conditions: as each theorem says.
-/
import Derived.Test.YtafclmbecmgbnaaGreatDoorCka
import Derived.Test.YtafclmbecmgbnaaGreatDoorOwnAt
import Derived.Lib.SlKeysI
namespace Go.Proofs.YtafclmbecmgbnaaGreatDoor
open Go.RowKit Go.Maps
def zcN (w : World) (lo hi : Nat) (c : Int) (v : Value) : Prop := hi <= w.1.size /\ ∀ w', hi <= w'.1.size -> (∀ k, lo <= k -> k < hi -> w'.1[k]? = w.1[k]?) -> zi w' lo c v
theorem zcN.of {w : World} {lo : Nat} {c : Int} {v : Value} (h : zi w lo c v) : zcN w lo w.1.size c v := ⟨Nat.le_refl _, fun _ hs hb => h.carry hs hb⟩
end Go.Proofs.YtafclmbecmgbnaaGreatDoor
