/-
 OwnAt. Conditions: as each theorem says.
-/
import Derived.Test.YtafclmbecmgbnaaGreatDoorFillRows
import Derived.Laws.AppendOwn
namespace Go.Proofs.YtafclmbecmgbnaaGreatDoor
open Go.RowKit
def zav (w : World) (base : Nat) (e : TypeId) (size : Nat) (v : Value) (n : Nat) (xs : List Value) : Prop :=
 xs.length = n * size /\
 ((v = .slice none 0 0 /\ n = 0) \/
  ∃ g off cap cur, v = .slice (some ⟨g, off, none⟩) n cap /\ base <= g /\ w.1[g]? = some (.cells cur e (0, 0)) /\ n <= cap /\ cap <= maxLen /\ off + cap * size <= cur.size /\ (cur.toList.drop off).take (n * size) = xs)
section
variable {w w' : World} {base : Nat} {e : TypeId} {size : Nat} {v : Value} {n : Nat} {xs : List Value}
theorem zav.slice (h : zav w base e size v n xs) (h0 : 0 < n) : ∃ g off cap, v = .slice (some ⟨g, off, none⟩) n cap /\ n <= cap /\ cap <= maxLen := by
 rcases h.2 with ⟨_, rfl⟩ | ⟨g, off, cap, cur, rfl, _, _, h1, h2, _⟩
 ·omega
 ·exact ⟨g, off, cap, rfl, h1, h2⟩
end
section
variable {P : Program} (w : World)
end
end Go.Proofs.YtafclmbecmgbnaaGreatDoor
