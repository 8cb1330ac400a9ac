/-
 TrCutMath. Conditions: as each theorem says.
-/
import Derived.Test.YtafclmbecmgbnaaGreatDoorTrDelModel
import Derived.Test.YtafclmbecmgbnaaGreatDoorTm
namespace Go.Proofs.YtafclmbecmgbnaaGreatDoor
theorem Tr.node {S : TS} {h mn : Nat} {lo hi k : Int} {ps : List Pr} {qs : List Int} (ht : Tr (Dm S) h mn lo hi k ps qs) : ∃ x qs', Dm S k = some x ∧ qs = k :: qs' ∧ Nv (Dm S) h lo hi x ps qs' ∧ mn ≤ x.keys.length ∧ (x.kids.length = 0 ↔ h = 0) ∧ (0 < h → x.kids.length = x.keys.length + 1 ∧ x.keys ≠ []) ∧ x.keys.length ≤ 7 := by
 cases h with
 | zero =>
  obtain ⟨keys, vals, h1, h2, h3, h4, h5, h6, h7⟩ := ht
  have hr := (Dm_right h1).2
  have h12 : ∀ v ∈ vals, v.size = 12 := fun v hv2 => by
   rcases (right_parts hr).2.2 with ⟨_, h6, _⟩ | ⟨h6, _⟩
   ·exact of_decide_eq_true (List.all_eq_true.1 h6 v hv2)
   ·exact absurd rfl h6
  exact ⟨_, [], h1, h7, ⟨rfl, h2, h4, h5, h12, h6, rfl⟩, h3, by simp, (fun h => by omega), (right_parts hr).2.1⟩
 | succ h =>
  obtain ⟨keys, kids, qs', h1, h2, h3, h4⟩ := ht
  have hr := (Dm_right h1).2
  have hl := h3.len
  exact ⟨_, qs', h1, h4, ⟨rfl, h3⟩, h2.2, by simp only; omega, fun _ => ⟨hl, h2.1⟩, (right_parts hr).2.1⟩
section
variable {n : Nat} {firm : Nat → List UInt8} {S S1 S2 : TS} {A B C : List Int}
end
end Go.Proofs.YtafclmbecmgbnaaGreatDoor
