/-
  Td: several texts in one file. Conditions: as each part says.
-/
import Derived.Test.YtafclmbecmgbnaaGreatDoorTm
import Derived.Test.YtafclmbecmgbnaaGreatDoorTa
/-
 TrCommMath. Conditions: as each theorem says.
-/
namespace Go.Proofs.YtafclmbecmgbnaaGreatDoor
def TS.commit (S : TS) (r : Int) : TS := ⟨switchD S.d (S.s.next r), S.s.commit r, S.data⟩
def TS.abort (S : TS) : TS := ⟨S.d, S.s.abort, S.data⟩
end Go.Proofs.YtafclmbecmgbnaaGreatDoor

/-
 TrFullMath. Conditions: as each theorem says.
-/
namespace Go.Proofs.YtafclmbecmgbnaaGreatDoor
open Go.RowKit
theorem first_put {n : Nat} {S : TS} {firm : Nat → List UInt8} (h : OkT n S firm) {k : Nat} (hf : S.s.first n = some k) {key : Int} (hk : 0 ≤ key ∧ key ≤ 4294967295) {val : ByteArray} (hv : val.size = 12) : ∃ S', putTop n S 0 key val = (.ok (k : Int), S') ∧ OkT n S' firm ∧ Tr (Dm S') 0 1 0 4294967296 k [(key, val)] [(k : Int)] ∧ usd S' (k : Int) ∧ getTop S' k key = .ok val := by
 have hn : Nv (Dm S) 0 0 4294967296 ⟨[key], [val], []⟩ (insP [] key val) [] := ⟨rfl, rfl, by simp, fun z hz => by obtain rfl := List.mem_singleton.1 hz; omega, fun v hv2 => by rw [List.mem_singleton.1 hv2]; exact hv, by simp [insP], rfl⟩
 have hpt : putTop n S 0 key val = addM n S ⟨[key], [val], []⟩ := by unfold putTop; rw [if_neg (by omega), if_pos rfl]
 have hr : rightN ⟨[key], [val], []⟩ = true := hn.right (by simp) (by simp) (Int.le_refl _) (Int.le_refl _) (by simp) fun k y hk => Dm_range h hk
 obtain ⟨S', he⟩ : ∃ S', addM n S ⟨[key], [val], []⟩ = (.ok (k : Int), S') := by
  unfold addM
  rw [if_neg (by rw [hr]; decide), hf]
  exact ⟨_, rfl⟩
 obtain ⟨_, ho, _, hu, hd⟩ := addM_ok h he
 have ht : Tr (Dm S') 0 1 0 4294967296 k [(key, val)] [(k : Int)] := by
  have := hn.laid (mn := 1) hd (fun _ h => by cases h) (Nat.le_refl _) (by simp)
  simpa [insP] using this
 have hk0 : ¬ (k : Int) = 0 := by have := (Dm_range ho hd).1; omega
 refine ⟨S', by rw [hpt, he], ho, ht, hu, ?_⟩
 unfold getTop
 rw [if_neg hk0]
 exact get_ok 0 ht (List.mem_singleton.2 rfl) (by decide) (Nat.le_refl _)
end Go.Proofs.YtafclmbecmgbnaaGreatDoor
