/-
  A slice that reads as a list of numbers: nil, empty or not; what keeps it; what a call owns reads so. Conditions: none beyond the premises of each theorem.
-/
import Derived.Test.YtiffgmgefpoblaaDoorRows
import Derived.WalkKit
import Derived.OwnWalk
import Derived.Deep.AppendLies
import Derived.Deep.QuietTactic
namespace Go.Proofs.YtiffgmgefpoblaaDoor
open Go.RowKit

theorem block_of_add (a : Addr) (n : Nat) : (a.add n).block = a.block := by unfold Addr.add; split <;> rfl
theorem add_of_add (a : Addr) (i j : Nat) : (a.add i).add j = a.add (i + j) := by
  unfold Addr.add
  by_cases hi : i = 0 <;> by_cases hj : j = 0 <;> simp [hi, hj, Nat.add_assoc]
theorem below_block {w : World} {p : Addr} {v : Value} (h : w.cell? p = some v) : p.block < w.heap.size := by
  rcases Nat.lt_or_ge p.block w.heap.size with h1 | h1
  · exact h1
  · simp [World.cell?, Array.getElem?_eq_none h1] at h

/-- the slice at A holds these numbers of kind k -/
def Nums (w : World) (k : IntKind) (A : Option Addr) (zs : List Int) : Prop :=
  0 < zs.length → ∃ a, A = some a ∧ a.block < w.heap.size ∧ ∀ i z, zs[i]? = some z → w.cell? (a.add i) = some (.int k z)
theorem Nums.none_ (w : World) (k : IntKind) (A : Option Addr) : Nums w k A [] := fun h => absurd h (by simp)
theorem Nums.at_ {w : World} {k : IntKind} {A : Option Addr} {zs : List Int} (h : Nums w k A zs) {i : Nat} {z : Int} (hz : zs[i]? = some z) : ∃ a, A = some a ∧ w.cell? (a.add i) = some (.int k z) := by
  obtain ⟨a, e, _, hc⟩ := h (by have := (List.getElem?_eq_some_iff.1 hz).1; omega)
  exact ⟨a, e, hc i z hz⟩
theorem Nums.carry {w w' : World} {k : IntKind} {A : Option Addr} {zs : List Int} (h : Nums w k A zs) (hb : Below w.heap.size w w') : Nums w' k A zs := fun hp => by
  obtain ⟨a, e, hlt, hc⟩ := h hp
  exact ⟨a, e, Nat.lt_of_lt_of_le hlt hb.size, fun i z hz => (hb.cell (p := a.add i) (by rw [block_of_add]; exact hlt)).trans (hc i z hz)⟩
theorem Nums.drewN {w : World} {k : IntKind} {A : Option Addr} {zs : List Int} (h : Nums w k A zs) (n : Nat) : Nums (w.drewN n) k A zs := h
theorem Nums.drew {w : World} {k : IntKind} {A : Option Addr} {zs : List Int} (h : Nums w k A zs) : Nums w.drew k A zs := h
/-- what a call owns -/
theorem Nums.own {w : World} {k : IntKind} {A : Option Addr} {n c base : Nat} {e : TypeId} {zs : List Int} (h : w.ownsRow base e 1 (.slice A n c) n (zs.map (Value.int k))) : Nums w k A zs := fun hp => by
  have hl : zs.length = n := by have := h.1; simpa using this
  obtain ⟨g, cap, hv, _, hlt⟩ := h.form (by omega)
  have hA : A = some ⟨g, 0, none⟩ := by injection hv
  subst hA
  exact ⟨_, rfl, hlt, fun i z hz => h.cells (g := g) rfl i _ (by rw [List.getElem?_map, hz]; rfl)⟩
/-- the first ones -/
theorem Nums.take {w : World} {k : IntKind} {A : Option Addr} {zs : List Int} (h : Nums w k A zs) (m : Nat) : Nums w k A (zs.take m) := fun hp => by
  obtain ⟨a, e, hlt, hc⟩ := h (by simp at hp; omega)
  exact ⟨a, e, hlt, fun i z hz => hc i z (by rw [List.getElem?_take] at hz; split at hz <;> simp_all)⟩
/-- those behind, as the model cuts a slice -/
theorem Nums.drop {w : World} {k : IntKind} {A : Option Addr} {zs : List Int} (h : Nums w k A zs) {m cap : Nat} (hc : zs.length ≤ cap) : Nums w k (if cap = m then A else A.map (·.add m)) (zs.drop m) := fun hp => by
  rw [List.length_drop] at hp
  obtain ⟨a, rfl, hlt, hcell⟩ := h (by omega)
  rw [if_neg (by omega)]
  refine ⟨a.add m, rfl, by rw [block_of_add]; exact hlt, fun i z hz => ?_⟩
  rw [add_of_add]
  exact hcell _ z (by rw [← hz, List.getElem?_drop])
/-- numbers from 0 on, as whole numbers -/
def ints (l : List Nat) : List Int := l.map fun n : Nat => (n : Int)
theorem ints_length (l : List Nat) : (ints l).length = l.length := by simp [ints]
theorem ints_at {l : List Nat} {i : Nat} (h : i < l.length) : (ints l)[i]? = some (l[i] : Int) := by simp [ints, h]
theorem ints_take (l : List Nat) (m : Nat) : (ints l).take m = ints (l.take m) := by simp [ints]
theorem ints_drop (l : List Nat) (m : Nat) : (ints l).drop m = ints (l.drop m) := by simp [ints]
theorem sum_take_succ {l : List Nat} {k : Nat} (h : k < l.length) : (l.take (k + 1)).sum = (l.take k).sum + l[k] := by
  rw [List.take_add_one, List.getElem?_eq_getElem h, List.sum_append]
  rfl
theorem sum_take_le (l : List Nat) (k : Nat) : (l.take k).sum ≤ l.sum := by
  have h := congrArg List.sum (List.take_append_drop k l)
  rw [List.sum_append] at h
  omega
theorem sum_le_of {l : List Nat} {b : Nat} (h : ∀ n ∈ l, n ≤ b) : l.sum ≤ b * l.length := by
  induction l with
  | nil => simp
  | cons a r ih =>
    have h1 := h a (by simp)
    have h2 := ih (fun n hn => h n (by simp [hn]))
    rw [List.sum_cons, List.length_cons, Nat.mul_add]
    omega
end Go.Proofs.YtiffgmgefpoblaaDoor
