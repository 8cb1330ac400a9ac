/-
  The library's contract of bits.Mul, laid at this program: the numbers, and that the bodies are those; rows of numbers of a call's own. Conditions: none.
-/
import Derived.Test.YtiffgmgefpoblaaDoorCells
import Derived.Shelf.Bits.Mul64
namespace Go.Proofs.YtiffgmgefpoblaaDoor
open Go.Shelf Go.RowKit

def mulR : Ren := ⟨fun x => match x with | 212 => 53 | 263 => 68 | 264 => 69 | n => n, fun x => match x with | 46 => 86 | 51 => 107 | 53 => 110 | 146 => 108 | 148 => 111 | n => n, fun x => x⟩
set_option maxRecDepth 100000 in
theorem mulL : Lays.n212 Tryd.prog mulR where
  mixed := by kernel_rfl
  f212 := by kernel_rfl
  f263 := by kernel_rfl
  f264 := by kernel_rfl
  t46 := by kernel_rfl
  a46 := fun _ => by kernel_rfl
  z46 := fun _ => by kernel_rfl
  v46 := fun _ => by kernel_rfl
  t51 := by kernel_rfl
  a51 := fun _ => by kernel_rfl
  z51 := fun _ => by kernel_rfl
  v51 := fun _ => by kernel_rfl
  t53 := by kernel_rfl
  a53 := fun _ => by kernel_rfl
  z53 := fun _ => by kernel_rfl
  v53 := fun _ => by kernel_rfl
  t146 := by kernel_rfl
  a146 := fun _ => by kernel_rfl
  z146 := fun _ => by kernel_rfl
  v146 := fun _ => by kernel_rfl
  t148 := by kernel_rfl
  a148 := fun _ => by kernel_rfl
  z148 := fun _ => by kernel_rfl
  v148 := fun _ => by kernel_rfl
theorem Mul_one (n : Nat) (hn : n ≤ 1000) (w : World) : Calls Tryd.prog 53 #[.int .u64 1, .int .u64 (n : Int)] w fun e w' => e = .returned (.tuple #[.int .u64 0, .int .u64 (n : Int)]) ∧ w' = w := by
  have h := Any.bits_Mul mulL 1 n (by omega) (by omega) w
  rw [Nat.one_mul, Nat.div_eq_of_lt (by omega), Nat.mod_eq_of_lt (by omega)] at h
  exact h

/-- a row of numbers -/
abbrev rowV (F : List Int) : List Value := F.map (Value.int .i64)
theorem rowV_at {F : List Int} {i : Nat} {z : Int} (h : F[i]? = some z) : (rowV F)[i]? = some (.int .i64 z) := by rw [List.getElem?_map, h]; rfl
theorem COwn.of_row {w : World} {g : Nat} {cs : List Value} {t : TypeId} (h : w.heap[g]? = some (.cells cs.toArray t (0, 0))) : COwn w g cs := by
  refine ⟨fun j v hj => ?_, fun j => frozen_of_row w g j _ _ h⟩
  rw [Nat.zero_add]
  rw [cell_of_row w g j _ _ _ h]
  simpa using hj
theorem COwn.nums {w : World} {g : Nat} {F : List Int} (h : COwn w g (rowV F)) : Nums w .i64 (some ⟨g, 0, none⟩) F := fun hp => by
  refine ⟨_, rfl, h.lt (by simpa using hp), fun i z hz => ?_⟩
  rw [Addr.add_mid, Nat.zero_add]
  exact h.cell (rowV_at hz)
end Go.Proofs.YtiffgmgefpoblaaDoor
