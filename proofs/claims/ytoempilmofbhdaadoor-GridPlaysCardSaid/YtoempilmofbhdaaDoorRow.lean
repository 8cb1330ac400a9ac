/-
  A row of bytes in memory: what it holds, a byte stored, what make lays, the text of it and the bytes of a text. Conditions: none beyond the premises of each theorem.
-/
import Derived.Test.YtoempilmofbhdaaDoorRows
import Derived.WalkKit
import Derived.Lib.Hide
import Derived.OwnWalk
import Derived.Laws.BytesArg
import Derived.Laws.OwnMore
import Derived.Laws.IdiomStrings
import Derived.Laws.BitsAllLaws
import Derived.Deep.QuietTactic
namespace Go.Proofs.YtoempilmofbhdaaDoor
open Go.RowKit

/-- a block that begins with these bytes, none of them shut -/
def Row (w : World) (B : Nat) (xs : List UInt8) : Prop := ∀ i (h : i < xs.length), w.cell? ⟨B, i, none⟩ = some (.int .u8 (xs[i].toNat : Int)) ∧ w.frozen? ⟨B, i, none⟩ = false
theorem Row.drew {w : World} {B : Nat} {xs : List UInt8} (h : Row w B xs) : Row w.drew B xs := h
theorem Row.drewN {w : World} {B : Nat} {xs : List UInt8} (h : Row w B xs) (n : Nat) : Row (w.drewN n) B xs := h
theorem Row.store {w : World} {B : Nat} {xs : List UInt8} (h : Row w B xs) (j : Nat) (c : UInt8) : Row (w.setCell ⟨B, j, none⟩ (.int .u8 (c.toNat : Int))) B (xs.set j c) := by
  intro i hi
  simp only [List.length_set] at hi
  refine ⟨?_, by rw [World.frozen?_setCell]; exact (h i hi).2⟩
  by_cases e : j = i
  · subst e
    rw [World.cell?_setCell_same _ _ _ (h j hi).1]
    simp
  · rw [World.cell?_setCell_other w ⟨B, j, none⟩ ⟨B, i, none⟩ _ (fun h => e (Addr.mk.inj h).2.1), (h i hi).1, List.getElem_set_ne e]
/-- a row of a made slice: all zero -/
theorem Row.made {w : World} {base B n cap : Nat} (h : w.ownsRow base 5 1 (.slice (some ⟨B, 0, none⟩) n cap) n (madeCells (Value.int .u8 0).cells (n * 1)).toList) : Row w B (List.replicate n 0) := by
  intro i hi
  simp only [List.length_replicate] at hi
  refine ⟨?_, h.frozenAt i⟩
  rw [h.cellAt i (by omega)]
  simp [madeCells, hi, Value.cells, Nat.mod_one]
/-- the text of such a row -/
theorem Row.text {w : World} {B : Nat} {xs : List UInt8} (h : Row w B xs) (cap n : Nat) (hn : xs.length = n) : (convert 46 9 (.slice (some ⟨B, 0, none⟩) n cap)).run Tryd.prog w = .ok (.string ⟨xs.toArray⟩) w := by
  have e := run_convert_bytes_arg (P := Tryd.prog) w 46 5 Tryd.underlying46 Tryd.underlying5 B 0 n cap (xs.map fun c => (c.toNat : Int)) (by simp [hn])
    (fun i hi => by
      have hi' : i < xs.length := by omega
      rw [Nat.zero_add, (h i hi').1]
      simp [List.getD, hi']) 9 Tryd.underlying9
  rw [e]
  have e2 : (strOfNums (xs.map fun c => (c.toNat : Int))) = ⟨xs.toArray⟩ := by
    unfold strOfNums
    rw [List.map_map]
    have : (xs.map ((fun n : Int => UInt8.ofNat n.toNat) ∘ fun c : UInt8 => (c.toNat : Int))) = xs := by
      rw [List.map_congr_left (g := id) (fun c _ => by simp), List.map_id]
    rw [this]
  rw [e2]
/-- the bytes of a text, as a row of the call's own -/
theorem bytes_of (s : ByteArray) (w : World) : ∃ (w1 : World) (cap : Nat), (convert 9 46 (.string s)).run Tryd.prog w = .ok (.slice (some ⟨w.heap.size, 0, none⟩) s.size cap) w1 ∧ Row w1 w.heap.size s.data.toList ∧ Below w.heap.size w w1 := by
  refine ⟨_, _, run_bytes_of_string w 9 46 5 s Tryd.underlying9 Tryd.underlying46 Tryd.underlying5, ?_, (Below.refl _ _).drew.alloc (Nat.le_refl _) _⟩
  intro i hi
  have hi' : i < s.data.size := by simpa using hi
  have hh : (w.drew.alloc (.cells (bytesRow s (grownCap w s.size 0 5)) 5 ((bytesRow s (grownCap w s.size 0 5)).size, (bytesRow s (grownCap w s.size 0 5)).size + 1))).heap[w.heap.size]?
      = some (.cells (bytesRow s (grownCap w s.size 0 5)) 5 ((bytesRow s (grownCap w s.size 0 5)).size, (bytesRow s (grownCap w s.size 0 5)).size + 1)) := by
    show (w.heap.push _)[w.heap.size]? = _
    simp
  refine ⟨?_, ?_⟩
  · rw [cell_of_row _ w.heap.size i _ 5 _ hh, bytesRow_at s _ i hi']
    simp
  · have hsz : s.data.size ≤ (bytesRow s (grownCap w s.size 0 5)).size := by simp [bytesRow]
    simp only [World.frozen?, hh]
    have : ¬ ((bytesRow s (grownCap w s.size 0 5)).size ≤ i) := by omega
    simp [this]

theorem xor_u8 (a b : UInt8) : bits .xor .u8 (a.toNat : Int) (b.toNat : Int) = ((a ^^^ b).toNat : Int) := by
  rw [u8_xor_nat _ _ a.toNat_lt b.toNat_lt, UInt8.toNat_xor]


theorem below_drewN (w : World) (n : Nat) : Below w.heap.size w (w.drewN n) := by
  have h := Below.refl w.heap.size w
  exact ⟨h.os, h.tape, h.output, h.size, h.block⟩
theorem ret_true {b : Bool} (h : b = true) : Ending.returned (.bool b) = .returned (.bool true) := by rw [h]
theorem below_drewN_of {B : Nat} {w w' : World} (h : Below B w w') (n : Nat) : Below B w (w'.drewN n) := ⟨h.os, h.tape, h.output, h.size, h.block⟩

end Go.Proofs.YtoempilmofbhdaaDoor
