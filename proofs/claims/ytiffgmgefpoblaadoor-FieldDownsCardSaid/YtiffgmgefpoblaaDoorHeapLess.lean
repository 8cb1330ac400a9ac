/-
  The contracts of heap.Less, heap.New, Len. Conditions: none beyond the premises of each theorem.
-/
import Derived.Test.YtiffgmgefpoblaaDoorHeapAt
import Derived.Test.YtiffgmgefpoblaaDoorRegionHead
import Derived.Test.YtiffgmgefpoblaaDoorStop
import Derived.BigQuiet
import Derived.Deep.DeepCutAuto
import Derived.Deep.CutBlock
namespace Go.Proofs.YtiffgmgefpoblaaDoor
open Go.RowKit Hp

set_option maxRecDepth 100000 in
theorem Less_any (a b : Itm) (w : World) : Calls Tryd.prog 52 #[itV a, itV b] w fun e w' => e = .returned (.bool (lt2 a b)) ∧ Below w.heap.size w w' := by
  obtain ⟨z, HZ⟩ : ∃ z, Hid (lt2 a b = z) := ⟨_, Lib.hid rfl⟩
  rw [HZ.out]
  obtain ⟨a1, a2⟩ := a
  obtain ⟨b1, b2⟩ := b
  have hz := HZ.out
  unfold lt2 at hz
  dsimp only at hz
  clear HZ
  go_enter Tryd.func52, Tryd.ntmps52
  go_upto_region 1 with (fail)
  obtain ⟨w1, HW1⟩ : ∃ w1, Hid (w1 = (w.alloc (.cells #[.int .i64 a1, .int .i64 a2] 52)).alloc (.cells #[.int .i64 b1, .int .i64 b2] 52)) := ⟨_, Lib.hid rfl⟩
  obtain ⟨p, HP⟩ : ∃ p, Hid (p = w.heap.size) := ⟨_, Lib.hid rfl⟩
  rw [← HW1.out, ← HP.out]
  have HB : Hid (Below w.heap.size w w1) := Lib.hid (by rw [HW1.out]; exact ((Below.refl _ _).alloc (Nat.le_refl _) _).alloc (by simp) _)
  have hb1 : w1.heap[p + 1]? = some (.cells #[.int .i64 b1, .int .i64 b2] 52 (0, 0)) := by rw [HW1.out, HP.out]; have := heap_alloc_new (w.alloc (.cells #[.int .i64 a1, .int .i64 a2] 52)) (.cells #[.int .i64 b1, .int .i64 b2] 52); rwa [World.size_alloc] at this
  have ha1 : w1.heap[p]? = some (.cells #[.int .i64 a1, .int .i64 a2] 52 (0, 0)) := by rw [HW1.out, HP.out]; exact (Below.heap_alloc _ _ _ (by simp)).trans (heap_alloc_new w _)
  have c0 : w1.cell? ⟨p, 0, none⟩ = some (.int .i64 a1) := by simp [World.cell?, ha1]
  have c1 : w1.cell? ⟨p, 1, none⟩ = some (.int .i64 a2) := by simp [World.cell?, ha1]
  have c2 : w1.cell? ⟨p + 1, 0, none⟩ = some (.int .i64 b1) := by simp [World.cell?, hb1]
  have c3 : w1.cell? ⟨p + 1, 1, none⟩ = some (.int .i64 b2) := by simp [World.cell?, hb1]
  clear HW1 HP ha1 hb1
  by_cases h1 : a1 < b1
  · have HZ : Hid (z = true) := Lib.hid (by rw [← hz]; simp [h1])
    clear hz
    go_wp2_with fail
    go_ret
    exact ⟨by rw [HZ.out]; rfl, HB.out⟩
  · have g1 : decide (a1 < b1) = false := by simpa using h1
    by_cases h2 : a1 = b1
    · have g2 : decide (a1 = b1) = true := by simpa using h2
      have g3 : (a1 == b1) = true := by simpa using h2
      have HZ : Hid (decide (a2 < b2) = z) := Lib.hid (by rw [← hz, g1, g2]; rfl)
      clear hz h2
      by_cases h3 : a2 < b2
      · have HZ : Hid (z = true) := Lib.hid (by rw [← HZ.out]; simpa using h3)
        go_wp2_with fail
        go_ret
        exact ⟨by rw [HZ.out]; rfl, HB.out⟩
      · have g4 : decide (a2 < b2) = false := by simpa using h3
        have HZ : Hid (z = false) := Lib.hid (by rw [← HZ.out]; exact g4)
        go_wp2_with fail
        go_ret
        exact ⟨by rw [HZ.out]; rfl, HB.out⟩
    · have g2 : decide (a1 = b1) = false := by simpa using h2
      have g3 : (a1 == b1) = false := by simpa using h2
      have HZ : Hid (z = false) := Lib.hid (by rw [← hz, g1, g2]; rfl)
      clear hz
      go_wp2_with fail
      go_ret
      exact ⟨by rw [HZ.out]; rfl, HB.out⟩
theorem Len_none (w : World) : Calls Tryd.prog 54 #[.pointer none] w fun e w' => e = .returned (.int .i64 0) ∧ w = w' := by
  go_enter Tryd.func54, Tryd.ntmps54
  go_wp2_with fail
  go_ret
  exact ⟨rfl, rfl⟩
theorem Len_any {w : World} {B hb : Nat} {v : Value} {L : List Itm} (h : HpAt w B hb v L) : Calls Tryd.prog 54 #[ptr9 hb] w fun e w' => e = .returned (.int .i64 (L.length : Int)) ∧ w = w' := by
  have c0 := h.cell
  rcases h.row.2 with ⟨rfl, h0⟩ | ⟨g, cap, _, rfl, _⟩
  · have HL := Lib.hid h0
    rw [HL.out]
    clear h0 h
    go_enter Tryd.func54, Tryd.ntmps54
    go_wp2_with fail
    go_ret
    exact ⟨rfl, rfl⟩
  · obtain ⟨n, HN⟩ : ∃ n, Hid (n = L.length) := ⟨_, Lib.hid rfl⟩
    rw [← HN.out] at c0 ⊢
    clear h
    go_enter Tryd.func54, Tryd.ntmps54
    go_wp2_with fail
    go_ret
    exact ⟨rfl, rfl⟩
theorem New_any (w : World) {B : Nat} (hB : B ≤ w.heap.size) : Calls Tryd.prog 23 #[] w fun e w' => e = .returned (ptr9 w.heap.size) ∧ HpAt w' B w.heap.size (.slice none 0 0) [] ∧ Below w.heap.size w w' ∧ w.heap.size < w'.heap.size := by
  go_enter Tryd.func23, Tryd.ntmps23
  go_wp2_with fail
  go_ret
  exact ⟨rfl, ⟨heap_alloc_new w _, World.ownsRow_nil _ _ _ _, hB, by simp [Value.ownBlock]⟩, (Below.refl _ w).alloc (Nat.le_refl _) _, by simp⟩
end Go.Proofs.YtiffgmgefpoblaaDoor
