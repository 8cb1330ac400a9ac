/-
  The contract of Near's closure (layer 14): a number is appended to the list in its box. Conditions: none beyond the premises of each theorem.
-/
import Derived.Test.YtiffgmgefpoblaaDoorGridBeside
import Derived.RangeFuncBox
import Derived.Deep.AppendLies
import Derived.OwnWalk
import Derived.Laws.OwnMore
namespace Go.Proofs.YtiffgmgefpoblaaDoor
open Go.RowKit

theorem Tryd.infoNum : (Tryd.prog.info? 3).map (fun i => (i.zero, i.size, i.bytes)) = some (some (.int .i64 0), 1, 8) := by kernel_rfl
/-- numbers as cells -/
def numCells (l : List Nat) : List Value := l.map fun n : Nat => Value.int .i64 (n : Int)
/-- a variable that holds a list of numbers of the call's own -/
def ListBox (base B : Nat) (l : List Nat) (w : World) : Prop := ∃ v, Boxed w B 24 v ∧ w.ownsRow base 3 1 v l.length (numCells l) ∧ (v = .slice none 0 0 ↔ l = [])
/-- what a closure that appends keeps -/
theorem Keeps.appended {base B : Nat} {w w1 : World} {v v' : Value} {k : Nat} {xs : List Value} {tmp : Obj} (hrow : w.ownsRow base 3 1 v k xs) (hgrow : (w.alloc tmp).grownBy w1 v.ownBlock) : Keeps B w (w1.setCell ⟨B, 0, none⟩ v') := by
  refine ⟨?_, fun b c t x hb ht h => ?_⟩
  · refine Nat.le_trans ?_ (grownBy_setCell' w1 B v').size
    have := hgrow.size
    simp at this
    omega
  · have h1 : (w.alloc tmp).heap[b]? = some (.cells c t x) := (Below.heap_alloc _ _ _ (Array.getElem?_eq_some_iff.1 h).1).trans h
    have h2 : w1.heap[b]? = some (.cells c t x) := by
      refine (hgrow.block b (Array.getElem?_eq_some_iff.1 h1).1 fun e => ?_).trans h1
      rcases hrow.2 with ⟨rfl, _⟩ | ⟨g, cap, cur, rfl, _, hgb, _⟩
      · simp [Value.ownBlock] at e
      · obtain rfl : b = g := by simpa [Value.ownBlock] using e
        rw [h] at hgb
        injection hgb with hgb
        injection hgb with _ e2
        exact ht e2
    exact (Below.heap_setCell _ _ _ _ (by show b ≠ B; exact hb)).trans h2
def NearJ (w0 : World) (B : Nat) (pre : List Nat) (w : World) : Prop := ListBox w0.heap.size B pre w ∧ Below w0.heap.size w0 w
set_option maxRecDepth 100000 in
theorem nearTell_any (w0 : World) (B : Nat) (hB : w0.heap.size ≤ B) (pre : List Nat) (n : Nat) (w : World) (hJ : NearJ w0 B pre w) (hp : pre.length < 4) :
    Calls Tryd.prog 30 (#[.int .i64 (n : Int)] ++ #[.pointer (some ⟨B, 0, none⟩)]) w fun e w' => e = .returned (.tuple #[]) ∧ NearJ w0 B (pre ++ [n]) w' ∧ Keeps B w w' := by
  obtain ⟨⟨v, hv, hrow, _⟩, hbel⟩ := hJ
  obtain ⟨ii, hi0, hi1, hi2, hi3⟩ := info_parts Tryd.infoNum
  have c0 := hv.cell
  have HV := Lib.hid hv
  have HR := Lib.hid hrow
  have HB := Lib.hid hbel
  clear hv hrow hbel
  show Calls Tryd.prog 30 #[.int .i64 (n : Int), .pointer (some ⟨B, 0, none⟩)] w _
  go_enter Tryd.func30, Tryd.ntmps30
  go_wp2_with (with_reducible refine stop_at (o := ⟨some 6, _, _, _, _, _⟩) ?_)
  have hn : ∀ (j : Nat) u, ([.int .i64 (n : Int)] : List Value)[j]? = some u → (w.alloc (.cells #[.int .i64 (n : Int)] 3)).cell? ((⟨w.heap.size, 0, none⟩ : Addr).add j) = some u := World.news_of_block (cs := #[.int .i64 (n : Int)]) (heap_alloc_last w _)
  refine wpList_append_lies _ rfl _ _ 24 rfl w0.heap.size 3 ii _ 1 8 Tryd.underlying24 hi0 hi1 hi2 hi3 rfl (by decide) v pre.length (numCells pre) rfl (HR.out.alloc _) ⟨w.heap.size, 0, none⟩ 1 1 [.int .i64 (n : Int)] rfl rfl hn (fun u hu => by rw [List.mem_singleton.1 hu]; rfl) (by decide) (by unfold maxLen; omega) (by omega) (by have := HB.out.size; simp; omega) (w.heap.size + 1) (by simp) ?_
  intro g cap w1 hown hgrow _ _
  obtain ⟨hv1, hv2, hr2, _, hb2⟩ := HV.out.appended (by decide) HR.out HB.out.size hB hown hgrow
  have hkeep : Keeps B w (w1.setCell ⟨B, 0, none⟩ (.slice (some ⟨g, 0, none⟩) (pre.length + 1) cap)) := Keeps.appended HR.out hgrow
  have HV2 := Lib.hid hv2
  have HR2 := Lib.hid hr2
  have HB2 := Lib.hid hb2
  have HK := Lib.hid hkeep
  have c1 := hv1.cell
  have f1 := hv1.frozen
  clear hn hown hgrow hv1 hv2 hr2 hb2 hkeep c0
  go_wp2_with fail
  go_end0
  refine ⟨rfl, ⟨⟨_, HV2.out, ?_, ?_⟩, HB.out.trans HB2.out⟩, HK.out⟩
  · have := HR2.out
    rw [List.length_append, List.length_singleton]
    unfold numCells at this ⊢
    rw [List.map_append]
    exact this
  · simp
end Go.Proofs.YtiffgmgefpoblaaDoor
