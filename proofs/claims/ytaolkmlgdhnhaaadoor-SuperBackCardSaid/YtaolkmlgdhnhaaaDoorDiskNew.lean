/-
  The contracts of disk.New, of Write that is refused, and of what nil answers. Conditions: none beyond the premises of each theorem.
-/
import Derived.Test.YtaolkmlgdhnhaaaDoorDiskCrash
import Derived.Deep.RegionWith
namespace Go.Proofs.YtaolkmlgdhnhaaaDoor
open Go.RowKit

theorem Crash_nil (m t : Value) (w : World) : Calls Tryd.prog 23 #[.pointer none, m, t] w fun e w' => e = .returned (.tuple #[]) ∧ w = w' := by
  go_enter Tryd.func23, Tryd.ntmps23
  go_wp2_with fail
  exact bodyPost_ret (results_none rfl _ _ _) rfl ⟨rfl, rfl⟩
set_option maxRecDepth 100000 in
theorem Write_nil (i : Int) (p : Pg) (w : World) : Calls Tryd.prog 19 #[.pointer none, .int .i64 i, pgV p] w (ErrPost 1 w) := by
  go_enter Tryd.func19, Tryd.ntmps19
  go_wp2_with fail
  refine (refuse_nil i _).mono ?_
  rintro e w' ⟨v, rfl, h1, h4⟩
  have H1 := Lib.hid h1
  have H4 := Lib.hid h4
  obtain ⟨t, x, rfl⟩ := H1.out.some (by decide)
  clear h1 h4
  go_wp2_with fail
  go_ret
  exact ⟨_, rfl, H1.out.mono (by simp), ((Below.refl _ _).alloc (Nat.le_refl _) _).trans (H4.out.mono (by simp))⟩
set_option maxRecDepth 100000 in
theorem Write_no {K : Nat → Prop} {D n : Nat} {i c : Int} {d : Dk} {p : Pg} {w : World} (h : DiskAt K w D n d) (hc : codeZ d.down n i = c) (h0c : c ≠ 0) :
    Calls Tryd.prog 19 #[.pointer (some ⟨D, 0, none⟩), .int .i64 i, pgV p] w (ErrPost c w) := by
  obtain ⟨F, S, v, h⟩ := h
  have h0 := h.c0
  have h3 := h.c3
  have hD : D < w.heap.size := lt_of_cell h0
  have HCC := Lib.hid hc
  have H0C := Lib.hid h0c
  clear h hc h0c
  go_enter Tryd.func19, Tryd.ntmps19
  go_wp2_with fail
  refine (refuse_any D n i d.down ⟨F, 0, none⟩ _ ?_ ?_).mono ?_
  · rw [World.cell?_alloc_lt _ _ _ hD]; exact h0
  · rw [World.cell?_alloc_lt _ _ _ hD]; exact h3
  rw [HCC.out]
  rintro e w' ⟨v, rfl, h1, h4⟩
  have H1 := Lib.hid h1
  have H4 := Lib.hid h4
  obtain ⟨t, x, rfl⟩ := H1.out.some H0C.out
  clear h1 h4
  go_wp2_with fail
  go_ret
  exact ⟨_, rfl, H1.out.mono (by simp), ((Below.refl _ _).alloc (Nat.le_refl _) _).trans (H4.out.mono (by simp))⟩

def NewErr (w : World) (e : Ending) (w' : World) : Prop := ∃ v, e = .returned (.tuple #[.pointer none, v]) ∧ ErrAt w' w.heap.size 1 v ∧ Below w.heap.size w w'
theorem New_no (n : Int) (h : n < 1 ∨ 240 < n) (w : World) : Calls Tryd.prog 18 #[.int .i64 n] w (NewErr w) := by
  rcases h with h | h
  · have hd : decide (n < 1) = true := by simpa using h
    go_enter Tryd.func18, Tryd.ntmps18
    go_wp2_with fail
    refine (fault_any 1 (by decide) _).mono ?_
    rintro e w' ⟨v, rfl, h1, h4⟩
    have H1 := Lib.hid h1
    have H4 := Lib.hid h4
    clear h1 h4
    go_wp2_with fail
    go_ret2
    exact ⟨_, rfl, H1.out, H4.out⟩
  · have hd : decide (n < 1) = false := by simp; omega
    have hd2 : decide (240 < n) = true := by simpa using h
    go_enter Tryd.func18, Tryd.ntmps18
    go_wp2_with fail
    refine (fault_any 1 (by decide) _).mono ?_
    rintro e w' ⟨v, rfl, h1, h4⟩
    have H1 := Lib.hid h1
    have H4 := Lib.hid h4
    clear h1 h4
    go_wp2_with fail
    go_ret2
    exact ⟨_, rfl, H1.out, H4.out⟩
def NewPost (n : Nat) (w : World) (e : Ending) (w' : World) : Prop := ∃ D, e = .returned (.tuple #[.pointer (some ⟨D, 0, none⟩), .nilIface]) ∧ DiskAt (· < w.heap.size) w' D n (Dk.new n) ∧ Below w.heap.size w w'
theorem Tryd.infoPage3 : (Tryd.prog.info? 55).map (fun i => (i.zero, i.size, i.bytes)) = some (some (pgV zeroPg), 128, 128) := by kernel_rfl
theorem made_pages (n : Nat) {M : Array Value} (hM : M = madeCells (pgArr zeroPg) (n * 128)) (w : World) (b : Nat) (fr : Nat × Nat) (hb : w.heap[b]? = some (.cells M 55 fr)) : Pages w b (List.replicate n zeroPg) := fun i p hp => by
  have hi : i < n := by have := (List.getElem?_eq_some_iff.1 hp).1; simpa using this
  obtain rfl : zeroPg = p := by simpa [hi] using hp
  refine ⟨zeroPg_length, fun j v hv => ?_⟩
  have hj : j < 128 := by have := (List.getElem?_eq_some_iff.1 hv).1; rw [pgCells_length, zeroPg_length] at this; exact this
  have hs : (pgArr zeroPg).size = 128 := by rw [pgArr_size, zeroPg_length]
  rw [cell_of_row w b (i * 128 + j) M _ fr hb, hM]
  have hlt : i * 128 + j < n * 128 := by omega
  have e : (madeCells (pgArr zeroPg) (n * 128))[i * 128 + j]? = some ((pgArr zeroPg)[(i * 128 + j) % (pgArr zeroPg).size]!) := by simp [madeCells, hlt]
  rw [e, hs, show (i * 128 + j) % 128 = j by omega, ← hv]
  rw [getElem!_pos (pgArr zeroPg) j (by rw [hs]; exact hj)]
  rw [show (pgCells zeroPg)[j]? = (pgArr zeroPg)[j]? by simp [pgArr]]
  exact (Array.getElem?_eq_getElem _).symm
/-- what New lays, in either order -/
theorem new_disk (n : Nat) (h1 : 1 ≤ n) {M : Array Value} (hM : M = madeCells (pgArr zeroPg) (n * 128)) (w : World) (F S : Nat) (h : (F = w.heap.size ∧ S = w.heap.size + 1) ∨ (F = w.heap.size + 1 ∧ S = w.heap.size)) :
    DiskAt (· < w.heap.size) (((w.alloc (.cells M 55)).alloc (.cells M 55)).alloc (.cells #[.slice (some ⟨F, 0, none⟩) n n, .slice (some ⟨S, 0, none⟩) n n, .slice none 0 0, .bool false] 77)).drew (w.heap.size + 2) n (Dk.new n) := by
  generalize hW : (((w.alloc (.cells M 55)).alloc (.cells M 55)).alloc (.cells #[.slice (some ⟨F, 0, none⟩) n n, .slice (some ⟨S, 0, none⟩) n n, .slice none 0 0, .bool false] 77)).drew = W
  have b0 : W.heap[w.heap.size]? = some (.cells M 55 (0, 0)) := by
    rw [← hW]
    show (((w.alloc _).alloc _).alloc _).heap[_]? = _
    rw [Below.heap_alloc _ _ _ (by simp; omega), Below.heap_alloc _ _ _ (by simp)]
    exact heap_alloc_last w _
  have b1 : W.heap[w.heap.size + 1]? = some (.cells M 55 (0, 0)) := by
    rw [← hW]
    show (((w.alloc _).alloc _).alloc _).heap[_]? = _
    rw [Below.heap_alloc _ _ _ (by simp)]
    have := heap_alloc_last (w.alloc (.cells M 55)) (.cells M 55)
    simpa using this
  have b2 : W.heap[w.heap.size + 2]? = some (.cells #[.slice (some ⟨F, 0, none⟩) n n, .slice (some ⟨S, 0, none⟩) n n, .slice none 0 0, .bool false] 77 (0, 0)) := by
    rw [← hW]
    have := heap_alloc_last ((w.alloc (.cells M 55)).alloc (.cells M 55)) (.cells #[.slice (some ⟨F, 0, none⟩) n n, .slice (some ⟨S, 0, none⟩) n n, .slice none 0 0, .bool false] 77)
    rw [show ((w.alloc (.cells M 55)).alloc (.cells M 55)).heap.size = w.heap.size + 2 by simp] at this
    exact this
  have bF : W.heap[F]? = some (.cells M 55 (0, 0)) := by rcases h with ⟨rfl, _⟩ | ⟨rfl, _⟩ <;> assumption
  have bS : W.heap[S]? = some (.cells M 55 (0, 0)) := by rcases h with ⟨_, rfl⟩ | ⟨_, rfl⟩ <;> assumption
  refine ⟨F, S, .slice none 0 0, Dk.Ok.new n, h1, ?_, ?_, ?_, ?_, fun j => frozen_of_row W _ j _ _ b2, fun j => frozen_of_row W _ j _ _ bF, fun j => frozen_of_row W _ j _ _ bS, made_pages n hM W F _ bF, made_pages n hM W S _ bS, World.ownsRow_nil W _ _ _, by simp, ?_, ?_, (fun g hg => by cases hg), ?_, ?_, ?_⟩
  · rw [cell_of_row W _ 0 _ _ _ b2]; rfl
  · rw [cell_of_row W _ 1 _ _ _ b2]; rfl
  · rw [cell_of_row W _ 2 _ _ _ b2]; rfl
  · rw [cell_of_row W _ 3 _ _ _ b2]; rfl
  all_goals omega
theorem New_yes (n : Nat) (h1 : 1 ≤ n) (h2 : n ≤ 240) (w : World) : Calls Tryd.prog 18 #[.int .i64 n] w (NewPost n w) := by
  have hd : decide ((n : Int) < 1) = false := by simp; omega
  have hd2 : decide ((240 : Int) < (n : Int)) = false := by simp; omega
  go_enter Tryd.func18, Tryd.ntmps18
  go_wp2_with fail
  obtain ⟨M, HM⟩ : ∃ M, Hid (M = madeCells (pgArr zeroPg) (n * 128)) := ⟨_, Lib.hid rfl⟩
  obtain ⟨i0, hi0, hz0, hz1, hz2⟩ := info_parts Tryd.infoPage3
  have hmk : ∀ w', (Instr.makeSlice 74 (.int .i64 (n : Int)) (.int .i64 (n : Int))).run Tryd.prog w' = .ok (.slice (some ⟨w'.heap.size, 0, none⟩) n n) (w'.alloc (.cells M 55)) := fun w' => by
    have := run_make (P := Tryd.prog) w' 74 55 i0 _ Tryd.underlying74 hi0 hz0 .i64 .i64 n n (Int.natCast_nonneg n) (Int.le_refl _) (by rw [hz2]; omega) (by omega)
    rw [this, HM.out, hz1]
    rfl
  clear hi0 hz0 hz1 hz2
  have H1 := Lib.hid (new_disk n h1 HM.out w w.heap.size (w.heap.size + 1) (.inl ⟨rfl, rfl⟩))
  have H2 := Lib.hid (new_disk n h1 HM.out w (w.heap.size + 1) w.heap.size (.inr ⟨rfl, rfl⟩))
  go_region
  · go_wp2_with fail
    go_ret2
    exact ⟨w.heap.size + 2, rfl, H1.out, ((((Below.refl _ _).alloc (Nat.le_refl _) _).alloc (by simp) _).alloc (by simp; omega) _).drew⟩
  · go_wp2_with fail
    go_ret2
    exact ⟨w.heap.size + 2, rfl, H2.out, ((((Below.refl _ _).alloc (Nat.le_refl _) _).alloc (by simp) _).alloc (by simp; omega) _).drew⟩
end Go.Proofs.YtaolkmlgdhnhaaaDoor
