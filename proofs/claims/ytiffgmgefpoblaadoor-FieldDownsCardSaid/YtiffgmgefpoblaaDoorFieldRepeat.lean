/-
  The library's slices.Repeat of one number: so many of it, in memory of its own. Conditions: none beyond the premises of each theorem.
-/
import Derived.Test.YtiffgmgefpoblaaDoorFieldShelf
import Derived.Test.YtiffgmgefpoblaaDoorStop
import Derived.Laws.CopyOwn
import Derived.Test.YtiffgmgefpoblaaDoorRegionHead
namespace Go.Proofs.YtiffgmgefpoblaaDoor
open Go.RowKit

theorem Tryd.infoInt7 : (Tryd.prog.info? 3).map (fun i => (i.zero, i.size, i.bytes)) = some (some (.int .i64 0), 1, 8) := by kernel_rfl
theorem oneInt7 : (Tryd.prog.info? 3).map (·.size) = some 1 := by kernel_rfl
theorem make_nums (n : Nat) (hn : n ≤ 1000) (w : World) : (Instr.makeSlice 24 (.int .i64 (n : Int)) (.int .i64 (n : Int))).run Tryd.prog w = .ok (.slice (some ⟨w.heap.size, 0, none⟩) n n) (w.alloc (.cells (madeCells #[Value.int .i64 0] (n * 1)) 3)) := by
  obtain ⟨i0, hi0, hz0, hz1, hz2⟩ := info_parts Tryd.infoInt7
  have := run_make (P := Tryd.prog) w 24 3 i0 _ Tryd.underlying24 hi0 hz0 .i64 .i64 n n (Int.natCast_nonneg n) (Int.le_refl _) (by rw [hz2]; omega) (by omega)
  rw [this, hz1]
  rfl
/-- the first k laid, the others not yet -/
def repC (z : Int) (k n : Nat) : List Value := List.replicate k (.int .i64 z) ++ List.replicate (n - k) (.int .i64 0)
theorem repC_length {z : Int} {k n : Nat} (h : k ≤ n) : (repC z k n).length = n := by simp [repC]; omega
theorem repC_made (z : Int) (n : Nat) : madeCells #[Value.int .i64 0] (n * 1) = (repC z 0 n).toArray := by
  apply Array.ext
  · simp [madeCells, repC]
  · intro i h1 h2
    simp [madeCells, repC, Nat.mod_one]
theorem repC_full (z : Int) (n : Nat) : repC z n n = rowV (List.replicate n z) := by simp [repC, rowV]
theorem repC_splice {z : Int} {k m n : Nat} (h : k + m ≤ n) : splice (repC z k n) k (List.replicate m (.int .i64 z)) = repC z (k + m) n := by
  unfold splice repC
  rw [List.take_left' (by simp), List.drop_append, List.length_replicate]
  simp only [List.length_replicate]
  rw [List.drop_eq_nil_of_le (by simp), List.nil_append, List.drop_replicate, ← List.append_assoc, List.replicate_append_replicate]
  congr 2
  omega
theorem repC_at {z : Int} {k n i : Nat} (h : i < k) : (repC z k n)[i]? = some (.int .i64 z) := by
  unfold repC
  rw [List.getElem?_append_left (by simpa using h)]
  simp [h]
set_option maxRecDepth 100000 in
theorem Repeat_any {w : World} {p : Nat} {z : Int} (hx : w.cell? ⟨p, 0, none⟩ = some (.int .i64 z)) {n : Nat} (h1 : 1 ≤ n) (hn : n ≤ 1000) :
    Calls Tryd.prog 36 #[.slice (some ⟨p, 0, none⟩) 1 1, .int .i64 (n : Int)] w fun e w' => ∃ g, e = .returned (.slice (some ⟨g, 0, none⟩) n n) ∧ w.heap.size ≤ g ∧ COwn w' g (rowV (List.replicate n z)) ∧ Below w.heap.size w w' := by
  have HX := Lib.hid hx
  clear hx
  have hm := Mul_one n hn w
  obtain ⟨g, HG⟩ : ∃ g, Hid (g = w.heap.size) := ⟨_, Lib.hid rfl⟩
  have hmk := make_nums n hn w
  rw [repC_made z, ← HG.out] at hmk
  obtain ⟨w1, HW1⟩ : ∃ w1, Hid (w1 = w.alloc (.cells (repC z 0 n).toArray 3)) := ⟨_, Lib.hid rfl⟩
  rw [← HW1.out] at hmk
  have HG1 : Hid (w1.heap[g]? = some (.cells (repC z 0 n).toArray 3 (0, 0))) := Lib.hid (by rw [HW1.out, HG.out]; exact heap_alloc_new w _)
  have HB1 : Hid (Below w.heap.size w w1) := Lib.hid (by rw [HW1.out]; exact (Below.refl _ _).alloc (Nat.le_refl _) _)
  have HX1 : Hid (w1.cell? ⟨p, 0, none⟩ = some (.int .i64 z)) := Lib.hid ((HB1.out.cell (p := ⟨p, 0, none⟩) (below_block HX.out)).trans HX.out)
  clear HW1
  go_enter Tryd.func36, Tryd.ntmps36
  go_wp2_with fail
  refine hm.mono ?_
  rintro e w' ⟨rfl, hw⟩
  rw [hw]
  clear hm hw w'
  go_wp2_with (with_reducible refine stop_at (o := ⟨some 33, _, _, _, _, _⟩) ?_)
  unfold Stopped
  refine wpList_copy_splice rfl _ _ _ _ rfl 3 Tryd.underlying24 oneInt7 _ _ _ _ _ _ rfl rfl g 0 (repC z 0 n) 3 HG1.out [.int .i64 z] (by show 1 = min 1 n; omega) (fun _ => ⟨rfl, _, rfl, ?_⟩) (by rw [repC_length (Nat.zero_le _)]; simpa using h1) (by simp [Value.oneCell']) w.heap.size w HB1.out (by rw [HG.out]; exact Nat.le_refl _) ?_
  · intro j v hj
    match j, hj with
    | 0, hj =>
      obtain rfl := Option.some.inj hj
      simpa [Addr.add] using HX1.out
  intro w2 hg2 hb2
  have HG2 : Hid (w2.heap[g]? = some (.cells (repC z 1 n).toArray 3 (0, 0))) := Lib.hid (by
    have := hg2.out
    rwa [show [Value.int .i64 z] = List.replicate 1 (.int .i64 z) from rfl, repC_splice (by omega)] at this)
  have HB2 := Lib.hid hb2
  clear hg2 hb2 HG1 HB1 HX1 hmk HX
  simp only [Act.put, List.setIfInBounds_toArray, List.set_cons_zero, List.set_cons_succ]
  go_wp2_with fail
  go_loopw [8] (fun u wr => ∃ k : Nat, u = .int .i64 (k : Int) ∧ 1 ≤ k ∧ k ≤ n ∧ wr.heap[g]? = some (.cells (repC z k n).toArray 3 (0, 0)) ∧ Below w.heap.size w wr) (fun u _ => n - (intOf u).toNat)
  case atStart => exact ⟨1, rfl, Nat.le_refl _, h1, HG2.out, HB2.out⟩
  case round =>
    clear HG2 HB2
    obtain ⟨k, rfl, hk1, hkn, hg3, hb3⟩ := hrel
    have HG3 := Lib.hid hg3
    have HB3 := Lib.hid hb3
    clear hg3 hb3
    by_cases hlt : k < n
    · obtain ⟨m, HM⟩ : ∃ m, Hid (m = min k (n - k)) := ⟨_, Lib.hid rfl⟩
      obtain ⟨cs, HC⟩ : ∃ cs, Hid (cs = List.replicate m (Value.int .i64 z)) := ⟨_, Lib.hid rfl⟩
      have hcl : cs.length = m := by rw [HC.out]; simp
      have hne : ¬ n = k := by omega
      go_wp2_with fail
      refine wp_region_head (fun _ => True) 9 (by kernel_rfl) (by kernel_rfl) (fun w4 HW4 => ?_)
      have HG4 : Hid (w4.heap[g]? = some (.cells (repC z k n).toArray 3 (0, 0))) := Lib.hid (by rw [HW4.out]; exact HG3.out)
      have HB4 : Hid (Below w.heap.size w w4) := Lib.hid (by rw [HW4.out]; exact HB3.out.drew)
      clear HW4 HG3 HB3
      have hS : True := trivial
      refine takeH (i := 0) 38 (v := (.int .i64 (k : Int))) rfl (by kernel_rfl) (by kernel_rfl) (by kernel_rfl) rfl (fun _ _ _ h => h) (.inl ⟨by rfl, fun _ _ => by go_simp⟩) hS ?_
      simp only [Act.put, List.setIfInBounds_toArray, List.set_cons_zero, List.set_cons_succ]
      refine takeH (i := 1) 39 (v := (.slice (some ⟨g, 0, none⟩) n n)) rfl (by kernel_rfl) (by kernel_rfl) (by kernel_rfl) rfl (fun _ _ _ h => h) (.inl ⟨by rfl, fun _ _ => by go_simp⟩) hS ?_
      simp only [Act.put, List.setIfInBounds_toArray, List.set_cons_zero, List.set_cons_succ]
      refine takeH (i := 2) 40 (v := (.int .i64 (k : Int))) rfl (by kernel_rfl) (by kernel_rfl) (by kernel_rfl) rfl (fun _ _ _ h => h) (.inl ⟨by rfl, fun _ _ => by go_simp⟩) hS ?_
      simp only [Act.put, List.setIfInBounds_toArray, List.set_cons_zero, List.set_cons_succ]
      refine takeH (i := 3) 41 (v := (.slice (some ⟨g, k, none⟩) (n - k) (n - k))) rfl (by kernel_rfl) (by kernel_rfl) (by kernel_rfl) rfl (fun _ _ _ h => h) (.inl ⟨by rfl, fun _ _ => by go_simp⟩) hS ?_
      simp only [Act.put, List.setIfInBounds_toArray, List.set_cons_zero, List.set_cons_succ]
      refine takeH (i := 4) 42 (v := (.slice (some ⟨g, 0, none⟩) n n)) rfl (by kernel_rfl) (by kernel_rfl) (by kernel_rfl) rfl (fun _ _ _ h => h) (.inl ⟨by rfl, fun _ _ => by go_simp⟩) hS ?_
      simp only [Act.put, List.setIfInBounds_toArray, List.set_cons_zero, List.set_cons_succ]
      refine takeH (i := 5) 43 (v := (.int .i64 (k : Int))) rfl (by kernel_rfl) (by kernel_rfl) (by kernel_rfl) rfl (fun _ _ _ h => h) (.inl ⟨by rfl, fun _ _ => by go_simp⟩) hS ?_
      simp only [Act.put, List.setIfInBounds_toArray, List.set_cons_zero, List.set_cons_succ]
      refine takeH (i := 6) 44 (v := (.slice (some ⟨g, 0, none⟩) k n)) rfl (by kernel_rfl) (by kernel_rfl) (by kernel_rfl) rfl (fun _ _ _ h => h) (.inl ⟨by rfl, fun _ _ => by go_simp⟩) hS ?_
      simp only [Act.put, List.setIfInBounds_toArray, List.set_cons_zero, List.set_cons_succ]
      refine oneH (i := 7) (oi := ⟨some 45, _, _, _, _, _⟩) rfl (by kernel_rfl) (fun K hK => ?_)
      refine step_copy_splice rfl (.tmp 41) (.tmp 44) _ _ rfl 3 Tryd.underlying24 oneInt7 _ _ _ _ _ _ rfl rfl g k (repC z k n) 3 HG4.out cs (by rw [hcl]; exact HM.out) (fun hp => ⟨rfl, _, rfl, fun j v hj => ?_⟩) ?_ ?_ w.heap.size w HB4.out (by rw [HG.out]; exact Nat.le_refl _) ?_
      · have hjm : j < m := by rw [← hcl]; exact (List.getElem?_eq_some_iff.1 hj).1
        have hv : v = .int .i64 z := by rw [HC.out] at hj; simp [hjm] at hj; exact hj.symm
        have := HM.out
        rw [Addr.add_mid, Nat.zero_add, cell_of_row w4 g j _ _ _ HG4.out, hv]
        simpa using repC_at (z := z) (n := n) (show j < k by omega)
      · rw [hcl, repC_length (by omega)]
        have := HM.out
        omega
      · rw [HC.out]
        intro v hv
        rw [List.eq_of_mem_replicate hv]
        rfl
      intro w5 hg5 hb5
      have HG5 : Hid (w5.heap[g]? = some (.cells (repC z (k + m) n).toArray 3 (0, 0))) := Lib.hid (by
        have h9 := hg5.out
        have := HM.out
        rwa [HC.out, repC_splice (by omega)] at h9)
      have HB5 := Lib.hid hb5
      rw [hcl]
      refine hK.out _ _ trivial ?_
      clear hK K hg5 hb5 HG4 HB4 HC hcl
      have hw8 : IntKind.i64.wrap ((k : Int) + (m : Int)) = (k : Int) + (m : Int) := by have := HM.out; rw [IntKind.wrap_i64]; omega
      refine takeH (i := 8) 46 (v := .int .i64 ((k : Int) + (m : Int))) rfl (by kernel_rfl) (by kernel_rfl) (by kernel_rfl) rfl (fun _ _ _ h => h) (.inl ⟨by rfl, fun _ _ => by go_simp⟩) hS ?_
      simp only [Act.put, List.setIfInBounds_toArray, List.set_cons_zero, List.set_cons_succ]
      refine wpAnyH_done (by kernel_rfl) ?_ _
      unfold HeadPost
      simp only [List.drop_succ_cons, List.drop_zero]
      go_wp2_with fail
      go_roundw
      case rel => exact ⟨k + m, by go_num, by omega, by have := HM.out; omega, HG5.out, HB5.out⟩
      case measure =>
        have := HM.out
        show n - ((k : Int) + (m : Int)).toNat < n - ((k : Int)).toNat
        omega
    · obtain rfl : k = n := by omega
      go_wp2_with fail
      go_ret
      rw [repC_full] at HG3
      exact ⟨g, rfl, by rw [HG.out]; exact Nat.le_refl _, COwn.of_row HG3.out, HB3.out⟩
end Go.Proofs.YtiffgmgefpoblaaDoor
