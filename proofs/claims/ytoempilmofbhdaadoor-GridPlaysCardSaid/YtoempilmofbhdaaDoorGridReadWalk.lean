/-
  The contract of the document's own Read (layer 14). Conditions: none beyond the premises of each theorem.
-/
import Derived.Test.YtoempilmofbhdaaDoorGridRefRead
import Derived.Test.YtoempilmofbhdaaDoorRegionHead
namespace Go.Proofs.YtoempilmofbhdaaDoor
open Go Go.RowKit Go.Shelf

/-- an answer of Read -/
def ReadPost (o : Option (Nat × Nat × List UInt8)) (w : World) (e : Ending) (w' : World) : Prop :=
  Below w.heap.size w w' ∧ match o with
  | some (a, h, c) => e = .returned (.tuple #[.agg #[.int .i64 (a : Int), .int .i64 (h : Int), .string (ofBytes c)], .bool true])
  | none => e = .returned (.tuple #[.agg #[.int .i64 0, .int .i64 0, .string ⟨#[]⟩], .bool false])
theorem read_results {tmps : Array Value} {W : World} {b2 : Nat} {a h : Int} {c : ByteArray} {v : Value} (t2 : tmps.getD 2 undef = .pointer (some ⟨b2, 0, none⟩)) (t3 : tmps.getD 3 undef = v) (hm : RefAt W b2 a h c) :
    (results Tryd.f17 tmps).run Tryd.prog W = .ok (.tuple #[.agg #[.int .i64 a, .int .i64 h, .string c], v]) W := by
  have c0 := hm.w_
  have c1 := hm.h_
  have c2 := hm.s_
  have t2' : tmps[2]?.getD undef = .pointer (some ⟨b2, 0, none⟩) := by simpa using t2
  have t3' : tmps[3]?.getD undef = v := by simpa using t3
  simp [results, Tryd.f17, go_sem, t2', t3', c0, c1, c2]
theorem ref_free {W : World} {b : Nat} {a h : Int} {c : ByteArray} (hm : RefAt W b a h c) (j : Nat) : W.frozen? ⟨b, j, none⟩ = false := by simp [World.frozen?, show W.heap[b]? = _ from hm]
/-- the variables of Read -/
structure ZSt (w0 : World) (b2 b4 : Nat) (l : List (List UInt8)) (w : World) : Prop where
  r2 : RefAt w b2 0 0 ⟨#[]⟩
  m : RefAt w b4 (wid l : Int) (l.length : Int) (ofBytes l.flatten)
  below : Below w0.heap.size w0 w
  l2 : w0.heap.size ≤ b2
  l4 : w0.heap.size ≤ b4
  ne : b2 ≠ b4
theorem RefAt.set3 {w : World} {b : Nat} {a h a' h' : Int} {c c' : ByteArray} (hm : RefAt w b a h c) : RefAt (((w.setCell ⟨b, 0, none⟩ (.int .i64 a')).setCell ⟨b, 1, none⟩ (.int .i64 h')).setCell ⟨b, 2, none⟩ (.string c')) b a' h' c' :=
  heap_set_same (heap_set_same (heap_set_same hm 0 (.int .i64 a')) 1 (.int .i64 h')) 2 (.string c')
theorem RefAt.set3_other {w : World} {b d : Nat} {a h a' h' : Int} {c c' : ByteArray} (hm : RefAt w b a h c) (hne : b ≠ d) : RefAt (((w.setCell ⟨d, 0, none⟩ (.int .i64 a')).setCell ⟨d, 1, none⟩ (.int .i64 h')).setCell ⟨d, 2, none⟩ (.string c')) b a h c :=
  (Below.heap_setCell _ _ _ _ (by show b ≠ d; exact hne)).trans ((Below.heap_setCell _ _ _ _ (by show b ≠ d; exact hne)).trans ((Below.heap_setCell _ _ _ _ (by show b ≠ d; exact hne)).trans hm))
theorem Below.set3 {w0 w : World} {d : Nat} {a' h' : Int} {c' : ByteArray} (hb : Below w0.heap.size w0 w) (hd : w0.heap.size ≤ d) : Below w0.heap.size w0 (((w.setCell ⟨d, 0, none⟩ (.int .i64 a')).setCell ⟨d, 1, none⟩ (.int .i64 h')).setCell ⟨d, 2, none⟩ (.string c')) :=
  ((hb.setCell (p := ⟨d, 0, none⟩) hd _).setCell (p := ⟨d, 1, none⟩) hd _).setCell (p := ⟨d, 2, none⟩) hd _
theorem layRows_len : ∀ l : List (List UInt8), (Grid.layRows l).length = l.flatten.length + l.length
  | [] => rfl
  | r :: l => by
    have ih := layRows_len l
    unfold Grid.layRows at ih ⊢
    rw [List.flatMap_cons, List.length_append, ih, List.flatten_cons, List.length_append, List.length_append]
    simp only [List.length_cons, List.length_nil]
    omega
theorem Part.bound {xs : List UInt8} {i f : Nat} {l : List (List UInt8)} (h : Part xs i f l) : l.flatten.length + l.length ≤ xs.length := by
  rw [← layRows_len, ← h.pre, List.length_take]
  omega
/-- a line more -/
theorem ZSt.line {w0 w : World} {b2 b4 f k : Nat} {s : ByteArray} {l : List (List UInt8)} {r : ByteArray} (h : ZSt w0 b2 b4 l w) (hf : f ≤ k) (hk : k ≤ s.size) (hw : l = [] ∨ k - f = wid l) (hr : r = s.extract f k) :
    ZSt w0 b2 b4 (l ++ [rowAt s.data.toList f k]) (((w.setCell ⟨b4, 0, none⟩ (.int .i64 ((k : Int) - (f : Int)))).setCell ⟨b4, 1, none⟩ (.int .i64 ((l.length : Int) + 1))).setCell ⟨b4, 2, none⟩ (.string (ofBytes l.flatten ++ r))) := by
  have hl : s.data.toList.length = s.size := by rw [Array.length_toList]; rfl
  have hlen := rowAt_length (xs := s.data.toList) (frm := f) (i := k) (by omega)
  have e1 : ((wid (l ++ [rowAt s.data.toList f k]) : Nat) : Int) = (k : Int) - (f : Int) := by
    by_cases hn : l = []
    · subst hn
      have : wid ([] ++ [rowAt s.data.toList f k]) = k - f := hlen
      omega
    · rw [wid_append _ _ hn]
      have := hw.resolve_left hn
      omega
  have e2 : (((l ++ [rowAt s.data.toList f k]).length : Nat) : Int) = (l.length : Int) + 1 := by simp
  have e3 : ofBytes (l ++ [rowAt s.data.toList f k]).flatten = ofBytes l.flatten ++ r := by
    rw [hr]
    apply ByteArray.ext
    apply Array.ext'
    simp [ofBytes, ByteArray.data_append, rowAt]
  refine ⟨h.r2.set3_other h.ne, ?_, Below.set3 h.below h.l4, h.l2, h.l4, h.ne⟩
  rw [e1, e2, e3]
  exact h.m.set3
set_option maxRecDepth 100000 in
set_option maxHeartbeats 2000000 in
theorem RefRead_any (s : ByteArray) (h200 : s.size ≤ 200) (w : World) : Calls Tryd.prog 17 #[.string s] w (ReadPost (parseM s.data.toList) w) := by
  obtain ⟨w1, HW1⟩ : ∃ w1, Hid (w1 = w.alloc (.cells #[.int .i64 0, .int .i64 0, .string ⟨#[]⟩] 23)) := ⟨_, Lib.hid rfl⟩
  obtain ⟨w2, HW2⟩ : ∃ w2, Hid (w2 = w1.alloc (.cells #[.int .i64 0, .int .i64 0, .string ⟨#[]⟩] 23)) := ⟨_, Lib.hid rfl⟩
  obtain ⟨b2, HB2⟩ : ∃ b, Hid (b = w.heap.size) := ⟨_, Lib.hid rfl⟩
  obtain ⟨b4, HB4⟩ : ∃ b, Hid (b = w.heap.size + 1) := ⟨_, Lib.hid rfl⟩
  have HS2 : Hid (ZSt w b2 b4 [] w2) := Lib.hid (by
    have s1 : w1.heap.size = w.heap.size + 1 := by rw [HW1.out]; simp
    have n1 := heap_alloc_new w (.cells #[.int .i64 0, .int .i64 0, .string ⟨#[]⟩] 23)
    have n2 := heap_alloc_new w1 (.cells #[.int .i64 0, .int .i64 0, .string ⟨#[]⟩] 23)
    rw [← HW1.out] at n1
    rw [← HW2.out, s1] at n2
    refine ⟨?_, by rw [HB4.out]; exact n2, ?_, by rw [HB2.out]; exact Nat.le_refl _, by rw [HB4.out]; omega, by rw [HB2.out, HB4.out]; omega⟩
    · rw [HB2.out, HW2.out]; exact (Below.heap_alloc _ _ _ (by omega)).trans n1
    · rw [HW2.out, HW1.out]; exact ((Below.refl _ w).alloc (Nat.le_refl _) _).alloc (by simp) _)
  have hl : s.data.toList.length = s.size := by rw [Array.length_toList]; rfl
  go_enter Tryd.func17, Tryd.ntmps17
  go_upto_region 3 with (fail)
  rw [← HB4.out, ← HB2.out, ← HW1.out, ← HW2.out]
  clear HB4 HB2 HW1 HW2
  go_wp2_with fail
  go_loopw [5, 6] (fun fr i wr => ∃ (f k : Nat) (l : List (List UInt8)), k ≤ s.size ∧ fr = .int .i64 (f : Int) ∧ i = .int .i64 (k : Int) ∧ Part s.data.toList k f l ∧ ZSt w b2 b4 l wr) (fun _ i _ => s.size - (intOf i).toNat)
  case atStart => exact ⟨0, 0, [], Nat.zero_le _, rfl, rfl, Part.start _, HS2.out⟩
  case round =>
    obtain ⟨f, k, l, hk, rfl, rfl, hp, hst⟩ := hrel
    have HP := Lib.hid hp
    have HST := Lib.hid hst
    have hfk := hp.le
    clear hp hst HS2
    obtain ⟨n9, HN9⟩ : ∃ n, Hid (n = l.length) := ⟨_, Lib.hid rfl⟩
    obtain ⟨a9, HA9⟩ : ∃ n, Hid (n = wid l) := ⟨_, Lib.hid rfl⟩
    obtain ⟨cl, HCL⟩ : ∃ c, Hid (c = ofBytes l.flatten) := ⟨_, Lib.hid rfl⟩
    have hm9 := HST.out.m
    rw [← HN9.out, ← HA9.out, ← HCL.out] at hm9
    have c0 := hm9.w_
    have c1 := hm9.h_
    have c2 := hm9.s_
    have f0 := ref_free hm9 0
    have f1 := ref_free hm9 1
    have f2 := ref_free hm9 2
    have HM9 := Lib.hid hm9
    clear hm9
    have r0 := HST.out.r2.w_
    have r1 := HST.out.r2.h_
    have r2 := HST.out.r2.s_
    have rf0 := ref_free HST.out.r2 0
    have rf1 := ref_free HST.out.r2 1
    have rf2 := ref_free HST.out.r2 2
    by_cases hlt : k < s.size
    · have hkl : k < s.data.toList.length := by omega
      obtain ⟨c, HC⟩ : ∃ c, Hid (c = s[k]) := ⟨_, Lib.hid rfl⟩
      have hck : s[k] = c := HC.out.symm
      have hcx : s.data.toList[k] = c := HC.out.symm
      by_cases h10 : c = 10
      · subst h10
        have hbd := HP.out.bound
        have hn200 : n9 ≤ 200 := by rw [HN9.out]; omega
        have hflat : cl.size ≤ 200 := by rw [HCL.out, ofBytes_size]; omega
        clear hbd
        by_cases hl0 : l = []
        · have hz9 : n9 = 0 := by rw [HN9.out, hl0]; rfl
          have HWD : Hid (l = [] ∨ k - f = wid l) := Lib.hid (.inl hl0)
          obtain ⟨r, HRR⟩ : ∃ r, Hid (r = s.extract f k) := ⟨_, Lib.hid rfl⟩
          have HNX := Lib.hid (HST.out.line hfk hk HWD.out HRR.out)
          rw [← HN9.out, ← HCL.out] at HNX
          rw [show (n9 : Int) + 1 = 1 by omega] at HNX
          have HPX := Lib.hid (HP.out.line hkl hcx HWD.out)
          have hr1 : s.extract f k = r := HRR.out.symm
          have hrs : r.size ≤ 200 := by rw [HRR.out, ByteArray.size_extract]; omega
          go_upto_region 11 with (fail)
          obtain ⟨w3, HW3⟩ : ∃ w3, Hid (w3 = (wr.setCell ⟨b4, 0, none⟩ (.int .i64 ((k : Int) - (f : Int)))).setCell ⟨b4, 1, none⟩ (.int .i64 1)) := ⟨_, Lib.hid rfl⟩
          rw [← HW3.out]
          have c33 : w3.cell? ⟨b4, 2, none⟩ = some (.string cl) := by rw [HW3.out, World.cell?_setCell_other _ _ _ _ (by simp), World.cell?_setCell_other _ _ _ _ (by simp)]; exact c2
          have f33 : w3.frozen? ⟨b4, 2, none⟩ = false := by rw [HW3.out, World.frozen?_setCell, World.frozen?_setCell]; exact f2
          rw [← HW3.out] at HNX
          clear HW3
          refine wp_region_head (fun w9 => w9.cell? ⟨b4, 2, none⟩ = some (.string cl)) 8 (by kernel_rfl) (by kernel_rfl) (fun wa HWA => ?_)
          have hS : wa.cell? ⟨b4, 2, none⟩ = some (.string cl) := by rw [HWA.out]; exact c33
          have fa : wa.frozen? ⟨b4, 2, none⟩ = false := by rw [HWA.out]; exact f33
          have HNA : Hid (ZSt w b2 b4 (l ++ [rowAt s.data.toList f k]) (wa.setCell ⟨b4, 2, none⟩ (.string (cl ++ r)))) := Lib.hid (by
            have h9 := HNX.out
            rw [HWA.out]
            exact ⟨h9.r2, h9.m, h9.below.drew, h9.l2, h9.l4, h9.ne⟩)
          clear HWA HNX c33 f33
          have hlen9 : cl.size + r.size ≤ 9223372036854775807 := by omega
          refine takeH (i := 0) 37 (v := .pointer (some ⟨b4, 2, none⟩)) rfl (by kernel_rfl) (by kernel_rfl) (by kernel_rfl) rfl (fun _ _ _ h => h) (.inl ⟨by rfl, fun _ _ => by go_simp⟩) hS ?_
          simp only [Act.put, List.setIfInBounds_toArray, List.set_cons_zero, List.set_cons_succ]
          refine takeH (i := 1) 38 (v := .string cl) rfl (by kernel_rfl) (by kernel_rfl) (by kernel_rfl) rfl (fun _ _ _ h => h) (.inl ⟨by rfl, fun _ h => by have c0 := h; go_simp⟩) hS ?_
          simp only [Act.put, List.setIfInBounds_toArray, List.set_cons_zero, List.set_cons_succ]
          refine takeH (i := 2) 39 (v := .string s) rfl (by kernel_rfl) (by kernel_rfl) (by kernel_rfl) rfl (fun _ _ _ h => h) (.inl ⟨by rfl, fun _ _ => by go_simp⟩) hS ?_
          simp only [Act.put, List.setIfInBounds_toArray, List.set_cons_zero, List.set_cons_succ]
          refine takeH (i := 3) 40 (v := .int .i64 (f : Int)) rfl (by kernel_rfl) (by kernel_rfl) (by kernel_rfl) rfl (fun _ _ _ h => h) (.inl ⟨by rfl, fun _ _ => by go_simp⟩) hS ?_
          simp only [Act.put, List.setIfInBounds_toArray, List.set_cons_zero, List.set_cons_succ]
          refine takeH (i := 4) 41 (v := .int .i64 (k : Int)) rfl (by kernel_rfl) (by kernel_rfl) (by kernel_rfl) rfl (fun _ _ _ h => h) (.inl ⟨by rfl, fun _ _ => by go_simp⟩) hS ?_
          simp only [Act.put, List.setIfInBounds_toArray, List.set_cons_zero, List.set_cons_succ]
          refine takeH (i := 5) 42 (v := .string r) rfl (by kernel_rfl) (by kernel_rfl) (by kernel_rfl) rfl (fun _ _ _ h => h) (.inl ⟨by rfl, fun _ _ => by go_simp⟩) hS ?_
          simp only [Act.put, List.setIfInBounds_toArray, List.set_cons_zero, List.set_cons_succ]
          refine takeH (i := 6) 43 (v := .string (cl ++ r)) rfl (by kernel_rfl) (by kernel_rfl) (by kernel_rfl) rfl (fun _ _ _ h => h) (.inl ⟨by rfl, fun _ _ => by go_simp⟩) hS ?_
          simp only [Act.put, List.setIfInBounds_toArray, List.set_cons_zero, List.set_cons_succ]
          refine takeH (i := 7) 44 (v := .pointer (some ⟨b4, 2, none⟩)) rfl (by kernel_rfl) (by kernel_rfl) (by kernel_rfl) rfl (fun _ _ _ h => h) (.inl ⟨by rfl, fun _ _ => by go_simp⟩) hS ?_
          simp only [Act.put, List.setIfInBounds_toArray, List.set_cons_zero, List.set_cons_succ]
          refine wpAnyH_done (by kernel_rfl) ?_ _
          unfold HeadPost
          simp only [List.drop_succ_cons, List.drop_zero]
          go_wp2_with fail
          go_roundw
          case rel => exact ⟨k + 1, k + 1, _, hlt, by go_num, by go_num, HPX.out, HNA.out⟩
          case measure => simp [intOf]; omega
        · have hz9 : 0 < n9 := by rw [HN9.out]; exact List.length_pos_iff.2 hl0
          by_cases hwd : (k : Int) - (f : Int) = (a9 : Int)
          · have HWD : Hid (l = [] ∨ k - f = wid l) := Lib.hid (.inr (by rw [← HA9.out]; omega))
            obtain ⟨r, HRR⟩ : ∃ r, Hid (r = s.extract f k) := ⟨_, Lib.hid rfl⟩
            have HNX := Lib.hid (HST.out.line hfk hk HWD.out HRR.out)
            rw [← HN9.out, ← HCL.out] at HNX
            rw [hwd] at HNX
            have HPX := Lib.hid (HP.out.line hkl hcx HWD.out)
            have hr1 : s.extract f k = r := HRR.out.symm
            have hrs : r.size ≤ 200 := by rw [HRR.out, ByteArray.size_extract]; omega
            go_upto_region 11 with (fail)
            obtain ⟨w3, HW3⟩ : ∃ w3, Hid (w3 = (wr.setCell ⟨b4, 0, none⟩ (.int .i64 (a9 : Int))).setCell ⟨b4, 1, none⟩ (.int .i64 ((n9 : Int) + 1))) := ⟨_, Lib.hid rfl⟩
            rw [← HW3.out]
            have c33 : w3.cell? ⟨b4, 2, none⟩ = some (.string cl) := by rw [HW3.out, World.cell?_setCell_other _ _ _ _ (by simp), World.cell?_setCell_other _ _ _ _ (by simp)]; exact c2
            have f33 : w3.frozen? ⟨b4, 2, none⟩ = false := by rw [HW3.out, World.frozen?_setCell, World.frozen?_setCell]; exact f2
            rw [← HW3.out] at HNX
            clear HW3
            refine wp_region_head (fun w9 => w9.cell? ⟨b4, 2, none⟩ = some (.string cl)) 8 (by kernel_rfl) (by kernel_rfl) (fun wa HWA => ?_)
            have hS : wa.cell? ⟨b4, 2, none⟩ = some (.string cl) := by rw [HWA.out]; exact c33
            have fa : wa.frozen? ⟨b4, 2, none⟩ = false := by rw [HWA.out]; exact f33
            have HNA : Hid (ZSt w b2 b4 (l ++ [rowAt s.data.toList f k]) (wa.setCell ⟨b4, 2, none⟩ (.string (cl ++ r)))) := Lib.hid (by
              have h9 := HNX.out
              rw [HWA.out]
              exact ⟨h9.r2, h9.m, h9.below.drew, h9.l2, h9.l4, h9.ne⟩)
            clear HWA HNX c33 f33
            have hlen9 : cl.size + r.size ≤ 9223372036854775807 := by omega
            refine takeH (i := 0) 37 (v := .pointer (some ⟨b4, 2, none⟩)) rfl (by kernel_rfl) (by kernel_rfl) (by kernel_rfl) rfl (fun _ _ _ h => h) (.inl ⟨by rfl, fun _ _ => by go_simp⟩) hS ?_
            simp only [Act.put, List.setIfInBounds_toArray, List.set_cons_zero, List.set_cons_succ]
            refine takeH (i := 1) 38 (v := .string cl) rfl (by kernel_rfl) (by kernel_rfl) (by kernel_rfl) rfl (fun _ _ _ h => h) (.inl ⟨by rfl, fun _ h => by have c0 := h; go_simp⟩) hS ?_
            simp only [Act.put, List.setIfInBounds_toArray, List.set_cons_zero, List.set_cons_succ]
            refine takeH (i := 2) 39 (v := .string s) rfl (by kernel_rfl) (by kernel_rfl) (by kernel_rfl) rfl (fun _ _ _ h => h) (.inl ⟨by rfl, fun _ _ => by go_simp⟩) hS ?_
            simp only [Act.put, List.setIfInBounds_toArray, List.set_cons_zero, List.set_cons_succ]
            refine takeH (i := 3) 40 (v := .int .i64 (f : Int)) rfl (by kernel_rfl) (by kernel_rfl) (by kernel_rfl) rfl (fun _ _ _ h => h) (.inl ⟨by rfl, fun _ _ => by go_simp⟩) hS ?_
            simp only [Act.put, List.setIfInBounds_toArray, List.set_cons_zero, List.set_cons_succ]
            refine takeH (i := 4) 41 (v := .int .i64 (k : Int)) rfl (by kernel_rfl) (by kernel_rfl) (by kernel_rfl) rfl (fun _ _ _ h => h) (.inl ⟨by rfl, fun _ _ => by go_simp⟩) hS ?_
            simp only [Act.put, List.setIfInBounds_toArray, List.set_cons_zero, List.set_cons_succ]
            refine takeH (i := 5) 42 (v := .string r) rfl (by kernel_rfl) (by kernel_rfl) (by kernel_rfl) rfl (fun _ _ _ h => h) (.inl ⟨by rfl, fun _ _ => by go_simp⟩) hS ?_
            simp only [Act.put, List.setIfInBounds_toArray, List.set_cons_zero, List.set_cons_succ]
            refine takeH (i := 6) 43 (v := .string (cl ++ r)) rfl (by kernel_rfl) (by kernel_rfl) (by kernel_rfl) rfl (fun _ _ _ h => h) (.inl ⟨by rfl, fun _ _ => by go_simp⟩) hS ?_
            simp only [Act.put, List.setIfInBounds_toArray, List.set_cons_zero, List.set_cons_succ]
            refine takeH (i := 7) 44 (v := .pointer (some ⟨b4, 2, none⟩)) rfl (by kernel_rfl) (by kernel_rfl) (by kernel_rfl) rfl (fun _ _ _ h => h) (.inl ⟨by rfl, fun _ _ => by go_simp⟩) hS ?_
            simp only [Act.put, List.setIfInBounds_toArray, List.set_cons_zero, List.set_cons_succ]
            refine wpAnyH_done (by kernel_rfl) ?_ _
            unfold HeadPost
            simp only [List.drop_succ_cons, List.drop_zero]
            go_wp2_with fail
            go_roundw
            case rel => exact ⟨k + 1, k + 1, _, hlt, by go_num, by go_num, HPX.out, HNA.out⟩
            case measure => simp [intOf]; omega
          · go_wp2_with fail
            refine bodyPost_ret (read_results rfl rfl HST.out.r2.set3) rfl ?_
            rw [HP.out.bad hkl hcx hl0 (by rw [← HA9.out]; omega)]
            exact ⟨Below.set3 HST.out.below HST.out.l2, rfl⟩
      · have hne : ((c.toNat : Int) != 10) = true := by
          simp only [bne_iff_ne, ne_eq]
          intro e
          exact h10 (UInt8.toNat.inj (by show c.toNat = 10; omega))
        go_wp2_with fail
        go_roundw
        case rel => exact ⟨f, k + 1, l, hlt, rfl, by go_num, HP.out.skip hkl (by rw [hcx]; exact h10), HST.out⟩
        case measure => simp [intOf]; omega
    · obtain rfl : k = s.size := by omega
      have hp9 := HP.out
      rw [← hl] at hp9
      by_cases hfs : f = s.size
      · subst hfs
        rw [← hl] at hp9
        have HPW := Lib.hid hp9.whole
        clear hp9
        go_wp2_with fail
        refine (RefRight_any (a9 : Int) (n9 : Int) cl wr).mono ?_
        obtain ⟨z, HZ⟩ : ∃ z, Hid (z = rightM (a9 : Int) (n9 : Int) cl) := ⟨_, Lib.hid rfl⟩
        have hzz : Grid.rightB (wid l : Int) (l.length : Int) l.flatten = z := by
          rw [HZ.out, HCL.out, HA9.out, HN9.out]
          unfold rightM
          rw [ofBytes_list]
        have HPZ := Lib.hid (HPW.out.trans (by rw [hzz]))
        clear hzz HPW
        rw [← HZ.out]
        rintro e w5 ⟨rfl, hb⟩
        have HM5 : Hid (RefAt w5 b4 a9 n9 cl) := Lib.hid (HM9.out.carry hb)
        have HR5 : Hid (RefAt w5 b2 0 0 ⟨#[]⟩) := Lib.hid (HST.out.r2.carry hb)
        have HB5 := Lib.hid (HST.out.below.trans (hb.mono HST.out.below.size))
        clear hb c0 c1 c2 f0 f1 f2 r0 r1 r2 rf0 rf1 rf2
        have c0 := HM5.out.w_
        have c1 := HM5.out.h_
        have c2 := HM5.out.s_
        have r0 := HR5.out.w_
        have r1 := HR5.out.h_
        have r2 := HR5.out.s_
        have rf0 := ref_free HR5.out 0
        have rf1 := ref_free HR5.out 1
        have rf2 := ref_free HR5.out 2
        dsimp only
        cases z with
        | false =>
          go_wp2_with fail
          refine bodyPost_ret (read_results rfl rfl HR5.out.set3) rfl ?_
          rw [HPZ.out, if_neg (by decide)]
          exact ⟨Below.set3 HB5.out HST.out.l2, rfl⟩
        | true =>
          go_wp2_with fail
          refine bodyPost_ret (read_results rfl rfl HR5.out.set3) rfl ?_
          rw [HPZ.out, if_pos trivial, ← HA9.out, ← HN9.out]
          refine ⟨Below.set3 HB5.out HST.out.l2, ?_⟩
          rw [HCL.out]
          rfl
      · go_wp2_with fail
        refine bodyPost_ret (read_results rfl rfl HST.out.r2.set3) rfl ?_
        rw [hp9.open_ (by rw [hl]; exact hfs)]
        exact ⟨Below.set3 HST.out.below HST.out.l2, rfl⟩
end Go.Proofs.YtoempilmofbhdaaDoor
