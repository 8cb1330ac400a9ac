/-
  The walk of BitsPlays: what is in a set, with and without a number, how many, and both of two are the document's. Conditions: none beyond the premises of each theorem.
-/
import Derived.Test.YteceihjnlncbkaaSetOf
import Derived.Test.YteceihjnlncbkaaSetEq
namespace Go.Proofs.Yteceihjnlncbkaa
open Go.RowKit
open Bits (Ok has with_ without count countBelow first both ofK)

/-- a body behind its first statements -/
def behind : Nat → Code → Code
  | 0, c => c
  | n + 1, .seq _ b => behind n b
  | _, c => c
theorem go_on {P : Program} {K : Act → World → Prop} {c : Code} {Q : Exit → Act → World → Prop} {a : Act} {w : World} (h : ∀ a w, Code.wp P c Q a w → K a w) (hw : Code.wp P c Q a w) : K a w := h a w hw
/-- how far the count has come -/
def CountAt (s : List Nat) (c i : Value) : Prop := ∃ k : Nat, k ≤ 240 ∧ i = .int .i64 k ∧ c = .int .i64 (countBelow s k)
theorem range_other {w : World} {b c i : Nat} {cs : List Value} (h : w.rangeAt b 0 cs) (hc : c ≠ b) (v : Value) : (w.setCell ⟨c, i, none⟩ v).rangeAt b 0 cs := fun j u hu =>
  (World.cell?_setCell_other _ _ _ _ (by intro hh; injection hh; omega)).trans (h j u hu)
theorem BRow.grown {w w' : World} {g : Nat} {f : Nat → Bool} {o : Obj} {row : Option Nat} (h : BRow w g f) (hg : (w.alloc o).grownBy w' row) (hr : row ≠ some g) : BRow w' g f := by
  have hl := h.lt
  refine ⟨fun i hi => ?_, fun i => ?_⟩
  · exact ((hg.cell_far _ (by show g < (w.alloc o).heap.size; simp; omega) (Ne.symm hr)).trans (World.cell?_alloc_lt w o ⟨g, i, none⟩ hl)).trans (h.at_ i hi)
  · exact ((hg.frozen_far _ (by show g < (w.alloc o).heap.size; simp; omega) (Ne.symm hr)).trans (World.frozen?_alloc_old w o ⟨g, i, none⟩ (Nat.ne_of_lt hl))).trans (h.free i)
/-- a row's cells as an append takes them -/
theorem BRow.news {w : World} {g : Nat} {f : Nat → Bool} (h : BRow w g f) (o : Obj) : ∀ j u, (blCells f 240)[j]? = some u → (w.alloc o).cell? ((⟨g, 0, none⟩ : Addr).add j) = some u := fun j u hu => by
  have hj : j < 240 := by
    have := (List.getElem?_eq_some_iff.1 hu).1
    rwa [blCells_length] at this
  rw [blCells_at hj] at hu
  have e : (⟨g, 0, none⟩ : Addr).add j = ⟨g, j, none⟩ := by
    unfold Addr.add
    split
    · subst_vars; rfl
    · simp
  rw [e, World.cell?_alloc_lt w o ⟨g, j, none⟩ h.lt, h.at_ j hj]
  exact hu
/-- what stands in memory: the two sets, the list of the first one, those with and without the number -/
structure PlSt (w : World) (b b1 g7 g10 g11 : Nat) (s t : List Nat) (f10 f11 : Nat → Bool) (wr : World) : Prop where
  arg : wr.rangeAt b 0 (stCells s)
  arg2 : wr.rangeAt b1 0 (stCells t)
  l : BRow wr g7 (has s)
  wi : BRow wr g10 f10
  wo : BRow wr g11 f11
  ord : w.heap.size ≤ b ∧ b < b1 ∧ b1 < g7 ∧ g7 < g10 ∧ g10 < g11
  below : Below w.heap.size w wr
theorem PlSt.carry {w : World} {b b1 g7 g10 g11 : Nat} {s t : List Nat} {f10 f11 : Nat → Bool} {wr w' : World} (h : PlSt w b b1 g7 g10 g11 s t f10 f11 wr) (hb : Below wr.heap.size wr w') : PlSt w b b1 g7 g10 g11 s t f10 f11 w' :=
  ⟨range_carry h.arg hb, range_carry h.arg2 hb, h.l.carry hb, h.wi.carry hb, h.wo.carry hb, h.ord, h.below.trans (hb.mono h.below.size)⟩
theorem PlSt.drew {w : World} {b b1 g7 g10 g11 : Nat} {s t : List Nat} {f10 f11 : Nat → Bool} {wr : World} (h : PlSt w b b1 g7 g10 g11 s t f10 f11 wr) : PlSt w b b1 g7 g10 g11 s t f10 f11 wr.drew := ⟨h.arg, h.arg2, h.l.drew, h.wi.drew, h.wo.drew, h.ord, h.below.drew⟩
theorem PlSt.put10 {w : World} {b b1 g7 g10 g11 : Nat} {s t : List Nat} {f10 f11 f : Nat → Bool} {wr : World} (h : PlSt w b b1 g7 g10 g11 s t f10 f11 wr) {i : Nat} (hi : i < 240) (v : Bool) (hf : ∀ j, j < 240 → f j = if j = i then v else f10 j) :
    PlSt w b b1 g7 g10 g11 s t f f11 (wr.setCell ⟨g10, i, none⟩ (.bool v)) := by
  obtain ⟨h0, h1, h2, h3, h4⟩ := h.ord
  exact ⟨range_other h.arg (by omega) _, range_other h.arg2 (by omega) _, h.l.other (by omega) _ _, h.wi.put hi v hf, h.wo.other (by omega) _ _, h.ord, h.below.setCell (by show w.heap.size ≤ g10; omega) _⟩
theorem PlSt.put11 {w : World} {b b1 g7 g10 g11 : Nat} {s t : List Nat} {f10 f11 f : Nat → Bool} {wr : World} (h : PlSt w b b1 g7 g10 g11 s t f10 f11 wr) {i : Nat} (hi : i < 240) (v : Bool) (hf : ∀ j, j < 240 → f j = if j = i then v else f11 j) :
    PlSt w b b1 g7 g10 g11 s t f10 f (wr.setCell ⟨g11, i, none⟩ (.bool v)) := by
  obtain ⟨h0, h1, h2, h3, h4⟩ := h.ord
  exact ⟨range_other h.arg (by omega) _, range_other h.arg2 (by omega) _, h.l.other (by omega) _ _, h.wi.other (by omega) _ _, h.wo.put hi v hf, h.ord, h.below.setCell (by show w.heap.size ≤ g11; omega) _⟩
/-- .. and the list of both -/
structure PmSt (w : World) (b b1 g7 g10 g11 g12 : Nat) (s t : List Nat) (f10 f11 f12 : Nat → Bool) (wr : World) : Prop where
  st : PlSt w b b1 g7 g10 g11 s t f10 f11 wr
  m : BRow wr g12 f12
  lt : g11 < g12
theorem PmSt.carry {w : World} {b b1 g7 g10 g11 g12 : Nat} {s t : List Nat} {f10 f11 f12 : Nat → Bool} {wr w' : World} (h : PmSt w b b1 g7 g10 g11 g12 s t f10 f11 f12 wr) (hb : Below wr.heap.size wr w') : PmSt w b b1 g7 g10 g11 g12 s t f10 f11 f12 w' :=
  ⟨h.st.carry hb, h.m.carry hb, h.lt⟩
theorem PmSt.drew {w : World} {b b1 g7 g10 g11 g12 : Nat} {s t : List Nat} {f10 f11 f12 : Nat → Bool} {wr : World} (h : PmSt w b b1 g7 g10 g11 g12 s t f10 f11 f12 wr) : PmSt w b b1 g7 g10 g11 g12 s t f10 f11 f12 wr.drew := ⟨h.st.drew, h.m.drew, h.lt⟩
theorem PmSt.put {w : World} {b b1 g7 g10 g11 g12 : Nat} {s t : List Nat} {f10 f11 f12 f : Nat → Bool} {wr : World} (h : PmSt w b b1 g7 g10 g11 g12 s t f10 f11 f12 wr) {i : Nat} (hi : i < 240) (v : Bool) (hf : ∀ j, j < 240 → f j = if j = i then v else f12 j) :
    PmSt w b b1 g7 g10 g11 g12 s t f10 f11 f (wr.setCell ⟨g12, i, none⟩ (.bool v)) := by
  obtain ⟨h0, h1, h2, h3, h4⟩ := h.st.ord
  have h5 := h.lt
  exact ⟨⟨range_other h.st.arg (by omega) _, range_other h.st.arg2 (by omega) _, h.st.l.other (by omega) _ _, h.st.wi.other (by omega) _ _, h.st.wo.other (by omega) _ _, h.st.ord, h.st.below.setCell (by show w.heap.size ≤ g12; omega) _⟩, h.m.put hi v hf, h.lt⟩
set_option maxRecDepth 100000 in
set_option maxHeartbeats 8000000 in
theorem plays_end {n : Int} {s t x y z : List Nat} {f10 f11 f12 : Nat → Bool} {b b1 g7 g10 g11 g12 c7 c10 c11 c12 : Nat} {w wr : World} {q5 q6 q9 q13 q14 q15 q16 q17 q18 q19 q20 q21 q22 q23 q24 q25 q26 q27 q28 q29 q30 q31 q32 q33 q34 q35 q36 q37 q38 q39 q40 q41 q42 q43 q44 q45 q46 q47 q48 q49 q50 q51 q52 q53 q54 q55 q56 q57 q58 q59 q60 q61 q62 q63 q64 q65 q66 q67 q68 q69 q70 q71 q72 q73 q74 q75 q76 q77 q78 q79 q80 q81 q82 q83 q84 q85 q86 q87 q88 q89 q90 q91 q92 q93 q94 q95 q96 q97 q98 q99 q100 q101 : Value} (hs : Ok s) (ht : Ok t)
    (HX : Hid (withZ s n = x)) (HY : Hid (withoutZ s n = y)) (HZ : Hid (both s t = z)) (HX2 : Hid (ofF f10 = x)) (HY2 : Hid (ofF f11 = y)) (HZ2 : Hid (ofF f12 = z)) (HST : Hid (PmSt w b b1 g7 g10 g11 g12 s t f10 f11 f12 wr)) :
    Code.wp Try.prog (behind 10 (Try.f3.body.getD .skip)) (bodyPost Try.prog Try.f3 fun e w' => e = Ending.returned (Value.bool true) ∧ Below w.heap.size w w')
      ⟨#[stV s, stV t, .int .i64 n, .pointer (some ⟨b, 0, none⟩), .pointer (some ⟨b1, 0, none⟩), q5, q6, .slice (some ⟨g7, 0, none⟩) 240 c7, .int .i64 ((countBelow s 240 : Nat) : Int), q9, .slice (some ⟨g10, 0, none⟩) 240 c10, .slice (some ⟨g11, 0, none⟩) 240 c11, .slice (some ⟨g12, 0, none⟩) 240 c12, q13, q14, q15, q16, q17, q18, q19, q20, q21, q22, q23, q24, q25, q26, q27, q28, q29, q30, q31, q32, q33, q34, q35, q36, q37, q38, q39, q40, q41, q42, q43, q44, q45, q46, q47, q48, q49, q50, q51, q52, q53, q54, q55, q56, q57, q58, q59, q60, q61, q62, q63, q64, q65, q66, q67, q68, q69, q70, q71, q72, q73, q74, q75, q76, q77, q78, q79, q80, q81, q82, q83, q84, q85, q86, q87, q88, q89, q90, q91, q92, q93, q94, q95, q96, q97, q98, q99, q100, q101], []⟩ wr := by
  conv => arg 2; whnf
  obtain ⟨h, HH⟩ : ∃ h, Hid (h = hasZ s n) := ⟨_, Lib.hid rfl⟩
  obtain ⟨c, HC⟩ : ∃ c, Hid (c = count s) := ⟨_, Lib.hid rfl⟩
  rw [show countBelow s 240 = c from HC.out.symm]
  have HXO : Hid (Ok x) := Lib.hid (by rw [← HX.out]; exact withZ_ok hs n)
  have HYO : Hid (Ok y) := Lib.hid (by rw [← HY.out]; exact withoutZ_ok hs n)
  have HZO : Hid (Ok z) := Lib.hid (by rw [← HZ.out]; exact hs.both ht)
  have hx1 := equalIn_same HXO.out.len
  have hy1 := equalIn_same HYO.out.len
  have hz1 := equalIn_same HZO.out.len
  have hgd := guardSet
  go_wp2_with fail
  refine wp_region_held (S := PmSt w b b1 g7 g10 g11 g12 s t f10 f11 f12) (by kernel_rfl) ?_
  change wpAnyH _ _ _ _ _ _ _ _ wr.drew
  obtain ⟨wa, HWA⟩ : ∃ wa, Hid (wa = wr.drew) := ⟨_, Lib.hid rfl⟩
  rw [← HWA.out]
  have hS : PmSt w b b1 g7 g10 g11 g12 s t f10 f11 f12 wa := by rw [HWA.out]; exact HST.out.drew
  clear HWA HST
  refine takeH (i := 0) 65 (v := stV s) rfl (by kernel_rfl) (by kernel_rfl) (by kernel_rfl) rfl (fun _ _ _ h => h) (yieldsIf_arr (by rfl) _ rfl b rfl s hs.len (fun _ h => h.st.arg)) hS ?_
  simp only [Act.put, List.setIfInBounds_toArray, List.set_cons_zero, List.set_cons_succ]
  refine takeH (i := 1) 66 (v := .int .i64 n) rfl (by kernel_rfl) (by kernel_rfl) (by kernel_rfl) rfl (fun _ _ _ h => h) (.inl ⟨by rfl, fun _ _ => by go_simp⟩) hS ?_
  simp only [Act.put, List.setIfInBounds_toArray, List.set_cons_zero, List.set_cons_succ]
  refine takeH (i := 3) 68 (v := stV s) rfl (by kernel_rfl) (by kernel_rfl) (by kernel_rfl) rfl (fun _ _ _ h => h) (yieldsIf_arr (by rfl) _ rfl b rfl s hs.len (fun _ h => h.st.arg)) hS ?_
  simp only [Act.put, List.setIfInBounds_toArray, List.set_cons_zero, List.set_cons_succ]
  refine takeH (i := 4) 69 (v := .int .i64 n) rfl (by kernel_rfl) (by kernel_rfl) (by kernel_rfl) rfl (fun _ _ _ h => h) (.inl ⟨by rfl, fun _ _ => by go_simp⟩) hS ?_
  simp only [Act.put, List.setIfInBounds_toArray, List.set_cons_zero, List.set_cons_succ]
  refine oneH (i := 2) (oi := ⟨some 67, _, _, _, _, _⟩) rfl (by kernel_rfl) (fun K hK => ?_)
  go_simp
  refine (Has_any s hs n _).mono ?_
  rw [← HH.out]
  rintro e wn ⟨rfl, hb⟩
  have hS2 := hS.carry hb
  clear hb hS
  refine hK.out _ _ hS2 ?_
  clear hK K
  have hS := hS2
  clear hS2
  refine oneH (i := 5) (oi := ⟨some 70, _, _, _, _, _⟩) rfl (by kernel_rfl) (fun K hK => ?_)
  go_simp
  refine (RefHas_any s hs n _).mono ?_
  rw [← HH.out]
  rintro e wn ⟨rfl, hb⟩
  have hS2 := hS.carry hb
  clear hb hS
  refine hK.out _ _ hS2 ?_
  clear hK K
  have hS := hS2
  clear hS2
  refine takeH (i := 6) 71 (v := .bool true) rfl (by kernel_rfl) (by kernel_rfl) (by kernel_rfl) rfl (fun _ _ _ h => h) (.inl ⟨by rfl, fun _ _ => by go_simp⟩) hS ?_
  simp only [Act.put, List.setIfInBounds_toArray, List.set_cons_zero, List.set_cons_succ]
  refine takeH (i := 7) 72 (v := .bool true) rfl (by kernel_rfl) (by kernel_rfl) (by kernel_rfl) rfl (fun _ _ _ h => h) (.inl ⟨by rfl, fun _ _ => by go_simp⟩) hS ?_
  simp only [Act.put, List.setIfInBounds_toArray, List.set_cons_zero, List.set_cons_succ]
  refine takeH (i := 8) 73 (v := stV s) rfl (by kernel_rfl) (by kernel_rfl) (by kernel_rfl) rfl (fun _ _ _ h => h) (yieldsIf_arr (by rfl) _ rfl b rfl s hs.len (fun _ h => h.st.arg)) hS ?_
  simp only [Act.put, List.setIfInBounds_toArray, List.set_cons_zero, List.set_cons_succ]
  refine takeH (i := 9) 74 (v := .int .i64 n) rfl (by kernel_rfl) (by kernel_rfl) (by kernel_rfl) rfl (fun _ _ _ h => h) (.inl ⟨by rfl, fun _ _ => by go_simp⟩) hS ?_
  simp only [Act.put, List.setIfInBounds_toArray, List.set_cons_zero, List.set_cons_succ]
  refine takeH (i := 11) 76 (v := .slice (some ⟨g10, 0, none⟩) 240 c10) rfl (by kernel_rfl) (by kernel_rfl) (by kernel_rfl) rfl (fun _ _ _ h => h) (.inl ⟨by rfl, fun _ _ => by go_simp⟩) hS ?_
  simp only [Act.put, List.setIfInBounds_toArray, List.set_cons_zero, List.set_cons_succ]
  refine oneH (i := 10) (oi := ⟨some 75, _, _, _, _, _⟩) rfl (by kernel_rfl) (fun K hK => ?_)
  rw [if_pos (by rfl)]
  go_simp
  refine (With_any s hs n _).mono ?_
  rw [HX.out]
  rintro e wn ⟨rfl, hb⟩
  have hS2 := hS.carry hb
  clear hb hS
  refine hK.out _ _ hS2 ?_
  clear hK K
  have hS := hS2
  clear hS2
  refine oneH (i := 12) (oi := ⟨some 77, _, _, _, _, _⟩) rfl (by kernel_rfl) (fun K hK => ?_)
  rw [if_pos (by rfl)]
  go_simp
  refine (RefOf_any f10 g10 c10 _ hS.st.wi).mono ?_
  rw [HX2.out]
  rintro e wn ⟨rfl, hb⟩
  have hS2 := hS.carry hb
  clear hb hS
  refine hK.out _ _ hS2 ?_
  clear hK K
  have hS := hS2
  clear hS2
  refine takeH (i := 13) 78 (v := .bool true) rfl (by kernel_rfl) (by kernel_rfl) (by kernel_rfl) rfl (fun _ _ _ h => h) (.inl ⟨by rfl, fun _ _ => by go_simp⟩) hS ?_
  simp only [Act.put, List.setIfInBounds_toArray, List.set_cons_zero, List.set_cons_succ]
  refine takeH (i := 14) 79 (v := .bool true) rfl (by kernel_rfl) (by kernel_rfl) (by kernel_rfl) rfl (fun _ _ _ h => h) (.inl ⟨by rfl, fun _ _ => by go_simp⟩) hS ?_
  simp only [Act.put, List.setIfInBounds_toArray, List.set_cons_zero, List.set_cons_succ]
  refine takeH (i := 15) 80 (v := .bool true) rfl (by kernel_rfl) (by kernel_rfl) (by kernel_rfl) rfl (fun _ _ _ h => h) (.inl ⟨by rfl, fun _ _ => by go_simp⟩) hS ?_
  simp only [Act.put, List.setIfInBounds_toArray, List.set_cons_zero, List.set_cons_succ]
  refine takeH (i := 16) 81 (v := stV s) rfl (by kernel_rfl) (by kernel_rfl) (by kernel_rfl) rfl (fun _ _ _ h => h) (yieldsIf_arr (by rfl) _ rfl b rfl s hs.len (fun _ h => h.st.arg)) hS ?_
  simp only [Act.put, List.setIfInBounds_toArray, List.set_cons_zero, List.set_cons_succ]
  refine takeH (i := 17) 82 (v := .int .i64 n) rfl (by kernel_rfl) (by kernel_rfl) (by kernel_rfl) rfl (fun _ _ _ h => h) (.inl ⟨by rfl, fun _ _ => by go_simp⟩) hS ?_
  simp only [Act.put, List.setIfInBounds_toArray, List.set_cons_zero, List.set_cons_succ]
  refine takeH (i := 19) 84 (v := .slice (some ⟨g11, 0, none⟩) 240 c11) rfl (by kernel_rfl) (by kernel_rfl) (by kernel_rfl) rfl (fun _ _ _ h => h) (.inl ⟨by rfl, fun _ _ => by go_simp⟩) hS ?_
  simp only [Act.put, List.setIfInBounds_toArray, List.set_cons_zero, List.set_cons_succ]
  refine oneH (i := 18) (oi := ⟨some 83, _, _, _, _, _⟩) rfl (by kernel_rfl) (fun K hK => ?_)
  rw [if_pos (by rfl)]
  go_simp
  refine (Without_any s hs n _).mono ?_
  rw [HY.out]
  rintro e wn ⟨rfl, hb⟩
  have hS2 := hS.carry hb
  clear hb hS
  refine hK.out _ _ hS2 ?_
  clear hK K
  have hS := hS2
  clear hS2
  refine oneH (i := 20) (oi := ⟨some 85, _, _, _, _, _⟩) rfl (by kernel_rfl) (fun K hK => ?_)
  rw [if_pos (by rfl)]
  go_simp
  refine (RefOf_any f11 g11 c11 _ hS.st.wo).mono ?_
  rw [HY2.out]
  rintro e wn ⟨rfl, hb⟩
  have hS2 := hS.carry hb
  clear hb hS
  refine hK.out _ _ hS2 ?_
  clear hK K
  have hS := hS2
  clear hS2
  refine takeH (i := 21) 86 (v := .bool true) rfl (by kernel_rfl) (by kernel_rfl) (by kernel_rfl) rfl (fun _ _ _ h => h) (.inl ⟨by rfl, fun _ _ => by go_simp⟩) hS ?_
  simp only [Act.put, List.setIfInBounds_toArray, List.set_cons_zero, List.set_cons_succ]
  refine takeH (i := 22) 87 (v := .bool true) rfl (by kernel_rfl) (by kernel_rfl) (by kernel_rfl) rfl (fun _ _ _ h => h) (.inl ⟨by rfl, fun _ _ => by go_simp⟩) hS ?_
  simp only [Act.put, List.setIfInBounds_toArray, List.set_cons_zero, List.set_cons_succ]
  refine takeH (i := 23) 88 (v := .bool true) rfl (by kernel_rfl) (by kernel_rfl) (by kernel_rfl) rfl (fun _ _ _ h => h) (.inl ⟨by rfl, fun _ _ => by go_simp⟩) hS ?_
  simp only [Act.put, List.setIfInBounds_toArray, List.set_cons_zero, List.set_cons_succ]
  refine takeH (i := 24) 89 (v := stV s) rfl (by kernel_rfl) (by kernel_rfl) (by kernel_rfl) rfl (fun _ _ _ h => h) (yieldsIf_arr (by rfl) _ rfl b rfl s hs.len (fun _ h => h.st.arg)) hS ?_
  simp only [Act.put, List.setIfInBounds_toArray, List.set_cons_zero, List.set_cons_succ]
  refine takeH (i := 26) 91 (v := .int .i64 (c : Int)) rfl (by kernel_rfl) (by kernel_rfl) (by kernel_rfl) rfl (fun _ _ _ h => h) (.inl ⟨by rfl, fun _ _ => by go_simp⟩) hS ?_
  simp only [Act.put, List.setIfInBounds_toArray, List.set_cons_zero, List.set_cons_succ]
  refine oneH (i := 25) (oi := ⟨some 90, _, _, _, _, _⟩) rfl (by kernel_rfl) (fun K hK => ?_)
  rw [if_pos (by rfl)]
  go_simp
  refine (Count_any s hs _).mono ?_
  rw [← HC.out]
  rintro e wn ⟨rfl, hb⟩
  have hS2 := hS.carry hb
  clear hb hS
  refine hK.out _ _ hS2 ?_
  clear hK K
  have hS := hS2
  clear hS2
  refine takeH (i := 27) 92 (v := .bool true) rfl (by kernel_rfl) (by kernel_rfl) (by kernel_rfl) rfl (fun _ _ _ h => h) (.inl ⟨by rfl, fun _ _ => by go_simp⟩) hS ?_
  simp only [Act.put, List.setIfInBounds_toArray, List.set_cons_zero, List.set_cons_succ]
  refine takeH (i := 28) 93 (v := .bool true) rfl (by kernel_rfl) (by kernel_rfl) (by kernel_rfl) rfl (fun _ _ _ h => h) (.inl ⟨by rfl, fun _ _ => by go_simp⟩) hS ?_
  simp only [Act.put, List.setIfInBounds_toArray, List.set_cons_zero, List.set_cons_succ]
  refine takeH (i := 29) 94 (v := .bool true) rfl (by kernel_rfl) (by kernel_rfl) (by kernel_rfl) rfl (fun _ _ _ h => h) (.inl ⟨by rfl, fun _ _ => by go_simp⟩) hS ?_
  simp only [Act.put, List.setIfInBounds_toArray, List.set_cons_zero, List.set_cons_succ]
  refine takeH (i := 30) 95 (v := stV s) rfl (by kernel_rfl) (by kernel_rfl) (by kernel_rfl) rfl (fun _ _ _ h => h) (yieldsIf_arr (by rfl) _ rfl b rfl s hs.len (fun _ h => h.st.arg)) hS ?_
  simp only [Act.put, List.setIfInBounds_toArray, List.set_cons_zero, List.set_cons_succ]
  refine takeH (i := 31) 96 (v := stV t) rfl (by kernel_rfl) (by kernel_rfl) (by kernel_rfl) rfl (fun _ _ _ h => h) (yieldsIf_arr (by rfl) _ rfl b1 rfl t ht.len (fun _ h => h.st.arg2)) hS ?_
  simp only [Act.put, List.setIfInBounds_toArray, List.set_cons_zero, List.set_cons_succ]
  refine takeH (i := 33) 98 (v := .slice (some ⟨g12, 0, none⟩) 240 c12) rfl (by kernel_rfl) (by kernel_rfl) (by kernel_rfl) rfl (fun _ _ _ h => h) (.inl ⟨by rfl, fun _ _ => by go_simp⟩) hS ?_
  simp only [Act.put, List.setIfInBounds_toArray, List.set_cons_zero, List.set_cons_succ]
  refine oneH (i := 32) (oi := ⟨some 97, _, _, _, _, _⟩) rfl (by kernel_rfl) (fun K hK => ?_)
  rw [if_pos (by rfl)]
  go_simp
  refine (Both_any s t hs ht _).mono ?_
  rw [HZ.out]
  rintro e wn ⟨rfl, hb⟩
  have hS2 := hS.carry hb
  clear hb hS
  refine hK.out _ _ hS2 ?_
  clear hK K
  have hS := hS2
  clear hS2
  refine oneH (i := 34) (oi := ⟨some 99, _, _, _, _, _⟩) rfl (by kernel_rfl) (fun K hK => ?_)
  rw [if_pos (by rfl)]
  go_simp
  refine (RefOf_any f12 g12 c12 _ hS.m).mono ?_
  rw [HZ2.out]
  rintro e wn ⟨rfl, hb⟩
  have hS2 := hS.carry hb
  clear hb hS
  refine hK.out _ _ hS2 ?_
  clear hK K
  have hS := hS2
  clear hS2
  refine takeH (i := 35) 100 (v := .bool true) rfl (by kernel_rfl) (by kernel_rfl) (by kernel_rfl) rfl (fun _ _ _ h => h) (.inl ⟨by rfl, fun _ _ => by go_simp⟩) hS ?_
  simp only [Act.put, List.setIfInBounds_toArray, List.set_cons_zero, List.set_cons_succ]
  refine takeH (i := 36) 101 (v := .bool true) rfl (by kernel_rfl) (by kernel_rfl) (by kernel_rfl) rfl (fun _ _ _ h => h) (.inl ⟨by rfl, fun _ _ => by go_simp⟩) hS ?_
  simp only [Act.put, List.setIfInBounds_toArray, List.set_cons_zero, List.set_cons_succ]
  refine takeH (i := 37) 6 (v := .bool true) rfl (by kernel_rfl) (by kernel_rfl) (by kernel_rfl) rfl (fun _ _ _ h => h) (.inl ⟨by rfl, fun _ _ => by go_simp⟩) hS ?_
  simp only [Act.put, List.setIfInBounds_toArray, List.set_cons_zero, List.set_cons_succ]
  refine wpAnyH_done (by kernel_rfl) ?_ _
  go_wp2_with fail
  go_ret
  exact ⟨rfl, hS.st.below⟩
end Go.Proofs.Yteceihjnlncbkaa
