/-
  The contracts of heap.Pop. Conditions: none beyond the premises of each theorem.
-/
import Derived.Test.YtiffgmgefpoblaaDoorHeapSink
import Derived.Test.YtiffgmgefpoblaaDoorHeapPush
namespace Go.Proofs.YtiffgmgefpoblaaDoor
open Go.RowKit Hp

section
variable {w : World} {B hb g n m cap : Nat} {L : List Itm}
theorem HpS.item0 (h : HpS w B hb g n cap L) (h0 : 0 < n) : w.rangeAt g 0 (itC (at2 L 0)) := by
  have := h.item h0
  rwa [Nat.zero_mul] at this
theorem HpS.cap_ (h : HpS w B hb g n cap L) : n ≤ cap ∧ cap ≤ maxLen := by
  rcases h.row.2 with ⟨h1, _⟩ | ⟨g', cap', cur, hv, _, _, h1, h2, _⟩
  · cases h1
  · injection hv with _ _ h3
    rw [h3]
    exact ⟨h1, h2⟩
/-- a store elsewhere -/
theorem HpS.other (h : HpS w B hb g n cap L) {b : Nat} (h1 : hb < b) (h2 : g < b) (o : Nat) (vs : List Value) : HpS (w.setCells b o vs) B hb g n cap L := by
  refine ⟨(setCells_far9 b (by omega) _ _ _).trans h.head, ?_, h.far, h.ne⟩
  obtain ⟨hl, h3⟩ := h.row
  refine ⟨hl, ?_⟩
  rcases h3 with h3 | ⟨g', cap', cur, hv, hg, hh, r⟩
  · exact .inl h3
  · injection hv with h4 h5 h6
    injection h4 with h4
    injection h4 with h4
    subst h4
    exact .inr ⟨_, _, cur, by rw [h6], hg, (setCells_far9 b (by omega) _ _ _).trans hh, r⟩
/-- the first ones alone -/
theorem HpS.cut (h : HpS w B hb g m cap L) (hn : n ≤ m) : HpS (w.setCell ⟨hb, 0, none⟩ (.slice (some ⟨g, 0, none⟩) n cap)) B hb g n cap (L.take n) := by
  refine ⟨one_setCell h.head, ?_, h.far, h.ne⟩
  refine ownsRow_setCell_other (a := ⟨hb, 0, none⟩) ?_ (by intro e; exact h.ne (Option.some.inj e)) _
  have hl := h.len
  refine ⟨by rw [flat2_length, List.length_take]; omega, ?_⟩
  rcases h.row.2 with ⟨h3, _⟩ | ⟨g', cap', cur, hv, hg, hh, h5, h6, h7, h8⟩
  · cases h3
  · injection hv with h4 h9 h10
    injection h4 with h4
    injection h4 with h4
    subst h4 h10
    refine .inr ⟨_, _, cur, rfl, hg, hh, by omega, h6, h7, ?_⟩
    rw [← flat2_take, ← h8, List.take_take, Nat.min_eq_left (by omega)]
end
set_option maxRecDepth 100000 in
theorem Pop_none (w : World) : Calls Tryd.prog 37 #[.pointer none] w fun e w' => e = .returned (.tuple #[itV (0, 0), .bool false]) ∧ Below w.heap.size w w' := by
  obtain ⟨w1, HW1⟩ : ∃ w1, Hid (w1 = w.alloc (.cells #[.int .i64 0, .int .i64 0] 52)) := ⟨_, Lib.hid rfl⟩
  obtain ⟨r, HRR⟩ : ∃ r, Hid (r = w.heap.size) := ⟨_, Lib.hid rfl⟩
  have HB1 : Hid (Below w.heap.size w w1) := Lib.hid (by rw [HW1.out]; exact (Below.refl _ _).alloc (Nat.le_refl _) _)
  have HR1 : Hid (COwn w1 r [.int .i64 0, .int .i64 0]) := Lib.hid (by rw [HW1.out, HRR.out]; exact COwn.new [.int .i64 0, .int .i64 0] _)
  have HRL : Hid (w.heap.size ≤ r) := Lib.hid (by rw [HRR.out]; exact Nat.le_refl _)
  go_enter Tryd.func37, Tryd.ntmps37
  go_upto_region 1 with (fail)
  rw [← HW1.out, ← HRR.out]
  clear HW1 HRR
  go_wp2_with fail
  refine (Len_none _).mono ?_
  rintro e wz ⟨rfl, rfl⟩
  go_wp2_with (with_reducible refine stop_at (o := ⟨none, _, _, _, _, _⟩) ?_)
  unfold Stopped
  refine wpList_store_c dueTy rfl _ _ rfl r [.int .i64 0, .int .i64 0] [.int .i64 0, .int .i64 0] rfl rfl (by intro u hu; simp only [List.mem_cons, List.not_mem_nil, or_false] at hu; rcases hu with rfl | rfl <;> rfl) rfl rfl HR1.out ?_
  intro w4 HW4 HP4
  have HB4 : Hid (Below w.heap.size w w4) := Lib.hid (below_cells9 HB1.out HW4.out HRL.out)
  clear HW4
  go_wp2_with fail
  exact bodyPost_ret (results_c2 dueTy rfl _ _ r _ _ rfl rfl HP4.out.at_ rfl) rfl ⟨rfl, HB4.out⟩
set_option maxRecDepth 100000 in
theorem Pop_empty {w : World} {B hb : Nat} {v : Value} (h : HpAt w B hb v []) : Calls Tryd.prog 37 #[ptr9 hb] w fun e w' => e = .returned (.tuple #[itV (0, 0), .bool false]) ∧ Below w.heap.size w w' := by
  obtain ⟨w1, HW1⟩ : ∃ w1, Hid (w1 = w.alloc (.cells #[.int .i64 0, .int .i64 0] 52)) := ⟨_, Lib.hid rfl⟩
  obtain ⟨r, HRR⟩ : ∃ r, Hid (r = w.heap.size) := ⟨_, Lib.hid rfl⟩
  have HB1 : Hid (Below w.heap.size w w1) := Lib.hid (by rw [HW1.out]; exact (Below.refl _ _).alloc (Nat.le_refl _) _)
  have HR1 : Hid (COwn w1 r [.int .i64 0, .int .i64 0]) := Lib.hid (by rw [HW1.out, HRR.out]; exact COwn.new [.int .i64 0, .int .i64 0] _)
  have HRL : Hid (w.heap.size ≤ r) := Lib.hid (by rw [HRR.out]; exact Nat.le_refl _)
  have HH : Hid (HpAt w1 B hb v []) := Lib.hid (h.carry HB1.out)
  clear h
  go_enter Tryd.func37, Tryd.ntmps37
  go_upto_region 1 with (fail)
  rw [← HW1.out, ← HRR.out]
  clear HW1 HRR
  go_wp2_with fail
  refine (Len_any HH.out).mono ?_
  rintro e wz ⟨rfl, rfl⟩
  go_wp2_with (with_reducible refine stop_at (o := ⟨none, _, _, _, _, _⟩) ?_)
  unfold Stopped
  refine wpList_store_c dueTy rfl _ _ rfl r [.int .i64 0, .int .i64 0] [.int .i64 0, .int .i64 0] rfl rfl (by intro u hu; simp only [List.mem_cons, List.not_mem_nil, or_false] at hu; rcases hu with rfl | rfl <;> rfl) rfl rfl HR1.out ?_
  intro w4 HW4 HP4
  have HB4 : Hid (Below w.heap.size w w4) := Lib.hid (below_cells9 HB1.out HW4.out HRL.out)
  clear HW4
  go_wp2_with fail
  exact bodyPost_ret (results_c2 dueTy rfl _ _ r _ _ rfl rfl HP4.out.at_ rfl) rfl ⟨rfl, HB4.out⟩
set_option maxRecDepth 100000 in
theorem Pop_yes {w : World} {B hb g m cap : Nat} {L : List Itm} (h : HpS w B hb g m cap L) (hh : IsHp L) (hm : m ≤ 1000000) (h0 : 0 < m) : Calls Tryd.prog 37 #[ptr9 hb] w fun e w' =>
    e = .returned (.tuple #[itV (at2 L 0), .bool true]) ∧ ∃ L', HpS w' B hb g (m - 1) cap L' ∧ IsHp L' ∧ L.Perm (at2 L 0 :: L') ∧ But2 (some hb) (some g) w w' := by
  obtain ⟨w1, HW1⟩ : ∃ w1, Hid (w1 = w.alloc (.cells #[.int .i64 0, .int .i64 0] 52)) := ⟨_, Lib.hid rfl⟩
  obtain ⟨r, HRR⟩ : ∃ r, Hid (r = w.heap.size) := ⟨_, Lib.hid rfl⟩
  have HB1 : Hid (Below w.heap.size w w1) := Lib.hid (by rw [HW1.out]; exact (Below.refl _ _).alloc (Nat.le_refl _) _)
  have HR1 : Hid (COwn w1 r [.int .i64 0, .int .i64 0]) := Lib.hid (by rw [HW1.out, HRR.out]; exact COwn.new [.int .i64 0, .int .i64 0] _)
  have HRL : Hid (w.heap.size ≤ r) := Lib.hid (by rw [HRR.out]; exact Nat.le_refl _)
  have HS1 : Hid (HpS w1 B hb g m cap L) := Lib.hid (h.carry HB1.out)
  have HOLD : Hid (hb < w.heap.size ∧ g < w.heap.size) := Lib.hid ⟨h.lt, h.rowLt.2⟩
  have HHH := Lib.hid hh
  have HL := Lib.hid h.len
  have HCAP := Lib.hid h.cap_
  have HM := Lib.hid hm
  clear h hh
  obtain ⟨n, HN⟩ : ∃ n, Hid (n = m - 1) := ⟨_, Lib.hid rfl⟩
  have hnm : n < m := by have := HN.out; omega
  have hlen : Hid (Calls Tryd.prog 54 #[ptr9 hb] w1 fun e w' => e = .returned (.int .i64 (m : Int)) ∧ w1 = w') := Lib.hid (by have := Len_any HS1.out.at_; rwa [HL.out] at this)
  rw [← HN.out]
  go_enter Tryd.func37, Tryd.ntmps37
  go_upto_region 1 with (fail)
  rw [← HW1.out, ← HRR.out]
  clear HW1 HRR
  go_wp2_with fail
  refine hlen.out.mono ?_
  rintro e wz ⟨rfl, rfl⟩
  clear hlen
  have hz0 : ((m : Int) == 0) = false := by simp; omega
  go_upto_region 3 with (fail)
  have k1 : IntKind.i64.wrap ((m : Int) - 1) = (n : Int) := by rw [IntKind.wrap_i64]; have := HN.out; omega
  refine wp_region_held (S := fun w9 => HpS w9 B hb g m cap L) (by kernel_rfl) ?_
  change wpAnyH _ _ _ _ _ _ _ _ w1.drew
  obtain ⟨w2, HW2⟩ : ∃ w2, Hid (w2 = w1.drew) := ⟨_, Lib.hid rfl⟩
  rw [← HW2.out]
  have hS : HpS w2 B hb g m cap L := by rw [HW2.out]; exact HS1.out.drew
  have HB2 : Hid (Below w.heap.size w w2) := Lib.hid (by rw [HW2.out]; exact HB1.out.drew)
  have HR2 : Hid (COwn w2 r [.int .i64 0, .int .i64 0]) := Lib.hid (by rw [HW2.out]; exact HR1.out.drewN 1)
  clear HW2 HS1 HB1 HR1 hz0
  refine takeH (i := 0) 10 (v := .pointer (some ⟨hb, 0, none⟩)) rfl (by kernel_rfl) (by kernel_rfl) (by kernel_rfl) rfl (fun _ _ _ h => h) (.inl ⟨by rfl, fun _ _ => by go_simp⟩) hS ?_
  simp only [Act.put, List.setIfInBounds_toArray, List.set_cons_zero, List.set_cons_succ]
  refine takeH (i := 1) 11 (v := .pointer (some ⟨hb, 0, none⟩)) rfl (by kernel_rfl) (by kernel_rfl) (by kernel_rfl) rfl (fun _ _ _ h => h) (.inl ⟨by rfl, fun _ _ => by go_simp⟩) hS ?_
  simp only [Act.put, List.setIfInBounds_toArray, List.set_cons_zero, List.set_cons_succ]
  refine takeH (i := 2) 12 (v := .pointer (some ⟨hb, 0, none⟩)) rfl (by kernel_rfl) (by kernel_rfl) (by kernel_rfl) rfl (fun _ _ _ h => h) (.inl ⟨by rfl, fun _ _ => by go_simp⟩) hS ?_
  simp only [Act.put, List.setIfInBounds_toArray, List.set_cons_zero, List.set_cons_succ]
  refine takeH (i := 3) 13 (v := .slice (some ⟨g, 0, none⟩) m cap) rfl (by kernel_rfl) (by kernel_rfl) (by kernel_rfl) rfl (fun _ _ _ h => h) (.inl ⟨by rfl, fun _ h => by have c0 := h.cell; go_simp⟩) hS ?_
  simp only [Act.put, List.setIfInBounds_toArray, List.set_cons_zero, List.set_cons_succ]
  refine takeH (i := 4) 14 (v := .pointer (some ⟨g, 0, none⟩)) rfl (by kernel_rfl) (by kernel_rfl) (by kernel_rfl) rfl (fun _ _ _ h => h) (.inl ⟨by rfl, fun _ _ => by go_simp⟩) hS ?_
  simp only [Act.put, List.setIfInBounds_toArray, List.set_cons_zero, List.set_cons_succ]
  refine takeH (i := 5) 15 (v := itV (at2 L 0)) rfl (by kernel_rfl) (by kernel_rfl) (by kernel_rfl) rfl (fun _ _ _ h => h) (yieldsIf_c dueTy (by rfl) _ rfl g 0 (by rfl) (itC (at2 L 0)) rfl (fun _ h => h.item0 (by omega))) hS ?_
  simp only [Act.put, List.setIfInBounds_toArray, List.set_cons_zero, List.set_cons_succ]
  refine takeH (i := 6) 16 (v := .pointer (some ⟨hb, 0, none⟩)) rfl (by kernel_rfl) (by kernel_rfl) (by kernel_rfl) rfl (fun _ _ _ h => h) (.inl ⟨by rfl, fun _ _ => by go_simp⟩) hS ?_
  simp only [Act.put, List.setIfInBounds_toArray, List.set_cons_zero, List.set_cons_succ]
  refine takeH (i := 7) 17 (v := .pointer (some ⟨hb, 0, none⟩)) rfl (by kernel_rfl) (by kernel_rfl) (by kernel_rfl) rfl (fun _ _ _ h => h) (.inl ⟨by rfl, fun _ _ => by go_simp⟩) hS ?_
  simp only [Act.put, List.setIfInBounds_toArray, List.set_cons_zero, List.set_cons_succ]
  refine takeH (i := 8) 18 (v := .pointer (some ⟨hb, 0, none⟩)) rfl (by kernel_rfl) (by kernel_rfl) (by kernel_rfl) rfl (fun _ _ _ h => h) (.inl ⟨by rfl, fun _ _ => by go_simp⟩) hS ?_
  simp only [Act.put, List.setIfInBounds_toArray, List.set_cons_zero, List.set_cons_succ]
  refine takeH (i := 9) 19 (v := .slice (some ⟨g, 0, none⟩) m cap) rfl (by kernel_rfl) (by kernel_rfl) (by kernel_rfl) rfl (fun _ _ _ h => h) (.inl ⟨by rfl, fun _ h => by have c0 := h.cell; go_simp⟩) hS ?_
  simp only [Act.put, List.setIfInBounds_toArray, List.set_cons_zero, List.set_cons_succ]
  refine takeH (i := 10) 20 (v := .int .i64 (m : Int)) rfl (by kernel_rfl) (by kernel_rfl) (by kernel_rfl) rfl (fun _ _ _ h => h) (.inl ⟨by rfl, fun _ _ => by go_simp⟩) hS ?_
  simp only [Act.put, List.setIfInBounds_toArray, List.set_cons_zero, List.set_cons_succ]
  refine takeH (i := 11) 21 (v := .int .i64 (n : Int)) rfl (by kernel_rfl) (by kernel_rfl) (by kernel_rfl) rfl (fun _ _ _ h => h) (.inl ⟨by rfl, fun _ _ => by go_simp⟩) hS ?_
  simp only [Act.put, List.setIfInBounds_toArray, List.set_cons_zero, List.set_cons_succ]
  refine oneH (i := 12) (oi := ⟨some 4, _, _, _, _, _⟩) rfl (by kernel_rfl) (fun K hK => ?_)
  go_simp
  obtain ⟨p, HPP⟩ : ∃ p, Hid (p = w2.heap.size) := ⟨_, Lib.hid rfl⟩
  obtain ⟨w3, HW3⟩ : ∃ w3, Hid (w3 = w2.alloc (.cells #[.int .i64 0, .int .i64 0] 52)) := ⟨_, Lib.hid rfl⟩
  rw [← HW3.out, ← HPP.out]
  have hb3 : Below w2.heap.size w2 w3 := by rw [HW3.out]; exact (Below.refl _ _).alloc (Nat.le_refl _) _
  have HP3 : Hid (COwn w3 p [.int .i64 0, .int .i64 0]) := Lib.hid (by rw [HW3.out, HPP.out]; exact COwn.new [.int .i64 0, .int .i64 0] _)
  have HR3 : Hid (COwn w3 r [.int .i64 0, .int .i64 0]) := Lib.hid (HR2.out.carry hb3 (by decide))
  have HB3 : Hid (Below w.heap.size w w3) := Lib.hid (HB2.out.trans (hb3.mono HB2.out.size))
  have HPL : Hid (r < p ∧ hb < p ∧ g < p ∧ w.heap.size ≤ p) := Lib.hid (by have h1 := HR2.out.lt (by decide); have h2 := hS.lt; have h3 := hS.rowLt.2; have h4 := HB2.out.size; rw [HPP.out]; exact ⟨h1, h2, h3, h4⟩)
  have hS3 := hS.carry hb3
  refine hK.out _ _ hS3 ?_
  clear hK K hS HW3 HPP hb3 HB2 HR2
  have hS := hS3
  clear hS3
  refine oneH (i := 13) (oi := ⟨none, _, _, _, _, _⟩) rfl (by kernel_rfl) (fun K hK => ?_)
  rw [if_pos (by rfl)]
  refine wp_store_c dueTy _ _ rfl p [.int .i64 0, .int .i64 0] (itC (at2 L 0)) rfl rfl (by intro u hu; simp only [itC, List.mem_cons, List.not_mem_nil, or_false] at hu; rcases hu with rfl | rfl <;> rfl) rfl rfl HP3.out ?_
  intro w4 HW4 HP4
  have HR4 : Hid (COwn w4 r [.int .i64 0, .int .i64 0]) := Lib.hid (by rw [HW4.out]; exact HR3.out.other (by have := HPL.out; omega) _ _)
  have HB4 : Hid (Below w.heap.size w w4) := Lib.hid (below_cells9 HB3.out HW4.out HPL.out.2.2.2)
  have hS4 : HpS w4 B hb g m cap L := by rw [HW4.out]; exact hS.other HPL.out.2.1 HPL.out.2.2.1 _ _
  refine hK.out _ _ hS4 ?_
  clear hK K hS HW4 HB3 HR3 HP3
  have hS := hS4
  clear hS4
  refine takeH (i := 14) 5 (v := .int .i64 (n : Int)) rfl (by kernel_rfl) (by kernel_rfl) (by kernel_rfl) rfl (fun _ _ _ h => h) (.inl ⟨by rfl, fun _ _ => by go_simp⟩) hS ?_
  simp only [Act.put, List.setIfInBounds_toArray, List.set_cons_zero, List.set_cons_succ]
  refine wpAnyH_done (by kernel_rfl) ?_ _
  have HS4 := Lib.hid hS
  clear hS k1
  go_upto_region 4 with (fail)
  refine wp_region_head (fun w9 => HpS w9 B hb g m cap L) 11 (by kernel_rfl) (by kernel_rfl) (fun wa HWA => ?_)
  have hS : HpS wa B hb g m cap L := by rw [HWA.out]; exact HS4.out.drew
  have HB5 : Hid (Below w.heap.size w wa) := Lib.hid (by rw [HWA.out]; exact HB4.out.drew)
  have HR5 : Hid (COwn wa r [.int .i64 0, .int .i64 0]) := Lib.hid (by rw [HWA.out]; exact HR4.out.drewN 1)
  have HP5 : Hid (COwn wa p (itC (at2 L 0))) := Lib.hid (by rw [HWA.out]; exact HP4.out.drewN 1)
  clear HWA HS4 HB4 HR4 HP4
  refine takeH (i := 0) 22 (v := .pointer (some ⟨hb, 0, none⟩)) rfl (by kernel_rfl) (by kernel_rfl) (by kernel_rfl) rfl (fun _ _ _ h => h) (.inl ⟨by rfl, fun _ _ => by go_simp⟩) hS ?_
  simp only [Act.put, List.setIfInBounds_toArray, List.set_cons_zero, List.set_cons_succ]
  refine takeH (i := 1) 23 (v := .pointer (some ⟨hb, 0, none⟩)) rfl (by kernel_rfl) (by kernel_rfl) (by kernel_rfl) rfl (fun _ _ _ h => h) (.inl ⟨by rfl, fun _ _ => by go_simp⟩) hS ?_
  simp only [Act.put, List.setIfInBounds_toArray, List.set_cons_zero, List.set_cons_succ]
  refine takeH (i := 2) 24 (v := .pointer (some ⟨hb, 0, none⟩)) rfl (by kernel_rfl) (by kernel_rfl) (by kernel_rfl) rfl (fun _ _ _ h => h) (.inl ⟨by rfl, fun _ _ => by go_simp⟩) hS ?_
  simp only [Act.put, List.setIfInBounds_toArray, List.set_cons_zero, List.set_cons_succ]
  refine takeH (i := 3) 25 (v := .slice (some ⟨g, 0, none⟩) m cap) rfl (by kernel_rfl) (by kernel_rfl) (by kernel_rfl) rfl (fun _ _ _ h => h) (.inl ⟨by rfl, fun _ h => by have c0 := h.cell; go_simp⟩) hS ?_
  simp only [Act.put, List.setIfInBounds_toArray, List.set_cons_zero, List.set_cons_succ]
  refine takeH (i := 4) 26 (v := .pointer (some ⟨hb, 0, none⟩)) rfl (by kernel_rfl) (by kernel_rfl) (by kernel_rfl) rfl (fun _ _ _ h => h) (.inl ⟨by rfl, fun _ _ => by go_simp⟩) hS ?_
  simp only [Act.put, List.setIfInBounds_toArray, List.set_cons_zero, List.set_cons_succ]
  refine takeH (i := 5) 27 (v := .pointer (some ⟨hb, 0, none⟩)) rfl (by kernel_rfl) (by kernel_rfl) (by kernel_rfl) rfl (fun _ _ _ h => h) (.inl ⟨by rfl, fun _ _ => by go_simp⟩) hS ?_
  simp only [Act.put, List.setIfInBounds_toArray, List.set_cons_zero, List.set_cons_succ]
  refine takeH (i := 6) 28 (v := .pointer (some ⟨hb, 0, none⟩)) rfl (by kernel_rfl) (by kernel_rfl) (by kernel_rfl) rfl (fun _ _ _ h => h) (.inl ⟨by rfl, fun _ _ => by go_simp⟩) hS ?_
  simp only [Act.put, List.setIfInBounds_toArray, List.set_cons_zero, List.set_cons_succ]
  refine takeH (i := 7) 29 (v := .slice (some ⟨g, 0, none⟩) m cap) rfl (by kernel_rfl) (by kernel_rfl) (by kernel_rfl) rfl (fun _ _ _ h => h) (.inl ⟨by rfl, fun _ h => by have c0 := h.cell; go_simp⟩) hS ?_
  simp only [Act.put, List.setIfInBounds_toArray, List.set_cons_zero, List.set_cons_succ]
  refine takeH (i := 8) 30 (v := .int .i64 (n : Int)) rfl (by kernel_rfl) (by kernel_rfl) (by kernel_rfl) rfl (fun _ _ _ h => h) (.inl ⟨by rfl, fun _ _ => by go_simp⟩) hS ?_
  simp only [Act.put, List.setIfInBounds_toArray, List.set_cons_zero, List.set_cons_succ]
  refine takeH (i := 9) 31 (v := .pointer (some ⟨g, n * 2, none⟩)) rfl (by kernel_rfl) (by kernel_rfl) (by kernel_rfl) rfl (fun _ _ _ h => h) (.inl ⟨by rfl, fun _ _ => by go_simp⟩) hS ?_
  simp only [Act.put, List.setIfInBounds_toArray, List.set_cons_zero, List.set_cons_succ]
  refine takeH (i := 10) 32 (v := itV (at2 L n)) rfl (by kernel_rfl) (by kernel_rfl) (by kernel_rfl) rfl (fun _ _ _ h => h) (yieldsIf_c dueTy (by rfl) _ rfl g (n * 2) (by rfl) (itC (at2 L n)) rfl (fun _ h => h.item hnm)) hS ?_
  simp only [Act.put, List.setIfInBounds_toArray, List.set_cons_zero, List.set_cons_succ]
  refine wpAnyH_done (by kernel_rfl) ?_ _
  unfold HeadPost
  simp only [List.drop_succ_cons, List.drop_zero]
  have HS5 := Lib.hid hS
  clear hS
  have h0' : (0 : Int) < (m : Int) := by omega
  go_wp2_with (with_reducible refine stop_at (o := ⟨none, _, _, _, _, _⟩) ?_)
  unfold Stopped
  refine wpList_plain rfl fun _ hK => ?_
  refine wp_store_it rfl _ _ rfl HS5.out (i := 0) h0 (at2 L n) rfl rfl ?_
  intro w6 HW6 HS6
  have HB6 : Hid (But2 (some hb) (some g) w w6) := Lib.hid (by rw [HW6.out]; exact But2.put (.inr rfl) _ _ _ (.of_below HB5.out))
  have HR6 : Hid (COwn w6 r [.int .i64 0, .int .i64 0]) := Lib.hid (by rw [HW6.out]; exact HR5.out.other (by have := HRL.out; have := HOLD.out; omega) _ _)
  have HP6 : Hid (COwn w6 p (itC (at2 L 0))) := Lib.hid (by rw [HW6.out]; exact HP5.out.other (by have := HPL.out; omega) _ _)
  clear HW6 HB5 HR5 HP5 HS5
  refine hK _ _ ?_
  clear hK h0'
  have c0 := HS6.out.cell
  have f0 := HS6.out.free
  have hnc : (n : Int) ≤ (cap : Int) := by have := HCAP.out.1; omega
  have hnm' : (n : Int) ≤ (m : Int) := by omega
  obtain ⟨w7, HW7⟩ : ∃ w7, Hid (w7 = w6.setCell ⟨hb, 0, none⟩ (.slice (some ⟨g, 0, none⟩) n cap)) := ⟨_, Lib.hid rfl⟩
  go_upto_region 6 with (fail)
  rw [← HW7.out]
  clear c0 f0 hnc hnm'
  have hp2 : (L.set 0 (at2 L n)).take n = pop2 L := by unfold pop2; rw [HL.out, ← HN.out]
  have HS7 : Hid (HpS w7 B hb g n cap (pop2 L)) := Lib.hid (by rw [HW7.out, ← hp2]; exact HS6.out.cut (by omega))
  have HB7 : Hid (But2 (some hb) (some g) w w7) := Lib.hid (by rw [HW7.out]; exact HB6.out.setCell (a := ⟨hb, 0, none⟩) (.inl rfl) _)
  have HR7 : Hid (COwn w7 r [.int .i64 0, .int .i64 0]) := Lib.hid (by rw [HW7.out]; exact HR6.out.far (by have := HRL.out; have := HOLD.out; omega) _ _)
  have HP7 : Hid (COwn w7 p (itC (at2 L 0))) := Lib.hid (by rw [HW7.out]; exact HP6.out.far (by have := HPL.out; omega) _ _)
  clear HW7 HB6 HR6 HP6 HS6 hp2
  have hsk := Lib.hid (sink_any HS7.out (DnI.pop HHH.out) (by have := HM.out; omega))
  go_wp2_with fail
  refine hsk.out.mono ?_
  rintro e w8 ⟨rfl, L8, h7, h8, h9, h10⟩
  have H7 := Lib.hid h7
  have H8 := Lib.hid h8
  have H9 := Lib.hid h9
  have HB8 := Lib.hid (HB7.out.trans h10 (.inl rfl))
  have HR8 : Hid (COwn w8 r [.int .i64 0, .int .i64 0]) := Lib.hid (HR7.out.block (h10.block r (HR7.out.lt (by decide)) (fun e => by have := Option.some.inj e; have := HRL.out; have := HOLD.out; omega) (fun e => by have := Option.some.inj e; have := HRL.out; have := HOLD.out; omega)))
  have HP8 : Hid (COwn w8 p (itC (at2 L 0))) := Lib.hid (HP7.out.block (h10.block p (HP7.out.lt (by simp)) (fun e => by have := Option.some.inj e; have := HPL.out; omega) (fun e => by have := Option.some.inj e; have := HPL.out; omega)))
  clear h7 h8 h9 h10 hsk HS7 HB7 HR7 HP7
  go_wp2_with (with_reducible refine stop_at (o := ⟨some 45, _, _, _, _, _⟩) ?_)
  unfold Stopped
  refine wpList_load_c dueTy (by rfl) _ rfl p 0 rfl (itC (at2 L 0)) rfl HP8.out.at_ ?_
  simp only [Act.put, List.setIfInBounds_toArray, List.set_cons_zero, List.set_cons_succ]
  refine wpList_store_c dueTy rfl _ _ rfl r [.int .i64 0, .int .i64 0] (itC (at2 L 0)) rfl rfl (by intro u hu; simp only [itC, List.mem_cons, List.not_mem_nil, or_false] at hu; rcases hu with rfl | rfl <;> rfl) rfl rfl HR8.out ?_
  intro w9 HW9 HR9
  have H79 : Hid (HpS w9 B hb g n cap L8) := Lib.hid (by rw [HW9.out]; exact H7.out.other (by have := HRL.out; have := HOLD.out; omega) (by have := HRL.out; have := HOLD.out; omega) _ _)
  have HB9 : Hid (But2 (some hb) (some g) w w9) := Lib.hid (by rw [HW9.out]; exact HB8.out.far (by have := HRL.out; omega) _ _)
  clear HW9 H7 HB8
  go_wp2_with fail
  exact bodyPost_ret (results_c2 dueTy rfl _ _ r _ _ rfl rfl HR9.out.at_ rfl) rfl ⟨rfl, L8, H79.out, H8.out, (pop2_perm (by rw [HL.out]; exact h0)).trans (H9.out.symm.cons _), HB9.out⟩
end Go.Proofs.YtiffgmgefpoblaaDoor
