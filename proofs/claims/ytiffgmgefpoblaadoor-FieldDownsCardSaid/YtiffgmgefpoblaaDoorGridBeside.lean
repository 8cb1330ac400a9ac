/-
  The contract of beside (layer 14): the open neighbours are told, rising. Conditions: none beyond the premises of each theorem.
-/
import Derived.Test.YtiffgmgefpoblaaDoorGridNeigh
import Derived.Deep.Cut
import Derived.Deep.DeepCutAuto
import Derived.Lib.LazyBuf
namespace Go.Proofs.YtiffgmgefpoblaaDoor
open Go.RowKit

theorem nears_told {s : ByteArray} {a c : Nat} (h1 : 1 ≤ a) (h8 : a ≤ 8) (t1 t2 t3 t4 : Bool) (e1 : t1 = true ↔ a ≤ c) (e2 : t2 = true ↔ 0 < c % a) (e3 : t3 = true ↔ c % a + 1 < a) (e4 : t4 = true ↔ c + a < s.size) :
    toldOf s t1 (c - a) ++ toldOf s t2 (c - 1) ++ toldOf s t3 (c + 1) ++ toldOf s t4 (c + a) = Grid.nears s.data.toList a c := by
  rw [← Grid.nearsOf_eq h1 h8]
  unfold toldOf Grid.nearsOf
  have hl : s.data.toList.length = s.size := by rw [Array.length_toList]; rfl
  simp only [e1, e2, e3, e4, hl]
theorem told_sub {s : ByteArray} {a c : Nat} (h1 : 1 ≤ a) (h8 : a ≤ 8) : ∀ n, (a ≤ c ∧ n = c - a) ∨ (0 < c % a ∧ n = c - 1) ∨ (c % a + 1 < a ∧ n = c + 1) ∨ n = c + a → Grid.openAt s.data.toList n = true → n ∈ Grid.nears s.data.toList a c :=
  fun _ h ho => Grid.mem_nears.2 ⟨ho, (Grid.beside_cases h1 h8).2 h⟩
theorem lt_right {a h c n : Nat} (h1 : 1 ≤ a) (h8 : a ≤ 8) (hn : n = a * h) (hc : c < n) (hr : c % a + 1 < a) : c + 1 < n := by
  have hw : a = 1 ∨ a = 2 ∨ a = 3 ∨ a = 4 ∨ a = 5 ∨ a = 6 ∨ a = 7 ∨ a = 8 := by omega
  rcases hw with rfl | rfl | rfl | rfl | rfl | rfl | rfl | rfl <;> omega
theorem mod_cast_lt {c a : Nat} : ((c : Int) % (a : Int)) = ((c % a : Nat) : Int) := by omega
theorem toldOf_len (s : ByteArray) (t : Bool) (k : Nat) : (toldOf s t k).length ≤ 1 := by unfold toldOf; split <;> simp
set_option maxRecDepth 100000 in
theorem beside_any {g : Nat} {lb : Array Value} {J : List Nat → World → Prop} {a h c B : Nat} {s : ByteArray} {w : World} (hB : B < w.heap.size) (T : Tells g lb B (fun n => n ∈ Grid.nears s.data.toList a c) J)
    (h1 : 1 ≤ a) (h8 : a ≤ 8) (hh : 1 ≤ h ∧ h ≤ 8) (hs : s.size = a * h) (hc : c < s.size) (hJ : J [] w) :
    Calls Tryd.prog 29 #[.agg #[.int .i64 a, .int .i64 h, .string s], .int .i64 c, .func (.func g) #[] lb] w fun e w' => e = .returned (.tuple #[]) ∧ J (Grid.nears s.data.toList a c) w' := by
  have hlen : a * h ≤ 64 := Nat.mul_le_mul h8 hh.2
  obtain ⟨w1, HW1⟩ : ∃ w1, Hid (w1 = w.alloc (.cells #[.int .i64 a, .int .i64 h, .string s] 30)) := ⟨_, Lib.hid rfl⟩
  obtain ⟨w2, HW2⟩ : ∃ w2, Hid (w2 = w1.alloc (.cells #[.func (.func g) #[] lb] 59)) := ⟨_, Lib.hid rfl⟩
  obtain ⟨bm, HBM⟩ : ∃ bm, Hid (bm = w.heap.size) := ⟨_, Lib.hid rfl⟩
  obtain ⟨bt, HBT⟩ : ∃ bt, Hid (bt = w.heap.size + 1) := ⟨_, Lib.hid rfl⟩
  have HM : Hid (MapAt w2 bm a h s) := Lib.hid (by
    rw [HW2.out, HBM.out, HW1.out]
    exact (Below.heap_alloc _ _ _ (by simp)).trans (heap_alloc_new w _))
  have HF : Hid (FnAt w2 bt g lb) := Lib.hid (by
    have := heap_alloc_new w1 (.cells #[.func (.func g) #[] lb] 59)
    rw [HW2.out, HBT.out]
    rwa [HW1.out, World.size_alloc, ← HW1.out] at this)
  have HJ : Hid (J [] w2) := Lib.hid (by rw [HW2.out, HW1.out]; exact T.new _ _ _ (T.new _ _ _ hJ))
  have HT := Lib.hid T
  clear T hJ
  have hlm : bm ≠ B := by rw [HBM.out]; omega
  have hlt : bt ≠ B := by rw [HBT.out]; omega
  go_enter Tryd.func29, Tryd.ntmps29
  go_upto_region 2 with (fail)
  rw [← HW1.out, ← HW2.out, ← HBT.out, ← HBM.out]
  have c0 := HM.out.w_
  have c2 := HM.out.s_
  have hcw : (c : Int) < 64 := by omega
  have HC := Lib.hid hc
  have HS := Lib.hid hs
  clear hs hc
  go_wp2_with fail
  obtain ⟨t1, HT1⟩ : ∃ t, Hid (t = decide (a ≤ c)) := ⟨_, Lib.hid rfl⟩
  rw [← HT1.out]
  refine (neigh_any HT.out [] w2 t1 _ (c - a) HM.out HF.out (fun h => ?_) HJ.out (by simp)).mono ?_
  · have h := of_decide_eq_true (HT1.out.symm.trans h)
    have := HC.out
    exact ⟨by omega, by omega, told_sub h1 h8 _ (.inl ⟨h, rfl⟩)⟩
  rintro e w3 ⟨rfl, hj, hk⟩
  dsimp only
  have HM3 := Lib.hid (HM.out.keeps hk hlm)
  have HF3 := Lib.hid (HF.out.keeps hk hlt)
  obtain ⟨p1, HP1⟩ : ∃ p, Hid (p = [] ++ toldOf s t1 (c - a)) := ⟨_, Lib.hid rfl⟩
  rw [← HP1.out] at hj
  have HJ3 := Lib.hid hj
  have hl1 : p1.length ≤ 1 := by rw [HP1.out]; exact toldOf_len _ _ _
  clear hj hk c0 c2 HM HF HJ
  have c0 := HM3.out.w_
  have c2 := HM3.out.s_
  go_wp2_with fail
  obtain ⟨t2, HT2⟩ : ∃ t, Hid (t = decide (0 < (c : Int) % (a : Int))) := ⟨_, Lib.hid rfl⟩
  rw [← HT2.out]
  refine (neigh_any HT.out p1 w3 t2 _ (c - 1) HM3.out HF3.out (fun h => ?_) HJ3.out (by omega)).mono ?_
  · have h := of_decide_eq_true (HT2.out.symm.trans h)
    have := HC.out
    have : c % a ≤ c := Nat.mod_le _ _
    rw [mod_cast_lt] at h
    exact ⟨by omega, by omega, told_sub h1 h8 _ (.inr (.inl ⟨by omega, rfl⟩))⟩
  rintro e w4 ⟨rfl, hj, hk⟩
  dsimp only
  have HM4 := Lib.hid (HM3.out.keeps hk hlm)
  have HF4 := Lib.hid (HF3.out.keeps hk hlt)
  obtain ⟨p2, HP2⟩ : ∃ p, Hid (p = p1 ++ toldOf s t2 (c - 1)) := ⟨_, Lib.hid rfl⟩
  rw [← HP2.out] at hj
  have HJ4 := Lib.hid hj
  have hl2 : p2.length ≤ 2 := by rw [HP2.out, List.length_append]; have := toldOf_len s t2 (c - 1); omega
  clear hj hk c0 c2 HM3 HF3 HJ3
  obtain ⟨t3, HT3⟩ : ∃ t, Hid (t = decide ((c : Int) % (a : Int) < (a : Int) - 1)) := ⟨_, Lib.hid rfl⟩
  have hd3 : decide ((c : Int) % (a : Int) < (a : Int) - 1) = t3 := HT3.out.symm
  have hr1 : ¬ a = 0 := by omega
  have hr2 : (c : Int).tmod (a : Int) = (c : Int) % (a : Int) := Int.tmod_eq_emod_of_nonneg (by omega)
  have hr3 : IntKind.i64.wrap ((c : Int) % (a : Int)) = (c : Int) % (a : Int) := by
    have := Int.emod_nonneg (c : Int) (b := (a : Int)) (by omega)
    have := Int.emod_lt_of_pos (c : Int) (b := (a : Int)) (by omega)
    rw [IntKind.wrap_i64]; omega
  have hr4 : IntKind.i64.wrap ((a : Int) - 1) = (a : Int) - 1 := by rw [IntKind.wrap_i64]; omega
  have hr5 : IntKind.i64.wrap ((c : Int) + 1) = (c : Int) + 1 := by rw [IntKind.wrap_i64]; omega
  go_upto_region 4 with (fail)
  refine wp_region_held (S := fun w9 => MapAt w9 bm a h s ∧ FnAt w9 bt g lb) (by kernel_rfl) ?_
  change wpAnyH _ _ _ _ _ _ _ _ w4.drew
  have hJ := HT.out.drew _ _ HJ4.out
  obtain ⟨wa, HWA⟩ : ∃ wa, Hid (wa = w4.drew) := ⟨_, Lib.hid rfl⟩
  rw [← HWA.out] at hJ ⊢
  have HJA := Lib.hid hJ
  have hS : MapAt wa bm a h s ∧ FnAt wa bt g lb := by rw [HWA.out]; exact ⟨HM4.out, HF4.out⟩
  clear HWA hJ HJ4 HM4 HF4
  -- region 4
  refine takeH (i := 0) 27 (v := .func (Fn.func 40) #[] #[.pointer (some ⟨bm, 0, none⟩), .pointer (some ⟨bt, 0, none⟩)]) rfl (by kernel_rfl) (by kernel_rfl) (by kernel_rfl) rfl (fun _ _ _ h => h) (.inl ⟨by rfl, fun _ _ => by go_simp⟩) hS ?_
  simp only [Act.put, List.setIfInBounds_toArray, List.set_cons_zero, List.set_cons_succ]
  refine takeH (i := 1) 28 (v := .int .i64 (c : Int)) rfl (by kernel_rfl) (by kernel_rfl) (by kernel_rfl) rfl (fun _ _ _ h => h) (.inl ⟨by rfl, fun _ _ => by go_simp⟩) hS ?_
  simp only [Act.put, List.setIfInBounds_toArray, List.set_cons_zero, List.set_cons_succ]
  refine takeH (i := 2) 29 (v := .pointer (some ⟨bm, 0, none⟩)) rfl (by kernel_rfl) (by kernel_rfl) (by kernel_rfl) rfl (fun _ _ _ h => h) (.inl ⟨by rfl, fun _ _ => by go_simp⟩) hS ?_
  simp only [Act.put, List.setIfInBounds_toArray, List.set_cons_zero, List.set_cons_succ]
  refine takeH (i := 3) 30 (v := .int .i64 (a : Int)) rfl (by kernel_rfl) (by kernel_rfl) (by kernel_rfl) rfl (fun _ _ _ h => h) (.inl ⟨by rfl, fun _ h => by have c0 := h.1.w_; go_simp⟩) hS ?_
  simp only [Act.put, List.setIfInBounds_toArray, List.set_cons_zero, List.set_cons_succ]
  refine takeH (i := 4) 31 (v := .int .i64 ((c : Int) % (a : Int))) rfl (by kernel_rfl) (by kernel_rfl) (by kernel_rfl) rfl (fun _ _ _ h => h) (.inl ⟨by rfl, fun _ _ => by go_simp⟩) hS ?_
  simp only [Act.put, List.setIfInBounds_toArray, List.set_cons_zero, List.set_cons_succ]
  refine takeH (i := 5) 32 (v := .pointer (some ⟨bm, 0, none⟩)) rfl (by kernel_rfl) (by kernel_rfl) (by kernel_rfl) rfl (fun _ _ _ h => h) (.inl ⟨by rfl, fun _ _ => by go_simp⟩) hS ?_
  simp only [Act.put, List.setIfInBounds_toArray, List.set_cons_zero, List.set_cons_succ]
  refine takeH (i := 6) 33 (v := .int .i64 (a : Int)) rfl (by kernel_rfl) (by kernel_rfl) (by kernel_rfl) rfl (fun _ _ _ h => h) (.inl ⟨by rfl, fun _ h => by have c0 := h.1.w_; go_simp⟩) hS ?_
  simp only [Act.put, List.setIfInBounds_toArray, List.set_cons_zero, List.set_cons_succ]
  refine takeH (i := 7) 34 (v := .int .i64 ((a : Int) - 1)) rfl (by kernel_rfl) (by kernel_rfl) (by kernel_rfl) rfl (fun _ _ _ h => h) (.inl ⟨by rfl, fun _ _ => by go_simp⟩) hS ?_
  simp only [Act.put, List.setIfInBounds_toArray, List.set_cons_zero, List.set_cons_succ]
  refine takeH (i := 8) 35 (v := .bool t3) rfl (by kernel_rfl) (by kernel_rfl) (by kernel_rfl) rfl (fun _ _ _ h => h) (.inl ⟨by rfl, fun _ _ => by go_simp⟩) hS ?_
  simp only [Act.put, List.setIfInBounds_toArray, List.set_cons_zero, List.set_cons_succ]
  refine takeH (i := 9) 36 (v := .int .i64 (c : Int)) rfl (by kernel_rfl) (by kernel_rfl) (by kernel_rfl) rfl (fun _ _ _ h => h) (.inl ⟨by rfl, fun _ _ => by go_simp⟩) hS ?_
  simp only [Act.put, List.setIfInBounds_toArray, List.set_cons_zero, List.set_cons_succ]
  refine takeH (i := 10) 37 (v := .int .i64 ((c : Int) + 1)) rfl (by kernel_rfl) (by kernel_rfl) (by kernel_rfl) rfl (fun _ _ _ h => h) (.inl ⟨by rfl, fun _ _ => by go_simp⟩) hS ?_
  simp only [Act.put, List.setIfInBounds_toArray, List.set_cons_zero, List.set_cons_succ]
  refine oneH (i := 11) (oi := ⟨some 38, _, _, _, _, _⟩) rfl (by kernel_rfl) (fun K hK => ?_)
  go_simp
  refine (neigh_any HT.out p2 wa t3 _ (c + 1) hS.1 hS.2 (fun h => ?_) HJA.out (by omega)).mono ?_
  · have h := of_decide_eq_true (hd3.trans h)
    rw [mod_cast_lt] at h
    exact ⟨by omega, lt_right h1 h8 HS.out HC.out (by omega), told_sub h1 h8 _ (.inr (.inr (.inl ⟨by omega, rfl⟩)))⟩
  rintro e w5 ⟨rfl, hj, hk⟩
  have hS5 := And.intro (hS.1.keeps hk hlm) (hS.2.keeps hk hlt)
  obtain ⟨p3, HP3⟩ : ∃ p, Hid (p = p2 ++ toldOf s t3 (c + 1)) := ⟨_, Lib.hid rfl⟩
  rw [← HP3.out] at hj
  have HJ5 := Lib.hid hj
  have hl3 : p3.length ≤ 3 := by rw [HP3.out, List.length_append]; have := toldOf_len s t3 (c + 1); omega
  refine hK.out _ _ hS5 ?_
  clear hK K hS HJA hj hk
  have hS := hS5
  clear hS5
  refine wpAnyH_done (by kernel_rfl) ?_ _
  -- behind region 4
  have c0 := hS.1.w_
  have c2 := hS.1.s_
  have hcs := HC.out
  have hss := HS.out
  have hah : a ≤ s.size := by rw [hss]; exact Nat.le_mul_of_pos_right _ (by omega)
  have HAH := Lib.hid hah
  have hsz : s.size ≤ 64 := by omega
  clear hcs hss hah
  go_wp2_with fail
  obtain ⟨t4, HT4⟩ : ∃ t, Hid (t = decide ((c : Int) < (s.size : Int) - (a : Int))) := ⟨_, Lib.hid rfl⟩
  rw [← HT4.out]
  refine (neigh_any HT.out p3 w5 t4 _ (c + a) hS.1 hS.2 (fun h => ?_) HJ5.out (by omega)).mono ?_
  · have h := of_decide_eq_true (HT4.out.symm.trans h)
    exact ⟨by omega, by omega, told_sub h1 h8 _ (.inr (.inr (.inr rfl)))⟩
  rintro e w6 ⟨rfl, hj, hk⟩
  dsimp only
  go_wp2_with fail
  go_end0
  refine ⟨rfl, ?_⟩
  have he := nears_told (s := s) (a := a) (c := c) h1 h8 t1 t2 t3 t4 (by rw [HT1.out]; simp) (by rw [HT2.out, mod_cast_lt]; simp; omega) (by rw [HT3.out, mod_cast_lt]; simp; omega) (by have := HAH.out; rw [HT4.out]; simp; omega)
  rw [← he]
  rw [HP3.out, HP2.out, HP1.out, List.nil_append] at hj
  exact hj
end Go.Proofs.YtiffgmgefpoblaaDoor
