/-
  The walk of HeapOrder. Conditions: none beyond the premises of each theorem.
-/
import Derived.Test.YtchmdnopgfmpdaaHeapAwake
namespace Go.Proofs.Ytchmdnopgfmpdaa
open Go.RowKit Hp

/-- three items in boxes -/
structure OrdS (w : World) (p : Nat) (a b c : Itm) (wr : World) : Prop where
  b0 : COwn wr p (itC a)
  b1 : COwn wr (p + 1) (itC b)
  b2 : COwn wr (p + 2) (itC c)
  below : Below w.heap.size w wr
theorem OrdS.carry {w wr w' : World} {p : Nat} {a b c : Itm} (h : OrdS w p a b c wr) (hb : Below wr.heap.size wr w') : OrdS w p a b c w' :=
  ⟨h.b0.carry hb (by simp), h.b1.carry hb (by simp), h.b2.carry hb (by simp), h.below.trans (hb.mono h.below.size)⟩
theorem lt2_asym {a b : Itm} (h : lt2 a b = true) : lt2 b a = false := le2_of_lt h
theorem lt2_trans {a b c : Itm} (h1 : lt2 a b = true) (h2 : lt2 b c = true) : lt2 a c = true := by
  rw [lt2_iff] at *
  omega
theorem lt2_ne {a b : Itm} (h : lt2 a b = true) : decide (a = b) = false := by
  rw [decide_eq_false_iff_not]
  rintro rfl
  rw [lt2_self] at h
  cases h
set_option maxRecDepth 100000 in
set_option maxHeartbeats 1000000 in
theorem order_walk (a b c : Itm) (w : World) : Calls Try.prog 5 #[itV a, itV b, itV c] w fun e w' => e = .returned (.bool true) ∧ Below w.heap.size w w' := by
  obtain ⟨w1, HW1⟩ : ∃ w1, Hid (w1 = ((w.alloc (.cells #[.int .i64 a.1, .int .i64 a.2] 30)).alloc (.cells #[.int .i64 b.1, .int .i64 b.2] 30)).alloc (.cells #[.int .i64 c.1, .int .i64 c.2] 30)) := ⟨_, Lib.hid rfl⟩
  obtain ⟨p, HP⟩ : ∃ p, Hid (p = w.heap.size) := ⟨_, Lib.hid rfl⟩
  have HS1 : Hid (OrdS w p a b c w1) := Lib.hid (by
    rw [HW1.out, HP.out]
    have e1 : (w.alloc (.cells #[.int .i64 a.1, .int .i64 a.2] 30)).heap.size = w.heap.size + 1 := World.size_alloc _ _
    have e2 : ((w.alloc (.cells #[.int .i64 a.1, .int .i64 a.2] 30)).alloc (.cells #[.int .i64 b.1, .int .i64 b.2] 30)).heap.size = w.heap.size + 2 := by rw [World.size_alloc, e1]
    have g (W : World) (o : Obj) : Below W.heap.size W (W.alloc o) := (Below.refl _ _).alloc (Nat.le_refl _) _
    refine ⟨?_, ?_, ?_, (((Below.refl _ w).alloc (Nat.le_refl _) _).alloc (by omega) _).alloc (by omega) _⟩
    · exact ((COwn.new (w := w) (itC a) _).carry (g _ _) (by simp)).carry (g _ _) (by simp)
    · have := (COwn.new (w := w.alloc (.cells #[.int .i64 a.1, .int .i64 a.2] 30)) (itC b) 30)
      rw [e1] at this
      exact this.carry (g _ _) (by simp)
    · have := (COwn.new (w := (w.alloc (.cells #[.int .i64 a.1, .int .i64 a.2] 30)).alloc (.cells #[.int .i64 b.1, .int .i64 b.2] 30)) (itC c) 30)
      rw [e2] at this
      exact this)
  obtain ⟨x, HX⟩ : ∃ x, Hid (lt2 a b = x) := ⟨_, Lib.hid rfl⟩
  obtain ⟨y, HY⟩ : ∃ y, Hid (lt2 b a = y) := ⟨_, Lib.hid rfl⟩
  obtain ⟨z, HZ⟩ : ∃ z, Hid (lt2 b c = z) := ⟨_, Lib.hid rfl⟩
  obtain ⟨d, HD⟩ : ∃ d, Hid (decide (a = b) = d) := ⟨_, Lib.hid rfl⟩
  go_enter Try.func5, Try.ntmps5
  go_upto_region 1 with (fail)
  rw [← HW1.out, ← HP.out]
  clear HW1 HP
  refine wp_region_held (S := OrdS w p a b c) (by kernel_rfl) ?_
  change wpAnyH _ _ _ _ _ _ _ _ w1.drew
  obtain ⟨wa, HWA⟩ : ∃ wa, Hid (wa = w1.drew) := ⟨_, Lib.hid rfl⟩
  rw [← HWA.out]
  have hS : OrdS w p a b c wa := by rw [HWA.out]; exact ⟨HS1.out.b0.drewN 1, HS1.out.b1.drewN 1, HS1.out.b2.drewN 1, HS1.out.below.drew⟩
  clear HWA HS1
  refine takeH (i := 0) 10 (v := itV a) rfl (by kernel_rfl) (by kernel_rfl) (by kernel_rfl) rfl (fun _ _ _ h => h) (yieldsIf_c dueTy (by rfl) _ rfl p 0 (by rfl) (itC a) rfl (fun _ h => h.b0.at_)) hS ?_
  simp only [Act.put, List.setIfInBounds_toArray, List.set_cons_zero, List.set_cons_succ]
  refine takeH (i := 1) 11 (v := itV b) rfl (by kernel_rfl) (by kernel_rfl) (by kernel_rfl) rfl (fun _ _ _ h => h) (yieldsIf_c dueTy (by rfl) _ rfl (p + 1) 0 (by rfl) (itC b) rfl (fun _ h => h.b1.at_)) hS ?_
  simp only [Act.put, List.setIfInBounds_toArray, List.set_cons_zero, List.set_cons_succ]
  refine takeH (i := 3) 13 (v := itV b) rfl (by kernel_rfl) (by kernel_rfl) (by kernel_rfl) rfl (fun _ _ _ h => h) (yieldsIf_c dueTy (by rfl) _ rfl (p + 1) 0 (by rfl) (itC b) rfl (fun _ h => h.b1.at_)) hS ?_
  simp only [Act.put, List.setIfInBounds_toArray, List.set_cons_zero, List.set_cons_succ]
  refine takeH (i := 4) 14 (v := itV a) rfl (by kernel_rfl) (by kernel_rfl) (by kernel_rfl) rfl (fun _ _ _ h => h) (yieldsIf_c dueTy (by rfl) _ rfl p 0 (by rfl) (itC a) rfl (fun _ h => h.b0.at_)) hS ?_
  simp only [Act.put, List.setIfInBounds_toArray, List.set_cons_zero, List.set_cons_succ]
  refine takeH (i := 6) 16 (v := itV b) rfl (by kernel_rfl) (by kernel_rfl) (by kernel_rfl) rfl (fun _ _ _ h => h) (yieldsIf_c dueTy (by rfl) _ rfl (p + 1) 0 (by rfl) (itC b) rfl (fun _ h => h.b1.at_)) hS ?_
  simp only [Act.put, List.setIfInBounds_toArray, List.set_cons_zero, List.set_cons_succ]
  refine takeH (i := 7) 17 (v := itV c) rfl (by kernel_rfl) (by kernel_rfl) (by kernel_rfl) rfl (fun _ _ _ h => h) (yieldsIf_c dueTy (by rfl) _ rfl (p + 2) 0 (by rfl) (itC c) rfl (fun _ h => h.b2.at_)) hS ?_
  simp only [Act.put, List.setIfInBounds_toArray, List.set_cons_zero, List.set_cons_succ]
  refine oneH (i := 2) (oi := ⟨some 12, _, _, _, _, _⟩) rfl (by kernel_rfl) (fun K hK => ?_)
  go_simp
  refine (Less_any a b _).mono ?_
  rw [HX.out]
  rintro e wn ⟨rfl, hbn⟩
  have hS2 := hS.carry hbn
  refine hK.out _ _ hS2 ?_
  clear hK K hbn hS
  have hS := hS2
  clear hS2
  refine oneH (i := 5) (oi := ⟨some 15, _, _, _, _, _⟩) rfl (by kernel_rfl) (fun K hK => ?_)
  go_simp
  refine (Less_any b a _).mono ?_
  rw [HY.out]
  rintro e wn ⟨rfl, hbn⟩
  have hS2 := hS.carry hbn
  refine hK.out _ _ hS2 ?_
  clear hK K hbn hS
  have hS := hS2
  clear hS2
  refine oneH (i := 8) (oi := ⟨some 18, _, _, _, _, _⟩) rfl (by kernel_rfl) (fun K hK => ?_)
  go_simp
  refine (Less_any b c _).mono ?_
  rw [HZ.out]
  rintro e wn ⟨rfl, hbn⟩
  have hS2 := hS.carry hbn
  refine hK.out _ _ hS2 ?_
  clear hK K hbn hS
  have hS := hS2
  clear hS2
  refine takeH (i := 9) 7 (v := .bool x) rfl (by kernel_rfl) (by kernel_rfl) (by kernel_rfl) rfl (fun _ _ _ h => h) (.inl ⟨by rfl, fun _ _ => by go_simp⟩) hS ?_
  simp only [Act.put, List.setIfInBounds_toArray, List.set_cons_zero, List.set_cons_succ]
  refine takeH (i := 10) 8 (v := .bool y) rfl (by kernel_rfl) (by kernel_rfl) (by kernel_rfl) rfl (fun _ _ _ h => h) (.inl ⟨by rfl, fun _ _ => by go_simp⟩) hS ?_
  simp only [Act.put, List.setIfInBounds_toArray, List.set_cons_zero, List.set_cons_succ]
  refine takeH (i := 11) 9 (v := .bool z) rfl (by kernel_rfl) (by kernel_rfl) (by kernel_rfl) rfl (fun _ _ _ h => h) (.inl ⟨by rfl, fun _ _ => by go_simp⟩) hS ?_
  simp only [Act.put, List.setIfInBounds_toArray, List.set_cons_zero, List.set_cons_succ]
  refine wpAnyH_done (by kernel_rfl) ?_ _
  have HS := Lib.hid hS
  clear hS
  obtain ⟨w8, HW8⟩ : ∃ w8, Hid (w8 = wn) := ⟨_, Lib.hid rfl⟩
  rw [← HW8.out]
  have HS8 : Hid (OrdS w p a b c w8) := Lib.hid (by rw [HW8.out]; exact HS.out)
  clear HW8 HS
  have haw := Lib.hid (awake_any w8)
  have key : (x = true ∧ y = false ∧ d = false ∧ (z = true → lt2 a c = true)) ∨ (x = false ∧ y = true ∧ d = false) ∨ (x = false ∧ y = false ∧ d = true) := by
    rw [← HX.out, ← HY.out, ← HZ.out, ← HD.out]
    cases h1 : lt2 a b with
    | true => exact .inl ⟨rfl, lt2_asym h1, lt2_ne h1, fun h2 => lt2_trans h1 h2⟩
    | false =>
      cases h2 : lt2 b a with
      | true => exact .inr (.inl ⟨rfl, rfl, by have := lt2_ne h2; rw [decide_eq_false_iff_not] at this ⊢; exact fun e => this e.symm⟩)
      | false => exact .inr (.inr ⟨rfl, rfl, decide_eq_true (le2_antisymm h2 h1)⟩)
  clear HX HY HZ
  rcases key with ⟨rfl, rfl, rfl, ht⟩ | ⟨rfl, rfl, rfl⟩ | ⟨rfl, rfl, rfl⟩
  · cases z with
    | true =>
      have HT : Hid (lt2 a c = true) := Lib.hid (ht rfl)
      clear ht
      go_wp2_with fail
      refine haw.out.mono ?_
      rintro e w9 ⟨rfl, hb9⟩
      have HS9 := Lib.hid (HS8.out.carry hb9)
      clear hb9 haw HS8
      have c0 := HS9.out.b0.cell (j := 0) (v := .int .i64 a.1) rfl
      have c1 := HS9.out.b0.cell (j := 1) (v := .int .i64 a.2) rfl
      have c2 := HS9.out.b1.cell (j := 0) (v := .int .i64 b.1) rfl
      have c3 := HS9.out.b1.cell (j := 1) (v := .int .i64 b.2) rfl
      have c4 := HS9.out.b2.cell (j := 0) (v := .int .i64 c.1) rfl
      have c5 := HS9.out.b2.cell (j := 1) (v := .int .i64 c.2) rfl
      have hq : ∀ w, (binOp .neq 30 (itV a) (itV b)).run Try.prog w = .ok (.bool true) w := fun w => by rw [neq_it, HD.out]; rfl
      have hg := guardDue
      have hle := Lib.hid (Less_any a c w9)
      rw [HT.out] at hle
      go_wp2_with fail
      refine hle.out.mono ?_
      rintro e w10 ⟨rfl, hb10⟩
      have HB := Lib.hid (HS9.out.below.trans (hb10.mono HS9.out.below.size))
      clear hb10 hle
      go_wp2_with fail
      go_ret
      exact ⟨rfl, HB.out⟩
    | false =>
      clear ht
      go_wp2_with fail
      refine haw.out.mono ?_
      rintro e w9 ⟨rfl, hb9⟩
      have HS9 := Lib.hid (HS8.out.carry hb9)
      clear hb9 haw HS8
      have c0 := HS9.out.b0.cell (j := 0) (v := .int .i64 a.1) rfl
      have c1 := HS9.out.b0.cell (j := 1) (v := .int .i64 a.2) rfl
      have c2 := HS9.out.b1.cell (j := 0) (v := .int .i64 b.1) rfl
      have c3 := HS9.out.b1.cell (j := 1) (v := .int .i64 b.2) rfl
      have c4 := HS9.out.b2.cell (j := 0) (v := .int .i64 c.1) rfl
      have c5 := HS9.out.b2.cell (j := 1) (v := .int .i64 c.2) rfl
      have hq : ∀ w, (binOp .neq 30 (itV a) (itV b)).run Try.prog w = .ok (.bool true) w := fun w => by rw [neq_it, HD.out]; rfl
      have hg := guardDue
      have HB := Lib.hid HS9.out.below
      go_wp2_with fail
      go_ret
      exact ⟨rfl, HB.out⟩
  · go_wp2_with fail
    refine haw.out.mono ?_
    rintro e w9 ⟨rfl, hb9⟩
    have HS9 := Lib.hid (HS8.out.carry hb9)
    clear hb9 haw HS8
    have c0 := HS9.out.b0.cell (j := 0) (v := .int .i64 a.1) rfl
    have c1 := HS9.out.b0.cell (j := 1) (v := .int .i64 a.2) rfl
    have c2 := HS9.out.b1.cell (j := 0) (v := .int .i64 b.1) rfl
    have c3 := HS9.out.b1.cell (j := 1) (v := .int .i64 b.2) rfl
    have c4 := HS9.out.b2.cell (j := 0) (v := .int .i64 c.1) rfl
    have c5 := HS9.out.b2.cell (j := 1) (v := .int .i64 c.2) rfl
    have hq : ∀ w, (binOp .neq 30 (itV a) (itV b)).run Try.prog w = .ok (.bool true) w := fun w => by rw [neq_it, HD.out]; rfl
    have hg := guardDue
    have HB := Lib.hid HS9.out.below
    go_wp2_with fail
    go_ret
    exact ⟨rfl, HB.out⟩
  · go_wp2_with fail
    refine haw.out.mono ?_
    rintro e w9 ⟨rfl, hb9⟩
    have HS9 := Lib.hid (HS8.out.carry hb9)
    clear hb9 haw HS8
    have c0 := HS9.out.b0.cell (j := 0) (v := .int .i64 a.1) rfl
    have c1 := HS9.out.b0.cell (j := 1) (v := .int .i64 a.2) rfl
    have c2 := HS9.out.b1.cell (j := 0) (v := .int .i64 b.1) rfl
    have c3 := HS9.out.b1.cell (j := 1) (v := .int .i64 b.2) rfl
    have c4 := HS9.out.b2.cell (j := 0) (v := .int .i64 c.1) rfl
    have c5 := HS9.out.b2.cell (j := 1) (v := .int .i64 c.2) rfl
    have hq : ∀ w, (binOp .neq 30 (itV a) (itV b)).run Try.prog w = .ok (.bool false) w := fun w => by rw [neq_it, HD.out]; rfl
    have hg := guardDue
    have HB := Lib.hid HS9.out.below
    go_wp2_with fail
    go_ret
    exact ⟨rfl, HB.out⟩
end Go.Proofs.Ytchmdnopgfmpdaa
