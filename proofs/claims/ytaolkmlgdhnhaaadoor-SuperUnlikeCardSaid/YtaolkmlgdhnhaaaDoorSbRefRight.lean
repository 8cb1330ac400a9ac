/-
  The contract of the document's own Right for layer 7. Conditions: none beyond the premises of each theorem.
-/
import Derived.Test.YtaolkmlgdhnhaaaDoorSbRight
namespace Go.Proofs.YtaolkmlgdhnhaaaDoor
open Go.RowKit

theorem rightB_gen0 {x : Sb} (h : x.gen = 0) : rightB x = false := by unfold rightB; simp [h]
theorem rightB_doc {x : Sb} (h0 : x.gen ≠ 0) (h1 : Bits.has x.used 0 = false) (h2 : Bits.has x.used 1 = false) : rightB x = (decide (x.root = 0) || (decide (2 ≤ x.root) && hasZ x.used x.root)) := by
  unfold rightB
  rw [h1, h2, hasI_eq, decide_eq_true h0]
  rfl
set_option maxRecDepth 100000 in
theorem RefRight_any (x : Sb) (hx : x.Ok) (w : World) : Calls Tryd.prog 15 #[sbV x] w fun e w' => e = .returned (.bool (rightB x)) ∧ Below w.heap.size w w' := by
  have HX := Lib.hid hx
  clear hx
  obtain ⟨b, HB⟩ : ∃ b, Hid (b = w.heap.size) := ⟨_, Lib.hid rfl⟩
  obtain ⟨w1, HW⟩ : ∃ w1, Hid (w1 = w.alloc (.cells (sbArr x) 25)) := ⟨_, Lib.hid rfl⟩
  have HO : Hid (BOwn w1 b x) := Lib.hid (by rw [HW.out, HB.out]; exact BOwn.new _)
  have HBL : Hid (Below w.heap.size w w1) := Lib.hid (by rw [HW.out]; exact (Below.refl _ _).alloc (Nat.le_refl _) _)
  have HH := Lib.hid (RefHas_any x.used HX.out.used)
  obtain ⟨g, HG⟩ : ∃ g, Hid (g = x.gen) := ⟨_, Lib.hid rfl⟩
  obtain ⟨r, HRT⟩ : ∃ r, Hid (r = x.root) := ⟨_, Lib.hid rfl⟩
  have c0 := HO.out.gen
  rw [← HG.out] at c0
  go_enter Tryd.func15, Tryd.ntmps15
  go_upto_region 1 with (fail)
  rw [← HW.out, ← HB.out]
  clear HW
  by_cases hg : g = 0
  · have HR := Lib.hid (rightB_gen0 (x := x) (by rw [← HG.out]; exact hg))
    subst hg
    go_wp2_with fail
    go_ret
    rw [HR.out]
    exact ⟨rfl, HBL.out⟩
  · have HG0 := Lib.hid hg
    have e1 : ((g : Int) == 0) = false := by simp; omega
    clear hg
    go_wp2_with (with_reducible refine stop_at (o := ⟨some 8, _, _, _, _, _⟩) ?_)
    refine wpList_load_arr_at (by rfl) _ rfl b 2 rfl x.used HX.out.used.len HO.out.used ?_
    go_wp2_with fail
    refine (HH.out 0 _).mono ?_
    rw [show hasZ x.used 0 = Bits.has x.used 0 from hasZ_nat (m := 0) (by decide)]
    rintro e w2 ⟨rfl, hb⟩
    have HO2 := Lib.hid (HO.out.below hb HO.out.lt)
    have HB2 : Hid (Below w.heap.size w w2) := Lib.hid (HBL.out.trans (hb.mono HBL.out.size))
    clear hb c0
    cases h0 : Bits.has x.used 0 with
    | true =>
      have HR := Lib.hid (rightB_low (x := x) (k := 0) (by decide) h0)
      clear h0
      go_wp2_with fail
      go_ret
      rw [HR.out]
      exact ⟨rfl, HB2.out⟩
    | false =>
      have H0 := Lib.hid h0
      clear h0
      go_wp2_with (with_reducible refine stop_at (o := ⟨some 13, _, _, _, _, _⟩) ?_)
      refine wpList_load_arr_at (by rfl) _ rfl b 2 rfl x.used HX.out.used.len HO2.out.used ?_
      go_wp2_with fail
      refine (HH.out 1 _).mono ?_
      rw [show hasZ x.used 1 = Bits.has x.used 1 from hasZ_nat (m := 1) (by decide)]
      rintro e w3 ⟨rfl, hb⟩
      have HO3 := Lib.hid (HO2.out.below hb HO2.out.lt)
      have HB3 : Hid (Below w.heap.size w w3) := Lib.hid (HB2.out.trans (hb.mono HB2.out.size))
      clear hb
      cases h1 : Bits.has x.used 1 with
      | true =>
        have HR := Lib.hid (rightB_low (x := x) (k := 1) (by decide) h1)
        clear h1
        go_wp2_with fail
        go_ret
        rw [HR.out]
        exact ⟨rfl, HB3.out⟩
      | false =>
        have HR := Lib.hid (rightB_doc (x := x) (by rw [← HG.out]; exact HG0.out) H0.out h1)
        rw [← HRT.out] at HR
        have c1 := HO3.out.root
        rw [← HRT.out] at c1
        clear h1
        by_cases hr : r = 0
        · subst hr
          go_wp2_with fail
          go_ret
          rw [HR.out]
          exact ⟨rfl, HB3.out⟩
        · have e4 : (r == 0) = false := by simp [hr]
          rw [decide_eq_false hr, Bool.false_or] at HR
          clear hr
          by_cases h2 : 2 ≤ r
          · have e5 : decide (2 ≤ r) = true := decide_eq_true h2
            rw [e5, Bool.true_and] at HR
            go_wp2_with (with_reducible refine stop_at (o := ⟨some 25, _, _, _, _, _⟩) ?_)
            refine wpList_load_arr_at (by rfl) _ rfl b 2 rfl x.used HX.out.used.len HO3.out.used ?_
            go_wp2_with fail
            refine (HH.out r _).mono ?_
            rintro e w4 ⟨rfl, hb⟩
            have HB4 := Lib.hid hb
            clear hb
            go_wp2_with fail
            go_ret
            rw [HR.out]
            exact ⟨rfl, HB3.out.trans (HB4.out.mono HB3.out.size)⟩
          · have e5 : decide (2 ≤ r) = false := decide_eq_false h2
            rw [e5, Bool.false_and] at HR
            clear h2
            go_wp2_with fail
            go_ret
            rw [HR.out]
            exact ⟨rfl, HB3.out⟩
end Go.Proofs.YtaolkmlgdhnhaaaDoor
