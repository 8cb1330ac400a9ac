/-
  The contract of the program's own Right of layer 9. Conditions: none beyond the premises of each theorem.
-/
import Derived.Test.YtakpjphgkpaipaaDoorNdKids
namespace Go.Proofs.YtakpjphgkpaipaaDoor
open Go.RowKit

theorem right_longB {x : Nd} (h : ¬ x.keys.length ≤ 7) : rightN x = false := by unfold rightN; simp [h]
theorem right_keysB {x : Nd} (h : keysB x.keys = false) : rightN x = false := by unfold rightN; simp [h]
theorem right_leafB {x : Nd} (h : x.keys.length ≤ 7) (hk : keysB x.keys = true) (h0 : x.kids.length = 0) : rightN x = (decide (x.vals.length = x.keys.length) && x.vals.all okVal) := by
  unfold rightN
  simp only [hk, h, h0, decide_true, Bool.true_and, if_true]
  rw [Bool.and_comm]
theorem right_innerB {x : Nd} (h : x.keys.length ≤ 7) (hk : keysB x.keys = true) (h0 : x.kids.length ≠ 0) : rightN x = (decide (x.vals.length = 0) && decide (1 ≤ x.keys.length) && decide (x.kids.length = x.keys.length + 1) && kidsB x.kids) := by
  unfold rightN
  simp only [hk, h, h0, decide_true, Bool.true_and, if_false]
  generalize decide (x.vals.length = 0) = a
  generalize decide (1 ≤ x.keys.length) = b
  generalize decide (x.kids.length = x.keys.length + 1) = c
  generalize kidsB x.kids = d
  cases a <;> cases b <;> cases c <;> cases d <;> rfl
set_option maxRecDepth 100000 in
set_option maxHeartbeats 1000000 in
theorem Right_any {w : World} {l : Lay3} {x : Nd} (h : NdIs w l x) : Calls Tryd.prog 13 #[ndV l x] w fun e w' => e = .returned (.bool (rightN x)) ∧ Below w.heap.size w w' := by
  obtain ⟨A, B, C, ca, cb, cc⟩ := l
  obtain ⟨b, HB⟩ : ∃ b, Hid (b = w.heap.size) := ⟨_, Lib.hid rfl⟩
  obtain ⟨w1, HW⟩ : ∃ w1, Hid (w1 = w.alloc (.cells #[.slice A x.keys.length ca, .slice B x.vals.length cb, .slice C x.kids.length cc] 32)) := ⟨_, Lib.hid rfl⟩
  have HX : Hid (NdBox w1 b ⟨A, B, C, ca, cb, cc⟩ x) := Lib.hid (by rw [HW.out, HB.out]; exact NdBox.new (l := ⟨A, B, C, ca, cb, cc⟩) (x := x) _)
  have HBL : Hid (Below w.heap.size w w1) := Lib.hid (by rw [HW.out]; exact (Below.refl _ _).alloc (Nat.le_refl _) _)
  have HI : Hid (NdIs w1 ⟨A, B, C, ca, cb, cc⟩ x) := Lib.hid (h.carry HBL.out)
  clear h
  have c0 : w1.cell? ⟨b, 0, none⟩ = some (.slice A x.keys.length ca) := HX.out.c0
  have c1 : w1.cell? ⟨b, 1, none⟩ = some (.slice B x.vals.length cb) := HX.out.c1
  have c2 : w1.cell? ⟨b, 2, none⟩ = some (.slice C x.kids.length cc) := HX.out.c2
  have hk1 := HI.out.kl
  have hk2 := HI.out.vl
  have hk3 := HI.out.cl
  unfold maxLen at hk1 hk2 hk3
  obtain ⟨R, HR⟩ : ∃ R, Hid (R = rightN x) := ⟨_, Lib.hid rfl⟩
  rw [← HR.out]
  by_cases h7 : x.keys.length ≤ 7
  case neg =>
    have g : (7 : Int) < (x.keys.length : Int) := by omega
    have HF : Hid (R = false) := Lib.hid (HR.out.trans (right_longB h7))
    clear h7
    go_enter Tryd.func13, Tryd.ntmps13
    go_upto_region 1 with (fail)
    rw [← HW.out, ← HB.out]
    go_wp2_with fail
    go_ret
    exact ⟨ret_bool HF.out.symm, HBL.out⟩
  have g : ¬ (7 : Int) < (x.keys.length : Int) := by omega
  obtain ⟨kb, HKB⟩ : ∃ kb, Hid (kb = keysB x.keys) := ⟨_, Lib.hid rfl⟩
  go_enter Tryd.func13, Tryd.ntmps13
  go_upto_region 1 with (fail)
  rw [← HW.out, ← HB.out]
  go_wp2_with fail
  refine (rising_any HI.out.keys HI.out.kl HI.out.kw).mono ?_
  rw [← HKB.out]
  rintro e w' ⟨rfl, rfl⟩
  cases kb with
  | false =>
    have HF : Hid (R = false) := Lib.hid (HR.out.trans (right_keysB HKB.out.symm))
    go_wp2_with fail
    go_ret
    exact ⟨ret_bool HF.out.symm, HBL.out⟩
  | true =>
    go_upto_region 3 with (fail)
    go_wp2_with (with_reducible refine stop_at (o := ⟨some 13, _, _, _, _, _⟩) ?_)
    refine wpList_load_nd Tryd.ndProg (by rfl) _ rfl b rfl ⟨A, B, C, ca, cb, cc⟩ x HX.out ?_
    go_wp2_with fail
    refine (Leaf_any (l := ⟨A, B, C, ca, cb, cc⟩) x).mono ?_
    rcases Nat.eq_zero_or_pos x.kids.length with h0 | h0
    · rw [decide_eq_true h0]
      have HRR := Lib.hid (right_leafB h7 HKB.out.symm h0)
      rintro e w2 ⟨rfl, hb⟩
      have HX2 := Lib.hid (HX.out.carry hb HX.out.lt)
      have HI2 := Lib.hid (HI.out.carry hb)
      have HB2 := Lib.hid (HBL.out.trans (hb.mono HBL.out.size))
      clear hb h0
      have d0 := HX2.out.c0
      have d1 := HX2.out.c1
      by_cases hv : x.vals.length = x.keys.length
      · have hv2 : (x.vals.length : Int) = (x.keys.length : Int) := by omega
        obtain ⟨vb, HVB⟩ : ∃ vb, Hid (vb = x.vals.all okVal) := ⟨_, Lib.hid rfl⟩
        have HF : Hid (R = vb) := Lib.hid (by rw [HR.out, HRR.out, HVB.out, decide_eq_true hv]; rfl)
        clear hv
        go_wp2_with fail
        refine (areVals_any HI2.out.vals HI2.out.vl HI2.out.vw).mono ?_
        rw [← HVB.out]
        rintro e w' ⟨rfl, rfl⟩
        go_wp2_with fail
        go_ret
        exact ⟨ret_bool HF.out.symm, HB2.out⟩
      · have hv2 : ¬ (x.vals.length : Int) = (x.keys.length : Int) := by omega
        have HF : Hid (R = false) := Lib.hid (by rw [HR.out, HRR.out, decide_eq_false hv]; rfl)
        clear hv
        go_wp2_with fail
        go_ret
        exact ⟨ret_bool HF.out.symm, HB2.out⟩
    · rw [decide_eq_false (by omega : ¬ x.kids.length = 0)]
      have HRR := Lib.hid (right_innerB h7 HKB.out.symm (by omega : x.kids.length ≠ 0))
      rintro e w2 ⟨rfl, hb⟩
      have HX2 := Lib.hid (HX.out.carry hb HX.out.lt)
      have HI2 := Lib.hid (HI.out.carry hb)
      have HB2 := Lib.hid (HBL.out.trans (hb.mono HBL.out.size))
      clear hb
      have d0 := HX2.out.c0
      have d1 := HX2.out.c1
      have d2 := HX2.out.c2
      by_cases hall : x.vals.length = 0 ∧ 1 ≤ x.keys.length ∧ x.kids.length = x.keys.length + 1
      · obtain ⟨h1, h2, h3⟩ := hall
        have e1 : (x.vals.length : Int) = 0 := by omega
        have e2 : (0 : Int) < (x.keys.length : Int) := by omega
        have e3 : (x.kids.length : Int) = (x.keys.length : Int) + 1 := by omega
        obtain ⟨vb, HVB⟩ : ∃ vb, Hid (vb = kidsB x.kids) := ⟨_, Lib.hid rfl⟩
        have HF : Hid (R = vb) := Lib.hid (by rw [HR.out, HRR.out, HVB.out, decide_eq_true h1, decide_eq_true h2, decide_eq_true h3]; rfl)
        have hk8 : x.kids.length ≤ 1000 := by omega
        clear h1 h2 h3 h0
        go_wp2_with fail
        refine (areKids_any HI2.out.kids hk8 HI2.out.cw).mono ?_
        rw [← HVB.out]
        rintro e w3 ⟨rfl, hb⟩
        have HB3 := Lib.hid (HB2.out.trans (hb.mono HB2.out.size))
        clear hb
        go_wp2_with fail
        go_ret
        exact ⟨ret_bool HF.out.symm, HB3.out⟩
      · have HF : Hid (R = false) := Lib.hid (by
          rw [HR.out, HRR.out]
          rw [Bool.eq_false_iff]
          intro hh
          simp only [Bool.and_eq_true, decide_eq_true_eq] at hh
          exact hall ⟨hh.1.1.1, hh.1.1.2, hh.1.2⟩)
        have hcase : (¬ (x.vals.length : Int) = 0) ∨ ((x.vals.length : Int) = 0 ∧ ¬ (0 : Int) < (x.keys.length : Int)) ∨ ((x.vals.length : Int) = 0 ∧ (0 : Int) < (x.keys.length : Int) ∧ ¬ (x.kids.length : Int) = (x.keys.length : Int) + 1) := by omega
        clear hall h0
        rcases hcase with e1 | ⟨e1, e2⟩ | ⟨e1, e2, e3⟩
        · have e4 : ¬ x.vals.length = 0 := by omega
          go_wp2_with fail
          go_ret
          exact ⟨ret_bool HF.out.symm, HB2.out⟩
        · have e4 : x.keys.length = 0 := by omega
          go_wp2_with fail
          go_ret
          exact ⟨ret_bool HF.out.symm, HB2.out⟩
        · have e4 : 0 < x.keys.length := by omega
          go_wp2_with fail
          go_ret
          exact ⟨ret_bool HF.out.symm, HB2.out⟩
end Go.Proofs.YtakpjphgkpaipaaDoor
