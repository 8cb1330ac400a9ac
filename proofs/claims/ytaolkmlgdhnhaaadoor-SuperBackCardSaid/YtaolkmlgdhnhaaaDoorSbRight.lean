/-
  The contract of super.Right. Conditions: none beyond the premises of each theorem.
-/
import Derived.Test.YtaolkmlgdhnhaaaDoorSbOf
namespace Go.Proofs.YtaolkmlgdhnhaaaDoor
open Go.RowKit

theorem hasI_eq (s : List Nat) (n : Int) : hasI s n = hasZ s n := rfl
theorem rightB_low {x : Sb} {k : Nat} (hk : k < 2) (h : Bits.has x.used k = true) : rightB x = false := by
  unfold rightB
  obtain rfl | rfl : k = 0 ∨ k = 1 := by omega
  · simp [h]
  · simp [h]
theorem rightB_rest {x : Sb} (h : ∀ j, j < 2 → Bits.has x.used j = false) : rightB x = (decide (x.gen ≠ 0) && (decide (x.root = 0) || hasZ x.used x.root)) := by
  unfold rightB
  rw [h 0 (by decide), h 1 (by decide), hasI_eq]
  by_cases h2 : 2 ≤ x.root
  · simp [h2]
  · by_cases h0 : x.root = 0
    · simp [h0]
    · have : hasZ x.used x.root = false := by
        rcases Int.lt_or_le x.root 0 with hn | hn
        · unfold hasZ isNum
          rw [decide_eq_false (by omega), Bool.false_and]
        · obtain ⟨m, hm⟩ : ∃ m : Nat, x.root = m := ⟨x.root.toNat, by omega⟩
          rw [hm, hasZ_nat (by omega)]
          exact h m (by omega)
      simp [this, h0]
def RightRel (x : Sb) (b : Nat) (w : World) (i : Value) (wr : World) : Prop := ∃ k : Nat, k ≤ 2 ∧ i = .int .i64 (k : Int) ∧ (∀ j, j < k → Bits.has x.used j = false) ∧ BOwn wr b x ∧ Below w.heap.size w wr
set_option maxRecDepth 100000 in
theorem Right_any (x : Sb) (hx : x.Ok) (w : World) : Calls Tryd.prog 12 #[sbV x] w fun e w' => e = .returned (.bool (rightB x)) ∧ Below w.heap.size w w' := by
  have HX := Lib.hid hx
  clear hx
  obtain ⟨b, HB⟩ : ∃ b, Hid (b = w.heap.size) := ⟨_, Lib.hid rfl⟩
  obtain ⟨w1, HW⟩ : ∃ w1, Hid (w1 = w.alloc (.cells (sbArr x) 33)) := ⟨_, Lib.hid rfl⟩
  have HO : Hid (BOwn w1 b x) := Lib.hid (by rw [HW.out, HB.out]; exact BOwn.new _)
  have HBL : Hid (Below w.heap.size w w1) := Lib.hid (by rw [HW.out]; exact (Below.refl _ _).alloc (Nat.le_refl _) _)
  have HH := Lib.hid (Has_any x.used HX.out.used)
  go_enter Tryd.func12, Tryd.ntmps12
  go_upto_region 1 with (fail)
  rw [← HW.out, ← HB.out]
  go_wp2_with fail
  go_loopw [4] (fun i wr => RightRel x b w i wr) (fun i _ => 2 - (intOf i).toNat)
  case atStart => exact ⟨0, by decide, rfl, fun j hj => by omega, HO.out, HBL.out⟩
  case round =>
    obtain ⟨k, hk, rfl, hn, ho, hb⟩ := hrel
    have HN := Lib.hid hn
    have HO2 := Lib.hid ho
    have HB2 := Lib.hid hb
    clear hn ho hb
    by_cases hlt : k < 2
    · go_wp2_with (with_reducible refine stop_at (o := ⟨some 8, _, _, _, _, _⟩) ?_)
      refine wpList_load_set_at rfl _ rfl b 2 rfl x.used HX.out.used.len HO2.out.used ?_
      go_wp2_with fail
      refine (HH.out k _).mono ?_
      rw [hasZ_nat (by omega)]
      rintro e w2 ⟨rfl, hb⟩
      have HB3 := Lib.hid hb
      clear hb
      cases hh : Bits.has x.used k with
      | true =>
        have HR := Lib.hid (rightB_low hlt hh)
        go_wp2_with fail
        go_ret
        rw [HR.out]
        exact ⟨rfl, HB2.out.trans (HB3.out.mono HB2.out.size)⟩
      | false =>
        have HF := Lib.hid hh
        clear hh
        go_wp2_with fail
        go_roundw
        case rel =>
          refine ⟨k + 1, hlt, by go_num, fun j hj => ?_, HO2.out.below HB3.out HO2.out.lt, HB2.out.trans (HB3.out.mono HB2.out.size)⟩
          by_cases e : j < k
          · exact HN.out j e
          · obtain rfl : j = k := by omega
            exact HF.out
        case measure => simp [intOf]; omega
    · obtain rfl : k = 2 := by omega
      have HR := Lib.hid (rightB_rest HN.out)
      have c0 := HO2.out.gen
      have c1 := HO2.out.root
      obtain ⟨g, HG⟩ : ∃ g, Hid (g = x.gen) := ⟨_, Lib.hid rfl⟩
      obtain ⟨r, HRT⟩ : ∃ r, Hid (r = x.root) := ⟨_, Lib.hid rfl⟩
      rw [← HG.out] at c0
      rw [← HRT.out] at c1
      rw [← HG.out, ← HRT.out] at HR
      by_cases hg : g = 0
      · subst hg
        go_wp2_with fail
        go_ret
        rw [HR.out]
        exact ⟨rfl, HB2.out⟩
      · have e1 : ((g : Int) == 0) = false := by simp; omega
        have e2 : ((g : Int) != 0) = true := by simp [bne, e1]
        have e3 : decide (g ≠ 0) = true := by simp [hg]
        rw [e3, Bool.true_and] at HR
        clear e3
        by_cases hr : r = 0
        · subst hr
          go_wp2_with fail
          go_ret
          rw [HR.out]
          exact ⟨rfl, HB2.out⟩
        · have e4 : (r == 0) = false := by simp [hr]
          have e5 : decide (r = 0) = false := by simp [hr]
          rw [e5, Bool.false_or] at HR
          clear e5 hg hr
          go_wp2_with (with_reducible refine stop_at (o := ⟨some 21, _, _, _, _, _⟩) ?_)
          refine wpList_load_set_at (by rfl) _ rfl b 2 rfl x.used HX.out.used.len HO2.out.used ?_
          go_wp2_with fail
          refine (HH.out r _).mono ?_
          rintro e w2 ⟨rfl, hb⟩
          have HB3 := Lib.hid hb
          clear hb
          go_wp2_with fail
          go_ret
          rw [HR.out]
          exact ⟨rfl, HB2.out.trans (HB3.out.mono HB2.out.size)⟩
end Go.Proofs.YtaolkmlgdhnhaaaDoor
