/-
  The walk of the statement RecUnlike: it answers true, and no memory that was there has turned. Conditions: errors.errorType is laid.
-/
import Derived.Test.YtjjlghdcpkkdhaaDoorRecOf
import Derived.BigQuiet
namespace Go.Proofs.YtjjlghdcpkkdhaaDoor
open Go.RowKit

theorem layR_same {a b : Rob} (ha : rightR a = true) (hb : rightR b = true) {u v : ByteArray} (hu : u = ⟨(layR a).toArray⟩) (hv : v = ⟨(layR b).toArray⟩) : (u.toList == v.toList) = decide (a = b) := by
  rw [Bool.eq_iff_iff, beq_iff_eq, decide_eq_true_eq, ByteArray.toList_eq, ByteArray.toList_eq, hu, hv]
  exact ⟨fun h => layR_inj ha hb h, fun h => by rw [h]⟩
set_option maxRecDepth 100000 in
set_option maxHeartbeats 4000000 in
theorem recUnlike_walk (x y : Rob) (w : World) (hg : Laid w) : Calls Tryd.prog 6 #[robV x, robV y] w fun e w' => e = .returned (.bool true) ∧ Below w.heap.size w w' := by
  have HGK : Hid (∀ w', Below w.heap.size w w' → Laid w') := Lib.hid fun w' h => hg.carry h
  clear hg
  obtain ⟨p, HP⟩ : ∃ p, Hid (p = w.heap.size) := ⟨_, Lib.hid rfl⟩
  unfold robV
  go_enter Tryd.func6, Tryd.ntmps6
  go_upto_region 1 with (fail)
  obtain ⟨w1, HW⟩ : ∃ w1, Hid (w1 = (w.alloc (.cells #[.int .i64 x.cell, .int .i64 x.charge, .int .i64 x.phase, .int .i64 x.task, .int .i64 x.moved, .int .i64 x.gained, .int .i64 x.adj] 23)).alloc (.cells #[.int .i64 y.cell, .int .i64 y.charge, .int .i64 y.phase, .int .i64 y.task, .int .i64 y.moved, .int .i64 y.gained, .int .i64 y.adj] 23)) := ⟨_, Lib.hid rfl⟩
  rw [← HW.out, ← HP.out]
  have HOx : Hid (RobAt w1 p x) := Lib.hid (by
    rw [HW.out, HP.out]
    exact (RobAt.new _).carry ((Below.refl _ _).alloc (Nat.le_refl _) _))
  have HOy : Hid (RobAt w1 (p + 1) y) := Lib.hid (by
    have h2 := RobAt.new (w := w.alloc (.cells #[.int .i64 x.cell, .int .i64 x.charge, .int .i64 x.phase, .int .i64 x.task, .int .i64 x.moved, .int .i64 x.gained, .int .i64 x.adj] 23)) (x := y) 23
    have e : (w.alloc (.cells #[.int .i64 x.cell, .int .i64 x.charge, .int .i64 x.phase, .int .i64 x.task, .int .i64 x.moved, .int .i64 x.gained, .int .i64 x.adj] 23)).heap.size = w.heap.size + 1 := by simp
    rw [e] at h2
    rw [HW.out, HP.out]
    exact h2)
  have HB : Hid (Below w.heap.size w w1) := Lib.hid (by rw [HW.out]; exact ((Below.refl _ _).alloc (Nat.le_refl _) _).alloc (by simp) _)
  clear HW HP
  go_wp2_with fail
  refine (awake_any _ (HGK.out _ HB.out)).mono ?_
  rintro e wn ⟨rfl, hb⟩
  dsimp only
  replace HOx := Lib.hid (HOx.out.carry hb)
  replace HOy := Lib.hid (HOy.out.carry hb)
  replace HB := Lib.hid (HB.out.trans (hb.mono HB.out.size))
  clear hb
  obtain ⟨c0, c1, c2, c3, c4, c5, c6⟩ := HOx.out
  go_wp2_with fail
  refine (RightRobot_any x _).mono ?_
  rintro e wn ⟨rfl, hb⟩
  dsimp only
  replace HOx := Lib.hid (HOx.out.carry hb)
  replace HOy := Lib.hid (HOy.out.carry hb)
  replace HB := Lib.hid (HB.out.trans (hb.mono HB.out.size))
  clear hb
  clear c0 c1 c2 c3 c4 c5 c6
  cases hx : rightR x with
  | false =>
    clear hx
    go_wp2_with fail
    refine (awake_any _ (HGK.out _ HB.out)).mono ?_
    rintro e wn ⟨rfl, hb⟩
    dsimp only
    replace HB := Lib.hid (HB.out.trans (hb.mono HB.out.size))
    clear hb
    go_wp2_with fail
    go_ret
    exact ⟨rfl, HB.out⟩
  | true =>
    have HX := Lib.hid hx
    clear hx
    obtain ⟨d0, d1, d2, d3, d4, d5, d6⟩ := HOy.out
    go_wp2_with fail
    refine (RightRobot_any y _).mono ?_
    rintro e wn ⟨rfl, hb⟩
    dsimp only
    replace HOx := Lib.hid (HOx.out.carry hb)
    replace HOy := Lib.hid (HOy.out.carry hb)
    replace HB := Lib.hid (HB.out.trans (hb.mono HB.out.size))
    clear hb
    clear d0 d1 d2 d3 d4 d5 d6
    cases hy : rightR y with
    | false =>
      clear hy
      go_wp2_with fail
      refine (awake_any _ (HGK.out _ HB.out)).mono ?_
      rintro e wn ⟨rfl, hb⟩
      dsimp only
      replace HB := Lib.hid (HB.out.trans (hb.mono HB.out.size))
      clear hb
      go_wp2_with fail
      go_ret
      exact ⟨rfl, HB.out⟩
    | true =>
      have HY := Lib.hid hy
      clear hy
      obtain ⟨u, HU⟩ : ∃ u : ByteArray, Hid (u = ⟨(layR x).toArray⟩) := ⟨_, Lib.hid rfl⟩
      obtain ⟨v, HV⟩ : ∃ u : ByteArray, Hid (u = ⟨(layR y).toArray⟩) := ⟨_, Lib.hid rfl⟩
      have hs := layR_same HX.out HY.out HU.out HV.out
      have heq := fun w => eql_refRob x y w
      have hgu := guardRefRob
      simp only [robCells] at heq
      generalize decide (x = y) = q at hs heq
      obtain ⟨c0, c1, c2, c3, c4, c5, c6⟩ := HOx.out
      go_wp2_with fail
      refine (OfRobot_any x _).mono ?_
      rintro e wn ⟨rfl, hb⟩
      dsimp only
      replace HOx := Lib.hid (HOx.out.carry hb)
      replace HOy := Lib.hid (HOy.out.carry hb)
      replace HB := Lib.hid (HB.out.trans (hb.mono HB.out.size))
      clear hb
      clear c0 c1 c2 c3 c4 c5 c6
      go_wp2_with fail
      refine (LayRobot_any x _).mono ?_
      rw [HX.out]
      rintro e wn ⟨z9, rfl, he, hb⟩
      obtain rfl := ErrFrom.zero he
      rw [if_pos rfl, ← HU.out]
      dsimp only
      replace HOx := Lib.hid (HOx.out.carry hb)
      replace HOy := Lib.hid (HOy.out.carry hb)
      replace HB := Lib.hid (HB.out.trans (hb.mono HB.out.size))
      clear he hb
      obtain ⟨d0, d1, d2, d3, d4, d5, d6⟩ := HOy.out
      go_wp2_with fail
      refine (OfRobot_any y _).mono ?_
      rintro e wn ⟨rfl, hb⟩
      dsimp only
      replace HOx := Lib.hid (HOx.out.carry hb)
      replace HOy := Lib.hid (HOy.out.carry hb)
      replace HB := Lib.hid (HB.out.trans (hb.mono HB.out.size))
      clear hb
      clear d0 d1 d2 d3 d4 d5 d6
      go_wp2_with fail
      refine (LayRobot_any y _).mono ?_
      rw [HY.out]
      rintro e wn ⟨z9, rfl, he, hb⟩
      obtain rfl := ErrFrom.zero he
      rw [if_pos rfl, ← HV.out]
      dsimp only
      replace HOx := Lib.hid (HOx.out.carry hb)
      replace HOy := Lib.hid (HOy.out.carry hb)
      replace HB := Lib.hid (HB.out.trans (hb.mono HB.out.size))
      clear he hb
      go_wp2_with fail
      refine (Num_any 0 .nilIface _ (.nil _) (HGK.out _ HB.out)).mono ?_
      rintro e wn ⟨rfl, hb⟩
      dsimp only
      replace HOx := Lib.hid (HOx.out.carry hb)
      replace HOy := Lib.hid (HOy.out.carry hb)
      replace HB := Lib.hid (HB.out.trans (hb.mono HB.out.size))
      clear hb
      go_wp2_with fail
      refine (Num_any 0 .nilIface _ (.nil _) (HGK.out _ HB.out)).mono ?_
      rintro e wn ⟨rfl, hb⟩
      dsimp only
      replace HOx := Lib.hid (HOx.out.carry hb)
      replace HOy := Lib.hid (HOy.out.carry hb)
      replace HB := Lib.hid (HB.out.trans (hb.mono HB.out.size))
      clear hb
      obtain ⟨c0, c1, c2, c3, c4, c5, c6⟩ := HOx.out
      obtain ⟨d0, d1, d2, d3, d4, d5, d6⟩ := HOy.out
      go_wp2_with fail
      go_ret
      exact ⟨ret_bool (by cases q <;> rfl), HB.out⟩
end Go.Proofs.YtjjlghdcpkkdhaaDoor
