/-
  The document's own functions of layer 12: which things are right. Conditions: none beyond the premises of each theorem.
-/
import Derived.Test.YtjjlghdcpkkdhaaDoorRecAwake
namespace Go.Proofs.YtjjlghdcpkkdhaaDoor
open Go.RowKit

set_option maxRecDepth 100000 in
set_option maxHeartbeats 1000000 in
theorem RightRobot_any (x : Rob) (w : World) : Calls Tryd.prog 11 #[robV x] w fun e w' => e = .returned (.bool (rightR x)) ∧ Below w.heap.size w w' := by
  obtain ⟨b, HB⟩ : ∃ b, Hid (b = w.heap.size) := ⟨_, Lib.hid rfl⟩
  unfold robV
  go_enter Tryd.func11, Tryd.ntmps11
  go_upto_region 1 with (fail)
  obtain ⟨w1, HW⟩ : ∃ w1, Hid (w1 = w.alloc (.cells #[.int .i64 x.cell, .int .i64 x.charge, .int .i64 x.phase, .int .i64 x.task, .int .i64 x.moved, .int .i64 x.gained, .int .i64 x.adj] 23)) := ⟨_, Lib.hid rfl⟩
  rw [← HW.out, ← HB.out]
  have HO : Hid (RobAt w1 b x) := Lib.hid (by rw [HW.out, HB.out]; exact RobAt.new _)
  have HBL : Hid (Below w.heap.size w w1) := Lib.hid (by rw [HW.out]; exact (Below.refl _ _).alloc (Nat.le_refl _) _)
  clear HW
  obtain ⟨c0, c1, c2, c3, c4, c5, c6⟩ := HO.out
  go_wp2_with fail
  all_goals
    go_ret
    refine ⟨ret_bool ?_, HBL.out⟩
    rw [Bool.eq_iff_iff]
    simp only [rightR, decide_eq_true_eq, Bool.false_eq_true, false_iff]
    omega
set_option maxRecDepth 100000 in
set_option maxHeartbeats 1000000 in
theorem RightTask_any (x : Tas) (w : World) : Calls Tryd.prog 19 #[tasV x] w fun e w' => e = .returned (.bool (rightT x)) ∧ Below w.heap.size w w' := by
  obtain ⟨b, HB⟩ : ∃ b, Hid (b = w.heap.size) := ⟨_, Lib.hid rfl⟩
  unfold tasV
  go_enter Tryd.func19, Tryd.ntmps19
  go_upto_region 1 with (fail)
  obtain ⟨w1, HW⟩ : ∃ w1, Hid (w1 = w.alloc (.cells #[.int .i64 x.frm, .int .i64 x.to, .int .i64 x.state] 37)) := ⟨_, Lib.hid rfl⟩
  rw [← HW.out, ← HB.out]
  have HO : Hid (TasAt w1 b x) := Lib.hid (by rw [HW.out, HB.out]; exact TasAt.new _)
  have HBL : Hid (Below w.heap.size w w1) := Lib.hid (by rw [HW.out]; exact (Below.refl _ _).alloc (Nat.le_refl _) _)
  clear HW
  obtain ⟨c0, c1, c2⟩ := HO.out
  go_wp2_with fail
  all_goals
    go_ret
    refine ⟨ret_bool ?_, HBL.out⟩
    rw [Bool.eq_iff_iff]
    simp only [rightT, decide_eq_true_eq, Bool.false_eq_true, false_iff]
    omega
set_option maxRecDepth 100000 in
theorem RightAll_any (x : Als) (w : World) : Calls Tryd.prog 20 #[alsV x] w fun e w' => e = .returned (.bool (rightA x)) ∧ Below w.heap.size w w' := by
  obtain ⟨b, HB⟩ : ∃ b, Hid (b = w.heap.size) := ⟨_, Lib.hid rfl⟩
  unfold alsV
  go_enter Tryd.func20, Tryd.ntmps20
  go_upto_region 1 with (fail)
  obtain ⟨w1, HW⟩ : ∃ w1, Hid (w1 = w.alloc (.cells (alsArr x) 40)) := ⟨_, Lib.hid rfl⟩
  rw [← HW.out, ← HB.out]
  have HO : Hid (AlsAt w1 b x) := Lib.hid (by rw [HW.out, HB.out]; exact AlsAt.new _)
  have HBL : Hid (Below w.heap.size w w1) := Lib.hid (by rw [HW.out]; exact (Below.refl _ _).alloc (Nat.le_refl _) _)
  clear HW
  have c0 := HO.out.c0
  go_wp2_with fail
  all_goals
    go_ret
    refine ⟨ret_bool ?_, HBL.out⟩
    rw [Bool.eq_iff_iff]
    simp only [rightA, decide_eq_true_eq, Bool.false_eq_true, false_iff]
    omega
end Go.Proofs.YtjjlghdcpkkdhaaDoor
