/-
  The walks of the statements CrcPlays, CrcUnlike and CrcMore: each answers true, and no memory that was there has turned. Condition: the package variable crc.halved holds its sixteen words.
-/
import Derived.Test.YtogabocbjojnoaaDoorSum
namespace Go.Proofs.YtogabocbjojnoaaDoor
open Go.RowKit Crc

theorem val_beq (a b : BitVec 32) : (val a == val b) = (a == b) := by
  rw [Bool.eq_iff_iff]
  simp [val_inj]

set_option maxHeartbeats 1000000 in
theorem plays_walk (s : ByteArray) (w : World) (hs : s.size ≤ maxLen) (hg : Laid w) :
    Calls Tryd.prog 3 #[.string s] w fun e w' => e = .returned (.bool true) ∧ Below w.heap.size w w' := by
  unfold maxLen at hs
  have HG := Lib.hid hg
  clear hg
  by_cases hl : s.size ≤ 800
  · have hl' : decide ((s.size : Int) > 800) = false := by simp; omega
    go_enter Tryd.func3, Tryd.ntmps3
    go_wp2_with fail
    refine (awake_any _ HG.out).mono ?_
    rintro e w' ⟨rfl, rfl⟩
    go_wp2_with fail
    refine (sum_any s _ (by unfold maxLen; omega) HG.out).mono ?_
    rintro e w' ⟨rfl, rfl⟩
    go_wp2_with fail
    refine (ref_any s _ (by unfold maxLen; omega)).mono ?_
    rintro e w' ⟨rfl, rfl⟩
    go_wp2_with fail
    go_ret
    exact ⟨by simp, Below.refl _ _⟩
  · have hl' : decide ((s.size : Int) > 800) = true := by simp; omega
    go_enter Tryd.func3, Tryd.ntmps3
    go_wp2_with fail
    refine (awake_any _ HG.out).mono ?_
    rintro e w' ⟨rfl, rfl⟩
    go_wp2_with fail
    refine (awake_any _ HG.out).mono ?_
    rintro e w' ⟨rfl, rfl⟩
    go_wp2_with fail
    go_ret
    exact ⟨rfl, Below.refl _ _⟩

theorem unlike_true (x y : BitVec 32) (l : List UInt8) : ((more x l == more y l) == (x == y)) = true := by
  by_cases h : x = y
  · subst h; simp
  · have h' : more x l ≠ more y l := fun e => h (more_inj.1 e)
    rw [beq_eq_false_iff_ne.2 h', beq_eq_false_iff_ne.2 h]
    rfl

set_option maxHeartbeats 1000000 in
theorem unlike_walk (x y : BitVec 32) (s : ByteArray) (w : World) (hs : s.size ≤ maxLen) (hg : Laid w) :
    Calls Tryd.prog 6 #[.int .u32 (val x), .int .u32 (val y), .string s] w fun e w' => e = .returned (.bool true) ∧ Below w.heap.size w w' := by
  unfold maxLen at hs
  have HG := Lib.hid hg
  clear hg
  by_cases hl : s.size ≤ 800
  · have hl' : decide ((s.size : Int) > 800) = false := by simp; omega
    go_enter Tryd.func6, Tryd.ntmps6
    go_wp2_with fail
    refine (awake_any _ HG.out).mono ?_
    rintro e w' ⟨rfl, rfl⟩
    go_wp2_with fail
    refine (more_any x s _ (by unfold maxLen; omega) HG.out).mono ?_
    rintro e w' ⟨rfl, rfl⟩
    go_wp2_with fail
    refine (more_any y s _ (by unfold maxLen; omega) HG.out).mono ?_
    rintro e w' ⟨rfl, rfl⟩
    go_wp2_with fail
    go_ret
    refine ⟨?_, Below.refl _ _⟩
    rw [val_beq, val_beq, unlike_true]
    rfl
  · have hl' : decide ((s.size : Int) > 800) = true := by simp; omega
    go_enter Tryd.func6, Tryd.ntmps6
    go_wp2_with fail
    refine (awake_any _ HG.out).mono ?_
    rintro e w' ⟨rfl, rfl⟩
    go_wp2_with fail
    refine (awake_any _ HG.out).mono ?_
    rintro e w' ⟨rfl, rfl⟩
    go_wp2_with fail
    go_ret
    exact ⟨rfl, Below.refl _ _⟩

theorem data_append (s t : ByteArray) : (s ++ t).data.toList = s.data.toList ++ t.data.toList := by simp
theorem sum_append (s t : ByteArray) : sum (s ++ t) = more (sum s) t.data.toList := by
  unfold sum
  rw [data_append, more_append]

set_option maxHeartbeats 1000000 in
theorem more_long (x : BitVec 32) (s t : ByteArray) (w : World) (hs : s.size ≤ maxLen) (ht : t.size ≤ maxLen) (hl : 800 < s.size ∨ 800 < t.size) (hg : Laid w) :
    Calls Tryd.prog 5 #[.int .u32 (val x), .string s, .string t] w fun e w' => e = .returned (.bool true) ∧ Below w.heap.size w w' := by
  unfold maxLen at hs ht
  have HG := Lib.hid hg
  clear hg
  by_cases h1 : 800 < s.size
  · have hl' : decide ((s.size : Int) > 800) = true := by simp; omega
    clear hl
    go_enter Tryd.func5, Tryd.ntmps5
    go_wp2_with fail
    refine (awake_any _ HG.out).mono ?_
    rintro e w' ⟨rfl, rfl⟩
    go_wp2_with fail
    refine (awake_any _ HG.out).mono ?_
    rintro e w' ⟨rfl, rfl⟩
    go_wp2_with fail
    go_ret
    exact ⟨rfl, Below.refl _ _⟩
  · have h2 : 800 < t.size := by omega
    have hl1 : decide ((s.size : Int) > 800) = false := by simp; omega
    have hl2 : decide ((t.size : Int) > 800) = true := by simp; omega
    clear hl
    go_enter Tryd.func5, Tryd.ntmps5
    go_wp2_with fail
    refine (awake_any _ HG.out).mono ?_
    rintro e w' ⟨rfl, rfl⟩
    go_wp2_with fail
    refine (awake_any _ HG.out).mono ?_
    rintro e w' ⟨rfl, rfl⟩
    go_wp2_with fail
    go_ret
    exact ⟨rfl, Below.refl _ _⟩

set_option maxHeartbeats 2000000 in
theorem more_short (x : BitVec 32) (s t : ByteArray) (w : World) (hs : s.size ≤ 800) (ht : t.size ≤ 800) (hg : Laid w) :
    Calls Tryd.prog 5 #[.int .u32 (val x), .string s, .string t] w fun e w' => e = .returned (.bool true) ∧ Below w.heap.size w w' := by
  have HG := Lib.hid hg
  clear hg
  have hl1 : decide ((s.size : Int) > 800) = false := by simp; omega
  have hl2 : decide ((t.size : Int) > 800) = false := by simp; omega
  have HZ : Hid ((s ++ t).size = s.size + t.size) := Lib.hid (by simp)
  have HM := Lib.hid (sum_append s t)
  have HM2 : Hid (more x (s ++ t).data.toList = more (more x s.data.toList) t.data.toList) := Lib.hid (by rw [data_append, more_append])
  have HM3 : Hid (more x (⟨#[]⟩ : ByteArray).data.toList = x) := Lib.hid (more_nil x)
  go_enter Tryd.func5, Tryd.ntmps5
  go_wp2_with fail
  refine (awake_any _ HG.out).mono ?_
  rintro e w' ⟨rfl, rfl⟩
  go_wp2_with fail
  refine (sum_any s _ (by unfold maxLen; omega) HG.out).mono ?_
  rintro e w' ⟨rfl, rfl⟩
  go_wp2_with fail
  refine (more_any (sum s) t _ (by unfold maxLen; omega) HG.out).mono ?_
  rintro e w' ⟨rfl, rfl⟩
  go_wp2_with fail
  refine (sum_any (s ++ t) _ (by unfold maxLen; have := HZ.out; omega) HG.out).mono ?_
  rintro e w' ⟨rfl, rfl⟩
  rw [HM.out]
  go_wp2_with fail
  refine (more_any x s _ (by unfold maxLen; omega) HG.out).mono ?_
  rintro e w' ⟨rfl, rfl⟩
  go_wp2_with fail
  refine (more_any (more x s.data.toList) t _ (by unfold maxLen; omega) HG.out).mono ?_
  rintro e w' ⟨rfl, rfl⟩
  go_wp2_with fail
  refine (more_any x (s ++ t) _ (by unfold maxLen; have := HZ.out; omega) HG.out).mono ?_
  rintro e w' ⟨rfl, rfl⟩
  rw [HM2.out]
  go_wp2_with fail
  refine (more_any x _ _ (by decide) HG.out).mono ?_
  rintro e w' ⟨rfl, rfl⟩
  rw [HM3.out]
  go_wp2_with fail
  go_ret
  exact ⟨by simp, Below.refl _ _⟩

theorem more_walk (x : BitVec 32) (s t : ByteArray) (w : World) (hs : s.size ≤ maxLen) (ht : t.size ≤ maxLen) (hg : Laid w) :
    Calls Tryd.prog 5 #[.int .u32 (val x), .string s, .string t] w fun e w' => e = .returned (.bool true) ∧ Below w.heap.size w w' := by
  by_cases h : 800 < s.size ∨ 800 < t.size
  · exact more_long x s t w hs ht h hg
  · exact more_short x s t w (by omega) (by omega) hg
end Go.Proofs.YtogabocbjojnoaaDoor
