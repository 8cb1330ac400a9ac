/-
  The walk of the statement CrcCut: it answers true, and no memory that was there has turned. Condition: the package variable crc.halved holds its sixteen words.
-/
import Derived.Test.YtogabocbjojnoaaDoorWalks
import Derived.Deep.QuietTactic
import Derived.BigQuiet
import Derived.Lib.Strings
namespace Go.Proofs.YtogabocbjojnoaaDoor
open Go.RowKit Crc

theorem Laid.drewN {w : World} (h : Laid w) (n : Nat) : Laid (w.drewN n) := ⟨by simpa using h.1, fun k hk => by simpa using h.2 k hk⟩
theorem sum_q (s : ByteArray) (w : World) (hs : s.size ≤ maxLen) (hg : Laid w) :
    Calls Tryd.prog 10 #[.string s] w fun e w' => e = .returned (.int .u32 (val (sum s))) ∧ w' = w := (sum_any s w hs hg).mono fun _ _ ⟨a, b⟩ => ⟨a, b.symm⟩
theorem more_q (x : BitVec 32) (s : ByteArray) (w : World) (hs : s.size ≤ maxLen) (hg : Laid w) :
    Calls Tryd.prog 12 #[.int .u32 (val x), .string s] w fun e w' => e = .returned (.int .u32 (val (more x s.data.toList))) ∧ w' = w := (more_any x s w hs hg).mono fun _ _ ⟨a, b⟩ => ⟨a, b.symm⟩

theorem below_drewN (w : World) (n : Nat) : Below w.heap.size w (w.drewN n) := by
  have h := Below.refl w.heap.size w
  exact ⟨h.os, h.tape, h.output, h.size, h.block⟩
theorem ret_true {b : Bool} (h : b = true) : Ending.returned (.bool b) = .returned (.bool true) := by rw [h]
theorem extract_data0 (s : ByteArray) (k : Nat) : (s.extract 0 k).data.toList = s.data.toList.take k := by simp
theorem cut_sum (s : ByteArray) (k : Nat) : (val (more (sum (s.extract 0 k)) (List.take (s.size - k) (List.drop k s.data.toList))) == val (sum s)) = true := by
  rw [val_beq]
  have e : List.take (s.size - k) (List.drop k s.data.toList) = List.drop k s.data.toList := List.take_of_length_le (by rw [List.length_drop, lenS]; exact Nat.le_refl _)
  unfold sum
  rw [e, extract_data0, more_append, List.take_append_drop]
  simp

set_option maxHeartbeats 1000000 in
theorem cut_short (s : ByteArray) (a : Nat) (w : World) (ha : a < 65536) (hs : s.size ≤ 800) (hg : Laid w) :
    Calls Tryd.prog 8 #[.string s, .int .u16 (a : Int)] w fun e w' => e = .returned (.bool true) ∧ Below w.heap.size w w' := by
  have HG := Lib.hid hg
  clear hg
  have hl1 : decide ((s.size : Int) > 800) = false := by simp; omega
  have HK : Hid ((a : Int) % ((s.size : Int) + 1) = ((a % (s.size + 1) : Nat) : Int)) := Lib.hid (by simp)
  have hk : a % (s.size + 1) ≤ s.size := by have := Nat.mod_lt a (show 0 < s.size + 1 by omega); omega
  go_enter Tryd.func8, Tryd.ntmps8
  go_wp2_with fail
  refine (awake_any _ HG.out).mono ?_
  rintro e w' ⟨rfl, rfl⟩
  go_wp2_with fail
  rw [HK.out]
  clear HK
  generalize a % (s.size + 1) = k at hk
  go_quiet (first | (go_at_call 10; exact Calls.quiet_of_same (sum_q _ _ (by unfold maxLen; simp; omega) (HG.out.drewN _))) | (go_at_call 12; exact Calls.quiet_of_same (more_q _ _ _ (by unfold maxLen; simp; omega) (HG.out.drewN _))))
  go_wp2_with fail
  go_ret
  refine ⟨?_, ?_⟩
  · exact ret_true (cut_sum s k)
  · exact below_drewN w nq

set_option maxHeartbeats 1000000 in
theorem cut_long (s : ByteArray) (a : Nat) (w : World) (hs : s.size ≤ maxLen) (hl : 800 < s.size) (hg : Laid w) :
    Calls Tryd.prog 8 #[.string s, .int .u16 (a : Int)] w fun e w' => e = .returned (.bool true) ∧ Below w.heap.size w w' := by
  unfold maxLen at hs
  have HG := Lib.hid hg
  clear hg
  have hl1 : decide ((s.size : Int) > 800) = true := by simp; omega
  go_enter Tryd.func8, Tryd.ntmps8
  go_wp2_with fail
  refine (awake_any _ HG.out).mono ?_
  rintro e w' ⟨rfl, rfl⟩
  go_wp2_with fail
  refine (awake_any _ HG.out).mono ?_
  rintro e w' ⟨rfl, rfl⟩
  go_wp2_with fail
  go_ret
  exact ⟨rfl, Below.refl _ _⟩
theorem cut_walk (s : ByteArray) (a : Int) (w : World) (hs : s.size ≤ maxLen) (ha : 0 ≤ a ∧ a < 65536) (hg : Laid w) :
    Calls Tryd.prog 8 #[.string s, .int .u16 a] w fun e w' => e = .returned (.bool true) ∧ Below w.heap.size w w' := by
  obtain ⟨n, rfl⟩ := Int.eq_ofNat_of_zero_le ha.1
  by_cases h : 800 < s.size
  · exact cut_long s n w hs h hg
  · exact cut_short s n w (by omega) (by omega) hg
end Go.Proofs.YtogabocbjojnoaaDoor
