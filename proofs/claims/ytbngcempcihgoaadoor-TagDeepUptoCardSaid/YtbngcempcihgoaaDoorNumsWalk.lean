/-
  The walk of the statement TagNums: whatever the number, the tags and the other number, it answers true, and no memory that was there has turned. Condition: the package variable errors.errorType holds the handle of the type error.
-/
import Derived.Test.YtbngcempcihgoaaDoorTag
namespace Go.Proofs.YtbngcempcihgoaaDoor
open Go.RowKit Go.Extern.Stop Go.Stop Go.Extern

theorem Laid.carry {w w' : World} (hg : Laid w) (hb : Below w.heap.size w w') : Laid w' := (hb.cell (lt_of_cell hg)).trans hg

set_option maxHeartbeats 4000000 in
theorem nums_long (n o : Int) (A : Option Addr) (len cap : Nat) (w : World) (hlen : 40 < len) (hg : Laid w) :
    Calls Tryd.prog 3 #[.int .i64 n, .slice A len cap, .int .i64 o] w fun e w' => e = .returned (.bool true) ∧ Below w.heap.size w w' := by
  have HG := Lib.hid hg
  clear hg
  go_enter Tryd.func3, Tryd.ntmps3
  go_wp2_with fail
  refine (awake_any _ HG.out).mono ?_
  rintro e w1 ⟨rfl, hb⟩
  have HG1 := Lib.hid (HG.out.carry hb)
  have HB := Lib.hid hb
  clear hb
  go_wp2_with fail
  refine (awake_any _ HG1.out).mono ?_
  rintro e w2 ⟨rfl, hb2⟩
  have HB2 := Lib.hid hb2
  clear hb2
  go_wp2
  go_ret
  exact ⟨rfl, HB.out.trans (HB2.out.mono HB.out.size)⟩

set_option maxHeartbeats 4000000 in
theorem nums_short (n o : Int) (A : Option Addr) (len cap : Nat) (ss : List ByteArray) (w : World) (hs : Strs w A len ss) (hlen : ¬ 40 < len) (hg : Laid w) (r : Bool) (hr : (n == o) = r) :
    Calls Tryd.prog 3 #[.int .i64 n, .slice A len cap, .int .i64 o] w fun e w' => e = .returned (.bool true) ∧ Below w.heap.size w w' := by
  have HG := Lib.hid hg
  have HS := Lib.hid hs
  clear hg hs
  go_enter Tryd.func3, Tryd.ntmps3
  go_wp2_with fail
  refine (awake_any _ HG.out).mono ?_
  rintro e w1 ⟨rfl, hb⟩
  have HG1 := Lib.hid (HG.out.carry hb)
  have HS1 := Lib.hid (HS.out.carry hb)
  have HB1 := Lib.hid hb
  clear hb HG HS
  go_wp2_with fail
  refine (tagged_any n A len cap ss w1 HS1.out (by omega)).mono ?_
  rintro e w2 ⟨v, rfl, hc, hb⟩
  have HC2 := Lib.hid hc
  have HG2 := Lib.hid (HG1.out.carry hb)
  have HB2 := Lib.hid (HB1.out.trans (hb.mono HB1.out.size))
  clear hc hb HG1 HS1 HB1
  go_wp2_with fail
  refine (Num_chain n v _ w2 HC2.out HG2.out).mono ?_
  rintro e w3 ⟨rfl, hb⟩
  have HC3 := Lib.hid (HC2.out.carry rfl hb)
  have HB3 := Lib.hid (HB2.out.trans (hb.mono HB2.out.size))
  clear hb HC2 HB2 HG2
  have hnn : (n == n) = true := by simp
  go_wp2_with fail
  refine (Same_chain n n v _ w3 HC3.out true hnn).mono ?_
  rintro e w' ⟨rfl, rfl⟩
  go_wp2_with fail
  refine (Same_chain o n v _ w3 HC3.out r hr).mono ?_
  rintro e w' ⟨rfl, rfl⟩
  go_wp2_with fail
  refine (Num_nil w3).mono ?_
  rintro e w' ⟨rfl, rfl⟩
  go_wp2_with fail
  refine (Same_nil n w3).mono ?_
  rintro e w' ⟨rfl, rfl⟩
  go_wp2_with fail
  refine (Tag_nil _ w3).mono ?_
  rintro e w' ⟨rfl, rfl⟩
  go_wp2_with fail
  refine (Num_nil w3).mono ?_
  rintro e w' ⟨rfl, rfl⟩
  go_wp2
  go_ret
  exact ⟨by simp, HB3.out⟩
end Go.Proofs.YtbngcempcihgoaaDoor
