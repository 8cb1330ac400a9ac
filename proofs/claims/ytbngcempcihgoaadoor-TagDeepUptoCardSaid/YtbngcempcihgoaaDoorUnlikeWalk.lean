/-
  The walk of the statement TagUnlike: for all two numbers and every name it answers true, and no memory that was there has turned. Condition: the package variable errors.errorType holds the handle of the type error.
-/
import Derived.Test.YtbngcempcihgoaaDoorNumsWalk
import Derived.Test.YtbngcempcihgoaaDoorText
import Derived.Test.YtbngcempcihgoaaDoorGather
namespace Go.Proofs.YtbngcempcihgoaaDoor
open Go.RowKit Go.Extern.Stop Go.Stop Go.Extern

theorem ofNat_inj {a b : Nat} (ha : a < 256) (hb : b < 256) (h : UInt8.ofNat a = UInt8.ofNat b) : a = b := by
  have h' := congrArg UInt8.toNat h
  simp only [UInt8.toNat_ofNat'] at h'
  omega
theorem numText_inj {x y : Int} (hx : 0 ≤ x) (hx2 : x < 100) (hy : 0 ≤ y) (hy2 : y < 100) (h : (numText x).data.toList = (numText y).data.toList) : x = y := by
  rw [numText, if_pos ⟨hx, hx2⟩, numText, if_pos ⟨hy, hy2⟩] at h
  have h1 : (digs x).data.toList = (digs y).data.toList := by
    have e : ∀ z : ByteArray, ((⟨#[102, 97, 117, 108, 116, 32]⟩ : ByteArray) ++ z).data.toList = [102, 97, 117, 108, 116, 32] ++ z.data.toList := fun z => by simp
    rw [e, e] at h
    exact List.append_cancel_left h
  simp only [digs, strOfNums, List.map_cons, List.map_nil, List.cons.injEq, and_true] at h1
  have a1 := ofNat_inj (by omega) (by omega) h1.1
  have a2 := ofNat_inj (by omega) (by omega) h1.2
  omega
theorem numText_beq {x y : Int} (hx : 0 ≤ x) (hx2 : x < 100) (hy : 0 ≤ y) (hy2 : y < 100) : ((numText x).toList == (numText y).toList) = (x == y) := by
  rw [ByteArray.toList_eq, ByteArray.toList_eq]
  by_cases h : x = y
  · subst h; simp
  · have h' : (numText x).data.toList ≠ (numText y).data.toList := fun e => h (numText_inj hx hx2 hy hy2 e)
    rw [beq_eq_false_iff_ne.2 h', beq_eq_false_iff_ne.2 h]

set_option maxHeartbeats 4000000 in
theorem unlike_walk (a b : Int) (s : ByteArray) (w : World) (ha : 0 ≤ a) (ha2 : a < 256) (hb : 0 ≤ b) (hb2 : b < 256) (hg : Laid w) :
    Calls Tryd.prog 7 #[.int .u8 a, .int .u8 b, .string s] w fun e w' => e = .returned (.bool true) ∧ Below w.heap.size w w' := by
  have HG := Lib.hid hg
  clear hg
  go_enter Tryd.func7, Tryd.ntmps7
  go_wp2_with fail
  refine (Tag_chain s (a % 100) _ [] w .base).mono ?_
  rintro e w1 ⟨rfl, hc, hb1⟩
  have HC := Lib.hid hc
  have HB1 := Lib.hid hb1
  have HG1 := Lib.hid (HG.out.carry hb1)
  clear hc hb1 HG
  go_wp2_with fail
  refine (awake_any _ HG1.out).mono ?_
  rintro e w2 ⟨rfl, hb⟩
  have HC2 := Lib.hid (HC.out.carry rfl hb)
  have HB2 := Lib.hid (HB1.out.trans (hb.mono HB1.out.size))
  clear hb HC HB1 HG1
  go_wp2_with fail
  refine (errno_any (a % 100) w2).mono ?_
  rintro e w3 ⟨rfl, hb⟩
  have HC3 := Lib.hid (HC2.out.carry rfl hb)
  have HB3 := Lib.hid (HB2.out.trans (hb.mono HB2.out.size))
  clear hb HC2 HB2
  go_wp2_with fail
  refine (errno_any (b % 100) w3).mono ?_
  rintro e w4 ⟨rfl, hb⟩
  have HC4 := Lib.hid (HC3.out.carry rfl hb)
  have HB4 := Lib.hid (HB3.out.trans (hb.mono HB3.out.size))
  clear hb HC3 HB3
  obtain ⟨r, hr⟩ : ∃ r, (a % 100 == b % 100) = r := ⟨_, rfl⟩
  have hq : ((numText (a % 100)).toList == (numText (b % 100)).toList) = r := (numText_beq (by omega) (by omega) (by omega) (by omega)).trans hr
  go_wp2_with fail
  refine (Same_chain (b % 100) (a % 100) _ _ w4 HC4.out r hr).mono ?_
  rintro e w' ⟨rfl, rfl⟩
  obtain ⟨k, hk⟩ := HC4.out.links
  have HK := Lib.hid hk
  clear hk
  go_wp2_with fail
  refine (Tags_any k _ _ w4 HK.out (by simp)).mono ?_
  rintro e w5 ⟨A, cap, rfl, hs, hb⟩
  have HB5 := Lib.hid (HB4.out.trans (hb.mono HB4.out.size))
  clear hs hb
  go_wp2
  go_ret
  exact ⟨by simp, HB5.out⟩
end Go.Proofs.YtbngcempcihgoaaDoor
