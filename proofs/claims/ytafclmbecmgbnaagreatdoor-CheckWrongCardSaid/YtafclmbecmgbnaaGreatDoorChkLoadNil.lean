/-
 ChkLoadNil. Conditions: as each theorem says.
-/
import Derived.Test.YtafclmbecmgbnaaGreatDoorSm
import Derived.Test.YtafclmbecmgbnaaGreatDoorCka
namespace Go.Proofs.YtafclmbecmgbnaaGreatDoor
open Go.RowKit
section
variable {O : PgOwn} (H : PgSpec O)
include H
set_option maxRecDepth 100000 in
theorem chkLoad_nil (w : World) (i level lo hi : Int) (h12 : ¬ 12 < level) :
  Calls Tryz.prog 117 #[.pointer none, spV i level lo hi] w (LoadPost w (.error 9)) := by
 have hbn := Tryz.nodeNone
 have hz := Tryz.zeroNode
 obtain ⟨wb, HWB⟩ : ∃ wb, Hid (wb = w.alloc (.cells #[.int .i64 i, .int .i64 level, .int .i64 lo, .int .i64 hi] 176)) := Hy
 obtain ⟨p, HPP⟩ : ∃ p, Hid (p = wb.heap.size) := Hy
 obtain ⟨w1, HW1⟩ : ∃ w1, Hid (w1 = wb.alloc (.cells #[.slice none 0 0, .slice none 0 0, .slice none 0 0] 48)) := Hy
 have HBB : Hid (Below w.heap.size w wb) := Hi (by rw [HWB.out]; exact (Below.refl _ _).alloc (Nat.le_refl _) _)
 have HB1 : Hid (Below w.heap.size w w1) := Hi (by rw [HW1.out]; exact HBB.out.alloc HBB.out.size _)
 have HX1 : Hid (NdBox w1 p Lay3.none_ Nd.empty) := Hi (by rw [HW1.out, HPP.out]; exact NdBox.new (l := Lay3.none_) (x := Nd.empty) _)
 have HFZ : Hid (∀ j, w1.frozen? ⟨p, j, none⟩ = false) := Hi (by rw [HW1.out, HPP.out]; exact frozen_new1 _ _ _)
 have HPL : Hid (p < w1.heap.size) := Hi (by rw [HW1.out, HPP.out]; simp)
 have HLP : Hid (w.heap.size ≤ p) := Hi (by rw [HPP.out]; exact HBB.out.size)
 have HPW : Hid (p = w.heap.size + 1) := Hi (by rw [HPP.out, HWB.out]; simp)
 have HWW : Hid (w1 = (w.alloc (.cells #[.int .i64 i, .int .i64 level, .int .i64 lo, .int .i64 hi] 176)).alloc (.cells #[.slice none 0 0, .slice none 0 0, .slice none 0 0] 48)) := Hi (by rw [HW1.out, HWB.out])
 have HLD := Hi (H.nilLoad w1 i)
 go_enter Tryz.func117, Tryz.ntmps117
 go_wp2_with fail
 rw [← HWW.out, ← HPW.out]
 clear HW1 HPP HWB HBB HWW HPW
 refine HLD.out.mono ?_
 rintro e w2 ⟨v, rfl, he, hb⟩
 obtain ⟨tt, xx, rfl⟩ := he.some (by decide)
 obtain ⟨v1, HV1⟩ : ∃ v1, Hid (v1 = Value.iface tt xx) := Hy
 have HE1 : Hid (ErrFrom w2 w1.heap.size 9 v1) := Hi (by rw [HV1.out]; exact he)
 have HBA := Hi hb
 clear he hb HLD
 go_wp2_with fail
 rw [← HV1.out]
 refine (Tag_from _ w1.heap.size 9 v1 w2 HE1.out HBA.out.size).mono ?_
 rintro e w4 ⟨v, rfl, he, hb4⟩
 have hb := HBA.out.trans (hb4.mono HBA.out.size)
 clear hb4 HBA HE1 HV1
 have HE := Hi he
 have HB2 := Hi (HB1.out.trans (hb.mono HB1.out.size))
 have HX2 := Hi (HX1.out.carry hb HPL.out)
 have f0 := frozen_below hb HPL.out HFZ.out 0
 have f1 := frozen_below hb HPL.out HFZ.out 1
 have f2 := frozen_below hb HPL.out HFZ.out 2
 have d0 := HX2.out.c0
 have d1 := HX2.out.c1
 have d2 := HX2.out.c2
 obtain ⟨w3, HWw3⟩ : ∃ w3, Hid (w3 = ((w4.setCell ⟨p, 0, none⟩ (.slice none 0 0)).setCell ⟨p, 1, none⟩ (.slice none 0 0)).setCell ⟨p, 2, none⟩ (.slice none 0 0)) := Hy
 have HSw3 : Hid (w3 = store3 w4 p Lay3.none_ Nd.empty) := Hi HWw3.out
 have HXw3 : Hid (NdBox w3 p Lay3.none_ Nd.empty) := Hi (by rw [HSw3.out]; exact store3_box HX2.out)
 have HB3 : Hid (Below w.heap.size w w3) := Hi (by rw [HSw3.out]; exact store3_below HB2.out HLP.out)
 have HE3 : Hid (ErrFrom w3 w.heap.size 9 v) := Hi (by rw [HSw3.out]; exact (store3_err HE.out HPL.out).mono HB1.out.size)
 clear he hb HE HB2 HX2
 go_wp2_with fail
 rw [← HWw3.out]
 exact bodyPost_ret (results_nd2 Tryz.ndProg rfl _ _ p Lay3.none_ Nd.empty v rfl rfl HXw3.out) rfl ⟨by decide, v, rfl, HE3.out, HB3.out⟩
end
end Go.Proofs.YtafclmbecmgbnaaGreatDoor
