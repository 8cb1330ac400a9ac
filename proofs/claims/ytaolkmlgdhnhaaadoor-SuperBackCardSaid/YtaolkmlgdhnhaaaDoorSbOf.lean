/-
  The contracts of the law's Of and Plain, of super.sectorOf and super.fault. Conditions: none beyond the premises of each theorem.
-/
import Derived.Test.YtaolkmlgdhnhaaaDoorSbAt
import Derived.Test.YtaolkmlgdhnhaaaDoorFrErr
import Derived.Test.YtaolkmlgdhnhaaaDoorPackPut
namespace Go.Proofs.YtaolkmlgdhnhaaaDoor
open Go.RowKit

set_option maxRecDepth 100000 in
theorem Of_any (x : Sb) (hx : x.Ok) (w : World) : Calls Tryd.prog 10 #[sbV x] w fun e w' => e = .returned (sbV x) ∧ Below w.heap.size w w' := by
  have HX := Lib.hid hx
  clear hx
  have hz := Tryd.sbProg.zero
  obtain ⟨b, HB⟩ : ∃ b, Hid (b = w.heap.size) := ⟨_, Lib.hid rfl⟩
  obtain ⟨w1, HW⟩ : ∃ w1, Hid (w1 = (w.alloc (.cells (sbArr x) 25)).alloc (.cells (sbArr Sb.zero) 33)) := ⟨_, Lib.hid rfl⟩
  have HO : Hid (BOwn w1 b x) := Lib.hid (by rw [HW.out, HB.out]; exact (BOwn.new _).below ((Below.refl _ _).alloc (Nat.le_refl _) _) (by simp))
  have HO2 : Hid (BOwn w1 (b + 1) Sb.zero) := Lib.hid (by rw [HW.out, HB.out]; have := BOwn.new (w := w.alloc (.cells (sbArr x) 25)) (x := Sb.zero) 33; simpa using this)
  have HBL : Hid (Below w.heap.size w w1) := Lib.hid (by rw [HW.out]; exact ((Below.refl _ _).alloc (Nat.le_refl _) _).alloc (by simp) _)
  have c0 := HO.out.gen
  have c1 := HO.out.root
  go_enter Tryd.func10, Tryd.ntmps10
  go_upto_region 1 with (fail)
  rw [← HW.out, ← HB.out]
  go_wp2_with (with_reducible refine stop_at (o := ⟨some 8, _, _, _, _, _⟩) ?_)
  refine wpList_load_arr_at rfl _ rfl b 2 rfl x.used HX.out.used.len HO.out.used ?_
  refine wpList_build_sb3 Tryd.sbProg rfl _ _ _ rfl x HX.out rfl rfl rfl ?_
  refine wpList_store_sb Tryd.sbProg rfl _ _ rfl (b + 1) x Sb.zero HX.out Sb.Ok.zero rfl rfl HO2.out ?_
  intro w2 HW2 HO3
  go_wp2_with fail
  refine bodyPost_ret (results_sb Tryd.sbProg rfl _ _ (b + 1) x rfl HO3.out.at_ HX.out) rfl ⟨rfl, below_cells_of HBL.out HW2.out (by rw [HB.out]; omega)⟩
set_option maxRecDepth 100000 in
theorem Plain_any (x : Sb) (hx : x.Ok) (w : World) : Calls Tryd.prog 14 #[sbV x] w fun e w' => e = .returned (sbV x) ∧ Below w.heap.size w w' := by
  have HX := Lib.hid hx
  clear hx
  have hz := Tryd.sbRef.zero
  obtain ⟨b, HB⟩ : ∃ b, Hid (b = w.heap.size) := ⟨_, Lib.hid rfl⟩
  obtain ⟨w1, HW⟩ : ∃ w1, Hid (w1 = (w.alloc (.cells (sbArr x) 33)).alloc (.cells (sbArr Sb.zero) 25)) := ⟨_, Lib.hid rfl⟩
  have HO : Hid (BOwn w1 b x) := Lib.hid (by rw [HW.out, HB.out]; exact (BOwn.new _).below ((Below.refl _ _).alloc (Nat.le_refl _) _) (by simp))
  have HO2 : Hid (BOwn w1 (b + 1) Sb.zero) := Lib.hid (by rw [HW.out, HB.out]; have := BOwn.new (w := w.alloc (.cells (sbArr x) 33)) (x := Sb.zero) 25; simpa using this)
  have HBL : Hid (Below w.heap.size w w1) := Lib.hid (by rw [HW.out]; exact ((Below.refl _ _).alloc (Nat.le_refl _) _).alloc (by simp) _)
  have c0 := HO.out.gen
  have c1 := HO.out.root
  go_enter Tryd.func14, Tryd.ntmps14
  go_upto_region 1 with (fail)
  rw [← HW.out, ← HB.out]
  go_wp2_with (with_reducible refine stop_at (o := ⟨some 8, _, _, _, _, _⟩) ?_)
  refine wpList_load_set_at rfl _ rfl b 2 rfl x.used HX.out.used.len HO.out.used ?_
  refine wpList_build_sb3 Tryd.sbRef rfl _ _ _ rfl x HX.out rfl rfl rfl ?_
  refine wpList_store_sb Tryd.sbRef rfl _ _ rfl (b + 1) x Sb.zero HX.out Sb.Ok.zero rfl rfl HO2.out ?_
  intro w2 HW2 HO3
  go_wp2_with fail
  refine bodyPost_ret (results_sb Tryd.sbRef rfl _ _ (b + 1) x rfl HO3.out.at_ HX.out) rfl ⟨rfl, below_cells_of HBL.out HW2.out (by rw [HB.out]; omega)⟩
theorem sectorOf_any (g : Nat) (hg : g < 4294967296) (w : World) : Calls Tryd.prog 41 #[.int .u32 (g : Int)] w fun e w' => e = .returned (.int .i64 ((g % 2 : Nat) : Int)) ∧ w = w' := by
  go_enter Tryd.func41, Tryd.ntmps41
  go_wp2
  go_ret
  exact ⟨ret_int (by omega), rfl⟩
theorem SbFault_any (c : Int) (hc : c ≠ 0) (w : World) : Calls Tryd.prog 25 #[.int .i64 c] w (FromPost c w.heap.size w) := by
  have H := Lib.hid hc
  clear hc
  go_enter Tryd.func25, Tryd.ntmps25
  go_wp2_with fail
  refine (Tag_from _ w.heap.size c _ w (.inr ⟨H.out, .base⟩) (Nat.le_refl _)).mono ?_
  rintro e w' ⟨v, rfl, h1, h4⟩
  have H1 := Lib.hid h1
  have H4 := Lib.hid h4
  clear h1 h4
  go_wp2_with fail
  go_ret
  exact ⟨v, rfl, H1.out, H4.out⟩
end Go.Proofs.YtaolkmlgdhnhaaaDoor
