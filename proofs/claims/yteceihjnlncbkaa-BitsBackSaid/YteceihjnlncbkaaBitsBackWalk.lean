/-
  The walk of BitsBack: what is put in and taken out again leaves the set as it was. Conditions: none beyond the premises of each theorem.
-/
import Derived.Test.YteceihjnlncbkaaSetEq
namespace Go.Proofs.Yteceihjnlncbkaa
open Go.RowKit
open Bits (Ok has with_ without count countBelow first both)

theorem with_same {s : List Nat} (h : Ok s) {m : Nat} (hm : m < 240) (hs : has s m = true) : with_ s m = s := Bits.ext (h.with_ m) h fun n _ => by
  rw [Bits.has_with h hm]
  by_cases e : n = m
  · rw [if_pos e, e, hs]
  · rw [if_neg e]
theorem without_same {s : List Nat} (h : Ok s) {m : Nat} (hm : m < 240) (hs : has s m = false) : without s m = s := Bits.ext (h.without m) h fun n _ => by
  rw [Bits.has_without h hm]
  by_cases e : n = m
  · rw [if_pos e, e, hs]
  · rw [if_neg e]
theorem with_back {s : List Nat} (h : Ok s) {m : Nat} (hm : m < 240) (hs : has s m = true) : with_ (without s m) m = s := Bits.ext ((h.without m).with_ m) h fun n _ => by
  rw [Bits.has_with (h.without m) hm, Bits.has_without h hm]
  by_cases e : n = m
  · rw [if_pos e, e, hs]
  · rw [if_neg e, if_neg e]
theorem without_back {s : List Nat} (h : Ok s) {m : Nat} (hm : m < 240) (hs : has s m = false) : without (with_ s m) m = s := Bits.ext ((h.with_ m).without m) h fun n _ => by
  rw [Bits.has_without (h.with_ m) hm, Bits.has_with h hm]
  by_cases e : n = m
  · rw [if_pos e, e, hs]
  · rw [if_neg e, if_neg e]
/-- what stands in memory: the argument, with and without the number -/
structure BackS (w : World) (b c d : Nat) (s x y : List Nat) (wr : World) : Prop where
  arg : wr.rangeAt b 0 (stCells s)
  put : wr.rangeAt c 0 (stCells x)
  out : wr.rangeAt d 0 (stCells y)
  below : Below w.heap.size w wr
theorem BackS.carry {w : World} {b c d : Nat} {s x y : List Nat} {wr w' : World} (h : BackS w b c d s x y wr) (hb : Below wr.heap.size wr w') : BackS w b c d s x y w' :=
  ⟨range_carry h.arg hb, range_carry h.put hb, range_carry h.out hb, h.below.trans (hb.mono h.below.size)⟩
theorem BackS.drew {w : World} {b c d : Nat} {s x y : List Nat} {wr : World} (h : BackS w b c d s x y wr) : BackS w b c d s x y wr.drew := ⟨h.arg, h.put, h.out, h.below.drew⟩
set_option maxRecDepth 100000 in
set_option maxHeartbeats 4000000 in
theorem back_no (s : List Nat) (hok : Ok s) (n : Int) (hn : isNum n = false) (hc : ¬ 0 ≤ n ∨ (0 ≤ n ∧ decide (n < 240) = false)) (w : World) :
    Calls Try.prog 6 #[stV s, .int .i64 n] w fun e w' => e = .returned (.bool true) ∧ Below w.heap.size w w' := by
  have hz := Try.zeroSet
  obtain ⟨w1, HW⟩ : ∃ w1, Hid (w1 = w.alloc (.cells (stArr s) 22)) := ⟨_, Lib.hid rfl⟩
  obtain ⟨b, HBB⟩ : ∃ b, Hid (b = w.heap.size) := ⟨_, Lib.hid rfl⟩
  have HR1 : Hid (w1.rangeAt b 0 (stCells s)) := Lib.hid (by rw [HW.out, HBB.out]; exact (SOwn.new _).at_)
  have HB1 : Hid (Below w.heap.size w w1) := Lib.hid (by rw [HW.out]; exact (Below.refl _ _).alloc (Nat.le_refl _) _)
  rcases hc with hc | ⟨hc, hc2⟩
  all_goals
    go_enter Try.func6, Try.ntmps6
    go_wp2_with fail
    rw [← HW.out, ← HBB.out]
    refine (awake_any _).mono ?_
    rintro e w2 ⟨rfl, hb⟩
    have HB2 := Lib.hid (HB1.out.trans (hb.mono HB1.out.size))
    have HR2 := Lib.hid (range_carry HR1.out hb)
    clear hb HB1 HR1
    go_wp2_with (with_reducible refine set_stop (o := ⟨some 16, _, _, _, _, _⟩) ?_)
    refine wpList_load_arr rfl _ rfl b rfl s hok.len HR2.out ?_
    go_wp2_with fail
    refine (With_no s hok n hn _).mono ?_
    obtain ⟨x, HX⟩ : ∃ x, Hid (x = s) := ⟨_, Lib.hid rfl⟩
    have HXO : Hid (Ok x) := Lib.hid (by rw [HX.out]; exact hok)
    rw [← HX.out]
    rintro e w3 ⟨rfl, hb⟩
    have HB3 := Lib.hid (HB2.out.trans (hb.mono HB2.out.size))
    have HR3 := Lib.hid (range_carry HR2.out hb)
    clear hb HB2 HR2
    go_wp2_with (with_reducible refine set_stop (o := ⟨none, _, _, _, _, _⟩) ?_)
    obtain ⟨w4, HW4⟩ : ∃ w4, Hid (w4 = w3.alloc (.cells (stArr zeroSt) 28)) := ⟨_, Lib.hid rfl⟩
    obtain ⟨c, HC⟩ : ∃ c, Hid (c = w3.heap.size) := ⟨_, Lib.hid rfl⟩
    have HO4 : Hid (SOwn w4 c zeroSt) := Lib.hid (by rw [HW4.out, HC.out]; exact SOwn.new _)
    have HB34 : Hid (Below w3.heap.size w3 w4) := Lib.hid (by rw [HW4.out]; exact (Below.refl _ _).alloc (Nat.le_refl _) _)
    rw [← HW4.out, ← HC.out]
    unfold SetStop
    refine wpList_store_set rfl _ _ rfl c x zeroSt HXO.out.len zeroSt_length rfl rfl HO4.out ?_
    intro w5 HW5 HO5
    have HB35 : Hid (Below w3.heap.size w3 w5) := Lib.hid (below_cells_of HB34.out HW5.out (by rw [HC.out]; exact Nat.le_refl _))
    have HB5 := Lib.hid (HB3.out.trans (HB35.out.mono HB3.out.size))
    have HR5 := Lib.hid (range_carry HR3.out HB35.out)
    clear HW5 HW4 HO4 HB34 HB35 HB3 HR3 HC
    go_wp2_with (with_reducible refine set_stop (o := ⟨some 19, _, _, _, _, _⟩) ?_)
    refine wpList_load_arr rfl _ rfl b rfl s hok.len HR5.out ?_
    go_wp2_with fail
    refine (Without_no s hok n hn _).mono ?_
    obtain ⟨y, HY⟩ : ∃ y, Hid (y = s) := ⟨_, Lib.hid rfl⟩
    have HYO : Hid (Ok y) := Lib.hid (by rw [HY.out]; exact hok)
    rw [← HY.out]
    rintro e w6 ⟨rfl, hb⟩
    have HB6 := Lib.hid (HB5.out.trans (hb.mono HB5.out.size))
    have HR6 := Lib.hid (range_carry HR5.out hb)
    have HX6 := Lib.hid (range_carry HO5.out.at_ hb)
    clear hb HB5 HR5 HO5
    go_wp2_with (with_reducible refine set_stop (o := ⟨none, _, _, _, _, _⟩) ?_)
    obtain ⟨w7, HW7⟩ : ∃ w7, Hid (w7 = w6.alloc (.cells (stArr zeroSt) 28)) := ⟨_, Lib.hid rfl⟩
    obtain ⟨d, HD⟩ : ∃ d, Hid (d = w6.heap.size) := ⟨_, Lib.hid rfl⟩
    have HO7 : Hid (SOwn w7 d zeroSt) := Lib.hid (by rw [HW7.out, HD.out]; exact SOwn.new _)
    have HB67 : Hid (Below w6.heap.size w6 w7) := Lib.hid (by rw [HW7.out]; exact (Below.refl _ _).alloc (Nat.le_refl _) _)
    rw [← HW7.out, ← HD.out]
    unfold SetStop
    refine wpList_store_set rfl _ _ rfl d y zeroSt HYO.out.len zeroSt_length rfl rfl HO7.out ?_
    intro w8 HW8 HO8
    have HB68 : Hid (Below w6.heap.size w6 w8) := Lib.hid (below_cells_of HB67.out HW8.out (by rw [HD.out]; exact Nat.le_refl _))
    have HST : Hid (BackS w b c d s x y w8) := Lib.hid ⟨range_carry HR6.out HB68.out, range_carry HX6.out HB68.out, HO8.out.at_, HB6.out.trans (HB68.out.mono HB6.out.size)⟩
    clear HW8 HW7 HO7 HB67 HB68 HB6 HR6 HX6 HO8 HD
    have HXS : Hid (x = s) := Lib.hid HX.out
    have HYS : Hid (y = s) := Lib.hid HY.out
    have heq := equalIn_same hok.len
    have hgd := guardSet
    go_wp2_with (with_reducible refine set_stop (o := ⟨some 24, _, _, _, _, _⟩) ?_)
    refine wpList_load_set (by rfl) _ rfl c rfl x HXO.out.len HST.out.put ?_
    rw [HXS.out]
    go_wp2_with (with_reducible refine set_stop (o := ⟨some 25, _, _, _, _, _⟩) ?_)
    refine wpList_load_arr (by rfl) _ rfl b rfl s hok.len HST.out.arg ?_
    go_wp2_with (with_reducible refine set_stop (o := ⟨some 28, _, _, _, _, _⟩) ?_)
    refine wpList_load_set (by rfl) _ rfl d rfl y HYO.out.len HST.out.out ?_
    rw [HYS.out]
    go_wp2_with (with_reducible refine set_stop (o := ⟨some 29, _, _, _, _, _⟩) ?_)
    refine wpList_load_set (by rfl) _ rfl c rfl x HXO.out.len HST.out.put ?_
    rw [HXS.out]
    go_wp2_with (with_reducible refine set_stop (o := ⟨some 33, _, _, _, _, _⟩) ?_)
    refine wpList_load_arr (by rfl) _ rfl b rfl s hok.len HST.out.arg ?_
    go_wp2_with fail
    refine (Has_no s n hn _).mono ?_
    rintro e w9 ⟨rfl, hb⟩
    have HST9 := Lib.hid (HST.out.carry hb)
    clear hb HST
    go_wp2_with fail
    go_ret
    exact ⟨rfl, HST9.out.below⟩
set_option maxRecDepth 100000 in
set_option maxHeartbeats 4000000 in
theorem back_in (s : List Nat) (hok : Ok s) (m : Nat) (hm : m < 240) (hs : has s m = true) (w : World) :
    Calls Try.prog 6 #[stV s, .int .i64 m] w fun e w' => e = .returned (.bool true) ∧ Below w.heap.size w w' := by
  have hz := Try.zeroSet
  obtain ⟨w1, HW⟩ : ∃ w1, Hid (w1 = w.alloc (.cells (stArr s) 22)) := ⟨_, Lib.hid rfl⟩
  obtain ⟨b, HBB⟩ : ∃ b, Hid (b = w.heap.size) := ⟨_, Lib.hid rfl⟩
  have HR1 : Hid (w1.rangeAt b 0 (stCells s)) := Lib.hid (by rw [HW.out, HBB.out]; exact (SOwn.new _).at_)
  have HB1 : Hid (Below w.heap.size w w1) := Lib.hid (by rw [HW.out]; exact (Below.refl _ _).alloc (Nat.le_refl _) _)
  have hm1 : (0 : Int) ≤ (m : Int) := by omega
  have hm2 : (m : Int) < 240 := by omega
  have HHS := Lib.hid hs
  clear hs
  go_enter Try.func6, Try.ntmps6
  go_wp2_with fail
  rw [← HW.out, ← HBB.out]
  refine (awake_any _).mono ?_
  rintro e w2 ⟨rfl, hb⟩
  have HB2 := Lib.hid (HB1.out.trans (hb.mono HB1.out.size))
  have HR2 := Lib.hid (range_carry HR1.out hb)
  clear hb HB1 HR1
  go_wp2_with (with_reducible refine set_stop (o := ⟨some 16, _, _, _, _, _⟩) ?_)
  refine wpList_load_arr rfl _ rfl b rfl s hok.len HR2.out ?_
  go_wp2_with fail
  refine (With_yes s hok m hm _).mono ?_
  obtain ⟨x, HX⟩ : ∃ x, Hid (x = with_ s m) := ⟨_, Lib.hid rfl⟩
  have HXO : Hid (Ok x) := Lib.hid (by rw [HX.out]; exact hok.with_ m)
  rw [← HX.out]
  rintro e w3 ⟨rfl, hb⟩
  have HB3 := Lib.hid (HB2.out.trans (hb.mono HB2.out.size))
  have HR3 := Lib.hid (range_carry HR2.out hb)
  clear hb HB2 HR2
  go_wp2_with (with_reducible refine set_stop (o := ⟨none, _, _, _, _, _⟩) ?_)
  obtain ⟨w4, HW4⟩ : ∃ w4, Hid (w4 = w3.alloc (.cells (stArr zeroSt) 28)) := ⟨_, Lib.hid rfl⟩
  obtain ⟨c, HC⟩ : ∃ c, Hid (c = w3.heap.size) := ⟨_, Lib.hid rfl⟩
  have HO4 : Hid (SOwn w4 c zeroSt) := Lib.hid (by rw [HW4.out, HC.out]; exact SOwn.new _)
  have HB34 : Hid (Below w3.heap.size w3 w4) := Lib.hid (by rw [HW4.out]; exact (Below.refl _ _).alloc (Nat.le_refl _) _)
  rw [← HW4.out, ← HC.out]
  unfold SetStop
  refine wpList_store_set rfl _ _ rfl c x zeroSt HXO.out.len zeroSt_length rfl rfl HO4.out ?_
  intro w5 HW5 HO5
  have HB35 : Hid (Below w3.heap.size w3 w5) := Lib.hid (below_cells_of HB34.out HW5.out (by rw [HC.out]; exact Nat.le_refl _))
  have HB5 := Lib.hid (HB3.out.trans (HB35.out.mono HB3.out.size))
  have HR5 := Lib.hid (range_carry HR3.out HB35.out)
  clear HW5 HW4 HO4 HB34 HB35 HB3 HR3 HC
  go_wp2_with (with_reducible refine set_stop (o := ⟨some 19, _, _, _, _, _⟩) ?_)
  refine wpList_load_arr rfl _ rfl b rfl s hok.len HR5.out ?_
  go_wp2_with fail
  refine (Without_yes s hok m hm _).mono ?_
  obtain ⟨y, HY⟩ : ∃ y, Hid (y = without s m) := ⟨_, Lib.hid rfl⟩
  have HYO : Hid (Ok y) := Lib.hid (by rw [HY.out]; exact hok.without m)
  rw [← HY.out]
  rintro e w6 ⟨rfl, hb⟩
  have HB6 := Lib.hid (HB5.out.trans (hb.mono HB5.out.size))
  have HR6 := Lib.hid (range_carry HR5.out hb)
  have HX6 := Lib.hid (range_carry HO5.out.at_ hb)
  clear hb HB5 HR5 HO5
  go_wp2_with (with_reducible refine set_stop (o := ⟨none, _, _, _, _, _⟩) ?_)
  obtain ⟨w7, HW7⟩ : ∃ w7, Hid (w7 = w6.alloc (.cells (stArr zeroSt) 28)) := ⟨_, Lib.hid rfl⟩
  obtain ⟨d, HD⟩ : ∃ d, Hid (d = w6.heap.size) := ⟨_, Lib.hid rfl⟩
  have HO7 : Hid (SOwn w7 d zeroSt) := Lib.hid (by rw [HW7.out, HD.out]; exact SOwn.new _)
  have HB67 : Hid (Below w6.heap.size w6 w7) := Lib.hid (by rw [HW7.out]; exact (Below.refl _ _).alloc (Nat.le_refl _) _)
  rw [← HW7.out, ← HD.out]
  unfold SetStop
  refine wpList_store_set rfl _ _ rfl d y zeroSt HYO.out.len zeroSt_length rfl rfl HO7.out ?_
  intro w8 HW8 HO8
  have HB68 : Hid (Below w6.heap.size w6 w8) := Lib.hid (below_cells_of HB67.out HW8.out (by rw [HD.out]; exact Nat.le_refl _))
  have HST : Hid (BackS w b c d s x y w8) := Lib.hid ⟨range_carry HR6.out HB68.out, range_carry HX6.out HB68.out, HO8.out.at_, HB6.out.trans (HB68.out.mono HB6.out.size)⟩
  clear HW8 HW7 HO7 HB67 HB68 HB6 HR6 HX6 HO8 HD
  go_wp2_with (with_reducible refine set_stop (o := ⟨some 38, _, _, _, _, _⟩) ?_)
  refine wpList_load_arr (by rfl) _ rfl b rfl s hok.len HST.out.arg ?_
  go_wp2_with fail
  refine (Has_yes s hok m hm _).mono ?_
  rw [HHS.out]
  rintro e w9 ⟨rfl, hb⟩
  have HS9 := Lib.hid (HST.out.carry hb)
  clear hb HST
  have HXS : Hid (x = s) := Lib.hid (by rw [HX.out]; exact with_same hok hm HHS.out)
  have HWB : Hid (with_ y m = x) := Lib.hid (by rw [HY.out, HXS.out]; exact with_back hok hm HHS.out)
  have HCN : Hid (((count s : Nat) : Int) = ((count y : Nat) : Int) + 1) := Lib.hid (by
    have := Bits.count_without hok hm
    rw [HHS.out, if_pos rfl, ← HY.out] at this
    omega)
  go_wp2_with fail
  refine wp_region_held (S := BackS w b c d s x y) (by kernel_rfl) ?_
  change wpAnyH _ _ _ _ _ _ _ _ w9.drew
  obtain ⟨wa, HWA⟩ : ∃ wa, Hid (wa = w9.drew) := ⟨_, Lib.hid rfl⟩
  rw [← HWA.out]
  have hS : BackS w b c d s x y wa := by rw [HWA.out]; exact HS9.out.drew
  clear HWA HS9
  have heq : ∀ w, (Op.equalIn 10000 28 (stV x) (stV s)).run Try.prog w = .ok true w := fun w => by rw [HXS.out]; exact equalIn_same hok.len w
  have heq2 := equalIn_same HXO.out.len
  have hgd := guardSet
  have hsub : IntKind.i64.wrap ((count y : Nat) : Int) = ((count y : Nat) : Int) := by have := Bits.countBelow_le y 240; rw [IntKind.wrap_i64]; unfold count; omega
  refine takeH (i := 0) 41 (v := stV x) rfl (by kernel_rfl) (by kernel_rfl) (by kernel_rfl) rfl (fun _ _ _ h => h) (yieldsIf_set (by rfl) _ rfl c rfl x HXO.out.len (fun _ h => h.put)) hS ?_
  simp only [Act.put, List.setIfInBounds_toArray, List.set_cons_zero, List.set_cons_succ]
  refine takeH (i := 1) 42 (v := stV s) rfl (by kernel_rfl) (by kernel_rfl) (by kernel_rfl) rfl (fun _ _ _ h => h) (yieldsIf_arr (by rfl) _ rfl b rfl s hok.len (fun _ h => h.arg)) hS ?_
  simp only [Act.put, List.setIfInBounds_toArray, List.set_cons_zero, List.set_cons_succ]
  refine takeH (i := 2) 43 (v := .bool true) rfl (by kernel_rfl) (by kernel_rfl) (by kernel_rfl) rfl (fun _ _ _ h => h) (.inl ⟨by rfl, fun _ _ => by go_simp⟩) hS ?_
  simp only [Act.put, List.setIfInBounds_toArray, List.set_cons_zero, List.set_cons_succ]
  refine takeH (i := 3) 44 (v := .bool true) rfl (by kernel_rfl) (by kernel_rfl) (by kernel_rfl) rfl (fun _ _ _ h => h) (.inl ⟨by rfl, fun _ _ => by go_simp⟩) hS ?_
  simp only [Act.put, List.setIfInBounds_toArray, List.set_cons_zero, List.set_cons_succ]
  refine takeH (i := 4) 45 (v := stV y) rfl (by kernel_rfl) (by kernel_rfl) (by kernel_rfl) rfl (fun _ _ _ h => h) (yieldsIf_set (by rfl) _ rfl d rfl y HYO.out.len (fun _ h => h.out)) hS ?_
  simp only [Act.put, List.setIfInBounds_toArray, List.set_cons_zero, List.set_cons_succ]
  refine takeH (i := 5) 46 (v := .int .i64 (m : Int)) rfl (by kernel_rfl) (by kernel_rfl) (by kernel_rfl) rfl (fun _ _ _ h => h) (.inl ⟨by rfl, fun _ _ => by go_simp⟩) hS ?_
  simp only [Act.put, List.setIfInBounds_toArray, List.set_cons_zero, List.set_cons_succ]
  refine takeH (i := 7) 48 (v := stV x) rfl (by kernel_rfl) (by kernel_rfl) (by kernel_rfl) rfl (fun _ _ _ h => h) (yieldsIf_set (by rfl) _ rfl c rfl x HXO.out.len (fun _ h => h.put)) hS ?_
  simp only [Act.put, List.setIfInBounds_toArray, List.set_cons_zero, List.set_cons_succ]
  refine oneH (i := 6) (oi := ⟨some 47, _, _, _, _, _⟩) rfl (by kernel_rfl) (fun K hK => ?_)
  rw [if_pos (by rfl)]
  go_simp
  refine (With_yes y HYO.out m hm _).mono ?_
  rw [HWB.out]
  rintro e wn ⟨rfl, hb⟩
  have hS2 := hS.carry hb
  clear hb hS
  refine hK.out _ _ hS2 ?_
  clear hK K
  have hS := hS2
  clear hS2
  refine takeH (i := 8) 49 (v := .bool true) rfl (by kernel_rfl) (by kernel_rfl) (by kernel_rfl) rfl (fun _ _ _ h => h) (.inl ⟨by rfl, fun _ _ => by go_simp⟩) hS ?_
  simp only [Act.put, List.setIfInBounds_toArray, List.set_cons_zero, List.set_cons_succ]
  refine takeH (i := 9) 50 (v := .bool true) rfl (by kernel_rfl) (by kernel_rfl) (by kernel_rfl) rfl (fun _ _ _ h => h) (.inl ⟨by rfl, fun _ _ => by go_simp⟩) hS ?_
  simp only [Act.put, List.setIfInBounds_toArray, List.set_cons_zero, List.set_cons_succ]
  refine takeH (i := 10) 51 (v := .bool true) rfl (by kernel_rfl) (by kernel_rfl) (by kernel_rfl) rfl (fun _ _ _ h => h) (.inl ⟨by rfl, fun _ _ => by go_simp⟩) hS ?_
  simp only [Act.put, List.setIfInBounds_toArray, List.set_cons_zero, List.set_cons_succ]
  refine takeH (i := 11) 52 (v := stV y) rfl (by kernel_rfl) (by kernel_rfl) (by kernel_rfl) rfl (fun _ _ _ h => h) (yieldsIf_set (by rfl) _ rfl d rfl y HYO.out.len (fun _ h => h.out)) hS ?_
  simp only [Act.put, List.setIfInBounds_toArray, List.set_cons_zero, List.set_cons_succ]
  refine takeH (i := 13) 54 (v := stV s) rfl (by kernel_rfl) (by kernel_rfl) (by kernel_rfl) rfl (fun _ _ _ h => h) (yieldsIf_arr (by rfl) _ rfl b rfl s hok.len (fun _ h => h.arg)) hS ?_
  simp only [Act.put, List.setIfInBounds_toArray, List.set_cons_zero, List.set_cons_succ]
  refine oneH (i := 12) (oi := ⟨some 53, _, _, _, _, _⟩) rfl (by kernel_rfl) (fun K hK => ?_)
  rw [if_pos (by rfl)]
  go_simp
  refine (Count_any y HYO.out _).mono ?_
  rintro e wn ⟨rfl, hb⟩
  have hS2 := hS.carry hb
  clear hb hS
  refine hK.out _ _ hS2 ?_
  clear hK K
  have hS := hS2
  clear hS2
  refine oneH (i := 14) (oi := ⟨some 55, _, _, _, _, _⟩) rfl (by kernel_rfl) (fun K hK => ?_)
  rw [if_pos (by rfl)]
  go_simp
  refine (Count_any s hok _).mono ?_
  rw [HCN.out]
  rintro e wn ⟨rfl, hb⟩
  have hS2 := hS.carry hb
  clear hb hS
  refine hK.out _ _ hS2 ?_
  clear hK K
  have hS := hS2
  clear hS2
  refine takeH (i := 15) 56 (v := .int .i64 ((count y : Nat) : Int)) rfl (by kernel_rfl) (by kernel_rfl) (by kernel_rfl) rfl (fun _ _ _ h => h) (.inl ⟨by rfl, fun _ _ => by go_simp⟩) hS ?_
  simp only [Act.put, List.setIfInBounds_toArray, List.set_cons_zero, List.set_cons_succ]
  refine takeH (i := 16) 57 (v := .bool true) rfl (by kernel_rfl) (by kernel_rfl) (by kernel_rfl) rfl (fun _ _ _ h => h) (.inl ⟨by rfl, fun _ _ => by go_simp⟩) hS ?_
  simp only [Act.put, List.setIfInBounds_toArray, List.set_cons_zero, List.set_cons_succ]
  refine takeH (i := 17) 58 (v := .bool true) rfl (by kernel_rfl) (by kernel_rfl) (by kernel_rfl) rfl (fun _ _ _ h => h) (.inl ⟨by rfl, fun _ _ => by go_simp⟩) hS ?_
  simp only [Act.put, List.setIfInBounds_toArray, List.set_cons_zero, List.set_cons_succ]
  refine takeH (i := 18) 4 (v := .bool true) rfl (by kernel_rfl) (by kernel_rfl) (by kernel_rfl) rfl (fun _ _ _ h => h) (.inl ⟨by rfl, fun _ _ => by go_simp⟩) hS ?_
  simp only [Act.put, List.setIfInBounds_toArray, List.set_cons_zero, List.set_cons_succ]
  refine wpAnyH_done (by kernel_rfl) ?_ _
  go_wp2_with fail
  go_ret
  exact ⟨rfl, hS.below⟩
set_option maxRecDepth 100000 in
set_option maxHeartbeats 4000000 in
theorem back_out (s : List Nat) (hok : Ok s) (m : Nat) (hm : m < 240) (hs : has s m = false) (w : World) :
    Calls Try.prog 6 #[stV s, .int .i64 m] w fun e w' => e = .returned (.bool true) ∧ Below w.heap.size w w' := by
  have hz := Try.zeroSet
  obtain ⟨w1, HW⟩ : ∃ w1, Hid (w1 = w.alloc (.cells (stArr s) 22)) := ⟨_, Lib.hid rfl⟩
  obtain ⟨b, HBB⟩ : ∃ b, Hid (b = w.heap.size) := ⟨_, Lib.hid rfl⟩
  have HR1 : Hid (w1.rangeAt b 0 (stCells s)) := Lib.hid (by rw [HW.out, HBB.out]; exact (SOwn.new _).at_)
  have HB1 : Hid (Below w.heap.size w w1) := Lib.hid (by rw [HW.out]; exact (Below.refl _ _).alloc (Nat.le_refl _) _)
  have hm1 : (0 : Int) ≤ (m : Int) := by omega
  have hm2 : (m : Int) < 240 := by omega
  have HHS := Lib.hid hs
  clear hs
  go_enter Try.func6, Try.ntmps6
  go_wp2_with fail
  rw [← HW.out, ← HBB.out]
  refine (awake_any _).mono ?_
  rintro e w2 ⟨rfl, hb⟩
  have HB2 := Lib.hid (HB1.out.trans (hb.mono HB1.out.size))
  have HR2 := Lib.hid (range_carry HR1.out hb)
  clear hb HB1 HR1
  go_wp2_with (with_reducible refine set_stop (o := ⟨some 16, _, _, _, _, _⟩) ?_)
  refine wpList_load_arr rfl _ rfl b rfl s hok.len HR2.out ?_
  go_wp2_with fail
  refine (With_yes s hok m hm _).mono ?_
  obtain ⟨x, HX⟩ : ∃ x, Hid (x = with_ s m) := ⟨_, Lib.hid rfl⟩
  have HXO : Hid (Ok x) := Lib.hid (by rw [HX.out]; exact hok.with_ m)
  rw [← HX.out]
  rintro e w3 ⟨rfl, hb⟩
  have HB3 := Lib.hid (HB2.out.trans (hb.mono HB2.out.size))
  have HR3 := Lib.hid (range_carry HR2.out hb)
  clear hb HB2 HR2
  go_wp2_with (with_reducible refine set_stop (o := ⟨none, _, _, _, _, _⟩) ?_)
  obtain ⟨w4, HW4⟩ : ∃ w4, Hid (w4 = w3.alloc (.cells (stArr zeroSt) 28)) := ⟨_, Lib.hid rfl⟩
  obtain ⟨c, HC⟩ : ∃ c, Hid (c = w3.heap.size) := ⟨_, Lib.hid rfl⟩
  have HO4 : Hid (SOwn w4 c zeroSt) := Lib.hid (by rw [HW4.out, HC.out]; exact SOwn.new _)
  have HB34 : Hid (Below w3.heap.size w3 w4) := Lib.hid (by rw [HW4.out]; exact (Below.refl _ _).alloc (Nat.le_refl _) _)
  rw [← HW4.out, ← HC.out]
  unfold SetStop
  refine wpList_store_set rfl _ _ rfl c x zeroSt HXO.out.len zeroSt_length rfl rfl HO4.out ?_
  intro w5 HW5 HO5
  have HB35 : Hid (Below w3.heap.size w3 w5) := Lib.hid (below_cells_of HB34.out HW5.out (by rw [HC.out]; exact Nat.le_refl _))
  have HB5 := Lib.hid (HB3.out.trans (HB35.out.mono HB3.out.size))
  have HR5 := Lib.hid (range_carry HR3.out HB35.out)
  clear HW5 HW4 HO4 HB34 HB35 HB3 HR3 HC
  go_wp2_with (with_reducible refine set_stop (o := ⟨some 19, _, _, _, _, _⟩) ?_)
  refine wpList_load_arr rfl _ rfl b rfl s hok.len HR5.out ?_
  go_wp2_with fail
  refine (Without_yes s hok m hm _).mono ?_
  obtain ⟨y, HY⟩ : ∃ y, Hid (y = without s m) := ⟨_, Lib.hid rfl⟩
  have HYO : Hid (Ok y) := Lib.hid (by rw [HY.out]; exact hok.without m)
  rw [← HY.out]
  rintro e w6 ⟨rfl, hb⟩
  have HB6 := Lib.hid (HB5.out.trans (hb.mono HB5.out.size))
  have HR6 := Lib.hid (range_carry HR5.out hb)
  have HX6 := Lib.hid (range_carry HO5.out.at_ hb)
  clear hb HB5 HR5 HO5
  go_wp2_with (with_reducible refine set_stop (o := ⟨none, _, _, _, _, _⟩) ?_)
  obtain ⟨w7, HW7⟩ : ∃ w7, Hid (w7 = w6.alloc (.cells (stArr zeroSt) 28)) := ⟨_, Lib.hid rfl⟩
  obtain ⟨d, HD⟩ : ∃ d, Hid (d = w6.heap.size) := ⟨_, Lib.hid rfl⟩
  have HO7 : Hid (SOwn w7 d zeroSt) := Lib.hid (by rw [HW7.out, HD.out]; exact SOwn.new _)
  have HB67 : Hid (Below w6.heap.size w6 w7) := Lib.hid (by rw [HW7.out]; exact (Below.refl _ _).alloc (Nat.le_refl _) _)
  rw [← HW7.out, ← HD.out]
  unfold SetStop
  refine wpList_store_set rfl _ _ rfl d y zeroSt HYO.out.len zeroSt_length rfl rfl HO7.out ?_
  intro w8 HW8 HO8
  have HB68 : Hid (Below w6.heap.size w6 w8) := Lib.hid (below_cells_of HB67.out HW8.out (by rw [HD.out]; exact Nat.le_refl _))
  have HST : Hid (BackS w b c d s x y w8) := Lib.hid ⟨range_carry HR6.out HB68.out, range_carry HX6.out HB68.out, HO8.out.at_, HB6.out.trans (HB68.out.mono HB6.out.size)⟩
  clear HW8 HW7 HO7 HB67 HB68 HB6 HR6 HX6 HO8 HD
  go_wp2_with (with_reducible refine set_stop (o := ⟨some 38, _, _, _, _, _⟩) ?_)
  refine wpList_load_arr (by rfl) _ rfl b rfl s hok.len HST.out.arg ?_
  go_wp2_with fail
  refine (Has_yes s hok m hm _).mono ?_
  rw [HHS.out]
  rintro e w9 ⟨rfl, hb⟩
  have HS9 := Lib.hid (HST.out.carry hb)
  clear hb HST
  have HYS : Hid (y = s) := Lib.hid (by rw [HY.out]; exact without_same hok hm HHS.out)
  have HWB : Hid (without x m = y) := Lib.hid (by rw [HX.out, HYS.out]; exact without_back hok hm HHS.out)
  have HCN : Hid (((count x : Nat) : Int) = ((count s : Nat) : Int) + 1) := Lib.hid (by
    have := Bits.count_with hok hm
    rw [HHS.out, if_neg (by decide), ← HX.out] at this
    omega)
  have HLE : Hid (((count s : Nat) : Int) ≤ 240) := Lib.hid (by have := Bits.countBelow_le s 240; unfold count; omega)
  go_wp2_with fail
  refine wp_region_held (S := BackS w b c d s x y) (by kernel_rfl) ?_
  change wpAnyH _ _ _ _ _ _ _ _ w9.drew
  obtain ⟨wa, HWA⟩ : ∃ wa, Hid (wa = w9.drew) := ⟨_, Lib.hid rfl⟩
  rw [← HWA.out]
  have hS : BackS w b c d s x y wa := by rw [HWA.out]; exact HS9.out.drew
  clear HWA HS9
  have heq : ∀ w, (Op.equalIn 10000 28 (stV y) (stV s)).run Try.prog w = .ok true w := fun w => by rw [HYS.out]; exact equalIn_same hok.len w
  have heq2 := equalIn_same HYO.out.len
  have hgd := guardSet
  have hadd : IntKind.i64.wrap (((count s : Nat) : Int) + 1) = ((count s : Nat) : Int) + 1 := by have := HLE.out; rw [IntKind.wrap_i64]; omega
  refine takeH (i := 0) 59 (v := stV y) rfl (by kernel_rfl) (by kernel_rfl) (by kernel_rfl) rfl (fun _ _ _ h => h) (yieldsIf_set (by rfl) _ rfl d rfl y HYO.out.len (fun _ h => h.out)) hS ?_
  simp only [Act.put, List.setIfInBounds_toArray, List.set_cons_zero, List.set_cons_succ]
  refine takeH (i := 1) 60 (v := stV s) rfl (by kernel_rfl) (by kernel_rfl) (by kernel_rfl) rfl (fun _ _ _ h => h) (yieldsIf_arr (by rfl) _ rfl b rfl s hok.len (fun _ h => h.arg)) hS ?_
  simp only [Act.put, List.setIfInBounds_toArray, List.set_cons_zero, List.set_cons_succ]
  refine takeH (i := 2) 61 (v := .bool true) rfl (by kernel_rfl) (by kernel_rfl) (by kernel_rfl) rfl (fun _ _ _ h => h) (.inl ⟨by rfl, fun _ _ => by go_simp⟩) hS ?_
  simp only [Act.put, List.setIfInBounds_toArray, List.set_cons_zero, List.set_cons_succ]
  refine takeH (i := 3) 62 (v := .bool true) rfl (by kernel_rfl) (by kernel_rfl) (by kernel_rfl) rfl (fun _ _ _ h => h) (.inl ⟨by rfl, fun _ _ => by go_simp⟩) hS ?_
  simp only [Act.put, List.setIfInBounds_toArray, List.set_cons_zero, List.set_cons_succ]
  refine takeH (i := 4) 63 (v := stV x) rfl (by kernel_rfl) (by kernel_rfl) (by kernel_rfl) rfl (fun _ _ _ h => h) (yieldsIf_set (by rfl) _ rfl c rfl x HXO.out.len (fun _ h => h.put)) hS ?_
  simp only [Act.put, List.setIfInBounds_toArray, List.set_cons_zero, List.set_cons_succ]
  refine takeH (i := 5) 64 (v := .int .i64 (m : Int)) rfl (by kernel_rfl) (by kernel_rfl) (by kernel_rfl) rfl (fun _ _ _ h => h) (.inl ⟨by rfl, fun _ _ => by go_simp⟩) hS ?_
  simp only [Act.put, List.setIfInBounds_toArray, List.set_cons_zero, List.set_cons_succ]
  refine takeH (i := 7) 66 (v := stV y) rfl (by kernel_rfl) (by kernel_rfl) (by kernel_rfl) rfl (fun _ _ _ h => h) (yieldsIf_set (by rfl) _ rfl d rfl y HYO.out.len (fun _ h => h.out)) hS ?_
  simp only [Act.put, List.setIfInBounds_toArray, List.set_cons_zero, List.set_cons_succ]
  refine oneH (i := 6) (oi := ⟨some 65, _, _, _, _, _⟩) rfl (by kernel_rfl) (fun K hK => ?_)
  rw [if_pos (by rfl)]
  go_simp
  refine (Without_yes x HXO.out m hm _).mono ?_
  rw [HWB.out]
  rintro e wn ⟨rfl, hb⟩
  have hS2 := hS.carry hb
  clear hb hS
  refine hK.out _ _ hS2 ?_
  clear hK K
  have hS := hS2
  clear hS2
  refine takeH (i := 8) 67 (v := .bool true) rfl (by kernel_rfl) (by kernel_rfl) (by kernel_rfl) rfl (fun _ _ _ h => h) (.inl ⟨by rfl, fun _ _ => by go_simp⟩) hS ?_
  simp only [Act.put, List.setIfInBounds_toArray, List.set_cons_zero, List.set_cons_succ]
  refine takeH (i := 9) 68 (v := .bool true) rfl (by kernel_rfl) (by kernel_rfl) (by kernel_rfl) rfl (fun _ _ _ h => h) (.inl ⟨by rfl, fun _ _ => by go_simp⟩) hS ?_
  simp only [Act.put, List.setIfInBounds_toArray, List.set_cons_zero, List.set_cons_succ]
  refine takeH (i := 10) 69 (v := .bool true) rfl (by kernel_rfl) (by kernel_rfl) (by kernel_rfl) rfl (fun _ _ _ h => h) (.inl ⟨by rfl, fun _ _ => by go_simp⟩) hS ?_
  simp only [Act.put, List.setIfInBounds_toArray, List.set_cons_zero, List.set_cons_succ]
  refine takeH (i := 11) 70 (v := stV x) rfl (by kernel_rfl) (by kernel_rfl) (by kernel_rfl) rfl (fun _ _ _ h => h) (yieldsIf_set (by rfl) _ rfl c rfl x HXO.out.len (fun _ h => h.put)) hS ?_
  simp only [Act.put, List.setIfInBounds_toArray, List.set_cons_zero, List.set_cons_succ]
  refine takeH (i := 13) 72 (v := stV s) rfl (by kernel_rfl) (by kernel_rfl) (by kernel_rfl) rfl (fun _ _ _ h => h) (yieldsIf_arr (by rfl) _ rfl b rfl s hok.len (fun _ h => h.arg)) hS ?_
  simp only [Act.put, List.setIfInBounds_toArray, List.set_cons_zero, List.set_cons_succ]
  refine oneH (i := 12) (oi := ⟨some 71, _, _, _, _, _⟩) rfl (by kernel_rfl) (fun K hK => ?_)
  rw [if_pos (by rfl)]
  go_simp
  refine (Count_any x HXO.out _).mono ?_
  rw [HCN.out]
  rintro e wn ⟨rfl, hb⟩
  have hS2 := hS.carry hb
  clear hb hS
  refine hK.out _ _ hS2 ?_
  clear hK K
  have hS := hS2
  clear hS2
  refine oneH (i := 14) (oi := ⟨some 73, _, _, _, _, _⟩) rfl (by kernel_rfl) (fun K hK => ?_)
  rw [if_pos (by rfl)]
  go_simp
  refine (Count_any s hok _).mono ?_
  rintro e wn ⟨rfl, hb⟩
  have hS2 := hS.carry hb
  clear hb hS
  refine hK.out _ _ hS2 ?_
  clear hK K
  have hS := hS2
  clear hS2
  refine takeH (i := 15) 74 (v := .int .i64 (((count s : Nat) : Int) + 1)) rfl (by kernel_rfl) (by kernel_rfl) (by kernel_rfl) rfl (fun _ _ _ h => h) (.inl ⟨by rfl, fun _ _ => by go_simp⟩) hS ?_
  simp only [Act.put, List.setIfInBounds_toArray, List.set_cons_zero, List.set_cons_succ]
  refine takeH (i := 16) 75 (v := .bool true) rfl (by kernel_rfl) (by kernel_rfl) (by kernel_rfl) rfl (fun _ _ _ h => h) (.inl ⟨by rfl, fun _ _ => by go_simp⟩) hS ?_
  simp only [Act.put, List.setIfInBounds_toArray, List.set_cons_zero, List.set_cons_succ]
  refine takeH (i := 17) 76 (v := .bool true) rfl (by kernel_rfl) (by kernel_rfl) (by kernel_rfl) rfl (fun _ _ _ h => h) (.inl ⟨by rfl, fun _ _ => by go_simp⟩) hS ?_
  simp only [Act.put, List.setIfInBounds_toArray, List.set_cons_zero, List.set_cons_succ]
  refine takeH (i := 18) 4 (v := .bool true) rfl (by kernel_rfl) (by kernel_rfl) (by kernel_rfl) rfl (fun _ _ _ h => h) (.inl ⟨by rfl, fun _ _ => by go_simp⟩) hS ?_
  simp only [Act.put, List.setIfInBounds_toArray, List.set_cons_zero, List.set_cons_succ]
  refine wpAnyH_done (by kernel_rfl) ?_ _
  go_wp2_with fail
  go_ret
  exact ⟨rfl, hS.below⟩
theorem back_walk (s : List Nat) (hok : Ok s) (n : Int) (w : World) :
    Calls Try.prog 6 #[stV s, .int .i64 n] w fun e w' => e = .returned (.bool true) ∧ Below w.heap.size w w' := by
  cases hn : isNum n with
  | false =>
    have hn' : ¬ (0 ≤ n ∧ n < 240) := of_decide_eq_false hn
    exact back_no s hok n hn (by rw [decide_eq_false_iff_not]; omega) w
  | true =>
    obtain ⟨m, rfl, hm⟩ := isNum_true hn
    cases hs : has s m with
    | true => exact back_in s hok m hm hs w
    | false => exact back_out s hok m hm hs w
end Go.Proofs.Yteceihjnlncbkaa
