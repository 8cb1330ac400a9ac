/-
  The walk of BitsFills: a set filled up by the first number that isn't in it has all in the end. Conditions: none beyond the premises of each theorem.
-/
import Derived.Test.YteceihjnlncbkaaSetRef
import Derived.Test.YteceihjnlncbkaaBitsFirstWalk
namespace Go.Proofs.Yteceihjnlncbkaa
open Go.RowKit
open Bits (Ok has with_ without count countBelow first both)

theorem firstZ_all (s : List Nat) : firstZ s 0 240 = first s 0 240 := rfl
/-- how far the walk has come -/
def FillAt (w : World) (b : Nat) (l i : Value) (wr : World) : Prop :=
  ∃ (k : Nat) (x : List Nat) (z : Int), k ≤ 240 ∧ i = .int .i64 k ∧ l = .int .i64 z ∧ Ok x ∧ (∀ m, first x 0 240 = some m → z < (m : Int)) ∧ k ≤ count x ∧ SOwn wr b x ∧ w.heap.size ≤ b ∧ Below w.heap.size w wr
theorem none_of_count {x : List Nat} (h : count x = 240) : first x 0 240 = none := by
  cases e : first x 0 240 with
  | none => rfl
  | some m =>
    obtain ⟨_, h2, h3, _⟩ := Bits.first_some e
    have := Bits.count_full (k := 240) h m (by omega)
    rw [h3] at this
    cases this
theorem count_of_none {x : List Nat} (h : first x 0 240 = none) : count x = 240 := Bits.count_all fun n hn => Bits.first_none h n (Nat.zero_le _) (by omega)
set_option maxRecDepth 100000 in
theorem fills_walk (s : List Nat) (hok : Ok s) (w : World) :
    Calls Try.prog 7 #[stV s] w fun e w' => e = .returned (.bool true) ∧ Below w.heap.size w w' := by
  have hz := Try.zeroSet
  obtain ⟨w1, HW⟩ : ∃ w1, Hid (w1 = w.alloc (.cells (stArr s) 22)) := ⟨_, Lib.hid rfl⟩
  obtain ⟨b, HBB⟩ : ∃ b, Hid (b = w.heap.size) := ⟨_, Lib.hid rfl⟩
  have HR1 : Hid (w1.rangeAt b 0 (stCells s)) := Lib.hid (by rw [HW.out, HBB.out]; exact (SOwn.new _).at_)
  have HB1 : Hid (Below w.heap.size w w1) := Lib.hid (by rw [HW.out]; exact (Below.refl _ _).alloc (Nat.le_refl _) _)
  go_enter Try.func7, Try.ntmps7
  go_wp2_with fail
  rw [← HW.out, ← HBB.out]
  refine (awake_any _).mono ?_
  rintro e w2 ⟨rfl, hb⟩
  have HB2 := Lib.hid (HB1.out.trans (hb.mono HB1.out.size))
  have HR2 := Lib.hid (range_carry HR1.out hb)
  clear hb HB1 HR1
  go_wp2_with (with_reducible refine set_stop (o := ⟨some 12, _, _, _, _, _⟩) ?_)
  refine wpList_load_arr rfl _ rfl b rfl s hok.len HR2.out ?_
  go_wp2_with (with_reducible refine set_stop (o := ⟨none, _, _, _, _, _⟩) ?_)
  obtain ⟨w3, HW3⟩ : ∃ w3, Hid (w3 = w2.alloc (.cells (stArr zeroSt) 28)) := ⟨_, Lib.hid rfl⟩
  obtain ⟨c, HCC⟩ : ∃ c, Hid (c = w2.heap.size) := ⟨_, Lib.hid rfl⟩
  have HO3 : Hid (SOwn w3 c zeroSt) := Lib.hid (by rw [HW3.out, HCC.out]; exact SOwn.new _)
  have HCL : Hid (w.heap.size ≤ c) := Lib.hid (by rw [HCC.out]; exact HB2.out.size)
  have HB3 : Hid (Below w.heap.size w w3) := Lib.hid (by rw [HW3.out]; exact HB2.out.alloc HB2.out.size _)
  rw [← HW3.out, ← HCC.out]
  unfold SetStop
  refine wpList_store_set rfl _ _ rfl c s zeroSt hok.len zeroSt_length rfl rfl HO3.out ?_
  intro w4 HW4 HO4
  have HB4 : Hid (Below w.heap.size w w4) := Lib.hid (below_cells_of HB3.out HW4.out HCL.out)
  clear HW3 HO3 HB3 HW4 HR2 HB2 HCC
  go_wp2_with fail
  go_loopw [4, 5] (fun l i wr => FillAt w c l i wr) (fun _ i _ => 240 - (intOf i).toNat)
  case atStart => exact ⟨0, s, -1, by decide, rfl, rfl, hok, fun m _ => by omega, Nat.zero_le _, HO4.out, HCL.out, HB4.out⟩
  case round =>
    obtain ⟨k, x, z, hk, rfl, rfl, hx, hgt, hcn, ho, _, hb⟩ := hrel
    have HO := Lib.hid ho
    have HB := Lib.hid hb
    have HX := Lib.hid hx
    have HGT := Lib.hid hgt
    have HCN := Lib.hid hcn
    clear hx hgt hcn ho hb HO4 HB4
    have hle := Bits.countBelow_le x 240
    cases hf : first x 0 240 with
    | some m =>
      obtain ⟨_, hm, hnot, _⟩ := Bits.first_some hf
      have hm : m < 240 := by omega
      have hlt : k < 240 := by
        rcases Nat.lt_or_ge k 240 with h | h
        · exact h
        · have := none_of_count (x := x) (by have := HCN.out; unfold count at this ⊢; omega)
          rw [hf] at this
          cases this
      have HZ : Hid (decide ((m : Int) ≤ z) = false) := Lib.hid (decide_eq_false (by have := HGT.out m hf; omega))
      have HF := Lib.hid hf
      have HNOT := Lib.hid hnot
      clear hf hnot hle
      go_wp2_with (with_reducible refine set_stop (o := ⟨some 18, _, _, _, _, _⟩) ?_)
      refine wpList_load_set rfl _ rfl c rfl x HX.out.len HO.out.at_ ?_
      go_wp2_with fail
      refine (First_any x HX.out 0 240 _).mono ?_
      rw [firstZ_all, HF.out]
      rintro e w5 ⟨rfl, hb⟩
      have HO5 := Lib.hid (HO.out.below hb (HO.out.lt (by rw [HX.out.len]; decide)))
      have HB5 := Lib.hid (HB.out.trans (hb.mono HB.out.size))
      clear hb HO HB
      unfold firstV
      have hzm := HZ.out
      go_wp2_with (with_reducible refine set_stop (o := ⟨some 28, _, _, _, _, _⟩) ?_)
      unfold SetStop
      refine wpList_load_set (by rfl) _ rfl c rfl x HX.out.len HO5.out.at_ ?_
      go_wp2_with fail
      refine (Has_yes x HX.out m hm _).mono ?_
      rw [HNOT.out]
      rintro e w6 ⟨rfl, hb⟩
      have HO6 := Lib.hid (HO5.out.below hb (HO5.out.lt (by rw [HX.out.len]; decide)))
      have HB6 := Lib.hid (HB5.out.trans (hb.mono HB5.out.size))
      clear hb HO5 HB5
      go_wp2_with (with_reducible refine set_stop (o := ⟨some 33, _, _, _, _, _⟩) ?_)
      refine wpList_load_set rfl _ rfl c rfl x HX.out.len HO6.out.at_ ?_
      go_wp2_with fail
      refine (With_yes x HX.out m hm _).mono ?_
      obtain ⟨y, HY⟩ : ∃ y, Hid (y = with_ x m) := ⟨_, Lib.hid rfl⟩
      rw [← HY.out]
      have HYO : Hid (Ok y) := Lib.hid (by rw [HY.out]; exact HX.out.with_ m)
      rintro e w7 ⟨rfl, hb⟩
      have HO7 := Lib.hid (HO6.out.below hb (HO6.out.lt (by rw [HX.out.len]; decide)))
      have HB7 := Lib.hid (HB6.out.trans (hb.mono HB6.out.size))
      clear hb HO6 HB6 hzm
      go_wp2_with (with_reducible refine set_stop (o := ⟨none, _, _, _, _, _⟩) ?_)
      refine wpList_store_set rfl _ _ rfl c y x HYO.out.len HX.out.len rfl rfl HO7.out ?_
      intro w8 HW8 HO8
      have HB8 : Hid (Below w.heap.size w w8) := Lib.hid (below_cells_of HB7.out HW8.out HCL.out)
      clear HW8 HO7 HB7
      go_wp2_with fail
      go_roundw
      case rel =>
        refine ⟨k + 1, y, m, hlt, by go_num, rfl, HYO.out, fun j hj => ?_, ?_, HO8.out, HCL.out, HB8.out⟩
        · rw [HY.out] at hj
          have := Bits.fill_greater HX.out HF.out hj
          omega
        · have := Bits.count_with HX.out hm
          rw [HNOT.out, if_neg (by decide), ← HY.out] at this
          have := HCN.out
          omega
      case measure => simp [intOf]; omega
    | none =>
      have HF := Lib.hid hf
      have hca := count_of_none hf
      have HCA := Lib.hid hca
      clear hf hle hca
      by_cases hlt : k < 240
      · go_wp2_with (with_reducible refine set_stop (o := ⟨some 18, _, _, _, _, _⟩) ?_)
        refine wpList_load_set rfl _ rfl c rfl x HX.out.len HO.out.at_ ?_
        go_wp2_with fail
        refine (First_any x HX.out 0 240 _).mono ?_
        rw [firstZ_all, HF.out]
        rintro e w5 ⟨rfl, hb⟩
        have HO5 := Lib.hid (HO.out.below hb (HO.out.lt (by rw [HX.out.len]; decide)))
        have HB5 := Lib.hid (HB.out.trans (hb.mono HB.out.size))
        clear hb HO HB
        unfold firstV
        go_wp2_with (with_reducible refine set_stop (o := ⟨some 37, _, _, _, _, _⟩) ?_)
        refine wpList_load_set rfl _ rfl c rfl x HX.out.len HO5.out.at_ ?_
        go_wp2_with fail
        refine (First_any x HX.out 0 240 _).mono ?_
        rw [firstZ_all, HF.out]
        rintro e w6 ⟨rfl, hb⟩
        have HO6 := Lib.hid (HO5.out.below hb (HO5.out.lt (by rw [HX.out.len]; decide)))
        have HB6 := Lib.hid (HB5.out.trans (hb.mono HB5.out.size))
        clear hb HO5 HB5
        unfold firstV
        go_wp2_with (with_reducible refine set_stop (o := ⟨some 44, _, _, _, _, _⟩) ?_)
        refine wpList_load_set (by rfl) _ rfl c rfl x HX.out.len HO6.out.at_ ?_
        go_wp2_with fail
        refine (Count_any x HX.out _).mono ?_
        rw [HCA.out]
        rintro e w7 ⟨rfl, hb⟩
        have HB7 := Lib.hid (HB6.out.trans (hb.mono HB6.out.size))
        clear hb HO6 HB6
        go_wp2_with fail
        go_ret
        exact ⟨rfl, HB7.out⟩
      · obtain rfl : k = 240 := by omega
        go_wp2_with (with_reducible refine set_stop (o := ⟨some 37, _, _, _, _, _⟩) ?_)
        refine wpList_load_set rfl _ rfl c rfl x HX.out.len HO.out.at_ ?_
        go_wp2_with fail
        refine (First_any x HX.out 0 240 _).mono ?_
        rw [firstZ_all, HF.out]
        rintro e w6 ⟨rfl, hb⟩
        have HO6 := Lib.hid (HO.out.below hb (HO.out.lt (by rw [HX.out.len]; decide)))
        have HB6 := Lib.hid (HB.out.trans (hb.mono HB.out.size))
        clear hb HO HB
        unfold firstV
        go_wp2_with (with_reducible refine set_stop (o := ⟨some 44, _, _, _, _, _⟩) ?_)
        refine wpList_load_set (by rfl) _ rfl c rfl x HX.out.len HO6.out.at_ ?_
        go_wp2_with fail
        refine (Count_any x HX.out _).mono ?_
        rw [HCA.out]
        rintro e w7 ⟨rfl, hb⟩
        have HB7 := Lib.hid (HB6.out.trans (hb.mono HB6.out.size))
        clear hb HO6 HB6
        go_wp2_with fail
        go_ret
        exact ⟨rfl, HB7.out⟩
end Go.Proofs.Yteceihjnlncbkaa
