/-
  The contracts of bits.Count, bits.First and bits.Both. Conditions: none beyond the premises of each theorem.
-/
import Derived.Test.YteceihjnlncbkaaSetWith
namespace Go.Proofs.Yteceihjnlncbkaa
open Go.RowKit
open Bits (Ok has with_ without count countBelow first both)

/-- how far Count has come -/
def CountRel (w : World) (b : Nat) (s : List Nat) (c i : Value) (wr : World) : Prop :=
  ∃ k : Nat, k ≤ 240 ∧ i = .int .i64 k ∧ c = .int .i64 (countBelow s k) ∧ wr.rangeAt b 0 (stCells s) ∧ Below w.heap.size w wr
set_option maxRecDepth 100000 in
theorem Count_any (s : List Nat) (h : Ok s) (w : World) :
    Calls Try.prog 15 #[stV s] w fun e w' => e = .returned (.int .i64 (count s)) ∧ Below w.heap.size w w' := by
  obtain ⟨w1, HW⟩ : ∃ w1, Hid (w1 = w.alloc (.cells (stArr s) 28)) := ⟨_, Lib.hid rfl⟩
  obtain ⟨b, HBB⟩ : ∃ b, Hid (b = w.heap.size) := ⟨_, Lib.hid rfl⟩
  have HR1 : Hid (w1.rangeAt b 0 (stCells s)) := Lib.hid (by rw [HW.out, HBB.out]; exact (SOwn.new _).at_)
  have HB1 : Hid (Below w.heap.size w w1) := Lib.hid (by rw [HW.out]; exact (Below.refl _ _).alloc (Nat.le_refl _) _)
  go_enter Try.func15, Try.ntmps15
  go_wp2_with fail
  rw [← HW.out, ← HBB.out]
  go_loopw [3, 5] (fun c i wr => CountRel w b s c i wr) (fun _ i _ => 240 - (intOf i).toNat)
  case atStart => exact ⟨0, by decide, rfl, rfl, HR1.out, HB1.out⟩
  case round =>
    obtain ⟨k, hk, rfl, rfl, hr, hb⟩ := hrel
    have HR := Lib.hid hr
    have HB := Lib.hid hb
    clear hr hb HR1 HB1
    by_cases hlt : k < 240
    · go_wp2_with (with_reducible refine set_stop (o := ⟨some 8, _, _, _, _, _⟩) ?_)
      refine wpList_load_set rfl _ rfl b rfl s h.len HR.out ?_
      go_wp2_with fail
      refine (Has_yes s h k hlt wr).mono ?_
      have HC : Hid (countBelow s (k + 1) = countBelow s k + if has s k then 1 else 0) := Lib.hid rfl
      have hcl := Bits.countBelow_le s k
      obtain ⟨v, HV⟩ : ∃ v, Hid (v = has s k) := ⟨_, Lib.hid rfl⟩
      obtain ⟨c, HCC⟩ : ∃ c, Hid (c = countBelow s k) := ⟨_, Lib.hid rfl⟩
      rw [← HV.out]
      rw [← HCC.out] at hcl ⊢
      rintro e w' ⟨rfl, hb⟩
      have HB2 : Hid (Below w.heap.size w w') := Lib.hid (HB.out.trans (hb.mono HB.out.size))
      have HR2 : Hid (w'.rangeAt b 0 (stCells s)) := Lib.hid (range_carry HR.out hb)
      clear hb HB HR
      cases v with
      | true =>
        go_wp2_with fail
        go_roundw
        case rel => exact ⟨k + 1, hlt, by go_num, by rw [HC.out, ← HV.out, ← HCC.out, if_pos rfl]; go_num, HR2.out, HB2.out⟩
        case measure => simp [intOf]; omega
      | false =>
        go_wp2_with fail
        go_roundw
        case rel => exact ⟨k + 1, hlt, by go_num, by rw [HC.out, ← HV.out, ← HCC.out, if_neg (by decide), Nat.add_zero], HR2.out, HB2.out⟩
        case measure => simp [intOf]; omega
    · obtain rfl : k = 240 := by omega
      go_wp2_with fail
      go_ret
      exact ⟨rfl, HB.out⟩

/-- what First answers -/
def firstZ (s : List Nat) (x y : Int) : Option Nat := first s (max x 0).toNat (min y 240 - max x 0).toNat
def firstV : Option Nat → Value
  | some n => .tuple #[.int .i64 (n : Int), .bool true]
  | none => .tuple #[.int .i64 0, .bool false]
/-- how far First has come -/
def FirstRel (w : World) (b : Nat) (s : List Nat) (a c : Nat) (i : Value) (wr : World) : Prop :=
  ∃ k : Nat, k ≤ c ∧ i = .int .i64 ((a + k : Nat) : Int) ∧ first s a c = first s (a + k) (c - k) ∧ wr.rangeAt b 0 (stCells s) ∧ Below w.heap.size w wr
theorem FirstRel.start {w w1 : World} {b : Nat} {s : List Nat} {a c : Nat} {v : Int} (hv : v = (a : Int)) (hr : w1.rangeAt b 0 (stCells s)) (hb : Below w.heap.size w w1) : FirstRel w b s a c (.int .i64 v) w1 :=
  ⟨0, Nat.zero_le _, by rw [hv]; rfl, rfl, hr, hb⟩
set_option maxRecDepth 100000 in
theorem First_any (s : List Nat) (hok : Ok s) (x y : Int) (w : World) :
    Calls Try.prog 17 #[stV s, .int .i64 x, .int .i64 y] w fun e w' => e = .returned (firstV (firstZ s x y)) ∧ Below w.heap.size w w' := by
  obtain ⟨a, HA⟩ : ∃ a : Nat, Hid (max x 0 = (a : Int)) := ⟨(max x 0).toNat, Lib.hid (by omega)⟩
  obtain ⟨c, HC⟩ : ∃ c : Nat, Hid (c = (min y 240 - a).toNat) := ⟨_, Lib.hid rfl⟩
  have HF : Hid (firstZ s x y = first s a c) := Lib.hid (by unfold firstZ; rw [HA.out, HC.out]; rfl)
  rw [HF.out]
  obtain ⟨w1, HW⟩ : ∃ w1, Hid (w1 = w.alloc (.cells (stArr s) 28)) := ⟨_, Lib.hid rfl⟩
  obtain ⟨b, HBB⟩ : ∃ b, Hid (b = w.heap.size) := ⟨_, Lib.hid rfl⟩
  have HR1 : Hid (w1.rangeAt b 0 (stCells s)) := Lib.hid (by rw [HW.out, HBB.out]; exact (SOwn.new _).at_)
  have HB1 : Hid (Below w.heap.size w w1) := Lib.hid (by rw [HW.out]; exact (Below.refl _ _).alloc (Nat.le_refl _) _)
  rcases (show x < 0 ∨ 0 ≤ x by omega) with hx | hx
  all_goals
    go_enter Try.func17, Try.ntmps17
    go_wp2_with fail
    rw [← HW.out, ← HBB.out]
    go_loopw [8] (fun i wr => FirstRel w b s a c i wr) (fun i _ => (240 - intOf i).toNat)
    case atStart => exact FirstRel.start (by have := HA.out; omega) HR1.out HB1.out
    case round =>
      clear hx
      obtain ⟨k, hk, rfl, hf, hr, hb⟩ := hrel
      have HR := Lib.hid hr
      have HB := Lib.hid hb
      have HFF := Lib.hid hf
      clear hr hb HR1 HB1 hf
      obtain ⟨j, HJ⟩ : ∃ j, Hid (j = a + k) := ⟨_, Lib.hid rfl⟩
      rw [← HJ.out]
      by_cases hlt : (j : Int) < y ∧ (j : Int) < 240
      · obtain ⟨hy1, hy2⟩ := hlt
        have hj : j < 240 := by omega
        have hkc : Hid (k < c) := Lib.hid (by have := HC.out; have := HJ.out; omega)
        go_wp2_with (with_reducible refine set_stop (o := ⟨some 17, _, _, _, _, _⟩) ?_)
        all_goals
          unfold SetStop
          refine wpList_load_set rfl _ rfl b rfl s hok.len HR.out ?_
          go_wp2_with fail
          refine (Has_yes s hok j hj wr).mono ?_
          rintro e w' ⟨rfl, hb⟩
          have HB2 : Hid (Below w.heap.size w w') := Lib.hid (HB.out.trans (hb.mono HB.out.size))
          have HR2 : Hid (w'.rangeAt b 0 (stCells s)) := Lib.hid (range_carry HR.out hb)
          clear hb HB HR
          obtain ⟨d, HD⟩ : ∃ d, Hid (c - k = d + 1) := ⟨c - k - 1, Lib.hid (by have := hkc.out; omega)⟩
          have HE : Hid (first s a c = if has s j then first s (j + 1) d else some j) := Lib.hid (by rw [HFF.out, ← HJ.out, HD.out]; rfl)
          obtain ⟨v, HV⟩ : ∃ v, Hid (v = has s j) := ⟨_, Lib.hid rfl⟩
          rw [← HV.out]
          cases v with
          | true =>
            go_wp2_with fail
            go_roundw
            case rel => exact ⟨k + 1, hkc.out, by rw [HJ.out]; go_num, by rw [HE.out, ← HV.out, if_pos rfl, HJ.out, show c - (k + 1) = d by have := HD.out; omega]; rfl, HR2.out, HB2.out⟩
            case measure => simp [intOf]; omega
          | false =>
            go_wp2_with fail
            go_ret2
            exact ⟨by rw [HE.out, ← HV.out, if_neg (by decide)]; rfl, HB2.out⟩
      · have hn : Hid (first s a c = none) := Lib.hid (by
          rw [HFF.out, show c - k = 0 by have := HC.out; have := HJ.out; omega]
          rfl)
        by_cases hy : 240 < y
        all_goals
          go_wp2_with fail
          go_ret2
          exact ⟨by rw [hn.out]; rfl, HB.out⟩

/-- the first k bytes of both, the others of the first set -/
def bothK (s t : List Nat) (k : Nat) : List Nat := (both s t).take k ++ s.drop k
theorem bothK_length {s t : List Nat} (hs : Ok s) (ht : Ok t) (k : Nat) : (bothK s t k).length = 30 := by
  have := (hs.both ht).len
  have := hs.len
  unfold bothK
  rw [List.length_append, List.length_take, List.length_drop]
  omega
theorem bothK_zero (s t : List Nat) : bothK s t 0 = s := by simp [bothK]
theorem bothK_all {s t : List Nat} (hs : Ok s) (ht : Ok t) : bothK s t 30 = both s t := by
  have h1 := (hs.both ht).len
  have h2 := hs.len
  unfold bothK
  rw [List.take_of_length_le (by omega), List.drop_of_length_le (by omega), List.append_nil]
theorem bothK_at {s t : List Nat} (hs : Ok s) (ht : Ok t) {k : Nat} (hk : k < 30) : Bits.at_ (bothK s t k) k = Bits.at_ s k := by
  have h1 := (hs.both ht).len
  have h2 := hs.len
  unfold Bits.at_ bothK
  rw [List.getD_eq_getElem?_getD, List.getD_eq_getElem?_getD, List.getElem?_append_right (by rw [List.length_take]; omega), List.getElem?_drop, List.length_take]
  congr 2
  omega
theorem bothK_succ {s t : List Nat} (hs : Ok s) (ht : Ok t) {k : Nat} (hk : k < 30) : (bothK s t k).set k (Bits.at_ s k ||| Bits.at_ t k) = bothK s t (k + 1) := by
  have h1 := (hs.both ht).len
  have h2 := hs.len
  have h3 := ht.len
  have e : (both s t)[k]'(by omega) = Bits.at_ s k ||| Bits.at_ t k := by
    rw [← Bits.at_eq (by omega), ← Bits.at_eq (by omega)]
    simp [both]
  have hl : ((both s t).take k).length = k := by rw [List.length_take]; omega
  unfold bothK
  rw [List.set_append_right _ _ (by rw [hl]; exact Nat.le_refl _), hl, Nat.sub_self, List.drop_eq_getElem_cons (by omega), List.set_cons_zero, ← e, List.take_succ_eq_append_getElem (by omega), List.append_assoc]
  rfl
/-- how far Both has come -/
def BothRel (w : World) (b : Nat) (s t : List Nat) (i : Value) (wr : World) : Prop :=
  ∃ k : Nat, k ≤ 30 ∧ i = .int .i64 k ∧ SOwn wr b (bothK s t k) ∧ wr.rangeAt (b + 1) 0 (stCells t) ∧ SOwn wr (b + 2) zeroSt ∧ Below w.heap.size w wr
set_option maxRecDepth 100000 in
theorem Both_any (s t : List Nat) (hs : Ok s) (ht : Ok t) (w : World) :
    Calls Try.prog 16 #[stV s, stV t] w fun e w' => e = .returned (stV (both s t)) ∧ Below w.heap.size w w' := by
  have hz := Try.zeroSet
  obtain ⟨w1, HW⟩ : ∃ w1, Hid (w1 = ((w.alloc (.cells (stArr s) 28)).alloc (.cells (stArr t) 28)).alloc (.cells (stArr zeroSt) 28)) := ⟨_, Lib.hid rfl⟩
  obtain ⟨b, HBB⟩ : ∃ b, Hid (b = w.heap.size) := ⟨_, Lib.hid rfl⟩
  have HB1 : Hid (Below w.heap.size w w1) := Lib.hid (by rw [HW.out]; exact (((Below.refl _ _).alloc (Nat.le_refl _) _).alloc (by simp) _).alloc (by simp; omega) _)
  have HO1 : Hid (SOwn w1 b s) := Lib.hid (by
    rw [HW.out, HBB.out]
    exact (SOwn.new _).below (((Below.refl _ _).alloc (Nat.le_refl _) _).alloc (by simp) _) (by simp))
  have HT1 : Hid (w1.rangeAt (b + 1) 0 (stCells t)) := Lib.hid (by
    rw [HW.out, HBB.out]
    have := (SOwn.new (w := w.alloc (.cells (stArr s) 28)) (s := t) 28).below (((Below.refl _ _).alloc (Nat.le_refl _) (.cells (stArr zeroSt) 28))) (by simp)
    simpa using this.at_)
  have HZ1 : Hid (SOwn w1 (b + 2) zeroSt) := Lib.hid (by
    rw [HW.out, HBB.out]
    have := SOwn.new (w := (w.alloc (.cells (stArr s) 28)).alloc (.cells (stArr t) 28)) (s := zeroSt) 28
    simpa using this)
  go_enter Try.func16, Try.ntmps16
  go_wp2_with fail
  rw [← HW.out, ← HBB.out]
  go_loopw [6] (fun i wr => BothRel w b s t i wr) (fun i _ => 30 - (intOf i).toNat)
  case atStart => exact ⟨0, by decide, rfl, by rw [bothK_zero]; exact HO1.out, HT1.out, HZ1.out, HB1.out⟩
  case round =>
    obtain ⟨k, hk, rfl, ho, hr, hzz, hb⟩ := hrel
    have HO := Lib.hid ho
    have HR := Lib.hid hr
    have HZ := Lib.hid hzz
    have HB := Lib.hid hb
    clear ho hr hzz hb HO1 HT1 HZ1 HB1
    by_cases hlt : k < 30
    · obtain ⟨x, HX⟩ : ∃ x, Hid (x = Bits.at_ s k) := ⟨_, Lib.hid rfl⟩
      obtain ⟨y, HY⟩ : ∃ y, Hid (y = Bits.at_ t k) := ⟨_, Lib.hid rfl⟩
      have hc1 := set_at HO.out.at_ (i := k) (by rw [bothK_length hs ht]; exact hlt)
      have hc2 := set_at HR.out (i := k) (by rw [ht.len]; exact hlt)
      rw [bothK_at hs ht hlt, ← HX.out] at hc1
      rw [← HY.out] at hc2
      have hf := HO.out.free k
      have hk2 : (k : Int) < 30 := by omega
      go_wp2_with fail
      go_region
      clear hc1 hc2 hf
      rw [u8_or_nat x y (by rw [HX.out]; exact Bits.at_lt hs _) (by rw [HY.out]; exact Bits.at_lt ht _)]
      obtain ⟨w3, HW3⟩ : ∃ w3, Hid (w3 = (wr.setCell ⟨b, k, none⟩ (.int .u8 ((x ||| y : Nat) : Int))).drew) := ⟨_, Lib.hid rfl⟩
      rw [← HW3.out]
      have hbb : w.heap.size ≤ b := by rw [HBB.out]; exact Nat.le_refl _
      have HO3 : Hid (SOwn w3 b (bothK s t (k + 1))) := Lib.hid (by
        have := (HO.out.put (i := k) (by rw [bothK_length hs ht]; exact hlt) (x ||| y)).drew
        rw [HX.out, HY.out, bothK_succ hs ht hlt] at this
        rw [HW3.out, HX.out, HY.out]
        exact this)
      have HR3 : Hid (w3.rangeAt (b + 1) 0 (stCells t)) := Lib.hid (by
        rw [HW3.out]
        intro j v hv
        have := HR.out j v hv
        exact (World.cell?_setCell_other _ _ _ _ (by intro hh; injection hh; omega)).trans this)
      have HZ3 : Hid (SOwn w3 (b + 2) zeroSt) := Lib.hid (by
        rw [HW3.out]
        exact (HZ.out.other (by omega) _ _).drew)
      have HB3 : Hid (Below w.heap.size w w3) := Lib.hid (by
        rw [HW3.out]
        exact (HB.out.setCell hbb _).drew)
      clear HW3 HO HR HZ HB hbb
      go_wp2_with fail
      go_roundw
      case rel => exact ⟨k + 1, hlt, by go_num, HO3.out, HR3.out, HZ3.out, HB3.out⟩
      case measure => simp [intOf]; omega
    · obtain rfl : k = 30 := by omega
      have hl := (hs.both ht).len
      have HO2 : Hid (SOwn wr b (both s t)) := Lib.hid (by have := HO.out; rwa [bothK_all hs ht] at this)
      clear HO
      go_wp2_with (with_reducible refine set_stop (o := ⟨some 18, _, _, _, _, _⟩) ?_)
      refine wpList_load_set rfl _ rfl b rfl (both s t) hl HO2.out.at_ ?_
      refine wpList_store_set rfl _ _ rfl (b + 2) (both s t) zeroSt hl zeroSt_length rfl rfl HZ.out ?_
      intro w4 HW4 HO4
      go_wp2_with fail
      refine bodyPost_ret (results_set rfl _ _ (b + 2) (both s t) rfl HO4.out.at_ hl) rfl ⟨rfl, ?_⟩
      exact below_cells_of HB.out HW4.out (by have := HBB.out; omega)
end Go.Proofs.Yteceihjnlncbkaa
