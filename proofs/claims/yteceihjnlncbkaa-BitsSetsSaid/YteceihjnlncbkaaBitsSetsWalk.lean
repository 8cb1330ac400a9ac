/-
  The walk of BitsSets: sets put together have what either has; without all of one there is the rest. Conditions: none beyond the premises of each theorem.
-/
import Derived.Test.YteceihjnlncbkaaSetEq
namespace Go.Proofs.Yteceihjnlncbkaa
open Go.RowKit
open Bits (Ok has with_ without count countBelow first both minus inBoth)

theorem both_swap {s t : List Nat} (hs : Ok s) (ht : Ok t) : both t s = both s t := Bits.ext (ht.both hs) (hs.both ht) fun n hn => by
  rw [Bits.has_both ht hs hn, Bits.has_both hs ht hn, Bool.or_comm]
theorem both_self {s : List Nat} (hs : Ok s) : both s s = s := Bits.ext (hs.both hs) hs fun n hn => by
  rw [Bits.has_both hs hs hn, Bool.or_self]
theorem count_both {s t : List Nat} (hs : Ok s) (ht : Ok t) : count (both s t) + inBoth s t 240 = count s + count t :=
  Bits.countBelow_either fun _ hn => Bits.has_both hs ht hn
theorem count_rest {s t : List Nat} (hs : Ok s) (ht : Ok t) : count (minus (both s t) t 240) + count t = count (both s t) := by
  refine Bits.countBelow_rest (k := 240) (fun n hn h => ?_) fun n hn => ?_
  · rw [Bits.has_both hs ht hn, h, Bool.or_true]
  · rw [Bits.has_minus (hs.both ht) (Nat.le_refl _), decide_eq_true hn, Bool.true_and]
theorem inBoth_le (s t : List Nat) : ∀ k, inBoth s t k ≤ k
  | 0 => Nat.le_refl _
  | k + 1 => by
    have := inBoth_le s t k
    rw [inBoth]
    split <;> omega
/-- what stands in memory: the two sets, both of them, and what is left -/
structure SetsS (w : World) (b b1 c d : Nat) (s t u v : List Nat) (wr : World) : Prop where
  arg : wr.rangeAt b 0 (stCells s)
  arg2 : wr.rangeAt b1 0 (stCells t)
  uni : wr.rangeAt c 0 (stCells u)
  own : SOwn wr d v
  lt : b < d ∧ b1 < d ∧ c < d ∧ w.heap.size ≤ d ∧ d < wr.heap.size
  below : Below w.heap.size w wr
theorem SetsS.carry {w : World} {b b1 c d : Nat} {s t u v : List Nat} {wr w' : World} (h : SetsS w b b1 c d s t u v wr) (hb : Below wr.heap.size wr w') : SetsS w b b1 c d s t u v w' :=
  ⟨range_carry h.arg hb, range_carry h.arg2 hb, range_carry h.uni hb, h.own.below hb h.lt.2.2.2.2, ⟨h.lt.1, h.lt.2.1, h.lt.2.2.1, h.lt.2.2.2.1, Nat.lt_of_lt_of_le h.lt.2.2.2.2 hb.size⟩, h.below.trans (hb.mono h.below.size)⟩
theorem SetsS.drew {w : World} {b b1 c d : Nat} {s t u v : List Nat} {wr : World} (h : SetsS w b b1 c d s t u v wr) : SetsS w b b1 c d s t u v wr.drew := ⟨h.arg, h.arg2, h.uni, h.own.drew, h.lt, h.below.drew⟩
theorem setCells_heap (b : Nat) : ∀ (vs : List Value) (o : Nat) (w : World), (w.setCells b o vs).heap.size = w.heap.size
  | [], _, _ => rfl
  | v :: r, o, w => by rw [World.setCells, setCells_heap b r (o + 1)]; simp [World.setCell]
theorem SetsS.store {w : World} {b b1 c d : Nat} {s t u v x : List Nat} {wr w2 : World} (h : SetsS w b b1 c d s t u v wr) (hw : w2 = wr.setCells d 0 (stCells x)) (ho : SOwn w2 d x) : SetsS w b b1 c d s t u x w2 := by
  have hl := h.lt
  have h0 := h.below
  subst hw
  exact ⟨World.rangeAt_setCells_apart h.arg _ _ _ (.inl (by omega)), World.rangeAt_setCells_apart h.arg2 _ _ _ (.inl (by omega)), World.rangeAt_setCells_apart h.uni _ _ _ (.inl (by omega)), ho,
    ⟨hl.1, hl.2.1, hl.2.2.1, hl.2.2.2.1, by rw [setCells_heap]; exact hl.2.2.2.2⟩, below_setCells hl.2.2.2.1 _ _ _ h0⟩
/-- how far the walk has come -/
def SetsRel (w : World) (b b1 c d : Nat) (s t u : List Nat) (n i : Value) (wr : World) : Prop :=
  ∃ k : Nat, k ≤ 240 ∧ i = .int .i64 k ∧ n = .int .i64 ((inBoth s t k : Nat) : Int) ∧ SetsS w b b1 c d s t u (minus u t k) wr
set_option maxRecDepth 100000 in
set_option maxHeartbeats 8000000 in
theorem sets_walk (s t : List Nat) (hs : Ok s) (ht : Ok t) (w : World) :
    Calls Try.prog 5 #[stV s, stV t] w fun e w' => e = .returned (.bool true) ∧ Below w.heap.size w w' := by
  have hz := Try.zeroSet
  obtain ⟨w1, HW⟩ : ∃ w1, Hid (w1 = (w.alloc (.cells (stArr s) 22)).alloc (.cells (stArr t) 22)) := ⟨_, Lib.hid rfl⟩
  obtain ⟨b, HBB⟩ : ∃ b, Hid (b = w.heap.size) := ⟨_, Lib.hid rfl⟩
  have HB1 : Hid (Below w.heap.size w w1) := Lib.hid (by rw [HW.out]; exact ((Below.refl _ _).alloc (Nat.le_refl _) _).alloc (by simp) _)
  have HR1 : Hid (w1.rangeAt b 0 (stCells s)) := Lib.hid (by
    rw [HW.out, HBB.out]
    exact ((SOwn.new _).below ((Below.refl _ _).alloc (Nat.le_refl _) _) (by simp)).at_)
  have HT1 : Hid (w1.rangeAt (b + 1) 0 (stCells t)) := Lib.hid (by
    rw [HW.out, HBB.out]
    have := SOwn.new (w := w.alloc (.cells (stArr s) 22)) (s := t) 22
    simpa using this.at_)
  have HSZ1 : Hid (b + 1 < w1.heap.size) := Lib.hid (by rw [HW.out, HBB.out]; simp)
  obtain ⟨b1, HB2B⟩ : ∃ b1, Hid (b1 = b + 1) := ⟨_, Lib.hid rfl⟩
  obtain ⟨u, HU⟩ : ∃ u, Hid (u = both s t) := ⟨_, Lib.hid rfl⟩
  have HUO : Hid (Ok u) := Lib.hid (by rw [HU.out]; exact hs.both ht)
  have HUH : Hid (∀ n, n < 240 → has u n = (has s n || has t n)) := Lib.hid (by rw [HU.out]; exact fun n hn => Bits.has_both hs ht hn)
  go_enter Try.func5, Try.ntmps5
  go_wp2_with fail
  rw [← HW.out, ← HBB.out, ← HB2B.out]
  rw [← HB2B.out] at HT1 HSZ1
  refine (awake_any _).mono ?_
  rintro e w2 ⟨rfl, hb⟩
  have HB2 := Lib.hid (HB1.out.trans (hb.mono HB1.out.size))
  have HR2 := Lib.hid (range_carry HR1.out hb)
  have HT2 := Lib.hid (range_carry HT1.out hb)
  have HSZ2 : Hid (b1 < w2.heap.size) := Lib.hid (Nat.lt_of_lt_of_le HSZ1.out hb.size)
  clear hb HB1 HR1 HT1 HSZ1
  go_wp2_with (with_reducible refine set_stop (o := ⟨some 11, _, _, _, _, _⟩) ?_)
  refine wpList_load_arr rfl _ rfl b rfl s hs.len HR2.out ?_
  go_wp2_with (with_reducible refine set_stop (o := ⟨some 12, _, _, _, _, _⟩) ?_)
  refine wpList_load_arr rfl _ rfl b1 rfl t ht.len HT2.out ?_
  go_wp2_with fail
  refine (Both_any s t hs ht _).mono ?_
  rw [← HU.out]
  rintro e w3 ⟨rfl, hb⟩
  have HB3 := Lib.hid (HB2.out.trans (hb.mono HB2.out.size))
  have HR3 := Lib.hid (range_carry HR2.out hb)
  have HT3 := Lib.hid (range_carry HT2.out hb)
  have HSZ3 : Hid (b1 < w3.heap.size) := Lib.hid (Nat.lt_of_lt_of_le HSZ2.out hb.size)
  clear hb HB2 HR2 HT2 HSZ2
  go_wp2_with (with_reducible refine set_stop (o := ⟨none, _, _, _, _, _⟩) ?_)
  obtain ⟨w4, HW4⟩ : ∃ w4, Hid (w4 = w3.alloc (.cells (stArr zeroSt) 28)) := ⟨_, Lib.hid rfl⟩
  obtain ⟨c, HC⟩ : ∃ c, Hid (c = w3.heap.size) := ⟨_, Lib.hid rfl⟩
  have HO4 : Hid (SOwn w4 c zeroSt) := Lib.hid (by rw [HW4.out, HC.out]; exact SOwn.new _)
  have HB34 : Hid (Below w3.heap.size w3 w4) := Lib.hid (by rw [HW4.out]; exact (Below.refl _ _).alloc (Nat.le_refl _) _)
  have HSZ4 : Hid (c < w4.heap.size) := Lib.hid (by rw [HW4.out, HC.out]; simp)
  rw [← HW4.out, ← HC.out]
  unfold SetStop
  refine wpList_store_set rfl _ _ rfl c u zeroSt HUO.out.len zeroSt_length rfl rfl HO4.out ?_
  intro w5 HW5 HO5
  have HB35 : Hid (Below w3.heap.size w3 w5) := Lib.hid (below_cells_of HB34.out HW5.out (by rw [HC.out]; exact Nat.le_refl _))
  have HB5 := Lib.hid (HB3.out.trans (HB35.out.mono HB3.out.size))
  have HR5 := Lib.hid (range_carry HR3.out HB35.out)
  have HT5 := Lib.hid (range_carry HT3.out HB35.out)
  have HSZ5 : Hid (b < c ∧ b1 < c ∧ c < w5.heap.size) := Lib.hid ⟨by have := HC.out; have := HB2B.out; have := HSZ3.out; omega, by rw [HC.out]; exact HSZ3.out, by rw [HW5.out, setCells_heap]; exact HSZ4.out⟩
  clear HW5 HW4 HO4 HB34 HB35 HB3 HR3 HT3 HC HSZ3 HSZ4
  go_wp2_with (with_reducible refine set_stop (o := ⟨some 14, _, _, _, _, _⟩) ?_)
  refine wpList_load_set rfl _ rfl c rfl u HUO.out.len HO5.out.at_ ?_
  go_wp2_with (with_reducible refine set_stop (o := ⟨none, _, _, _, _, _⟩) ?_)
  obtain ⟨w7, HW7⟩ : ∃ w7, Hid (w7 = w5.alloc (.cells (stArr zeroSt) 28)) := ⟨_, Lib.hid rfl⟩
  obtain ⟨d, HD⟩ : ∃ d, Hid (d = w5.heap.size) := ⟨_, Lib.hid rfl⟩
  have HST7 : Hid (SetsS w b b1 c d s t u zeroSt w7) := Lib.hid (by
    have hb : Below w5.heap.size w5 w7 := by rw [HW7.out]; exact (Below.refl _ _).alloc (Nat.le_refl _) _
    refine ⟨range_carry HR5.out hb, range_carry HT5.out hb, range_carry HO5.out.at_ hb, by rw [HW7.out, HD.out]; exact SOwn.new _, ?_, HB5.out.trans (hb.mono HB5.out.size)⟩
    have h1 := HSZ5.out
    have h2 := HB5.out.size
    have h3 : w7.heap.size = w5.heap.size + 1 := by rw [HW7.out]; simp
    have h4 := HD.out
    omega)
  rw [← HW7.out, ← HD.out]
  unfold SetStop
  refine wpList_store_set rfl _ _ rfl d u zeroSt HUO.out.len zeroSt_length rfl rfl HST7.out.own ?_
  intro w8 HW8 HO8
  have HST8 := Lib.hid (HST7.out.store HW8.out HO8.out)
  clear HW8 HO8 HW7 HST7 HD HO5 HR5 HT5 HB5 HSZ5
  go_wp2_with fail
  go_loopw [7, 8] (fun n i wr => SetsRel w b b1 c d s t u n i wr) (fun _ i _ => 240 - (intOf i).toNat)
  case atStart => exact ⟨0, by decide, rfl, rfl, HST8.out⟩
  case round =>
    obtain ⟨k, hk, rfl, rfl, hst⟩ := hrel
    have HST := Lib.hid hst
    clear hst HST8
    have hml := inBoth_le s t k
    have HVO : Hid (Ok (minus u t k)) := Lib.hid (HUO.out.minus k)
    obtain ⟨n, HN⟩ : ∃ n, Hid (n = inBoth s t k) := ⟨_, Lib.hid rfl⟩
    obtain ⟨v, HV⟩ : ∃ v, Hid (v = minus u t k) := ⟨_, Lib.hid rfl⟩
    rw [← HN.out] at hml ⊢
    rw [← HV.out] at HST HVO
    by_cases hlt : k < 240
    · have HUK := Lib.hid (HUH.out k hlt)
      go_wp2_with (with_reducible refine set_stop (o := ⟨some 19, _, _, _, _, _⟩) ?_)
      refine wpList_load_arr rfl _ rfl b1 rfl t ht.len HST.out.arg2 ?_
      go_wp2_with fail
      refine (Has_yes t ht k hlt _).mono ?_
      cases HTK : has t k with
      | true =>
        have HTK2 := Lib.hid HTK
        clear HTK
        rintro e wb ⟨rfl, hb⟩
        have HSTb := Lib.hid (HST.out.carry hb)
        clear hb HST
        obtain ⟨x, HX⟩ : ∃ x, Hid (x = without v k) := ⟨_, Lib.hid rfl⟩
        have HXO : Hid (Ok x) := Lib.hid (by rw [HX.out]; exact HVO.out.without k)
        have HXM : Hid (minus u t (k + 1) = x) := Lib.hid (by rw [minus, HTK2.out, if_pos rfl, ← HV.out, HX.out])
        go_wp2_with (with_reducible refine set_stop (o := ⟨some 22, _, _, _, _, _⟩) ?_)
        refine wpList_load_set rfl _ rfl d rfl v HVO.out.len HSTb.out.own.at_ ?_
        go_wp2_with fail
        refine (Without_yes v HVO.out k hlt _).mono ?_
        rw [← HX.out]
        rintro e wc ⟨rfl, hb⟩
        have HSTc := Lib.hid (HSTb.out.carry hb)
        clear hb HSTb
        go_wp2_with (with_reducible refine set_stop (o := ⟨none, _, _, _, _, _⟩) ?_)
        refine wpList_store_set rfl _ _ rfl d x v HXO.out.len HVO.out.len rfl rfl HSTc.out.own ?_
        intro wd HWd HOd
        have HSTd := Lib.hid (HSTc.out.store HWd.out HOd.out)
        clear HSTc HWd HOd
        go_wp2_with (with_reducible refine set_stop (o := ⟨some 25, _, _, _, _, _⟩) ?_)
        refine wpList_load_arr rfl _ rfl b rfl s hs.len HSTd.out.arg ?_
        go_wp2_with fail
        refine (Has_yes s hs k hlt _).mono ?_
        cases HSK : has s k with
        | true =>
          have HSK2 := Lib.hid HSK
          clear HSK
          have HUK2 : Hid (has u k = true) := Lib.hid (by rw [HUK.out, HSK2.out, HTK2.out]; rfl)
          have HNN : Hid (inBoth s t (k + 1) = n + 1) := Lib.hid (by rw [inBoth, HSK2.out, HTK2.out, ← HN.out]; rfl)
          rintro e we ⟨rfl, hb⟩
          have HSTe := Lib.hid (HSTd.out.carry hb)
          clear hb HSTd
          go_wp2_with fail
          refine wp_region_held (S := SetsS w b b1 c d s t u x) (by kernel_rfl) ?_
          change wpAnyH _ _ _ _ _ _ _ _ we.drew
          obtain ⟨wa, HWA⟩ : ∃ wa, Hid (wa = we.drew) := ⟨_, Lib.hid rfl⟩
          rw [← HWA.out]
          have hS : SetsS w b b1 c d s t u x wa := by rw [HWA.out]; exact HSTe.out.drew
          clear HWA HSTe
          refine takeH (i := 0) 30 (v := stV u) rfl (by kernel_rfl) (by kernel_rfl) (by kernel_rfl) rfl (fun _ _ _ h => h) (yieldsIf_set (by rfl) _ rfl c rfl u HUO.out.len (fun _ h => h.uni)) hS ?_
          simp only [Act.put, List.setIfInBounds_toArray, List.set_cons_zero, List.set_cons_succ]
          refine takeH (i := 1) 31 (v := .int .i64 (k : Int)) rfl (by kernel_rfl) (by kernel_rfl) (by kernel_rfl) rfl (fun _ _ _ h => h) (.inl ⟨by rfl, fun _ _ => by go_simp⟩) hS ?_
          simp only [Act.put, List.setIfInBounds_toArray, List.set_cons_zero, List.set_cons_succ]
          refine takeH (i := 3) 33 (v := stV s) rfl (by kernel_rfl) (by kernel_rfl) (by kernel_rfl) rfl (fun _ _ _ h => h) (yieldsIf_arr (by rfl) _ rfl b rfl s hs.len (fun _ h => h.arg)) hS ?_
          simp only [Act.put, List.setIfInBounds_toArray, List.set_cons_zero, List.set_cons_succ]
          refine takeH (i := 4) 34 (v := .int .i64 (k : Int)) rfl (by kernel_rfl) (by kernel_rfl) (by kernel_rfl) rfl (fun _ _ _ h => h) (.inl ⟨by rfl, fun _ _ => by go_simp⟩) hS ?_
          simp only [Act.put, List.setIfInBounds_toArray, List.set_cons_zero, List.set_cons_succ]
          refine oneH (i := 2) (oi := ⟨some 32, _, _, _, _, _⟩) rfl (by kernel_rfl) (fun K hK => ?_)
          go_simp
          refine (Has_yes u HUO.out k hlt _).mono ?_
          rw [HUK2.out]
          rintro e wn ⟨rfl, hb⟩
          have hS2 := hS.carry hb
          clear hb hS
          refine hK.out _ _ hS2 ?_
          clear hK K
          have hS := hS2
          clear hS2
          refine oneH (i := 5) (oi := ⟨some 35, _, _, _, _, _⟩) rfl (by kernel_rfl) (fun K hK => ?_)
          go_simp
          refine (Has_yes s hs k hlt _).mono ?_
          rw [HSK2.out]
          rintro e wn ⟨rfl, hb⟩
          have hS2 := hS.carry hb
          clear hb hS
          refine hK.out _ _ hS2 ?_
          clear hK K
          have hS := hS2
          clear hS2
          refine takeH (i := 6) 36 (v := .bool true) rfl (by kernel_rfl) (by kernel_rfl) (by kernel_rfl) rfl (fun _ _ _ h => h) (.inl ⟨by rfl, fun _ _ => by go_simp⟩) hS ?_
          simp only [Act.put, List.setIfInBounds_toArray, List.set_cons_zero, List.set_cons_succ]
          refine takeH (i := 7) 37 (v := undef) rfl (by kernel_rfl) (by kernel_rfl) (by kernel_rfl) rfl (fun _ _ _ h => h) (.inr ⟨by rfl, rfl⟩) hS ?_
          simp only [Act.put, List.setIfInBounds_toArray, List.set_cons_zero, List.set_cons_succ]
          refine takeH (i := 8) 38 (v := undef) rfl (by kernel_rfl) (by kernel_rfl) (by kernel_rfl) rfl (fun _ _ _ h => h) (.inr ⟨by rfl, rfl⟩) hS ?_
          simp only [Act.put, List.setIfInBounds_toArray, List.set_cons_zero, List.set_cons_succ]
          refine takeH (i := 9) 39 (v := undef) rfl (by kernel_rfl) (by kernel_rfl) (by kernel_rfl) rfl (fun _ _ _ h => h) (.inr ⟨by rfl, rfl⟩) hS ?_
          simp only [Act.put, List.setIfInBounds_toArray, List.set_cons_zero, List.set_cons_succ]
          refine takeH (i := 10) 40 (v := .bool true) rfl (by kernel_rfl) (by kernel_rfl) (by kernel_rfl) rfl (fun _ _ _ h => h) (.inl ⟨by rfl, fun _ _ => by go_simp⟩) hS ?_
          simp only [Act.put, List.setIfInBounds_toArray, List.set_cons_zero, List.set_cons_succ]
          refine takeH (i := 11) 41 (v := .bool false) rfl (by kernel_rfl) (by kernel_rfl) (by kernel_rfl) rfl (fun _ _ _ h => h) (.inl ⟨by rfl, fun _ _ => by go_simp⟩) hS ?_
          simp only [Act.put, List.setIfInBounds_toArray, List.set_cons_zero, List.set_cons_succ]
          refine wpAnyH_done (by kernel_rfl) ?_ _
          go_wp2_with fail
          go_roundw
          case rel => exact ⟨k + 1, hlt, by go_num, by rw [HNN.out]; go_num, by rw [HXM.out]; exact hS⟩
          case measure => simp [intOf]; omega
        | false =>
          have HSK2 := Lib.hid HSK
          clear HSK
          have HUK2 : Hid (has u k = true) := Lib.hid (by rw [HUK.out, HSK2.out, HTK2.out]; rfl)
          have HNN : Hid (inBoth s t (k + 1) = n + 0) := Lib.hid (by rw [inBoth, HSK2.out, HTK2.out, ← HN.out]; rfl)
          rintro e we ⟨rfl, hb⟩
          have HSTe := Lib.hid (HSTd.out.carry hb)
          clear hb HSTd
          go_wp2_with fail
          refine wp_region_held (S := SetsS w b b1 c d s t u x) (by kernel_rfl) ?_
          change wpAnyH _ _ _ _ _ _ _ _ we.drew
          obtain ⟨wa, HWA⟩ : ∃ wa, Hid (wa = we.drew) := ⟨_, Lib.hid rfl⟩
          rw [← HWA.out]
          have hS : SetsS w b b1 c d s t u x wa := by rw [HWA.out]; exact HSTe.out.drew
          clear HWA HSTe
          refine takeH (i := 0) 30 (v := stV u) rfl (by kernel_rfl) (by kernel_rfl) (by kernel_rfl) rfl (fun _ _ _ h => h) (yieldsIf_set (by rfl) _ rfl c rfl u HUO.out.len (fun _ h => h.uni)) hS ?_
          simp only [Act.put, List.setIfInBounds_toArray, List.set_cons_zero, List.set_cons_succ]
          refine takeH (i := 1) 31 (v := .int .i64 (k : Int)) rfl (by kernel_rfl) (by kernel_rfl) (by kernel_rfl) rfl (fun _ _ _ h => h) (.inl ⟨by rfl, fun _ _ => by go_simp⟩) hS ?_
          simp only [Act.put, List.setIfInBounds_toArray, List.set_cons_zero, List.set_cons_succ]
          refine takeH (i := 3) 33 (v := stV s) rfl (by kernel_rfl) (by kernel_rfl) (by kernel_rfl) rfl (fun _ _ _ h => h) (yieldsIf_arr (by rfl) _ rfl b rfl s hs.len (fun _ h => h.arg)) hS ?_
          simp only [Act.put, List.setIfInBounds_toArray, List.set_cons_zero, List.set_cons_succ]
          refine takeH (i := 4) 34 (v := .int .i64 (k : Int)) rfl (by kernel_rfl) (by kernel_rfl) (by kernel_rfl) rfl (fun _ _ _ h => h) (.inl ⟨by rfl, fun _ _ => by go_simp⟩) hS ?_
          simp only [Act.put, List.setIfInBounds_toArray, List.set_cons_zero, List.set_cons_succ]
          refine oneH (i := 2) (oi := ⟨some 32, _, _, _, _, _⟩) rfl (by kernel_rfl) (fun K hK => ?_)
          go_simp
          refine (Has_yes u HUO.out k hlt _).mono ?_
          rw [HUK2.out]
          rintro e wn ⟨rfl, hb⟩
          have hS2 := hS.carry hb
          clear hb hS
          refine hK.out _ _ hS2 ?_
          clear hK K
          have hS := hS2
          clear hS2
          refine oneH (i := 5) (oi := ⟨some 35, _, _, _, _, _⟩) rfl (by kernel_rfl) (fun K hK => ?_)
          go_simp
          refine (Has_yes s hs k hlt _).mono ?_
          rw [HSK2.out]
          rintro e wn ⟨rfl, hb⟩
          have hS2 := hS.carry hb
          clear hb hS
          refine hK.out _ _ hS2 ?_
          clear hK K
          have hS := hS2
          clear hS2
          refine takeH (i := 6) 36 (v := .bool false) rfl (by kernel_rfl) (by kernel_rfl) (by kernel_rfl) rfl (fun _ _ _ h => h) (.inl ⟨by rfl, fun _ _ => by go_simp⟩) hS ?_
          simp only [Act.put, List.setIfInBounds_toArray, List.set_cons_zero, List.set_cons_succ]
          refine takeH (i := 7) 37 (v := stV t) rfl (by kernel_rfl) (by kernel_rfl) (by kernel_rfl) rfl (fun _ _ _ h => h) (yieldsIf_arr (by rfl) _ rfl b1 rfl t ht.len (fun _ h => h.arg2)) hS ?_
          simp only [Act.put, List.setIfInBounds_toArray, List.set_cons_zero, List.set_cons_succ]
          refine takeH (i := 8) 38 (v := .int .i64 (k : Int)) rfl (by kernel_rfl) (by kernel_rfl) (by kernel_rfl) rfl (fun _ _ _ h => h) (.inl ⟨by rfl, fun _ _ => by go_simp⟩) hS ?_
          simp only [Act.put, List.setIfInBounds_toArray, List.set_cons_zero, List.set_cons_succ]
          refine oneH (i := 9) (oi := ⟨some 39, _, _, _, _, _⟩) rfl (by kernel_rfl) (fun K hK => ?_)
          rw [if_pos (by rfl)]
          go_simp
          refine (Has_yes t ht k hlt _).mono ?_
          rw [HTK2.out]
          rintro e wn ⟨rfl, hb⟩
          have hS2 := hS.carry hb
          clear hb hS
          refine hK.out _ _ hS2 ?_
          clear hK K
          have hS := hS2
          clear hS2
          refine takeH (i := 10) 40 (v := .bool true) rfl (by kernel_rfl) (by kernel_rfl) (by kernel_rfl) rfl (fun _ _ _ h => h) (.inl ⟨by rfl, fun _ _ => by go_simp⟩) hS ?_
          simp only [Act.put, List.setIfInBounds_toArray, List.set_cons_zero, List.set_cons_succ]
          refine takeH (i := 11) 41 (v := .bool false) rfl (by kernel_rfl) (by kernel_rfl) (by kernel_rfl) rfl (fun _ _ _ h => h) (.inl ⟨by rfl, fun _ _ => by go_simp⟩) hS ?_
          simp only [Act.put, List.setIfInBounds_toArray, List.set_cons_zero, List.set_cons_succ]
          refine wpAnyH_done (by kernel_rfl) ?_ _
          go_wp2_with fail
          go_roundw
          case rel => exact ⟨k + 1, hlt, by go_num, by rw [HNN.out]; rfl, by rw [HXM.out]; exact hS⟩
          case measure => simp [intOf]; omega
      | false =>
        have HTK2 := Lib.hid HTK
        clear HTK
        rintro e wb ⟨rfl, hb⟩
        have HSTb := Lib.hid (HST.out.carry hb)
        clear hb HST
        have HXM : Hid (minus u t (k + 1) = v) := Lib.hid (by rw [minus, HTK2.out, if_neg (by decide), ← HV.out])
        cases HSK : has s k with
        | true =>
          have HSK2 := Lib.hid HSK
          clear HSK
          have HUK2 : Hid (has u k = true) := Lib.hid (by rw [HUK.out, HSK2.out, HTK2.out]; rfl)
          have HNN : Hid (inBoth s t (k + 1) = n + 0) := Lib.hid (by rw [inBoth, HSK2.out, HTK2.out, ← HN.out]; rfl)
          go_wp2_with fail
          refine wp_region_held (S := SetsS w b b1 c d s t u v) (by kernel_rfl) ?_
          change wpAnyH _ _ _ _ _ _ _ _ wb.drew
          obtain ⟨wa, HWA⟩ : ∃ wa, Hid (wa = wb.drew) := ⟨_, Lib.hid rfl⟩
          rw [← HWA.out]
          have hS : SetsS w b b1 c d s t u v wa := by rw [HWA.out]; exact HSTb.out.drew
          clear HWA HSTb
          refine takeH (i := 0) 30 (v := stV u) rfl (by kernel_rfl) (by kernel_rfl) (by kernel_rfl) rfl (fun _ _ _ h => h) (yieldsIf_set (by rfl) _ rfl c rfl u HUO.out.len (fun _ h => h.uni)) hS ?_
          simp only [Act.put, List.setIfInBounds_toArray, List.set_cons_zero, List.set_cons_succ]
          refine takeH (i := 1) 31 (v := .int .i64 (k : Int)) rfl (by kernel_rfl) (by kernel_rfl) (by kernel_rfl) rfl (fun _ _ _ h => h) (.inl ⟨by rfl, fun _ _ => by go_simp⟩) hS ?_
          simp only [Act.put, List.setIfInBounds_toArray, List.set_cons_zero, List.set_cons_succ]
          refine takeH (i := 3) 33 (v := stV s) rfl (by kernel_rfl) (by kernel_rfl) (by kernel_rfl) rfl (fun _ _ _ h => h) (yieldsIf_arr (by rfl) _ rfl b rfl s hs.len (fun _ h => h.arg)) hS ?_
          simp only [Act.put, List.setIfInBounds_toArray, List.set_cons_zero, List.set_cons_succ]
          refine takeH (i := 4) 34 (v := .int .i64 (k : Int)) rfl (by kernel_rfl) (by kernel_rfl) (by kernel_rfl) rfl (fun _ _ _ h => h) (.inl ⟨by rfl, fun _ _ => by go_simp⟩) hS ?_
          simp only [Act.put, List.setIfInBounds_toArray, List.set_cons_zero, List.set_cons_succ]
          refine oneH (i := 2) (oi := ⟨some 32, _, _, _, _, _⟩) rfl (by kernel_rfl) (fun K hK => ?_)
          go_simp
          refine (Has_yes u HUO.out k hlt _).mono ?_
          rw [HUK2.out]
          rintro e wn ⟨rfl, hb⟩
          have hS2 := hS.carry hb
          clear hb hS
          refine hK.out _ _ hS2 ?_
          clear hK K
          have hS := hS2
          clear hS2
          refine oneH (i := 5) (oi := ⟨some 35, _, _, _, _, _⟩) rfl (by kernel_rfl) (fun K hK => ?_)
          go_simp
          refine (Has_yes s hs k hlt _).mono ?_
          rw [HSK2.out]
          rintro e wn ⟨rfl, hb⟩
          have hS2 := hS.carry hb
          clear hb hS
          refine hK.out _ _ hS2 ?_
          clear hK K
          have hS := hS2
          clear hS2
          refine takeH (i := 6) 36 (v := .bool true) rfl (by kernel_rfl) (by kernel_rfl) (by kernel_rfl) rfl (fun _ _ _ h => h) (.inl ⟨by rfl, fun _ _ => by go_simp⟩) hS ?_
          simp only [Act.put, List.setIfInBounds_toArray, List.set_cons_zero, List.set_cons_succ]
          refine takeH (i := 7) 37 (v := undef) rfl (by kernel_rfl) (by kernel_rfl) (by kernel_rfl) rfl (fun _ _ _ h => h) (.inr ⟨by rfl, rfl⟩) hS ?_
          simp only [Act.put, List.setIfInBounds_toArray, List.set_cons_zero, List.set_cons_succ]
          refine takeH (i := 8) 38 (v := undef) rfl (by kernel_rfl) (by kernel_rfl) (by kernel_rfl) rfl (fun _ _ _ h => h) (.inr ⟨by rfl, rfl⟩) hS ?_
          simp only [Act.put, List.setIfInBounds_toArray, List.set_cons_zero, List.set_cons_succ]
          refine takeH (i := 9) 39 (v := undef) rfl (by kernel_rfl) (by kernel_rfl) (by kernel_rfl) rfl (fun _ _ _ h => h) (.inr ⟨by rfl, rfl⟩) hS ?_
          simp only [Act.put, List.setIfInBounds_toArray, List.set_cons_zero, List.set_cons_succ]
          refine takeH (i := 10) 40 (v := .bool true) rfl (by kernel_rfl) (by kernel_rfl) (by kernel_rfl) rfl (fun _ _ _ h => h) (.inl ⟨by rfl, fun _ _ => by go_simp⟩) hS ?_
          simp only [Act.put, List.setIfInBounds_toArray, List.set_cons_zero, List.set_cons_succ]
          refine takeH (i := 11) 41 (v := .bool false) rfl (by kernel_rfl) (by kernel_rfl) (by kernel_rfl) rfl (fun _ _ _ h => h) (.inl ⟨by rfl, fun _ _ => by go_simp⟩) hS ?_
          simp only [Act.put, List.setIfInBounds_toArray, List.set_cons_zero, List.set_cons_succ]
          refine wpAnyH_done (by kernel_rfl) ?_ _
          go_wp2_with fail
          go_roundw
          case rel => exact ⟨k + 1, hlt, by go_num, by rw [HNN.out]; rfl, by rw [HXM.out]; exact hS⟩
          case measure => simp [intOf]; omega
        | false =>
          have HSK2 := Lib.hid HSK
          clear HSK
          have HUK2 : Hid (has u k = false) := Lib.hid (by rw [HUK.out, HSK2.out, HTK2.out]; rfl)
          have HNN : Hid (inBoth s t (k + 1) = n + 0) := Lib.hid (by rw [inBoth, HSK2.out, HTK2.out, ← HN.out]; rfl)
          go_wp2_with fail
          refine wp_region_held (S := SetsS w b b1 c d s t u v) (by kernel_rfl) ?_
          change wpAnyH _ _ _ _ _ _ _ _ wb.drew
          obtain ⟨wa, HWA⟩ : ∃ wa, Hid (wa = wb.drew) := ⟨_, Lib.hid rfl⟩
          rw [← HWA.out]
          have hS : SetsS w b b1 c d s t u v wa := by rw [HWA.out]; exact HSTb.out.drew
          clear HWA HSTb
          refine takeH (i := 0) 30 (v := stV u) rfl (by kernel_rfl) (by kernel_rfl) (by kernel_rfl) rfl (fun _ _ _ h => h) (yieldsIf_set (by rfl) _ rfl c rfl u HUO.out.len (fun _ h => h.uni)) hS ?_
          simp only [Act.put, List.setIfInBounds_toArray, List.set_cons_zero, List.set_cons_succ]
          refine takeH (i := 1) 31 (v := .int .i64 (k : Int)) rfl (by kernel_rfl) (by kernel_rfl) (by kernel_rfl) rfl (fun _ _ _ h => h) (.inl ⟨by rfl, fun _ _ => by go_simp⟩) hS ?_
          simp only [Act.put, List.setIfInBounds_toArray, List.set_cons_zero, List.set_cons_succ]
          refine takeH (i := 3) 33 (v := stV s) rfl (by kernel_rfl) (by kernel_rfl) (by kernel_rfl) rfl (fun _ _ _ h => h) (yieldsIf_arr (by rfl) _ rfl b rfl s hs.len (fun _ h => h.arg)) hS ?_
          simp only [Act.put, List.setIfInBounds_toArray, List.set_cons_zero, List.set_cons_succ]
          refine takeH (i := 4) 34 (v := .int .i64 (k : Int)) rfl (by kernel_rfl) (by kernel_rfl) (by kernel_rfl) rfl (fun _ _ _ h => h) (.inl ⟨by rfl, fun _ _ => by go_simp⟩) hS ?_
          simp only [Act.put, List.setIfInBounds_toArray, List.set_cons_zero, List.set_cons_succ]
          refine oneH (i := 2) (oi := ⟨some 32, _, _, _, _, _⟩) rfl (by kernel_rfl) (fun K hK => ?_)
          go_simp
          refine (Has_yes u HUO.out k hlt _).mono ?_
          rw [HUK2.out]
          rintro e wn ⟨rfl, hb⟩
          have hS2 := hS.carry hb
          clear hb hS
          refine hK.out _ _ hS2 ?_
          clear hK K
          have hS := hS2
          clear hS2
          refine oneH (i := 5) (oi := ⟨some 35, _, _, _, _, _⟩) rfl (by kernel_rfl) (fun K hK => ?_)
          go_simp
          refine (Has_yes s hs k hlt _).mono ?_
          rw [HSK2.out]
          rintro e wn ⟨rfl, hb⟩
          have hS2 := hS.carry hb
          clear hb hS
          refine hK.out _ _ hS2 ?_
          clear hK K
          have hS := hS2
          clear hS2
          refine takeH (i := 6) 36 (v := .bool false) rfl (by kernel_rfl) (by kernel_rfl) (by kernel_rfl) rfl (fun _ _ _ h => h) (.inl ⟨by rfl, fun _ _ => by go_simp⟩) hS ?_
          simp only [Act.put, List.setIfInBounds_toArray, List.set_cons_zero, List.set_cons_succ]
          refine takeH (i := 7) 37 (v := stV t) rfl (by kernel_rfl) (by kernel_rfl) (by kernel_rfl) rfl (fun _ _ _ h => h) (yieldsIf_arr (by rfl) _ rfl b1 rfl t ht.len (fun _ h => h.arg2)) hS ?_
          simp only [Act.put, List.setIfInBounds_toArray, List.set_cons_zero, List.set_cons_succ]
          refine takeH (i := 8) 38 (v := .int .i64 (k : Int)) rfl (by kernel_rfl) (by kernel_rfl) (by kernel_rfl) rfl (fun _ _ _ h => h) (.inl ⟨by rfl, fun _ _ => by go_simp⟩) hS ?_
          simp only [Act.put, List.setIfInBounds_toArray, List.set_cons_zero, List.set_cons_succ]
          refine oneH (i := 9) (oi := ⟨some 39, _, _, _, _, _⟩) rfl (by kernel_rfl) (fun K hK => ?_)
          rw [if_pos (by rfl)]
          go_simp
          refine (Has_yes t ht k hlt _).mono ?_
          rw [HTK2.out]
          rintro e wn ⟨rfl, hb⟩
          have hS2 := hS.carry hb
          clear hb hS
          refine hK.out _ _ hS2 ?_
          clear hK K
          have hS := hS2
          clear hS2
          refine takeH (i := 10) 40 (v := .bool false) rfl (by kernel_rfl) (by kernel_rfl) (by kernel_rfl) rfl (fun _ _ _ h => h) (.inl ⟨by rfl, fun _ _ => by go_simp⟩) hS ?_
          simp only [Act.put, List.setIfInBounds_toArray, List.set_cons_zero, List.set_cons_succ]
          refine takeH (i := 11) 41 (v := .bool false) rfl (by kernel_rfl) (by kernel_rfl) (by kernel_rfl) rfl (fun _ _ _ h => h) (.inl ⟨by rfl, fun _ _ => by go_simp⟩) hS ?_
          simp only [Act.put, List.setIfInBounds_toArray, List.set_cons_zero, List.set_cons_succ]
          refine wpAnyH_done (by kernel_rfl) ?_ _
          go_wp2_with fail
          go_roundw
          case rel => exact ⟨k + 1, hlt, by go_num, by rw [HNN.out]; rfl, by rw [HXM.out]; exact hS⟩
          case measure => simp [intOf]; omega
    · obtain rfl : k = 240 := by omega
      have HC1 : Hid (count u + n = count s + count t) := Lib.hid (by rw [HU.out, HN.out]; exact count_both hs ht)
      have HC2 : Hid (count v + count t = count u) := Lib.hid (by rw [HV.out, HU.out]; exact count_rest hs ht)
      have HSW : Hid (both t s = u) := Lib.hid (by rw [HU.out]; exact both_swap hs ht)
      have HSE : Hid (both u u = u) := Lib.hid (both_self HUO.out)
      obtain ⟨cs, HCS⟩ : ∃ cs, Hid (cs = count s) := ⟨_, Lib.hid rfl⟩
      obtain ⟨ct, HCT⟩ : ∃ ct, Hid (ct = count t) := ⟨_, Lib.hid rfl⟩
      obtain ⟨cu, HCU⟩ : ∃ cu, Hid (cu = count u) := ⟨_, Lib.hid rfl⟩
      obtain ⟨cv, HCV⟩ : ∃ cv, Hid (cv = count v) := ⟨_, Lib.hid rfl⟩
      have l1 : cs ≤ 240 := by rw [HCS.out]; exact Bits.countBelow_le s 240
      have l2 : ct ≤ 240 := by rw [HCT.out]; exact Bits.countBelow_le t 240
      have l3 : cu ≤ 240 := by rw [HCU.out]; exact Bits.countBelow_le u 240
      have e1 : cu + n = cs + ct := by rw [HCS.out, HCT.out, HCU.out]; exact HC1.out
      have e2 : cv + ct = cu := by rw [HCV.out, HCT.out, HCU.out]; exact HC2.out
      have a1 : IntKind.i64.wrap ((cs : Int) + (ct : Int)) = (cs : Int) + (ct : Int) := by rw [IntKind.wrap_i64]; omega
      have a2 : IntKind.i64.wrap ((cs : Int) + (ct : Int) - (n : Int)) = (cu : Int) := by rw [IntKind.wrap_i64]; omega
      have a3 : IntKind.i64.wrap ((cu : Int) - (ct : Int)) = (cv : Int) := by rw [IntKind.wrap_i64]; omega
      have heq := equalIn_same HUO.out.len
      have hgd := guardSet
      clear l1 l2 l3 e1 e2
      go_wp2_with fail
      refine wp_region_held (S := SetsS w b b1 c d s t u v) (by kernel_rfl) ?_
      change wpAnyH _ _ _ _ _ _ _ _ wr.drew
      obtain ⟨wa, HWA⟩ : ∃ wa, Hid (wa = wr.drew) := ⟨_, Lib.hid rfl⟩
      rw [← HWA.out]
      have hS : SetsS w b b1 c d s t u v wa := by rw [HWA.out]; exact HST.out.drew
      clear HWA HST
      refine takeH (i := 0) 42 (v := stV u) rfl (by kernel_rfl) (by kernel_rfl) (by kernel_rfl) rfl (fun _ _ _ h => h) (yieldsIf_set (by rfl) _ rfl c rfl u HUO.out.len (fun _ h => h.uni)) hS ?_
      simp only [Act.put, List.setIfInBounds_toArray, List.set_cons_zero, List.set_cons_succ]
      refine takeH (i := 1) 43 (v := stV t) rfl (by kernel_rfl) (by kernel_rfl) (by kernel_rfl) rfl (fun _ _ _ h => h) (yieldsIf_arr (by rfl) _ rfl b1 rfl t ht.len (fun _ h => h.arg2)) hS ?_
      simp only [Act.put, List.setIfInBounds_toArray, List.set_cons_zero, List.set_cons_succ]
      refine takeH (i := 2) 44 (v := stV s) rfl (by kernel_rfl) (by kernel_rfl) (by kernel_rfl) rfl (fun _ _ _ h => h) (yieldsIf_arr (by rfl) _ rfl b rfl s hs.len (fun _ h => h.arg)) hS ?_
      simp only [Act.put, List.setIfInBounds_toArray, List.set_cons_zero, List.set_cons_succ]
      refine oneH (i := 3) (oi := ⟨some 45, _, _, _, _, _⟩) rfl (by kernel_rfl) (fun K hK => ?_)
      go_simp
      refine (Both_any t s ht hs _).mono ?_
      rw [HSW.out]
      rintro e wn ⟨rfl, hb⟩
      have hS2 := hS.carry hb
      clear hb hS
      refine hK.out _ _ hS2 ?_
      clear hK K
      have hS := hS2
      clear hS2
      refine takeH (i := 4) 46 (v := .bool true) rfl (by kernel_rfl) (by kernel_rfl) (by kernel_rfl) rfl (fun _ _ _ h => h) (.inl ⟨by rfl, fun _ _ => by go_simp⟩) hS ?_
      simp only [Act.put, List.setIfInBounds_toArray, List.set_cons_zero, List.set_cons_succ]
      refine takeH (i := 5) 47 (v := .bool true) rfl (by kernel_rfl) (by kernel_rfl) (by kernel_rfl) rfl (fun _ _ _ h => h) (.inl ⟨by rfl, fun _ _ => by go_simp⟩) hS ?_
      simp only [Act.put, List.setIfInBounds_toArray, List.set_cons_zero, List.set_cons_succ]
      refine takeH (i := 6) 48 (v := stV u) rfl (by kernel_rfl) (by kernel_rfl) (by kernel_rfl) rfl (fun _ _ _ h => h) (yieldsIf_set (by rfl) _ rfl c rfl u HUO.out.len (fun _ h => h.uni)) hS ?_
      simp only [Act.put, List.setIfInBounds_toArray, List.set_cons_zero, List.set_cons_succ]
      refine takeH (i := 7) 49 (v := stV u) rfl (by kernel_rfl) (by kernel_rfl) (by kernel_rfl) rfl (fun _ _ _ h => h) (yieldsIf_set (by rfl) _ rfl c rfl u HUO.out.len (fun _ h => h.uni)) hS ?_
      simp only [Act.put, List.setIfInBounds_toArray, List.set_cons_zero, List.set_cons_succ]
      refine takeH (i := 9) 51 (v := stV u) rfl (by kernel_rfl) (by kernel_rfl) (by kernel_rfl) rfl (fun _ _ _ h => h) (yieldsIf_set (by rfl) _ rfl c rfl u HUO.out.len (fun _ h => h.uni)) hS ?_
      simp only [Act.put, List.setIfInBounds_toArray, List.set_cons_zero, List.set_cons_succ]
      refine oneH (i := 8) (oi := ⟨some 50, _, _, _, _, _⟩) rfl (by kernel_rfl) (fun K hK => ?_)
      rw [if_pos (by rfl)]
      go_simp
      refine (Both_any u u HUO.out HUO.out _).mono ?_
      rw [HSE.out]
      rintro e wn ⟨rfl, hb⟩
      have hS2 := hS.carry hb
      clear hb hS
      refine hK.out _ _ hS2 ?_
      clear hK K
      have hS := hS2
      clear hS2
      refine takeH (i := 10) 52 (v := .bool true) rfl (by kernel_rfl) (by kernel_rfl) (by kernel_rfl) rfl (fun _ _ _ h => h) (.inl ⟨by rfl, fun _ _ => by go_simp⟩) hS ?_
      simp only [Act.put, List.setIfInBounds_toArray, List.set_cons_zero, List.set_cons_succ]
      refine takeH (i := 11) 53 (v := .bool true) rfl (by kernel_rfl) (by kernel_rfl) (by kernel_rfl) rfl (fun _ _ _ h => h) (.inl ⟨by rfl, fun _ _ => by go_simp⟩) hS ?_
      simp only [Act.put, List.setIfInBounds_toArray, List.set_cons_zero, List.set_cons_succ]
      refine takeH (i := 12) 54 (v := .bool true) rfl (by kernel_rfl) (by kernel_rfl) (by kernel_rfl) rfl (fun _ _ _ h => h) (.inl ⟨by rfl, fun _ _ => by go_simp⟩) hS ?_
      simp only [Act.put, List.setIfInBounds_toArray, List.set_cons_zero, List.set_cons_succ]
      refine takeH (i := 13) 55 (v := stV u) rfl (by kernel_rfl) (by kernel_rfl) (by kernel_rfl) rfl (fun _ _ _ h => h) (yieldsIf_set (by rfl) _ rfl c rfl u HUO.out.len (fun _ h => h.uni)) hS ?_
      simp only [Act.put, List.setIfInBounds_toArray, List.set_cons_zero, List.set_cons_succ]
      refine takeH (i := 15) 57 (v := stV s) rfl (by kernel_rfl) (by kernel_rfl) (by kernel_rfl) rfl (fun _ _ _ h => h) (yieldsIf_arr (by rfl) _ rfl b rfl s hs.len (fun _ h => h.arg)) hS ?_
      simp only [Act.put, List.setIfInBounds_toArray, List.set_cons_zero, List.set_cons_succ]
      refine takeH (i := 17) 59 (v := stV t) rfl (by kernel_rfl) (by kernel_rfl) (by kernel_rfl) rfl (fun _ _ _ h => h) (yieldsIf_arr (by rfl) _ rfl b1 rfl t ht.len (fun _ h => h.arg2)) hS ?_
      simp only [Act.put, List.setIfInBounds_toArray, List.set_cons_zero, List.set_cons_succ]
      refine takeH (i := 20) 62 (v := .int .i64 (n : Int)) rfl (by kernel_rfl) (by kernel_rfl) (by kernel_rfl) rfl (fun _ _ _ h => h) (.inl ⟨by rfl, fun _ _ => by go_simp⟩) hS ?_
      simp only [Act.put, List.setIfInBounds_toArray, List.set_cons_zero, List.set_cons_succ]
      refine oneH (i := 14) (oi := ⟨some 56, _, _, _, _, _⟩) rfl (by kernel_rfl) (fun K hK => ?_)
      rw [if_pos (by rfl)]
      go_simp
      refine (Count_any u HUO.out _).mono ?_
      rw [← HCU.out]
      rintro e wn ⟨rfl, hb⟩
      have hS2 := hS.carry hb
      clear hb hS
      refine hK.out _ _ hS2 ?_
      clear hK K
      have hS := hS2
      clear hS2
      refine oneH (i := 16) (oi := ⟨some 58, _, _, _, _, _⟩) rfl (by kernel_rfl) (fun K hK => ?_)
      rw [if_pos (by rfl)]
      go_simp
      refine (Count_any s hs _).mono ?_
      rw [← HCS.out]
      rintro e wn ⟨rfl, hb⟩
      have hS2 := hS.carry hb
      clear hb hS
      refine hK.out _ _ hS2 ?_
      clear hK K
      have hS := hS2
      clear hS2
      refine oneH (i := 18) (oi := ⟨some 60, _, _, _, _, _⟩) rfl (by kernel_rfl) (fun K hK => ?_)
      rw [if_pos (by rfl)]
      go_simp
      refine (Count_any t ht _).mono ?_
      rw [← HCT.out]
      rintro e wn ⟨rfl, hb⟩
      have hS2 := hS.carry hb
      clear hb hS
      refine hK.out _ _ hS2 ?_
      clear hK K
      have hS := hS2
      clear hS2
      refine takeH (i := 19) 61 (v := .int .i64 ((cs : Int) + (ct : Int))) rfl (by kernel_rfl) (by kernel_rfl) (by kernel_rfl) rfl (fun _ _ _ h => h) (.inl ⟨by rfl, fun _ _ => by go_simp⟩) hS ?_
      simp only [Act.put, List.setIfInBounds_toArray, List.set_cons_zero, List.set_cons_succ]
      refine takeH (i := 21) 63 (v := .int .i64 (cu : Int)) rfl (by kernel_rfl) (by kernel_rfl) (by kernel_rfl) rfl (fun _ _ _ h => h) (.inl ⟨by rfl, fun _ _ => by go_simp⟩) hS ?_
      simp only [Act.put, List.setIfInBounds_toArray, List.set_cons_zero, List.set_cons_succ]
      refine takeH (i := 22) 64 (v := .bool true) rfl (by kernel_rfl) (by kernel_rfl) (by kernel_rfl) rfl (fun _ _ _ h => h) (.inl ⟨by rfl, fun _ _ => by go_simp⟩) hS ?_
      simp only [Act.put, List.setIfInBounds_toArray, List.set_cons_zero, List.set_cons_succ]
      refine takeH (i := 23) 65 (v := .bool true) rfl (by kernel_rfl) (by kernel_rfl) (by kernel_rfl) rfl (fun _ _ _ h => h) (.inl ⟨by rfl, fun _ _ => by go_simp⟩) hS ?_
      simp only [Act.put, List.setIfInBounds_toArray, List.set_cons_zero, List.set_cons_succ]
      refine takeH (i := 24) 66 (v := .bool true) rfl (by kernel_rfl) (by kernel_rfl) (by kernel_rfl) rfl (fun _ _ _ h => h) (.inl ⟨by rfl, fun _ _ => by go_simp⟩) hS ?_
      simp only [Act.put, List.setIfInBounds_toArray, List.set_cons_zero, List.set_cons_succ]
      refine takeH (i := 25) 67 (v := stV v) rfl (by kernel_rfl) (by kernel_rfl) (by kernel_rfl) rfl (fun _ _ _ h => h) (yieldsIf_set (by rfl) _ rfl d rfl v HVO.out.len (fun _ h => h.own.at_)) hS ?_
      simp only [Act.put, List.setIfInBounds_toArray, List.set_cons_zero, List.set_cons_succ]
      refine takeH (i := 27) 69 (v := stV u) rfl (by kernel_rfl) (by kernel_rfl) (by kernel_rfl) rfl (fun _ _ _ h => h) (yieldsIf_set (by rfl) _ rfl c rfl u HUO.out.len (fun _ h => h.uni)) hS ?_
      simp only [Act.put, List.setIfInBounds_toArray, List.set_cons_zero, List.set_cons_succ]
      refine takeH (i := 29) 71 (v := stV t) rfl (by kernel_rfl) (by kernel_rfl) (by kernel_rfl) rfl (fun _ _ _ h => h) (yieldsIf_arr (by rfl) _ rfl b1 rfl t ht.len (fun _ h => h.arg2)) hS ?_
      simp only [Act.put, List.setIfInBounds_toArray, List.set_cons_zero, List.set_cons_succ]
      refine oneH (i := 26) (oi := ⟨some 68, _, _, _, _, _⟩) rfl (by kernel_rfl) (fun K hK => ?_)
      rw [if_pos (by rfl)]
      go_simp
      refine (Count_any v HVO.out _).mono ?_
      rw [← HCV.out]
      rintro e wn ⟨rfl, hb⟩
      have hS2 := hS.carry hb
      clear hb hS
      refine hK.out _ _ hS2 ?_
      clear hK K
      have hS := hS2
      clear hS2
      refine oneH (i := 28) (oi := ⟨some 70, _, _, _, _, _⟩) rfl (by kernel_rfl) (fun K hK => ?_)
      rw [if_pos (by rfl)]
      go_simp
      refine (Count_any u HUO.out _).mono ?_
      rw [← HCU.out]
      rintro e wn ⟨rfl, hb⟩
      have hS2 := hS.carry hb
      clear hb hS
      refine hK.out _ _ hS2 ?_
      clear hK K
      have hS := hS2
      clear hS2
      refine oneH (i := 30) (oi := ⟨some 72, _, _, _, _, _⟩) rfl (by kernel_rfl) (fun K hK => ?_)
      rw [if_pos (by rfl)]
      go_simp
      refine (Count_any t ht _).mono ?_
      rw [← HCT.out]
      rintro e wn ⟨rfl, hb⟩
      have hS2 := hS.carry hb
      clear hb hS
      refine hK.out _ _ hS2 ?_
      clear hK K
      have hS := hS2
      clear hS2
      refine takeH (i := 31) 73 (v := .int .i64 (cv : Int)) rfl (by kernel_rfl) (by kernel_rfl) (by kernel_rfl) rfl (fun _ _ _ h => h) (.inl ⟨by rfl, fun _ _ => by go_simp⟩) hS ?_
      simp only [Act.put, List.setIfInBounds_toArray, List.set_cons_zero, List.set_cons_succ]
      refine takeH (i := 32) 74 (v := .bool true) rfl (by kernel_rfl) (by kernel_rfl) (by kernel_rfl) rfl (fun _ _ _ h => h) (.inl ⟨by rfl, fun _ _ => by go_simp⟩) hS ?_
      simp only [Act.put, List.setIfInBounds_toArray, List.set_cons_zero, List.set_cons_succ]
      refine takeH (i := 33) 75 (v := .bool true) rfl (by kernel_rfl) (by kernel_rfl) (by kernel_rfl) rfl (fun _ _ _ h => h) (.inl ⟨by rfl, fun _ _ => by go_simp⟩) hS ?_
      simp only [Act.put, List.setIfInBounds_toArray, List.set_cons_zero, List.set_cons_succ]
      refine takeH (i := 34) 4 (v := .bool true) rfl (by kernel_rfl) (by kernel_rfl) (by kernel_rfl) rfl (fun _ _ _ h => h) (.inl ⟨by rfl, fun _ _ => by go_simp⟩) hS ?_
      simp only [Act.put, List.setIfInBounds_toArray, List.set_cons_zero, List.set_cons_succ]
      refine wpAnyH_done (by kernel_rfl) ?_ _
      go_wp2_with fail
      go_ret
      exact ⟨rfl, hS.below⟩
end Go.Proofs.Yteceihjnlncbkaa
