/-
  The walk of GridKinds: each cell of a right map is of just one of four kinds. Conditions: none beyond the premises of each theorem.
-/
import Derived.Test.YtoempilmofbhdaaDoorGridLaw
namespace Go.Proofs.YtoempilmofbhdaaDoor
open Go.RowKit

def opensTo (xs : List UInt8) (n : Nat) : List Nat := (List.range n).filter (Grid.openAt xs)
theorem opensTo_le (xs : List UInt8) (n : Nat) : (opensTo xs n).length ≤ n := by
  unfold opensTo
  have := List.length_filter_le (Grid.openAt xs) (List.range n)
  simpa using this
theorem opensTo_succ (xs : List UInt8) (n : Nat) : (opensTo xs (n + 1)).length = (opensTo xs n).length + (if Grid.openAt xs n = true then 1 else 0) := by
  unfold opensTo
  rw [List.range_succ, List.filter_append, List.length_append]
  cases h : Grid.openAt xs n <;> simp [h]
theorem kindM_on {W H : Int} {s : ByteArray} (h : rightM W H s = true) (k : UInt8) : (kindM W H s k).length = s.data.toList.count k := by
  unfold kindM; rw [if_pos h, Grid.kinds_length]
theorem kindM_off {W H : Int} {s : ByteArray} (h : rightM W H s = false) (k : UInt8) : (kindM W H s k).length = 0 := by
  unfold kindM; rw [h]; rfl
theorem kindM_le (W H : Int) (s : ByteArray) (k : UInt8) : (kindM W H s k).length ≤ s.size := by
  unfold kindM
  split
  · rw [Grid.kinds_length, ← size_list]; exact List.count_le_length
  · simp
/-- what is counted of a right map -/
theorem kinds_all {W H : Int} {s : ByteArray} (h : rightM W H s = true) : s.data.toList.count 35 + s.data.toList.count 46 + s.data.toList.count 67 + s.data.toList.count 80 = s.size ∧ 0 < s.data.toList.count 67 ∧ (opensTo s.data.toList s.size).length + s.data.toList.count 35 = s.size := by
  have hr := Grid.rightB_iff.1 h
  refine ⟨by rw [Grid.signs_length hr.2.1, size_list], ?_, ?_⟩
  · obtain ⟨f, hf, _⟩ := hr.2.2
    obtain ⟨hlt, he⟩ := Grid.firstC_some hf
    rw [List.count_pos_iff, ← he]
    exact List.getElem_mem _
  · have := Grid.opens_length s.data.toList
    unfold Grid.opens at this
    rw [size_list] at this
    exact this
set_option maxRecDepth 100000 in
set_option maxHeartbeats 2000000 in
theorem kinds_walk (W H : Int) (s : ByteArray) (w : World) : Calls Tryd.prog 7 #[.agg #[.int .i64 W, .int .i64 H, .string s]] w fun e w' => e = .returned (.bool true) ∧ Below w.heap.size w w' := by
  obtain ⟨w1, HW1⟩ : ∃ w1, Hid (w1 = w.alloc (.cells #[.int .i64 W, .int .i64 H, .string s] 23)) := ⟨_, Lib.hid rfl⟩
  obtain ⟨p, HP⟩ : ∃ p, Hid (p = w.heap.size) := ⟨_, Lib.hid rfl⟩
  have HR1 : Hid (RefAt w1 p W H s) := Lib.hid (by rw [HW1.out, HP.out]; exact heap_alloc_new w _)
  have HB1 : Hid (Below w.heap.size w w1) := Lib.hid (by rw [HW1.out]; exact (Below.refl _ _).alloc (Nat.le_refl _) _)
  go_enter Tryd.func7, Tryd.ntmps7
  go_upto_region 1 with (fail)
  rw [← HP.out, ← HW1.out]
  clear HP HW1
  go_wp2_with fail
  refine (awake_any w1).mono ?_
  rintro e w2 ⟨rfl, hb⟩
  have HR2 := Lib.hid (HR1.out.carry hb)
  have HB2 := Lib.hid (HB1.out.trans (hb.mono HB1.out.size))
  clear hb HR1 HB1
  dsimp only
  have c0 := HR2.out.w_
  have c1 := HR2.out.h_
  have c2 := HR2.out.s_
  by_cases h200 : 200 < s.size
  · go_wp2_with fail
    refine (awake_any w2).mono ?_
    rintro e w3 ⟨rfl, hb⟩
    have HB3 := Lib.hid (HB2.out.trans (hb.mono HB2.out.size))
    clear hb
    dsimp only
    go_wp2_with fail
    go_ret
    exact ⟨rfl, HB3.out⟩
  · have hsm : s.size ≤ maxLen := by unfold maxLen; omega
    have h2 : s.size ≤ 200 := by omega
    clear h200
    go_wp2_with fail
    refine (Of_any W H s w2).mono ?_
    rintro e w3 ⟨rfl, hb⟩
    have HR3 := Lib.hid (HR2.out.carry hb)
    have HB3 := Lib.hid (HB2.out.trans (hb.mono HB2.out.size))
    clear hb HR2 HB2 c0 c1 c2
    dsimp only
    obtain ⟨w4, HW4⟩ : ∃ w4, Hid (w4 = w3.alloc (.cells #[.int .i64 W, .int .i64 H, .string s] 29)) := ⟨_, Lib.hid rfl⟩
    obtain ⟨q, HQ⟩ : ∃ q, Hid (q = w3.heap.size) := ⟨_, Lib.hid rfl⟩
    have HL4 : Hid (LSt w p q W H s w4) := Lib.hid (by
      rw [HW4.out, HQ.out]
      exact ⟨HR3.out.carry ((Below.refl _ _).alloc (Nat.le_refl _) _), heap_alloc_new w3 _, HB3.out.alloc HB3.out.size _⟩)
    obtain ⟨n1, HN1⟩ : ∃ n, Hid (n = (kindM W H s 35).length) := ⟨_, Lib.hid rfl⟩
    obtain ⟨n2, HN2⟩ : ∃ n, Hid (n = (kindM W H s 46).length) := ⟨_, Lib.hid rfl⟩
    obtain ⟨n3, HN3⟩ : ∃ n, Hid (n = (kindM W H s 67).length) := ⟨_, Lib.hid rfl⟩
    obtain ⟨n4, HN4⟩ : ∃ n, Hid (n = (kindM W H s 80).length) := ⟨_, Lib.hid rfl⟩
    have k1 : n1 ≤ 200 := by have := kindM_le W H s 35; rw [HN1.out]; omega
    have k2 : n2 ≤ 200 := by have := kindM_le W H s 46; rw [HN2.out]; omega
    have k3 : n3 ≤ 200 := by have := kindM_le W H s 67; rw [HN3.out]; omega
    have k4 : n4 ≤ 200 := by have := kindM_le W H s 80; rw [HN4.out]; omega
    go_upto_region 4 with (fail)
    rw [← HQ.out, ← HW4.out]
    clear HQ HW4 HR3 HB3
    refine wp_region_held (S := LSt w p q W H s) (by kernel_rfl) ?_
    change wpAnyH _ _ _ _ _ _ _ _ w4.drew
    obtain ⟨wa, HWA⟩ : ∃ wa, Hid (wa = w4.drew) := ⟨_, Lib.hid rfl⟩
    rw [← HWA.out]
    have hS : LSt w p q W H s wa := by rw [HWA.out]; exact HL4.out.drew
    clear HWA HL4
    have a1 : IntKind.i64.wrap ((n1 : Int) + (n2 : Int)) = (n1 : Int) + (n2 : Int) := by rw [IntKind.wrap_i64]; omega
    have a2 : IntKind.i64.wrap ((n1 : Int) + (n2 : Int) + (n3 : Int)) = (n1 : Int) + (n2 : Int) + (n3 : Int) := by rw [IntKind.wrap_i64]; omega
    have a3 : IntKind.i64.wrap ((n1 : Int) + (n2 : Int) + (n3 : Int) + (n4 : Int)) = (n1 : Int) + (n2 : Int) + (n3 : Int) + (n4 : Int) := by rw [IntKind.wrap_i64]; omega
    -- region 4
    refine takeH (i := 0) 18 (v := .agg #[.int .i64 W, .int .i64 H, .string s]) rfl (by kernel_rfl) (by kernel_rfl) (by kernel_rfl) rfl (fun _ _ _ h => h) (.inl ⟨by rfl, fun _ h => by have c0 := h.at_.w_; have c1 := h.at_.h_; have c2 := h.at_.s_; go_simp⟩) hS ?_
    simp only [Act.put, List.setIfInBounds_toArray, List.set_cons_zero, List.set_cons_succ]
    refine takeH (i := 3) 21 (v := .agg #[.int .i64 W, .int .i64 H, .string s]) rfl (by kernel_rfl) (by kernel_rfl) (by kernel_rfl) rfl (fun _ _ _ h => h) (.inl ⟨by rfl, fun _ h => by have c0 := h.at_.w_; have c1 := h.at_.h_; have c2 := h.at_.s_; go_simp⟩) hS ?_
    simp only [Act.put, List.setIfInBounds_toArray, List.set_cons_zero, List.set_cons_succ]
    refine takeH (i := 7) 25 (v := .agg #[.int .i64 W, .int .i64 H, .string s]) rfl (by kernel_rfl) (by kernel_rfl) (by kernel_rfl) rfl (fun _ _ _ h => h) (.inl ⟨by rfl, fun _ h => by have c0 := h.at_.w_; have c1 := h.at_.h_; have c2 := h.at_.s_; go_simp⟩) hS ?_
    simp only [Act.put, List.setIfInBounds_toArray, List.set_cons_zero, List.set_cons_succ]
    refine takeH (i := 11) 29 (v := .agg #[.int .i64 W, .int .i64 H, .string s]) rfl (by kernel_rfl) (by kernel_rfl) (by kernel_rfl) rfl (fun _ _ _ h => h) (.inl ⟨by rfl, fun _ h => by have c0 := h.at_.w_; have c1 := h.at_.h_; have c2 := h.at_.s_; go_simp⟩) hS ?_
    simp only [Act.put, List.setIfInBounds_toArray, List.set_cons_zero, List.set_cons_succ]
    refine oneH (i := 1) (oi := ⟨some 19, _, _, _, _, _⟩) rfl (by kernel_rfl) (fun K hK => ?_)
    go_simp
    refine (Kind_any W H s 35 hsm _).mono ?_
    rintro e wn ⟨A1, c1, rfl, -, hb⟩
    rw [← HN1.out]
    have hS2 := hS.carry hb
    refine hK.out _ _ hS2 ?_
    clear hK K hb hS
    have hS := hS2
    clear hS2
    refine takeH (i := 2) 20 (v := .int .i64 (n1 : Int)) rfl (by kernel_rfl) (by kernel_rfl) (by kernel_rfl) rfl (fun _ _ _ h => h) (.inl ⟨by rfl, fun _ _ => by go_simp⟩) hS ?_
    simp only [Act.put, List.setIfInBounds_toArray, List.set_cons_zero, List.set_cons_succ]
    refine oneH (i := 4) (oi := ⟨some 22, _, _, _, _, _⟩) rfl (by kernel_rfl) (fun K hK => ?_)
    go_simp
    refine (Kind_any W H s 46 hsm _).mono ?_
    rintro e wn ⟨A2, c2, rfl, -, hb⟩
    rw [← HN2.out]
    have hS2 := hS.carry hb
    refine hK.out _ _ hS2 ?_
    clear hK K hb hS
    have hS := hS2
    clear hS2
    refine takeH (i := 5) 23 (v := .int .i64 (n2 : Int)) rfl (by kernel_rfl) (by kernel_rfl) (by kernel_rfl) rfl (fun _ _ _ h => h) (.inl ⟨by rfl, fun _ _ => by go_simp⟩) hS ?_
    simp only [Act.put, List.setIfInBounds_toArray, List.set_cons_zero, List.set_cons_succ]
    refine takeH (i := 6) 24 (v := .int .i64 ((n1 : Int) + (n2 : Int))) rfl (by kernel_rfl) (by kernel_rfl) (by kernel_rfl) rfl (fun _ _ _ h => h) (.inl ⟨by rfl, fun _ _ => by go_simp⟩) hS ?_
    simp only [Act.put, List.setIfInBounds_toArray, List.set_cons_zero, List.set_cons_succ]
    refine oneH (i := 8) (oi := ⟨some 26, _, _, _, _, _⟩) rfl (by kernel_rfl) (fun K hK => ?_)
    go_simp
    refine (Kind_any W H s 67 hsm _).mono ?_
    rintro e wn ⟨A3, c3, rfl, -, hb⟩
    rw [← HN3.out]
    have hS2 := hS.carry hb
    refine hK.out _ _ hS2 ?_
    clear hK K hb hS
    have hS := hS2
    clear hS2
    refine takeH (i := 9) 27 (v := .int .i64 (n3 : Int)) rfl (by kernel_rfl) (by kernel_rfl) (by kernel_rfl) rfl (fun _ _ _ h => h) (.inl ⟨by rfl, fun _ _ => by go_simp⟩) hS ?_
    simp only [Act.put, List.setIfInBounds_toArray, List.set_cons_zero, List.set_cons_succ]
    refine takeH (i := 10) 28 (v := .int .i64 ((n1 : Int) + (n2 : Int) + (n3 : Int))) rfl (by kernel_rfl) (by kernel_rfl) (by kernel_rfl) rfl (fun _ _ _ h => h) (.inl ⟨by rfl, fun _ _ => by go_simp⟩) hS ?_
    simp only [Act.put, List.setIfInBounds_toArray, List.set_cons_zero, List.set_cons_succ]
    refine oneH (i := 12) (oi := ⟨some 30, _, _, _, _, _⟩) rfl (by kernel_rfl) (fun K hK => ?_)
    go_simp
    refine (Kind_any W H s 80 hsm _).mono ?_
    rintro e wn ⟨A4, c4, rfl, -, hb⟩
    rw [← HN4.out]
    have hS2 := hS.carry hb
    refine hK.out _ _ hS2 ?_
    clear hK K hb hS
    have hS := hS2
    clear hS2
    refine takeH (i := 13) 31 (v := .int .i64 (n4 : Int)) rfl (by kernel_rfl) (by kernel_rfl) (by kernel_rfl) rfl (fun _ _ _ h => h) (.inl ⟨by rfl, fun _ _ => by go_simp⟩) hS ?_
    simp only [Act.put, List.setIfInBounds_toArray, List.set_cons_zero, List.set_cons_succ]
    refine takeH (i := 14) 32 (v := .int .i64 ((n1 : Int) + (n2 : Int) + (n3 : Int) + (n4 : Int))) rfl (by kernel_rfl) (by kernel_rfl) (by kernel_rfl) rfl (fun _ _ _ h => h) (.inl ⟨by rfl, fun _ _ => by go_simp⟩) hS ?_
    simp only [Act.put, List.setIfInBounds_toArray, List.set_cons_zero, List.set_cons_succ]
    refine takeH (i := 15) 4 (v := .int .i64 ((n1 : Int) + (n2 : Int) + (n3 : Int) + (n4 : Int))) rfl (by kernel_rfl) (by kernel_rfl) (by kernel_rfl) rfl (fun _ _ _ h => h) (.inl ⟨by rfl, fun _ _ => by go_simp⟩) hS ?_
    simp only [Act.put, List.setIfInBounds_toArray, List.set_cons_zero, List.set_cons_succ]
    refine wpAnyH_done (by kernel_rfl) ?_ _
    -- behind region 4
    have HST := Lib.hid hS
    clear hS
    have c0 := HST.out.at_.w_
    have c1 := HST.out.at_.h_
    have c2 := HST.out.at_.s_
    go_wp2_with fail
    refine (Right_any W H s hsm _).mono ?_
    obtain ⟨z, HZ⟩ : ∃ z, Hid (z = rightM W H s) := ⟨_, Lib.hid rfl⟩
    rw [← HZ.out]
    rintro e w5 ⟨rfl, hb⟩
    have HS5 := Lib.hid (HST.out.carry hb)
    clear hb HST c0 c1 c2
    dsimp only
    cases z with
    | false =>
      obtain rfl : n1 = 0 := by rw [HN1.out]; exact kindM_off HZ.out.symm _
      obtain rfl : n2 = 0 := by rw [HN2.out]; exact kindM_off HZ.out.symm _
      obtain rfl : n3 = 0 := by rw [HN3.out]; exact kindM_off HZ.out.symm _
      obtain rfl : n4 = 0 := by rw [HN4.out]; exact kindM_off HZ.out.symm _
      go_wp2_with fail
      go_ret
      exact ⟨rfl, HS5.out.below⟩
    | true =>
      obtain ⟨t1, t2, t3⟩ := kinds_all HZ.out.symm
      have e1 := kindM_on HZ.out.symm 35
      have e2 := kindM_on HZ.out.symm 46
      have e3 := kindM_on HZ.out.symm 67
      have e4 := kindM_on HZ.out.symm 80
      rw [← HN1.out] at e1
      rw [← HN2.out] at e2
      rw [← HN3.out] at e3
      rw [← HN4.out] at e4
      rw [← e1, ← e2, ← e3, ← e4] at t1
      rw [← e3] at t2
      rw [← e1] at t3
      have T1 := Lib.hid t1
      have T3 := Lib.hid t3
      have T2 := Lib.hid t2
      clear e1 e2 e3 e4 t1 t2 t3 a1 a2 a3
      go_wp2_with fail
      go_loopw [5, 6] (fun o i wr => ∃ k : Nat, k ≤ s.size ∧ i = .int .i64 (k : Int) ∧ o = .int .i64 ((opensTo s.data.toList k).length : Int) ∧ LSt w p q W H s wr) (fun _ i _ => s.size - (intOf i).toNat)
      case atStart => exact ⟨0, Nat.zero_le _, rfl, rfl, HS5.out⟩
      case round =>
        obtain ⟨k, hk, rfl, rfl, hst⟩ := hrel
        have HST := Lib.hid hst
        clear hst HS5
        have c0 := HST.out.at_.w_
        have c1 := HST.out.at_.h_
        have c2 := HST.out.at_.s_
        have r2 := HST.out.ref.s_
        have hol := opensTo_le s.data.toList k
        have hos := opensTo_succ s.data.toList k
        obtain ⟨m, HM⟩ : ∃ m, Hid (m = (opensTo s.data.toList k).length) := ⟨_, Lib.hid rfl⟩
        rw [← HM.out] at hos hol ⊢
        by_cases hlt : k < s.size
        · obtain ⟨o, HO⟩ : ∃ o, Hid (o = Grid.openAt s.data.toList k) := ⟨_, Lib.hid rfl⟩
          have hop := openM_on (W := W) (H := H) hlt
          rw [← HZ.out, ← HO.out, Bool.and_true] at hop
          have HOP := Lib.hid hop
          rw [← HO.out] at hos
          have HOS := Lib.hid hos
          clear hop hos
          go_wp2_with fail
          refine (Open_any W H s k hsm _).mono ?_
          rw [HOP.out]
          rintro e w6 ⟨rfl, hb⟩
          have HS6 := Lib.hid (HST.out.carry hb)
          clear hb
          dsimp only
          cases o with
          | true =>
            go_wp2_with fail
            go_roundw
            case rel => exact ⟨k + 1, hlt, by go_num, by rw [HOS.out]; rfl, HS6.out⟩
            case measure => simp [intOf]; omega
          | false =>
            go_wp2_with fail
            go_roundw
            case rel => exact ⟨k + 1, hlt, by go_num, by rw [HOS.out]; rfl, HS6.out⟩
            case measure => simp [intOf]; omega
        · obtain rfl : k = s.size := by omega
          clear hos
          have hsum : (n1 : Int) + (n2 : Int) + (n3 : Int) + (n4 : Int) = (s.size : Int) := by have := T1.out; omega
          have hn3 : 0 < n3 := T2.out
          have hmo : m = s.size - n1 := by have := T3.out; rw [← HM.out] at this; omega
          have hmo2 : (m : Int) = (s.size : Int) - (n1 : Int) := by have := T3.out; rw [← HM.out] at this; omega
          rw [hsum]
          clear hsum hmo
          go_wp2_with fail
          refine (Kind_any W H s 35 hsm _).mono ?_
          rintro e w6 ⟨A5, c5, rfl, -, hb⟩
          rw [← HN1.out]
          have HS6 := Lib.hid (HST.out.carry hb)
          clear hb c0 c1 c2 r2
          have c0 := HS6.out.at_.w_
          have c1 := HS6.out.at_.h_
          have c2 := HS6.out.at_.s_
          dsimp only
          go_wp2_with fail
          refine (Kind_any W H s 67 hsm _).mono ?_
          rintro e w7 ⟨A6, c6, rfl, -, hb⟩
          rw [← HN3.out]
          have HS7 := Lib.hid (HS6.out.carry hb)
          clear hb c0 c1 c2
          dsimp only
          go_wp2_with fail
          go_ret
          exact ⟨rfl, HS7.out.below⟩
end Go.Proofs.YtoempilmofbhdaaDoor
