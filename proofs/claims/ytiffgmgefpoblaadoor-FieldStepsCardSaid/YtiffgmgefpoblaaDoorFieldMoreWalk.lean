/-
  The walk of FieldMore: with one source more no cost is greater, and each is that of the nearer one. Conditions: none beyond the premises of each theorem.
-/
import Derived.Test.YtiffgmgefpoblaaDoorFieldAwake
import Derived.BigQuiet
namespace Go.Proofs.YtiffgmgefpoblaaDoor
open Go.RowKit Hp Fld

theorem nums_row {w : World} {g : Nat} {F : List Int} (h : Nums w .i64 (some ⟨g, 0, none⟩) F) {i : Nat} (hi : i < F.length) : w.cell? ⟨g, i, none⟩ = some (.int .i64 (fat F i)) := by
  obtain ⟨a, e, hc⟩ := h.at_ (fat_eq hi)
  cases e
  rw [Addr.add_mid, Nat.zero_add] at hc
  exact hc
theorem least_left {xs : List UInt8} {w k i : Nat} {S T : List Int} (h : Least xs w S k i) (hT : ∀ m, Walk xs w T m i → k ≤ m) : Least xs w (S ++ T) k i :=
  ⟨walk_append.2 (.inl h.1), fun m hm => (walk_append.1 hm).elim (h.2 m) (hT m)⟩
theorem least_right {xs : List UInt8} {w k i : Nat} {S T : List Int} (h : Least xs w T k i) (hS : ∀ m, Walk xs w S m i → k ≤ m) : Least xs w (S ++ T) k i :=
  ⟨walk_append.2 (.inr h.1), fun m hm => (walk_append.1 hm).elim (hS m) (h.2 m)⟩
theorem field_more {xs : List UInt8} {w : Nat} {S T : List Int} {st : Int} {F G U : List Int} (hs : 1 ≤ st) (hf : IsField xs w S st F) (hg : IsField xs w T st G) (hu : IsField xs w (S ++ T) st U) (j : Nat) :
    (fat F j < 0 → fat U j = fat G j) ∧ (¬ fat F j < 0 → 0 ≤ fat G j → fat G j < fat F j → fat U j = fat G j) ∧ (¬ fat F j < 0 → ¬ 0 ≤ fat G j → fat U j = fat F j) ∧ (¬ fat F j < 0 → ¬ fat G j < fat F j → fat U j = fat F j) := by
  rcases hf.at_ j with ⟨f1, f2⟩ | ⟨k, f1, f2⟩
  · have hlt : fat F j < 0 := by omega
    refine ⟨fun _ => ?_, fun h => absurd hlt h, fun h => absurd hlt h, fun h => absurd hlt h⟩
    rcases hg.at_ j with ⟨g1, g2⟩ | ⟨m, g1, g2⟩
    · rw [g1]; exact hu.no fun r hr => (walk_append.1 hr).elim (f2 r) (g2 r)
    · rw [g1]; exact hu.least (least_right g2 fun r hr => absurd hr (f2 r))
  · have h0 : ¬ fat F j < 0 := by have := mul_nn k hs; omega
    refine ⟨fun h => absurd h h0, fun _ h1 h2 => ?_, fun _ h1 => ?_, fun _ h2 => ?_⟩
    · rcases hg.at_ j with ⟨g1, g2⟩ | ⟨m, g1, g2⟩
      · rw [g1] at h1; exact absurd h1 (by decide)
      · rw [g1]
        rw [f1, g1] at h2
        refine hu.least (least_right g2 fun r hr => ?_)
        have h3 := f2.2 r hr
        have h4 : ¬ k ≤ m := fun h => by have := (mul_le hs).2 h; omega
        omega
    · rcases hg.at_ j with ⟨g1, g2⟩ | ⟨m, g1, g2⟩
      · rw [f1]; exact hu.least (least_left f2 fun r hr => absurd hr (g2 r))
      · rw [g1] at h1; exact absurd (mul_nn m hs) h1
    · rcases hg.at_ j with ⟨g1, g2⟩ | ⟨m, g1, g2⟩
      · rw [f1]; exact hu.least (least_left f2 fun r hr => absurd hr (g2 r))
      · rw [f1]
        rw [f1, g1] at h2
        have h4 : k ≤ m := (mul_le hs).1 (by omega)
        exact hu.least (least_left f2 fun r hr => Nat.le_trans h4 (g2.2 r hr))
set_option maxRecDepth 100000 in
set_option maxHeartbeats 2000000 in
theorem more_walk (W H : Int) (s : ByteArray) (a b : Nat) (ha : a < 256) (hb : b < 256) (w : World) : Calls Tryd.prog 6 #[.agg #[.int .i64 W, .int .i64 H, .string s], .int .u8 (a : Int), .int .u8 (b : Int)] w fun e w' => e = .returned (.bool true) ∧ Below w.heap.size w w' := by
  obtain ⟨w1, HW1⟩ : ∃ w1, Hid (w1 = w.alloc (.cells #[.int .i64 W, .int .i64 H, .string s] 23)) := ⟨_, Lib.hid rfl⟩
  obtain ⟨p, HP⟩ : ∃ p, Hid (p = w.heap.size) := ⟨_, Lib.hid rfl⟩
  have HR1 : Hid (RefAt w1 p W H s) := Lib.hid (by rw [HW1.out, HP.out]; exact heap_alloc_new w _)
  have HB1 : Hid (Below w.heap.size w w1) := Lib.hid (by rw [HW1.out]; exact (Below.refl _ _).alloc (Nat.le_refl _) _)
  go_enter Tryd.func6, Tryd.ntmps6
  go_upto_region 1 with (fail)
  rw [← HP.out, ← HW1.out]
  clear HP HW1
  go_wp2_with fail
  refine (awake_any w1).mono ?_
  rintro e w2 ⟨rfl, hbw⟩
  have HR2 := Lib.hid (HR1.out.carry hbw)
  have HB2 := Lib.hid (HB1.out.trans (hbw.mono HB1.out.size))
  clear hbw HR1 HB1
  dsimp only
  have c0 := HR2.out.w_
  have c1 := HR2.out.h_
  have c2 := HR2.out.s_
  go_wp2_with fail
  refine (RefRight_any W H s w2).mono ?_
  obtain ⟨z, HZ⟩ : ∃ z, Hid (z = rightM W H s) := ⟨_, Lib.hid rfl⟩
  rw [← HZ.out]
  rintro e w3 ⟨rfl, hbw⟩
  have HR3 := Lib.hid (HR2.out.carry hbw)
  have HB3 := Lib.hid (HB2.out.trans (hbw.mono HB2.out.size))
  clear hbw HR2 HB2 c0 c1 c2
  dsimp only
  cases z with
  | false =>
    go_wp2_with fail
    refine (awake_any w3).mono ?_
    rintro e w4 ⟨rfl, hbw⟩
    have HB4 := Lib.hid (HB3.out.trans (hbw.mono HB3.out.size))
    clear hbw
    dsimp only
    go_wp2_with fail
    go_ret
    exact ⟨rfl, HB4.out⟩
  | true =>
    have HRT : Hid (rightM W H s = true) := Lib.hid HZ.out.symm
    obtain ⟨wd, hgt, e1, e2, h1, h8, hh1, hh8, hl, hpos, h64⟩ := right_small HRT.out
    have HWE := Lib.hid e1
    have HHE := Lib.hid e2
    have HLE := Lib.hid hl
    have hsm : s.size ≤ maxLen := by unfold maxLen; omega
    have HSM := Lib.hid hsm
    clear HZ e1 e2 hh1 hh8 hl hsm
    have c0 := HR3.out.w_
    have c1 := HR3.out.h_
    have c2 := HR3.out.s_
    go_wp2_with fail
    refine (Of_any W H s w3).mono ?_
    rintro e w4 ⟨rfl, hbw⟩
    have HR4 := Lib.hid (HR3.out.carry hbw)
    have HB4 := Lib.hid (HB3.out.trans (hbw.mono HB3.out.size))
    clear hbw HR3 HB3 c0 c1 c2
    dsimp only
    have HPL : Hid (p < w4.heap.size) := Lib.hid HR4.out.lt
    obtain ⟨w5, HW5⟩ : ∃ w5, Hid (w5 = w4.alloc (.cells #[.int .i64 W, .int .i64 H, .string s] 30)) := ⟨_, Lib.hid rfl⟩
    obtain ⟨q, HQ⟩ : ∃ q, Hid (q = w4.heap.size) := ⟨_, Lib.hid rfl⟩
    have HR5 : Hid (RefAt w5 p W H s) := Lib.hid (by rw [HW5.out]; exact HR4.out.carry ((Below.refl _ _).alloc (Nat.le_refl _) _))
    have HM5 : Hid (MapAt w5 q W H s) := Lib.hid (by rw [HW5.out, HQ.out]; exact heap_alloc_new w4 _)
    have HB5 : Hid (Below w.heap.size w w5) := Lib.hid (by rw [HW5.out]; exact HB4.out.alloc HB4.out.size _)
    go_upto_region 4 with (fail)
    rw [← HQ.out, ← HW5.out]
    clear HQ HW5 HR4 HB4 HPL
    obtain ⟨i, HI9⟩ : ∃ i, Hid (i = a % s.size) := ⟨_, Lib.hid rfl⟩
    have hi9 : i < s.size := by rw [HI9.out]; exact Nat.mod_lt _ hpos
    have i1 : (a : Int).tmod (s.size : Int) = (i : Int) := by rw [HI9.out, Int.tmod_eq_emod_of_nonneg (Int.natCast_nonneg _), Int.natCast_emod]
    have i2 : (a : Int) % (s.size : Int) = (i : Int) := by rw [HI9.out, Int.natCast_emod]
    have i4 : wrap64 (i : Int) = (i : Int) := wrap64_small (Nat.lt_of_lt_of_le hi9 (Nat.le_trans h64 (by decide)))
    have i5 : IntKind.i64.wrap (i : Int) = (i : Int) := wrapI_small (Nat.lt_of_lt_of_le hi9 (Nat.le_trans h64 (by decide)))
    have i6 : wrap64 (a : Int) = (a : Int) := wrap64_small (Nat.lt_of_lt_of_le ha (by decide))
    have i7 : IntKind.i64.wrap (a : Int) = (a : Int) := wrapI_small (Nat.lt_of_lt_of_le ha (by decide))
    obtain ⟨k, HK9⟩ : ∃ k, Hid (k = b % s.size) := ⟨_, Lib.hid rfl⟩
    have hk9 : k < s.size := by rw [HK9.out]; exact Nat.mod_lt _ hpos
    have k1 : (b : Int).tmod (s.size : Int) = (k : Int) := by rw [HK9.out, Int.tmod_eq_emod_of_nonneg (Int.natCast_nonneg _), Int.natCast_emod]
    have k2 : (b : Int) % (s.size : Int) = (k : Int) := by rw [HK9.out, Int.natCast_emod]
    have k4 : wrap64 (k : Int) = (k : Int) := wrap64_small (Nat.lt_of_lt_of_le hk9 (Nat.le_trans h64 (by decide)))
    have k5 : IntKind.i64.wrap (k : Int) = (k : Int) := wrapI_small (Nat.lt_of_lt_of_le hk9 (Nat.le_trans h64 (by decide)))
    have k6 : wrap64 (b : Int) = (b : Int) := wrap64_small (Nat.lt_of_lt_of_le hb (by decide))
    have k7 : IntKind.i64.wrap (b : Int) = (b : Int) := wrapI_small (Nat.lt_of_lt_of_le hb (by decide))
    have i3 : ¬ s.size = 0 := by omega
    have c2 := HR5.out.s_
    go_quiet (fail)
    obtain ⟨w6, HW6⟩ : ∃ w6, Hid (w6 = w5.drewN nq) := ⟨_, Lib.hid rfl⟩
    rw [← HW6.out]
    have HRw6 : Hid (RefAt w6 p W H s) := Lib.hid (by rw [HW6.out]; exact HR5.out)
    have HMw6 : Hid (MapAt w6 q W H s) := Lib.hid (by rw [HW6.out]; exact HM5.out)
    have HBw6 : Hid (Below w.heap.size w w6) := Lib.hid (by rw [HW6.out]; exact below_drewN HB5.out nq)
    clear HW6 HR5 HM5 HB5 c2 i1 i2 i4 i5 i6 i7 k1 k2 k4 k5 k6 k7
    have m0 := HMw6.out.w_
    have m1 := HMw6.out.h_
    have m2 := HMw6.out.s_
    go_wp2_with (with_reducible refine stop_at (o := ⟨some 43, _, _, _, _, _⟩) ?_)
    unfold Stopped
    refine wpList_nums rfl 24 3 .i64 1 _ rfl [(i : Int)] Tryd.underlying24 oneInt7 (by kernel_rfl) rfl (by decide) (by decide) rfl ?_
    intro w7 p9 hpe hnm hbl
    have hbn : Below w6.heap.size w6 w7 := hbl.out
    have HRw7 : Hid (RefAt w7 p W H s) := Lib.hid (HRw6.out.carry hbn)
    have HMw7 : Hid (MapAt w7 q W H s) := Lib.hid (HMw6.out.carry hbn)
    have HBw7 : Hid (Below w.heap.size w w7) := Lib.hid (HBw6.out.trans (hbn.mono HBw6.out.size))
    have hco := Lib.hid (Costs_yes (cap := 1) (st := 3) W H s hnm.out HRT.out (by decide) (by decide) (by show 1 ≤ 64; decide))
    clear hpe hnm hbl hbn HRw6 HMw6 HBw6  m0 m1 m2
    simp only [Act.put, List.setIfInBounds_toArray, List.set_cons_zero, List.set_cons_succ]
    go_wp2_with fail
    refine hco.out.mono ?_
    rintro e w8 ⟨gF, F, rfl, hg9, hrow, hfi, hbm⟩
    have hlF : F.length = s.size := by rw [hfi.len]; exact HLE.out
    rw [hlF]
    have HLF := Lib.hid hlF
    have HIF := Lib.hid hfi
    have HNFw8 := Lib.hid hrow.nums
    have HRw8 : Hid (RefAt w8 p W H s) := Lib.hid (HRw7.out.carry hbm)
    have HMw8 : Hid (MapAt w8 q W H s) := Lib.hid (HMw7.out.carry hbm)
    have HBw8 : Hid (Below w.heap.size w w8) := Lib.hid (HBw7.out.trans (hbm.mono HBw7.out.size))
    clear hco hg9 hrow hfi hbm hlF HRw7 HMw7 HBw7 
    have m0 := HMw8.out.w_
    have m1 := HMw8.out.h_
    have m2 := HMw8.out.s_
    go_wp2_with (with_reducible refine stop_at (o := ⟨some 50, _, _, _, _, _⟩) ?_)
    unfold Stopped
    refine wpList_nums rfl 24 3 .i64 1 _ rfl [(k : Int)] Tryd.underlying24 oneInt7 (by kernel_rfl) rfl (by decide) (by decide) rfl ?_
    intro w9 p9 hpe hnm hbl
    have hbn : Below w8.heap.size w8 w9 := hbl.out
    have HRw9 : Hid (RefAt w9 p W H s) := Lib.hid (HRw8.out.carry hbn)
    have HMw9 : Hid (MapAt w9 q W H s) := Lib.hid (HMw8.out.carry hbn)
    have HBw9 : Hid (Below w.heap.size w w9) := Lib.hid (HBw8.out.trans (hbn.mono HBw8.out.size))
    have HNFw9 := Lib.hid (HNFw8.out.carry hbn)
    have hco := Lib.hid (Costs_yes (cap := 1) (st := 3) W H s hnm.out HRT.out (by decide) (by decide) (by show 1 ≤ 64; decide))
    clear hpe hnm hbl hbn HRw8 HMw8 HBw8 HNFw8 m0 m1 m2
    simp only [Act.put, List.setIfInBounds_toArray, List.set_cons_zero, List.set_cons_succ]
    go_wp2_with fail
    refine hco.out.mono ?_
    rintro e wa ⟨gG, G, rfl, hg9, hrow, hfi, hbm⟩
    have hlF : G.length = s.size := by rw [hfi.len]; exact HLE.out
    rw [hlF]
    have HLG := Lib.hid hlF
    have HIG := Lib.hid hfi
    have HNGwa := Lib.hid hrow.nums
    have HRwa : Hid (RefAt wa p W H s) := Lib.hid (HRw9.out.carry hbm)
    have HMwa : Hid (MapAt wa q W H s) := Lib.hid (HMw9.out.carry hbm)
    have HBwa : Hid (Below w.heap.size w wa) := Lib.hid (HBw9.out.trans (hbm.mono HBw9.out.size))
    have HNFwa := Lib.hid (HNFw9.out.carry hbm)
    clear hco hg9 hrow hfi hbm hlF HRw9 HMw9 HBw9 HNFw9
    have m0 := HMwa.out.w_
    have m1 := HMwa.out.h_
    have m2 := HMwa.out.s_
    go_wp2_with (with_reducible refine stop_at (o := ⟨some 58, _, _, _, _, _⟩) ?_)
    unfold Stopped
    refine wpList_nums rfl 24 3 .i64 2 _ rfl [(i : Int), (k : Int)] Tryd.underlying24 oneInt7 (by kernel_rfl) rfl (by decide) (by decide) rfl ?_
    intro wb p9 hpe hnm hbl
    have hbn : Below wa.heap.size wa wb := hbl.out
    have HRwb : Hid (RefAt wb p W H s) := Lib.hid (HRwa.out.carry hbn)
    have HMwb : Hid (MapAt wb q W H s) := Lib.hid (HMwa.out.carry hbn)
    have HBwb : Hid (Below w.heap.size w wb) := Lib.hid (HBwa.out.trans (hbn.mono HBwa.out.size))
    have HNFwb := Lib.hid (HNFwa.out.carry hbn)
    have HNGwb := Lib.hid (HNGwa.out.carry hbn)
    have hco := Lib.hid (Costs_yes (cap := 2) (st := 3) W H s hnm.out HRT.out (by decide) (by decide) (by show 2 ≤ 64; decide))
    clear hpe hnm hbl hbn HRwa HMwa HBwa HNFwa HNGwa m0 m1 m2
    simp only [Act.put, List.setIfInBounds_toArray, List.set_cons_zero, List.set_cons_succ]
    go_wp2_with fail
    refine hco.out.mono ?_
    rintro e wc ⟨gU, U, rfl, hg9, hrow, hfi, hbm⟩
    have hlF : U.length = s.size := by rw [hfi.len]; exact HLE.out
    rw [hlF]
    have HLU := Lib.hid hlF
    have HIU := Lib.hid hfi
    have HNUwc := Lib.hid hrow.nums
    have HRwc : Hid (RefAt wc p W H s) := Lib.hid (HRwb.out.carry hbm)
    have HMwc : Hid (MapAt wc q W H s) := Lib.hid (HMwb.out.carry hbm)
    have HBwc : Hid (Below w.heap.size w wc) := Lib.hid (HBwb.out.trans (hbm.mono HBwb.out.size))
    have HNFwc := Lib.hid (HNFwb.out.carry hbm)
    have HNGwc := Lib.hid (HNGwb.out.carry hbm)
    clear hco hg9 hrow hfi hbm hlF HRwb HMwb HBwb HNFwb HNGwb
    have m0 := HMwc.out.w_
    have m1 := HMwc.out.h_
    have m2 := HMwc.out.s_
    have HRF : Hid (∀ j, j < s.size → wc.cell? ⟨gF, j, none⟩ = some (.int .i64 (fat F j)) ∧ wc.cell? ⟨gG, j, none⟩ = some (.int .i64 (fat G j)) ∧ wc.cell? ⟨gU, j, none⟩ = some (.int .i64 (fat U j))) := Lib.hid (fun j hj => ⟨nums_row HNFwc.out (by rw [HLF.out]; exact hj), nums_row HNGwc.out (by rw [HLG.out]; exact hj), nums_row HNUwc.out (by rw [HLU.out]; exact hj)⟩)
    have HMO : Hid (∀ j, (fat F j < 0 → fat U j = fat G j) ∧ (¬ fat F j < 0 → 0 ≤ fat G j → fat G j < fat F j → fat U j = fat G j) ∧ (¬ fat F j < 0 → ¬ 0 ≤ fat G j → fat U j = fat F j) ∧ (¬ fat F j < 0 → ¬ fat G j < fat F j → fat U j = fat F j)) := Lib.hid (fun j => field_more (by decide) HIF.out HIG.out HIU.out j)
    clear HNFwc HNGwc HNUwc HIF HIG HIU HLF HLG HLU m0 m1 m2 HMwc
    have c2 := HRwc.out.s_
    clear HRwc
    go_wp2_with fail
    go_loopw [16] (fun u wr => ∃ j : Nat, u = .int .i64 (j : Int) ∧ j ≤ s.size ∧ wr = wc) (fun u _ => s.size - (intOf u).toNat)
    case atStart => exact ⟨0, rfl, Nat.zero_le _, rfl⟩
    case round =>
      obtain ⟨j, rfl, hj, rfl⟩ := hrel
      by_cases hjl : j < s.size
      · obtain ⟨r0, r1, r2⟩ := HRF.out j hjl
        obtain ⟨mm1, mm2, mm3, mm4⟩ := HMO.out j
        obtain ⟨x, HX⟩ : ∃ x, Hid (x = fat F j) := ⟨_, Lib.hid rfl⟩
        obtain ⟨y, HY⟩ : ∃ y, Hid (y = fat G j) := ⟨_, Lib.hid rfl⟩
        obtain ⟨z, HZ⟩ : ∃ z, Hid (z = fat U j) := ⟨_, Lib.hid rfl⟩
        rw [← HX.out] at r0
        rw [← HY.out] at r1
        rw [← HZ.out] at r2
        rw [← HX.out, ← HY.out, ← HZ.out] at mm1 mm2 mm3 mm4
        clear HX HY HZ
        by_cases hx : x < 0
        · have hz := mm1 hx
          subst hz
          clear mm1 mm2 mm3 mm4
          go_wp2_with fail
          go_roundw
          case rel => exact ⟨j + 1, by go_num, hjl, by first | rfl | trivial⟩
          case measure => simp [intOf]; omega
        · by_cases hy0 : 0 ≤ y
          · by_cases hyx : y < x
            · have hz := mm2 (by omega) (by omega) (by omega)
              subst hz
              clear mm1 mm2 mm3 mm4
              go_wp2_with fail
              go_roundw
              case rel => exact ⟨j + 1, by go_num, hjl, by first | rfl | trivial⟩
              case measure => simp [intOf]; omega
            · have hz := mm4 (by omega) (by omega)
              subst hz
              clear mm1 mm2 mm3 mm4
              go_wp2_with fail
              go_roundw
              case rel => exact ⟨j + 1, by go_num, hjl, by first | rfl | trivial⟩
              case measure => simp [intOf]; omega
          · have hz := mm3 (by omega) (by omega)
            subst hz
            clear mm1 mm2 mm3 mm4
            go_wp2_with fail
            go_roundw
            case rel => exact ⟨j + 1, by go_num, hjl, by first | rfl | trivial⟩
            case measure => simp [intOf]; omega
      · obtain rfl : j = s.size := by omega
        clear HRF HMO
        go_wp2_with (go_at_call 13; refine (Num_nil _).mono ?_; rintro e w9 ⟨rfl, rfl⟩)
        go_ret
        exact ⟨rfl, HBwc.out⟩
end Go.Proofs.YtiffgmgefpoblaaDoor
