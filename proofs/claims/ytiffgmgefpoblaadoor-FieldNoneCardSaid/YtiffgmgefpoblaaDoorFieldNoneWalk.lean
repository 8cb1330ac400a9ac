/-
  The walk of FieldNone: without a source that is open all is -1, and nothing is nearer. Conditions: none beyond the premises of each theorem.
-/
import Derived.Test.YtiffgmgefpoblaaDoorFieldMoreWalk
import Derived.Test.YtiffgmgefpoblaaDoorFieldKind
namespace Go.Proofs.YtiffgmgefpoblaaDoor
open Go.RowKit Hp Fld

theorem downZ_none {W H : Int} {s : ByteArray} {F : List Int} {c : Int} (h : ∀ j, fat F j < 0) : downZ W H s F c = [] := by
  unfold downZ
  split
  · have : lows F (fat F c.toNat) (nearM W H s c) = [] := List.eq_nil_iff_forall_not_mem.2 fun x hx => by
      have h1 := (mem_lows.1 hx).2.1
      have h2 := h x
      omega
    rw [this]; rfl
  · rfl
theorem walls_shut {W H : Int} {s : ByteArray} (hr : rightM W H s = true) (i : Nat) (hi : (i : Int) ∈ ints (kindM W H s 35) ++ [-1, 64]) : Grid.openAt s.data.toList i = false := by
  obtain ⟨a, b, _, _, _, _, _, _, hlen, _, h64⟩ := right_small hr
  cases ho : Grid.openAt s.data.toList i with
  | false => rfl
  | true =>
    have hlt := Grid.openAt_lt ho
    exfalso
    rcases List.mem_append.1 hi with h | h
    · obtain ⟨n, hn, he⟩ := List.mem_map.1 h
      obtain rfl : n = i := by omega
      unfold kindM at hn
      rw [if_pos hr] at hn
      unfold Grid.kinds at hn
      have h2 := (List.mem_filter.1 hn).2
      rw [List.getElem?_eq_getElem hlt] at h2
      have h3 : s.data.toList[n] = 35 := by simpa using h2
      rw [Grid.openAt_eq hlt, h3] at ho
      cases ho
    · simp only [List.mem_cons, List.not_mem_nil, or_false] at h
      omega
theorem kind_le (W H : Int) (s : ByteArray) (k : UInt8) (h : rightM W H s = true) : (kindM W H s k).length ≤ 64 := by
  obtain ⟨a, b, _, _, _, _, _, _, hlen, _, h64⟩ := right_small h
  unfold kindM
  rw [if_pos h]
  unfold Grid.kinds
  refine Nat.le_trans (List.length_filter_le _ _) ?_
  rw [List.length_range]
  omega
theorem own_carry9 {w w' : World} {B k n : Nat} {e : TypeId} {v : Value} {xs : List Value} (h : w.ownsRow B e k v n xs) (hb : Below w.heap.size w w') : w'.ownsRow B e k v n xs :=
  h.kept (row := none) ⟨hb.os, hb.tape, hb.output, hb.size, fun k hk _ => hb.block k hk⟩ (by cases v.ownBlock <;> simp)
set_option maxRecDepth 100000 in
set_option maxHeartbeats 2000000 in
theorem none_walk (W H : Int) (s : ByteArray) (c : Nat) (hc : c < 256) (w : World) (hg : Laid w) : Calls Tryd.prog 8 #[.agg #[.int .i64 W, .int .i64 H, .string s], .int .u8 (c : Int)] w fun e w' => e = .returned (.bool true) ∧ Below w.heap.size w w' := by
  obtain ⟨w1, HW1⟩ : ∃ w1, Hid (w1 = w.alloc (.cells #[.int .i64 W, .int .i64 H, .string s] 23)) := ⟨_, Lib.hid rfl⟩
  obtain ⟨p, HP⟩ : ∃ p, Hid (p = w.heap.size) := ⟨_, Lib.hid rfl⟩
  have HR1 : Hid (RefAt w1 p W H s) := Lib.hid (by rw [HW1.out, HP.out]; exact heap_alloc_new w _)
  have HB1 : Hid (Below w.heap.size w w1) := Lib.hid (by rw [HW1.out]; exact (Below.refl _ _).alloc (Nat.le_refl _) _)
  go_enter Tryd.func8, Tryd.ntmps8
  go_upto_region 1 with (fail)
  rw [← HP.out, ← HW1.out]
  have HPB : Hid (w.heap.size ≤ p) := Lib.hid (by rw [HP.out]; exact Nat.le_refl _)
  clear HP HW1
  go_wp2_with fail
  refine (awake_any w1).mono ?_
  rintro e w2 ⟨rfl, hbw⟩
  have HR2 := Lib.hid (HR1.out.carry hbw)
  have HB2 := Lib.hid (HB1.out.trans (hbw.mono HB1.out.size))
  clear hbw HR1 HB1
  dsimp only
  have c0 := HR2.out.w_
  have c1 := HR2.out.h_
  have c2 := HR2.out.s_
  go_wp2_with fail
  refine (RefRight_any W H s w2).mono ?_
  obtain ⟨z, HZ⟩ : ∃ z, Hid (z = rightM W H s) := ⟨_, Lib.hid rfl⟩
  rw [← HZ.out]
  rintro e w3 ⟨rfl, hbw⟩
  have HR3 := Lib.hid (HR2.out.carry hbw)
  have HB3 := Lib.hid (HB2.out.trans (hbw.mono HB2.out.size))
  clear hbw HR2 HB2 c0 c1 c2
  dsimp only
  cases z with
  | false =>
    go_wp2_with fail
    refine (awake_any w3).mono ?_
    rintro e w4 ⟨rfl, hbw⟩
    have HB4 := Lib.hid (HB3.out.trans (hbw.mono HB3.out.size))
    clear hbw
    dsimp only
    go_wp2_with fail
    go_ret
    exact ⟨rfl, HB4.out⟩
  | true =>
    have HRT : Hid (rightM W H s = true) := Lib.hid HZ.out.symm
    obtain ⟨wd, hgt, e1, e2, h1, h8, hh1, hh8, hl, hpos, h64⟩ := right_small HRT.out
    have HWE := Lib.hid e1
    have HHE := Lib.hid e2
    have HLE := Lib.hid hl
    have hsm : s.size ≤ maxLen := by unfold maxLen; omega
    have HSM := Lib.hid hsm
    clear HZ e1 e2 hh1 hh8 hl hsm
    have c0 := HR3.out.w_
    have c1 := HR3.out.h_
    have c2 := HR3.out.s_
    go_wp2_with fail
    refine (Of_any W H s w3).mono ?_
    rintro e w4 ⟨rfl, hbw⟩
    have HR4 := Lib.hid (HR3.out.carry hbw)
    have HB4 := Lib.hid (HB3.out.trans (hbw.mono HB3.out.size))
    clear hbw HR3 HB3 c0 c1 c2
    dsimp only
    have HPL : Hid (p < w4.heap.size) := Lib.hid HR4.out.lt
    obtain ⟨w5, HW5⟩ : ∃ w5, Hid (w5 = w4.alloc (.cells #[.int .i64 W, .int .i64 H, .string s] 30)) := ⟨_, Lib.hid rfl⟩
    obtain ⟨q, HQ⟩ : ∃ q, Hid (q = w4.heap.size) := ⟨_, Lib.hid rfl⟩
    have HR5 : Hid (RefAt w5 p W H s) := Lib.hid (by rw [HW5.out]; exact HR4.out.carry ((Below.refl _ _).alloc (Nat.le_refl _) _))
    have HM5 : Hid (MapAt w5 q W H s) := Lib.hid (by rw [HW5.out, HQ.out]; exact heap_alloc_new w4 _)
    have HB5 : Hid (Below w.heap.size w w5) := Lib.hid (by rw [HW5.out]; exact HB4.out.alloc HB4.out.size _)
    go_upto_region 4 with (fail)
    rw [← HQ.out, ← HW5.out]
    clear HQ HW5 HR4 HB4 HPL
    obtain ⟨k, HK9⟩ : ∃ k, Hid (k = c % s.size) := ⟨_, Lib.hid rfl⟩
    have hk9 : k < s.size := by rw [HK9.out]; exact Nat.mod_lt _ hpos
    have k1 : (c : Int).tmod (s.size : Int) = (k : Int) := by rw [HK9.out, Int.tmod_eq_emod_of_nonneg (Int.natCast_nonneg _), Int.natCast_emod]
    have k2 : (c : Int) % (s.size : Int) = (k : Int) := by rw [HK9.out, Int.natCast_emod]
    have k4 : wrap64 (k : Int) = (k : Int) := wrap64_small (Nat.lt_of_lt_of_le hk9 (Nat.le_trans h64 (by decide)))
    have k5 : IntKind.i64.wrap (k : Int) = (k : Int) := wrapI_small (Nat.lt_of_lt_of_le hk9 (Nat.le_trans h64 (by decide)))
    have k6 : wrap64 (c : Int) = (c : Int) := wrap64_small (Nat.lt_of_lt_of_le hc (by decide))
    have k7 : IntKind.i64.wrap (c : Int) = (c : Int) := wrapI_small (Nat.lt_of_lt_of_le hc (by decide))
    have k3 : ¬ s.size = 0 := by omega
    obtain ⟨l, HL⟩ : ∃ l, Hid (l = kindM W H s 35) := ⟨_, Lib.hid rfl⟩
    have HL64 : Hid (l.length ≤ 64) := Lib.hid (by rw [HL.out]; exact kind_le _ _ _ _ HRT.out)
    obtain ⟨ii, hj0, hj1, hj2, hj3⟩ := info_parts Tryd.infoNum
    refine wp_region_held (S := fun w9 => w9.cell? ⟨q, 0, none⟩ = some (.int .i64 W) ∧ w9.cell? ⟨q, 1, none⟩ = some (.int .i64 H) ∧ w9.cell? ⟨q, 2, none⟩ = some (.string s)) (by kernel_rfl) ?_
    change wpAnyH _ _ _ _ _ _ _ _ w5.drew
    obtain ⟨wa, HWA⟩ : ∃ wa, Hid (wa = w5.drew) := ⟨_, Lib.hid rfl⟩
    rw [← HWA.out]
    have HMw : Hid (MapAt wa q W H s) := Lib.hid (by rw [HWA.out]; exact HM5.out)
    have HRw : Hid (RefAt wa p W H s) := Lib.hid (by rw [HWA.out]; exact HR5.out)
    have HBw : Hid (Below w.heap.size w wa) := Lib.hid (by rw [HWA.out]; exact HB5.out.drew)
    clear HWA HR5 HM5 HB5
    have hS : wa.cell? ⟨q, 0, none⟩ = some (.int .i64 W) ∧ wa.cell? ⟨q, 1, none⟩ = some (.int .i64 H) ∧ wa.cell? ⟨q, 2, none⟩ = some (.string s) := ⟨HMw.out.w_, HMw.out.h_, HMw.out.s_⟩
    refine takeH (i := 0) 21 (v := .agg #[.int .i64 W, .int .i64 H, .string s]) rfl (by kernel_rfl) (by kernel_rfl) (by kernel_rfl) rfl (fun _ _ _ h => h) (.inl ⟨by rfl, fun _ h => by have s0 := h.1; have s1 := h.2.1; have s2 := h.2.2; go_simp⟩) hS ?_
    simp only [Act.put, List.setIfInBounds_toArray, List.set_cons_zero, List.set_cons_succ]
    refine takeH (i := 1) 22 (v := .agg #[.int .i64 W, .int .i64 H, .string s]) rfl (by kernel_rfl) (by kernel_rfl) (by kernel_rfl) rfl (fun _ _ _ h => h) (.inl ⟨by rfl, fun _ h => by have s0 := h.1; have s1 := h.2.1; have s2 := h.2.2; go_simp⟩) hS ?_
    simp only [Act.put, List.setIfInBounds_toArray, List.set_cons_zero, List.set_cons_succ]
    refine twoH (i := 2) (j := 3) (oi := ⟨some 23, _, _, _, _, _⟩) (oj := ⟨some 24, _, _, _, _, _⟩) rfl rfl (by kernel_rfl) (fun K hK => ?_) (fun K hK => ?_)
    · go_simp
      have hk9 := Kind_own W H s 35 HSM.out wa
      rw [show ((35 : UInt8).toNat : Int) = 35 from rfl, ← HL.out] at hk9
      refine hk9.mono ?_
      rintro e wb ⟨v, rfl, hown, hbw⟩
      have HOW := Lib.hid hown
      have HMx : Hid (MapAt wb q W H s) := Lib.hid (HMw.out.carry hbw)
      have HRx : Hid (RefAt wb p W H s) := Lib.hid (HRw.out.carry hbw)
      have HBx : Hid (Below w.heap.size w wb) := Lib.hid (HBw.out.trans (hbw.mono HBw.out.size))
      refine hK.out _ _ ⟨HMx.out.w_, HMx.out.h_, HMx.out.s_⟩ ?_
      obtain ⟨base, HBA⟩ : ∃ base, Hid (base = wa.heap.size) := ⟨_, Lib.hid rfl⟩
      rw [← HBA.out] at HOW
      have HQB : Hid (q < base ∧ p < base ∧ w.heap.size ≤ base) := Lib.hid (by rw [HBA.out]; exact ⟨HMw.out.lt, HRw.out.lt, HBw.out.size⟩)
      have HBS0 : Hid (base ≤ wb.heap.size) := Lib.hid (by rw [HBA.out]; exact hbw.size)
      clear hown hbw hk9 HBA
      clear hK K hS HMw HRw HBw
      have HMw := HMx
      have HRw := HRx
      have HBw := HBx
      clear HMx HRx HBx
      refine oneH (i := 3) (oi := ⟨some 24, _, _, _, _, _⟩) rfl (by kernel_rfl) (fun K hK => ?_)
      have hS : wb.cell? ⟨q, 0, none⟩ = some (.int .i64 W) ∧ wb.cell? ⟨q, 1, none⟩ = some (.int .i64 H) ∧ wb.cell? ⟨q, 2, none⟩ = some (.string s) := ⟨HMw.out.w_, HMw.out.h_, HMw.out.s_⟩
      rw [if_pos (by rfl)]
      refine wp_nums 24 3 .i64 2 _ rfl [-1, 64] Tryd.underlying24 oneInt7 (by kernel_rfl) rfl (by decide) (by decide) rfl ?_
      intro wc g5 hge hnn hbn
      have HNN : Hid (Nums wc .i64 (some ⟨g5, 0, none⟩) [-1, 64]) := Lib.hid hnn.out
      have HMx : Hid (MapAt wc q W H s) := Lib.hid (HMw.out.carry hbn.out)
      have HRx : Hid (RefAt wc p W H s) := Lib.hid (HRw.out.carry hbn.out)
      have HBx : Hid (Below w.heap.size w wc) := Lib.hid (HBw.out.trans (hbn.out.mono HBw.out.size))
      refine hK.out _ _ ⟨HMx.out.w_, HMx.out.h_, HMx.out.s_⟩ ?_
      simp only [Act.put, List.setIfInBounds_toArray, List.set_cons_zero, List.set_cons_succ]
      have HO2 : Hid (wc.ownsRow base 3 1 v l.length (numCells l)) := Lib.hid (own_carry9 HOW.out hbn.out)
      have HBS : Hid (base ≤ wc.heap.size) := Lib.hid (Nat.le_trans HBS0.out hbn.out.size)
      clear HOW HBS0 hge hnn hbn
      have HOW := HO2
      clear HO2
      clear hK K hS HMw HRw HBw
      have HMw := HMx
      have HRw := HRx
      have HBw := HBx
      clear HMx HRx HBx
      have hS : wc.cell? ⟨q, 0, none⟩ = some (.int .i64 W) ∧ wc.cell? ⟨q, 1, none⟩ = some (.int .i64 H) ∧ wc.cell? ⟨q, 2, none⟩ = some (.string s) := ⟨HMw.out.w_, HMw.out.h_, HMw.out.s_⟩
      have hn5 : ∀ (j : Nat) u, ([.int .i64 (-1), .int .i64 64] : List Value)[j]? = some u → wc.cell? ((⟨g5, 0, none⟩ : Addr).add j) = some u := fun j u hu => by
        match j, hu with
        | 0, hu => obtain rfl := Option.some.inj hu; obtain ⟨a9, e9, _, hc9⟩ := HNN.out (by simp); cases e9; exact hc9 0 (-1) rfl
        | 1, hu => obtain rfl := Option.some.inj hu; obtain ⟨a9, e9, _, hc9⟩ := HNN.out (by simp); cases e9; exact hc9 1 64 rfl
      have hl64 := HL64.out
      refine oneH (i := 4) (oi := ⟨some 25, _, _, _, _, _⟩) rfl (by kernel_rfl) (fun K hK => ?_)
      refine step_append_lies _ rfl _ _ _ rfl base 3 ii _ 1 8 Tryd.underlying24 hj0 hj1 hj2 hj3 rfl (by decide) v l.length (numCells l) rfl HOW.out ⟨g5, 0, none⟩ 2 2 [.int .i64 (-1), .int .i64 64] rfl rfl hn5 (fun u hu => by simp only [List.mem_cons, List.not_mem_nil, or_false] at hu; rcases hu with rfl | rfl <;> rfl)
        (by decide) (by unfold maxLen; omega) (by omega) HBS.out wc.heap.size rfl ?_
      intro gS capS w7 hown7 hgrow hat hlt
      have HMx : Hid (MapAt w7 q W H s) := Lib.hid ((hgrow.block q HMw.out.lt (fun e => by have := (HOW.out.lt q e.symm).1; have := HQB.out.1; omega)).trans HMw.out)
      have HRx : Hid (RefAt w7 p W H s) := Lib.hid ((hgrow.block p HRw.out.lt (fun e => by have := (HOW.out.lt p e.symm).1; have := HQB.out.2.1; omega)).trans HRw.out)
      have HBx : Hid (Below w.heap.size w w7) := Lib.hid (HBw.out.grown hgrow HBw.out.size (fun t e => by have := (HOW.out.lt t e).1; have := HQB.out.2.2; omega))
      obtain ⟨S, HSS⟩ : ∃ S, Hid (S = ints l ++ [-1, 64]) := ⟨_, Lib.hid rfl⟩
      have HSL : Hid (S.length = l.length + 2) := Lib.hid (by rw [HSS.out, List.length_append, ints_length]; rfl)
      have HNS : Hid (Nums w7 .i64 (some ⟨gS, 0, none⟩) S) := Lib.hid (by
        refine Nums.own (base := base) (e := 3) (n := l.length + 2) (c := capS) ?_
        rw [HSS.out, List.map_append, ← numCells_ints]
        exact hown7)
      have HNO : Hid (∀ i : Nat, (i : Int) ∈ S → Grid.openAt s.data.toList i = false) := Lib.hid (by rw [HSS.out, HL.out]; exact walls_shut HRT.out)
      refine hK.out _ _ ⟨HMx.out.w_, HMx.out.h_, HMx.out.s_⟩ ?_
      simp only [Act.put, List.setIfInBounds_toArray, List.set_cons_zero, List.set_cons_succ]
      clear hown7 hgrow hat hlt hn5 HNN HOW HBS hl64
      clear hK K hS HMw HRw HBw
      have HMw := HMx
      have HRw := HRx
      have HBw := HBx
      clear HMx HRx HBx
      by_cases hS64 : S.length ≤ 64
      · have hco := Lib.hid (Costs_yes (cap := capS) (st := 1) W H s HNS.out HRT.out (by decide) (by decide) hS64)
        rw [HSL.out] at hco
        refine oneH (i := 5) (oi := ⟨some 26, _, _, _, _, _⟩) rfl (by kernel_rfl) (fun K hK => ?_)
        go_simp
        refine hco.out.mono ?_
        rintro e w8 ⟨gF, F, rfl, hg9, hrow, hfi, hbm⟩
        have hlF : F.length = s.size := by rw [hfi.len]; exact HLE.out
        rw [hlF]
        have HFN : Hid (∀ j, fat F j = -1) := Lib.hid (fun j => hfi.no fun r hr => no_walk HNO.out hr)
        have HLF := Lib.hid hlF
        have HNF : Hid (Nums w8 .i64 (some ⟨gF, 0, none⟩) F) := Lib.hid hrow.nums
        have HMx : Hid (MapAt w8 q W H s) := Lib.hid (HMw.out.carry hbm)
        have HRx : Hid (RefAt w8 p W H s) := Lib.hid (HRw.out.carry hbm)
        have HBx : Hid (Below w.heap.size w w8) := Lib.hid (HBw.out.trans (hbm.mono HBw.out.size))
        refine hK.out _ _ ⟨HMx.out.w_, HMx.out.h_, HMx.out.s_⟩ ?_
        clear hco hbm HNS hg9 hrow hfi hlF
        clear hK K HMw HRw HBw
        have HMw := HMx
        have HRw := HRx
        have HBw := HBx
        clear HMx HRx HBx
        have hS : w8.cell? ⟨q, 0, none⟩ = some (.int .i64 W) ∧ w8.cell? ⟨q, 1, none⟩ = some (.int .i64 H) ∧ w8.cell? ⟨q, 2, none⟩ = some (.string s) := ⟨HMw.out.w_, HMw.out.h_, HMw.out.s_⟩
        refine takeH (i := 6) 20 (v := (.tuple #[.slice (some ⟨gF, 0, none⟩) s.size s.size, .nilIface])) rfl (by kernel_rfl) (by kernel_rfl) (by kernel_rfl) rfl (fun _ _ _ h => h) (.inl ⟨by rfl, fun _ h => by have s0 := h.1; have s1 := h.2.1; have s2 := h.2.2; go_simp⟩) hS ?_
        simp only [Act.put, List.setIfInBounds_toArray, List.set_cons_zero, List.set_cons_succ]
        refine takeH (i := 7) 27 (v := (.slice (some ⟨gF, 0, none⟩) s.size s.size)) rfl (by kernel_rfl) (by kernel_rfl) (by kernel_rfl) rfl (fun _ _ _ h => h) (.inl ⟨by rfl, fun _ h => by have s0 := h.1; have s1 := h.2.1; have s2 := h.2.2; go_simp⟩) hS ?_
        simp only [Act.put, List.setIfInBounds_toArray, List.set_cons_zero, List.set_cons_succ]
        refine takeH (i := 8) 28 (v := (.nilIface)) rfl (by kernel_rfl) (by kernel_rfl) (by kernel_rfl) rfl (fun _ _ _ h => h) (.inl ⟨by rfl, fun _ h => by have s0 := h.1; have s1 := h.2.1; have s2 := h.2.2; go_simp⟩) hS ?_
        simp only [Act.put, List.setIfInBounds_toArray, List.set_cons_zero, List.set_cons_succ]
        refine takeH (i := 9) 6 (v := (.slice (some ⟨gF, 0, none⟩) s.size s.size)) rfl (by kernel_rfl) (by kernel_rfl) (by kernel_rfl) rfl (fun _ _ _ h => h) (.inl ⟨by rfl, fun _ h => by have s0 := h.1; have s1 := h.2.1; have s2 := h.2.2; go_simp⟩) hS ?_
        simp only [Act.put, List.setIfInBounds_toArray, List.set_cons_zero, List.set_cons_succ]
        refine takeH (i := 10) 7 (v := (.nilIface)) rfl (by kernel_rfl) (by kernel_rfl) (by kernel_rfl) rfl (fun _ _ _ h => h) (.inl ⟨by rfl, fun _ h => by have s0 := h.1; have s1 := h.2.1; have s2 := h.2.2; go_simp⟩) hS ?_
        simp only [Act.put, List.setIfInBounds_toArray, List.set_cons_zero, List.set_cons_succ]
        refine wpAnyH_done (by kernel_rfl) ?_ _
        clear hS
        have c0 := HRw.out.w_
        have c1 := HRw.out.h_
        have c2 := HRw.out.s_
        have m0 := HMw.out.w_
        have m1 := HMw.out.h_
        have m2 := HMw.out.s_
        go_wp2_with fail
        go_loopw [8] (fun u wr => ∃ j : Nat, u = .int .i64 (j : Int) ∧ j ≤ s.size ∧ wr = w8) (fun u _ => s.size - (intOf u).toNat)
        case atStart => exact ⟨0, rfl, Nat.zero_le _, rfl⟩
        case round =>
          obtain ⟨j, rfl, hj, rfl⟩ := hrel
          by_cases hjl : j < s.size
          · have r0 := nums_row HNF.out (i := j) (by rw [HLF.out]; exact hjl)
            rw [HFN.out j] at r0
            go_wp2_with fail
            go_roundw
            case rel => exact ⟨j + 1, by go_num, hjl, by first | rfl | trivial⟩
            case measure => simp [intOf]; omega
          · obtain rfl : j = s.size := by omega
            have hdz : downZ W H s F (k : Int) = [] := downZ_none (fun j => by rw [HFN.out j]; decide)
            have hwz : wayZ W H s F (k : Int) = [] := wayM_nil hdz
            have HDZ := Lib.hid hdz
            have HWZ := Lib.hid hwz
            have hdo := fun (w9 : World) (h9 : Nums w9 .i64 (some ⟨gF, 0, none⟩) F) => Down_any (w := w9) (cap := s.size) (F := F) W H s (k : Int) HSM.out (by rw [HLF.out]; exact HSM.out) h9
            have hwo := fun (w9 : World) (h9 : Nums w9 .i64 (some ⟨gF, 0, none⟩) F) => Way_any (w := w9) (cap := s.size) (F := F) W H s (k : Int) HSM.out (by rw [HLF.out]; exact HSM.out) h9
            rw [hdz, HLF.out] at hdo
            rw [hwz, HLF.out] at hwo
            have HDO := Lib.hid (hdo wr HNF.out)
            have HWO := Lib.hid hwo
            clear hdz hwz hdo hwo
            go_wp2_with (go_at_call 13; refine (Num_nil _).mono ?_; rintro e w9 ⟨rfl, rfl⟩)
            refine HDO.out.mono ?_
            rintro e w9 ⟨A9, cap9, rfl, _, hb9, _⟩
            have HBy : Hid (Below w.heap.size w w9) := Lib.hid (HBw.out.trans (hb9.mono HBw.out.size))
            have HMy : Hid (MapAt w9 q W H s) := Lib.hid (HMw.out.carry hb9)
            have HNy := Lib.hid (HNF.out.carry hb9)
            clear HDO hb9 c0 c1 c2 m0 m1 m2
            have m0 := HMy.out.w_
            have m1 := HMy.out.h_
            have m2 := HMy.out.s_
            have hwo := Lib.hid (HWO.out w9 HNy.out)
            go_wp2_with fail
            refine hwo.out.mono ?_
            rintro e wz ⟨A8, cap8, rfl, _, hb8, _⟩
            have HBz : Hid (Below w.heap.size w wz) := Lib.hid (HBy.out.trans (hb8.mono HBy.out.size))
            clear hb8 hwo m0 m1 m2
            go_wp2_with fail
            go_ret
            exact ⟨rfl, HBz.out⟩
      · have hco := Lib.hid (Costs_no (w := w7) (A := some ⟨gS, 0, none⟩) (cap := capS) (S := S) (st := 1) W H s HSM.out (by unfold maxLen; have := HSL.out; have := HL64.out; omega) (fun h => hS64 h.1))
        rw [HSL.out] at hco
        refine oneH (i := 5) (oi := ⟨some 26, _, _, _, _, _⟩) rfl (by kernel_rfl) (fun K hK => ?_)
        go_simp
        refine hco.out.mono ?_
        rintro e w8 ⟨ev, rfl, herr, hbm⟩
        have HER := Lib.hid herr
        have HMx : Hid (MapAt w8 q W H s) := Lib.hid (HMw.out.carry hbm)
        have HRx : Hid (RefAt w8 p W H s) := Lib.hid (HRw.out.carry hbm)
        have HBx : Hid (Below w.heap.size w w8) := Lib.hid (HBw.out.trans (hbm.mono HBw.out.size))
        refine hK.out _ _ ⟨HMx.out.w_, HMx.out.h_, HMx.out.s_⟩ ?_
        clear hco hbm HNS herr
        clear hK K HMw HRw HBw
        have HMw := HMx
        have HRw := HRx
        have HBw := HBx
        clear HMx HRx HBx
        have hS : w8.cell? ⟨q, 0, none⟩ = some (.int .i64 W) ∧ w8.cell? ⟨q, 1, none⟩ = some (.int .i64 H) ∧ w8.cell? ⟨q, 2, none⟩ = some (.string s) := ⟨HMw.out.w_, HMw.out.h_, HMw.out.s_⟩
        refine takeH (i := 6) 20 (v := (.tuple #[.slice none 0 0, ev])) rfl (by kernel_rfl) (by kernel_rfl) (by kernel_rfl) rfl (fun _ _ _ h => h) (.inl ⟨by rfl, fun _ h => by have s0 := h.1; have s1 := h.2.1; have s2 := h.2.2; go_simp⟩) hS ?_
        simp only [Act.put, List.setIfInBounds_toArray, List.set_cons_zero, List.set_cons_succ]
        refine takeH (i := 7) 27 (v := (.slice none 0 0)) rfl (by kernel_rfl) (by kernel_rfl) (by kernel_rfl) rfl (fun _ _ _ h => h) (.inl ⟨by rfl, fun _ h => by have s0 := h.1; have s1 := h.2.1; have s2 := h.2.2; go_simp⟩) hS ?_
        simp only [Act.put, List.setIfInBounds_toArray, List.set_cons_zero, List.set_cons_succ]
        refine takeH (i := 8) 28 (v := ev) rfl (by kernel_rfl) (by kernel_rfl) (by kernel_rfl) rfl (fun _ _ _ h => h) (.inl ⟨by rfl, fun _ h => by have s0 := h.1; have s1 := h.2.1; have s2 := h.2.2; go_simp⟩) hS ?_
        simp only [Act.put, List.setIfInBounds_toArray, List.set_cons_zero, List.set_cons_succ]
        refine takeH (i := 9) 6 (v := (.slice none 0 0)) rfl (by kernel_rfl) (by kernel_rfl) (by kernel_rfl) rfl (fun _ _ _ h => h) (.inl ⟨by rfl, fun _ h => by have s0 := h.1; have s1 := h.2.1; have s2 := h.2.2; go_simp⟩) hS ?_
        simp only [Act.put, List.setIfInBounds_toArray, List.set_cons_zero, List.set_cons_succ]
        refine takeH (i := 10) 7 (v := ev) rfl (by kernel_rfl) (by kernel_rfl) (by kernel_rfl) rfl (fun _ _ _ h => h) (.inl ⟨by rfl, fun _ h => by have s0 := h.1; have s1 := h.2.1; have s2 := h.2.2; go_simp⟩) hS ?_
        simp only [Act.put, List.setIfInBounds_toArray, List.set_cons_zero, List.set_cons_succ]
        refine wpAnyH_done (by kernel_rfl) ?_ _
        clear hS
        have c0 := HRw.out.w_
        have c1 := HRw.out.h_
        have c2 := HRw.out.s_
        have m0 := HMw.out.w_
        have m1 := HMw.out.h_
        have m2 := HMw.out.s_
        go_wp2_with fail
        go_loopw [8] (fun u wr => ∃ j : Nat, u = .int .i64 (j : Int) ∧ j ≤ 0 ∧ wr = w8) (fun u _ => 0 - (intOf u).toNat)
        case atStart => exact ⟨0, rfl, Nat.zero_le _, rfl⟩
        case round =>
          obtain ⟨j, rfl, hj, rfl⟩ := hrel
          obtain rfl : j = 0 := by omega
          have hdz : downZ W H s [] (k : Int) = [] := by unfold downZ; rw [if_neg (by show ¬ 0 = s.size; omega)]
          have hwz : wayZ W H s [] (k : Int) = [] := wayM_nil hdz
          have hdo := fun w9 => Down_any (w := w9) (A := none) (cap := 0) (F := []) W H s (k : Int) HSM.out (by simp) (Nums.none_ _ _ _)
          have hwo := fun w9 => Way_any (w := w9) (A := none) (cap := 0) (F := []) W H s (k : Int) HSM.out (by simp) (Nums.none_ _ _ _)
          rw [hdz] at hdo
          rw [hwz] at hwo
          have HDO := Lib.hid hdo
          have HWO := Lib.hid hwo
          clear hdz hwz hdo hwo
          have hnu := Lib.hid (Num_any 1 ev wr HER.out.is (hg.carry HBw.out))
          go_wp2_with fail
          refine hnu.out.mono ?_
          rintro e w9 ⟨rfl, hb9⟩
          have HBy : Hid (Below w.heap.size w w9) := Lib.hid (HBw.out.trans (hb9.mono HBw.out.size))
          have HMy : Hid (MapAt w9 q W H s) := Lib.hid (HMw.out.carry hb9)
          clear hnu hb9 c0 c1 c2 m0 m1 m2 HBw HMw HRw
          have m0 := HMy.out.w_
          have m1 := HMy.out.h_
          have m2 := HMy.out.s_
          have hk9 := Kind_own W H s 35 HSM.out w9
          rw [show ((35 : UInt8).toNat : Int) = 35 from rfl, ← HL.out] at hk9
          go_wp2_with fail
          refine hk9.mono ?_
          rintro e wa2 ⟨v2, rfl, hown2, hb9⟩
          obtain ⟨Av, capv, hv2, _⟩ := ListBox.nums hown2
          subst hv2
          have HBa : Hid (Below w.heap.size w wa2) := Lib.hid (HBy.out.trans (hb9.mono HBy.out.size))
          have HMa : Hid (MapAt wa2 q W H s) := Lib.hid (HMy.out.carry hb9)
          clear hk9 hown2 hb9 m0 m1 m2 HBy HMy
          have m0 := HMa.out.w_
          have m1 := HMa.out.h_
          have m2 := HMa.out.s_
          have h62 : (62 : Int) < (l.length : Int) := by have := HSL.out; omega
          have hdo := Lib.hid (HDO.out wa2)
          go_wp2_with fail
          refine hdo.out.mono ?_
          rintro e w10 ⟨A9, cap9, rfl, _, hb9, _⟩
          have HBy : Hid (Below w.heap.size w w10) := Lib.hid (HBa.out.trans (hb9.mono HBa.out.size))
          have HMy : Hid (MapAt w10 q W H s) := Lib.hid (HMa.out.carry hb9)
          clear hdo hb9 m0 m1 m2 HBa HMa
          have m0 := HMy.out.w_
          have m1 := HMy.out.h_
          have m2 := HMy.out.s_
          have hwo := Lib.hid (HWO.out w10)
          go_wp2_with fail
          refine hwo.out.mono ?_
          rintro e wz ⟨A8, cap8, rfl, _, hb8, _⟩
          have HBz : Hid (Below w.heap.size w wz) := Lib.hid (HBy.out.trans (hb8.mono HBy.out.size))
          clear hb8 hwo m0 m1 m2
          go_wp2_with fail
          go_ret
          exact ⟨rfl, HBz.out⟩
    · rw [if_pos (by rfl)]
      refine wp_nums 24 3 .i64 2 _ rfl [-1, 64] Tryd.underlying24 oneInt7 (by kernel_rfl) rfl (by decide) (by decide) rfl ?_
      intro wb g5 hge hnn hbn
      have HNN : Hid (Nums wb .i64 (some ⟨g5, 0, none⟩) [-1, 64]) := Lib.hid hnn.out
      have HMx : Hid (MapAt wb q W H s) := Lib.hid (HMw.out.carry hbn.out)
      have HRx : Hid (RefAt wb p W H s) := Lib.hid (HRw.out.carry hbn.out)
      have HBx : Hid (Below w.heap.size w wb) := Lib.hid (HBw.out.trans (hbn.out.mono HBw.out.size))
      refine hK.out _ _ ⟨HMx.out.w_, HMx.out.h_, HMx.out.s_⟩ ?_
      simp only [Act.put, List.setIfInBounds_toArray, List.set_cons_zero, List.set_cons_succ]
      have HPQ : Hid (q < wb.heap.size ∧ p < wb.heap.size ∧ w.heap.size ≤ wb.heap.size) := Lib.hid ⟨HMx.out.lt, HRx.out.lt, HBx.out.size⟩
      clear hge hnn hbn
      clear hK K hS HMw HRw HBw
      have HMw := HMx
      have HRw := HRx
      have HBw := HBx
      clear HMx HRx HBx
      refine oneH (i := 2) (oi := ⟨some 23, _, _, _, _, _⟩) rfl (by kernel_rfl) (fun K hK => ?_)
      have hS : wb.cell? ⟨q, 0, none⟩ = some (.int .i64 W) ∧ wb.cell? ⟨q, 1, none⟩ = some (.int .i64 H) ∧ wb.cell? ⟨q, 2, none⟩ = some (.string s) := ⟨HMw.out.w_, HMw.out.h_, HMw.out.s_⟩
      go_simp
      have hk9 := Kind_own W H s 35 HSM.out wb
      rw [show ((35 : UInt8).toNat : Int) = 35 from rfl, ← HL.out] at hk9
      refine hk9.mono ?_
      rintro e wc ⟨v, rfl, hown, hbw⟩
      have HOW := Lib.hid hown
      have HMx : Hid (MapAt wc q W H s) := Lib.hid (HMw.out.carry hbw)
      have HRx : Hid (RefAt wc p W H s) := Lib.hid (HRw.out.carry hbw)
      have HBx : Hid (Below w.heap.size w wc) := Lib.hid (HBw.out.trans (hbw.mono HBw.out.size))
      refine hK.out _ _ ⟨HMx.out.w_, HMx.out.h_, HMx.out.s_⟩ ?_
      obtain ⟨base, HBA⟩ : ∃ base, Hid (base = wb.heap.size) := ⟨_, Lib.hid rfl⟩
      rw [← HBA.out] at HOW
      have HQB : Hid (q < base ∧ p < base ∧ w.heap.size ≤ base) := Lib.hid (by rw [HBA.out]; exact HPQ.out)
      have HBS : Hid (base ≤ wc.heap.size) := Lib.hid (by rw [HBA.out]; exact hbw.size)
      have HN2 := Lib.hid (HNN.out.carry hbw)
      clear hown hbw hk9 HBA HPQ HNN
      have HNN := HN2
      clear HN2
      clear hK K hS HMw HRw HBw
      have HMw := HMx
      have HRw := HRx
      have HBw := HBx
      clear HMx HRx HBx
      have hS : wc.cell? ⟨q, 0, none⟩ = some (.int .i64 W) ∧ wc.cell? ⟨q, 1, none⟩ = some (.int .i64 H) ∧ wc.cell? ⟨q, 2, none⟩ = some (.string s) := ⟨HMw.out.w_, HMw.out.h_, HMw.out.s_⟩
      have hn5 : ∀ (j : Nat) u, ([.int .i64 (-1), .int .i64 64] : List Value)[j]? = some u → wc.cell? ((⟨g5, 0, none⟩ : Addr).add j) = some u := fun j u hu => by
        match j, hu with
        | 0, hu => obtain rfl := Option.some.inj hu; obtain ⟨a9, e9, _, hc9⟩ := HNN.out (by simp); cases e9; exact hc9 0 (-1) rfl
        | 1, hu => obtain rfl := Option.some.inj hu; obtain ⟨a9, e9, _, hc9⟩ := HNN.out (by simp); cases e9; exact hc9 1 64 rfl
      have hl64 := HL64.out
      refine oneH (i := 4) (oi := ⟨some 25, _, _, _, _, _⟩) rfl (by kernel_rfl) (fun K hK => ?_)
      refine step_append_lies _ rfl _ _ _ rfl base 3 ii _ 1 8 Tryd.underlying24 hj0 hj1 hj2 hj3 rfl (by decide) v l.length (numCells l) rfl HOW.out ⟨g5, 0, none⟩ 2 2 [.int .i64 (-1), .int .i64 64] rfl rfl hn5 (fun u hu => by simp only [List.mem_cons, List.not_mem_nil, or_false] at hu; rcases hu with rfl | rfl <;> rfl)
        (by decide) (by unfold maxLen; omega) (by omega) HBS.out wc.heap.size rfl ?_
      intro gS capS w7 hown7 hgrow hat hlt
      have HMx : Hid (MapAt w7 q W H s) := Lib.hid ((hgrow.block q HMw.out.lt (fun e => by have := (HOW.out.lt q e.symm).1; have := HQB.out.1; omega)).trans HMw.out)
      have HRx : Hid (RefAt w7 p W H s) := Lib.hid ((hgrow.block p HRw.out.lt (fun e => by have := (HOW.out.lt p e.symm).1; have := HQB.out.2.1; omega)).trans HRw.out)
      have HBx : Hid (Below w.heap.size w w7) := Lib.hid (HBw.out.grown hgrow HBw.out.size (fun t e => by have := (HOW.out.lt t e).1; have := HQB.out.2.2; omega))
      obtain ⟨S, HSS⟩ : ∃ S, Hid (S = ints l ++ [-1, 64]) := ⟨_, Lib.hid rfl⟩
      have HSL : Hid (S.length = l.length + 2) := Lib.hid (by rw [HSS.out, List.length_append, ints_length]; rfl)
      have HNS : Hid (Nums w7 .i64 (some ⟨gS, 0, none⟩) S) := Lib.hid (by
        refine Nums.own (base := base) (e := 3) (n := l.length + 2) (c := capS) ?_
        rw [HSS.out, List.map_append, ← numCells_ints]
        exact hown7)
      have HNO : Hid (∀ i : Nat, (i : Int) ∈ S → Grid.openAt s.data.toList i = false) := Lib.hid (by rw [HSS.out, HL.out]; exact walls_shut HRT.out)
      refine hK.out _ _ ⟨HMx.out.w_, HMx.out.h_, HMx.out.s_⟩ ?_
      simp only [Act.put, List.setIfInBounds_toArray, List.set_cons_zero, List.set_cons_succ]
      clear hown7 hgrow hat hlt hn5 HNN HOW HBS hl64
      clear hK K hS HMw HRw HBw
      have HMw := HMx
      have HRw := HRx
      have HBw := HBx
      clear HMx HRx HBx
      by_cases hS64 : S.length ≤ 64
      · have hco := Lib.hid (Costs_yes (cap := capS) (st := 1) W H s HNS.out HRT.out (by decide) (by decide) hS64)
        rw [HSL.out] at hco
        refine oneH (i := 5) (oi := ⟨some 26, _, _, _, _, _⟩) rfl (by kernel_rfl) (fun K hK => ?_)
        go_simp
        refine hco.out.mono ?_
        rintro e w8 ⟨gF, F, rfl, hg9, hrow, hfi, hbm⟩
        have hlF : F.length = s.size := by rw [hfi.len]; exact HLE.out
        rw [hlF]
        have HFN : Hid (∀ j, fat F j = -1) := Lib.hid (fun j => hfi.no fun r hr => no_walk HNO.out hr)
        have HLF := Lib.hid hlF
        have HNF : Hid (Nums w8 .i64 (some ⟨gF, 0, none⟩) F) := Lib.hid hrow.nums
        have HMx : Hid (MapAt w8 q W H s) := Lib.hid (HMw.out.carry hbm)
        have HRx : Hid (RefAt w8 p W H s) := Lib.hid (HRw.out.carry hbm)
        have HBx : Hid (Below w.heap.size w w8) := Lib.hid (HBw.out.trans (hbm.mono HBw.out.size))
        refine hK.out _ _ ⟨HMx.out.w_, HMx.out.h_, HMx.out.s_⟩ ?_
        clear hco hbm HNS hg9 hrow hfi hlF
        clear hK K HMw HRw HBw
        have HMw := HMx
        have HRw := HRx
        have HBw := HBx
        clear HMx HRx HBx
        have hS : w8.cell? ⟨q, 0, none⟩ = some (.int .i64 W) ∧ w8.cell? ⟨q, 1, none⟩ = some (.int .i64 H) ∧ w8.cell? ⟨q, 2, none⟩ = some (.string s) := ⟨HMw.out.w_, HMw.out.h_, HMw.out.s_⟩
        refine takeH (i := 6) 20 (v := (.tuple #[.slice (some ⟨gF, 0, none⟩) s.size s.size, .nilIface])) rfl (by kernel_rfl) (by kernel_rfl) (by kernel_rfl) rfl (fun _ _ _ h => h) (.inl ⟨by rfl, fun _ h => by have s0 := h.1; have s1 := h.2.1; have s2 := h.2.2; go_simp⟩) hS ?_
        simp only [Act.put, List.setIfInBounds_toArray, List.set_cons_zero, List.set_cons_succ]
        refine takeH (i := 7) 27 (v := (.slice (some ⟨gF, 0, none⟩) s.size s.size)) rfl (by kernel_rfl) (by kernel_rfl) (by kernel_rfl) rfl (fun _ _ _ h => h) (.inl ⟨by rfl, fun _ h => by have s0 := h.1; have s1 := h.2.1; have s2 := h.2.2; go_simp⟩) hS ?_
        simp only [Act.put, List.setIfInBounds_toArray, List.set_cons_zero, List.set_cons_succ]
        refine takeH (i := 8) 28 (v := (.nilIface)) rfl (by kernel_rfl) (by kernel_rfl) (by kernel_rfl) rfl (fun _ _ _ h => h) (.inl ⟨by rfl, fun _ h => by have s0 := h.1; have s1 := h.2.1; have s2 := h.2.2; go_simp⟩) hS ?_
        simp only [Act.put, List.setIfInBounds_toArray, List.set_cons_zero, List.set_cons_succ]
        refine takeH (i := 9) 6 (v := (.slice (some ⟨gF, 0, none⟩) s.size s.size)) rfl (by kernel_rfl) (by kernel_rfl) (by kernel_rfl) rfl (fun _ _ _ h => h) (.inl ⟨by rfl, fun _ h => by have s0 := h.1; have s1 := h.2.1; have s2 := h.2.2; go_simp⟩) hS ?_
        simp only [Act.put, List.setIfInBounds_toArray, List.set_cons_zero, List.set_cons_succ]
        refine takeH (i := 10) 7 (v := (.nilIface)) rfl (by kernel_rfl) (by kernel_rfl) (by kernel_rfl) rfl (fun _ _ _ h => h) (.inl ⟨by rfl, fun _ h => by have s0 := h.1; have s1 := h.2.1; have s2 := h.2.2; go_simp⟩) hS ?_
        simp only [Act.put, List.setIfInBounds_toArray, List.set_cons_zero, List.set_cons_succ]
        refine wpAnyH_done (by kernel_rfl) ?_ _
        clear hS
        have c0 := HRw.out.w_
        have c1 := HRw.out.h_
        have c2 := HRw.out.s_
        have m0 := HMw.out.w_
        have m1 := HMw.out.h_
        have m2 := HMw.out.s_
        go_wp2_with fail
        go_loopw [8] (fun u wr => ∃ j : Nat, u = .int .i64 (j : Int) ∧ j ≤ s.size ∧ wr = w8) (fun u _ => s.size - (intOf u).toNat)
        case atStart => exact ⟨0, rfl, Nat.zero_le _, rfl⟩
        case round =>
          obtain ⟨j, rfl, hj, rfl⟩ := hrel
          by_cases hjl : j < s.size
          · have r0 := nums_row HNF.out (i := j) (by rw [HLF.out]; exact hjl)
            rw [HFN.out j] at r0
            go_wp2_with fail
            go_roundw
            case rel => exact ⟨j + 1, by go_num, hjl, by first | rfl | trivial⟩
            case measure => simp [intOf]; omega
          · obtain rfl : j = s.size := by omega
            have hdz : downZ W H s F (k : Int) = [] := downZ_none (fun j => by rw [HFN.out j]; decide)
            have hwz : wayZ W H s F (k : Int) = [] := wayM_nil hdz
            have HDZ := Lib.hid hdz
            have HWZ := Lib.hid hwz
            have hdo := fun (w9 : World) (h9 : Nums w9 .i64 (some ⟨gF, 0, none⟩) F) => Down_any (w := w9) (cap := s.size) (F := F) W H s (k : Int) HSM.out (by rw [HLF.out]; exact HSM.out) h9
            have hwo := fun (w9 : World) (h9 : Nums w9 .i64 (some ⟨gF, 0, none⟩) F) => Way_any (w := w9) (cap := s.size) (F := F) W H s (k : Int) HSM.out (by rw [HLF.out]; exact HSM.out) h9
            rw [hdz, HLF.out] at hdo
            rw [hwz, HLF.out] at hwo
            have HDO := Lib.hid (hdo wr HNF.out)
            have HWO := Lib.hid hwo
            clear hdz hwz hdo hwo
            go_wp2_with (go_at_call 13; refine (Num_nil _).mono ?_; rintro e w9 ⟨rfl, rfl⟩)
            refine HDO.out.mono ?_
            rintro e w9 ⟨A9, cap9, rfl, _, hb9, _⟩
            have HBy : Hid (Below w.heap.size w w9) := Lib.hid (HBw.out.trans (hb9.mono HBw.out.size))
            have HMy : Hid (MapAt w9 q W H s) := Lib.hid (HMw.out.carry hb9)
            have HNy := Lib.hid (HNF.out.carry hb9)
            clear HDO hb9 c0 c1 c2 m0 m1 m2
            have m0 := HMy.out.w_
            have m1 := HMy.out.h_
            have m2 := HMy.out.s_
            have hwo := Lib.hid (HWO.out w9 HNy.out)
            go_wp2_with fail
            refine hwo.out.mono ?_
            rintro e wz ⟨A8, cap8, rfl, _, hb8, _⟩
            have HBz : Hid (Below w.heap.size w wz) := Lib.hid (HBy.out.trans (hb8.mono HBy.out.size))
            clear hb8 hwo m0 m1 m2
            go_wp2_with fail
            go_ret
            exact ⟨rfl, HBz.out⟩
      · have hco := Lib.hid (Costs_no (w := w7) (A := some ⟨gS, 0, none⟩) (cap := capS) (S := S) (st := 1) W H s HSM.out (by unfold maxLen; have := HSL.out; have := HL64.out; omega) (fun h => hS64 h.1))
        rw [HSL.out] at hco
        refine oneH (i := 5) (oi := ⟨some 26, _, _, _, _, _⟩) rfl (by kernel_rfl) (fun K hK => ?_)
        go_simp
        refine hco.out.mono ?_
        rintro e w8 ⟨ev, rfl, herr, hbm⟩
        have HER := Lib.hid herr
        have HMx : Hid (MapAt w8 q W H s) := Lib.hid (HMw.out.carry hbm)
        have HRx : Hid (RefAt w8 p W H s) := Lib.hid (HRw.out.carry hbm)
        have HBx : Hid (Below w.heap.size w w8) := Lib.hid (HBw.out.trans (hbm.mono HBw.out.size))
        refine hK.out _ _ ⟨HMx.out.w_, HMx.out.h_, HMx.out.s_⟩ ?_
        clear hco hbm HNS herr
        clear hK K HMw HRw HBw
        have HMw := HMx
        have HRw := HRx
        have HBw := HBx
        clear HMx HRx HBx
        have hS : w8.cell? ⟨q, 0, none⟩ = some (.int .i64 W) ∧ w8.cell? ⟨q, 1, none⟩ = some (.int .i64 H) ∧ w8.cell? ⟨q, 2, none⟩ = some (.string s) := ⟨HMw.out.w_, HMw.out.h_, HMw.out.s_⟩
        refine takeH (i := 6) 20 (v := (.tuple #[.slice none 0 0, ev])) rfl (by kernel_rfl) (by kernel_rfl) (by kernel_rfl) rfl (fun _ _ _ h => h) (.inl ⟨by rfl, fun _ h => by have s0 := h.1; have s1 := h.2.1; have s2 := h.2.2; go_simp⟩) hS ?_
        simp only [Act.put, List.setIfInBounds_toArray, List.set_cons_zero, List.set_cons_succ]
        refine takeH (i := 7) 27 (v := (.slice none 0 0)) rfl (by kernel_rfl) (by kernel_rfl) (by kernel_rfl) rfl (fun _ _ _ h => h) (.inl ⟨by rfl, fun _ h => by have s0 := h.1; have s1 := h.2.1; have s2 := h.2.2; go_simp⟩) hS ?_
        simp only [Act.put, List.setIfInBounds_toArray, List.set_cons_zero, List.set_cons_succ]
        refine takeH (i := 8) 28 (v := ev) rfl (by kernel_rfl) (by kernel_rfl) (by kernel_rfl) rfl (fun _ _ _ h => h) (.inl ⟨by rfl, fun _ h => by have s0 := h.1; have s1 := h.2.1; have s2 := h.2.2; go_simp⟩) hS ?_
        simp only [Act.put, List.setIfInBounds_toArray, List.set_cons_zero, List.set_cons_succ]
        refine takeH (i := 9) 6 (v := (.slice none 0 0)) rfl (by kernel_rfl) (by kernel_rfl) (by kernel_rfl) rfl (fun _ _ _ h => h) (.inl ⟨by rfl, fun _ h => by have s0 := h.1; have s1 := h.2.1; have s2 := h.2.2; go_simp⟩) hS ?_
        simp only [Act.put, List.setIfInBounds_toArray, List.set_cons_zero, List.set_cons_succ]
        refine takeH (i := 10) 7 (v := ev) rfl (by kernel_rfl) (by kernel_rfl) (by kernel_rfl) rfl (fun _ _ _ h => h) (.inl ⟨by rfl, fun _ h => by have s0 := h.1; have s1 := h.2.1; have s2 := h.2.2; go_simp⟩) hS ?_
        simp only [Act.put, List.setIfInBounds_toArray, List.set_cons_zero, List.set_cons_succ]
        refine wpAnyH_done (by kernel_rfl) ?_ _
        clear hS
        have c0 := HRw.out.w_
        have c1 := HRw.out.h_
        have c2 := HRw.out.s_
        have m0 := HMw.out.w_
        have m1 := HMw.out.h_
        have m2 := HMw.out.s_
        go_wp2_with fail
        go_loopw [8] (fun u wr => ∃ j : Nat, u = .int .i64 (j : Int) ∧ j ≤ 0 ∧ wr = w8) (fun u _ => 0 - (intOf u).toNat)
        case atStart => exact ⟨0, rfl, Nat.zero_le _, rfl⟩
        case round =>
          obtain ⟨j, rfl, hj, rfl⟩ := hrel
          obtain rfl : j = 0 := by omega
          have hdz : downZ W H s [] (k : Int) = [] := by unfold downZ; rw [if_neg (by show ¬ 0 = s.size; omega)]
          have hwz : wayZ W H s [] (k : Int) = [] := wayM_nil hdz
          have hdo := fun w9 => Down_any (w := w9) (A := none) (cap := 0) (F := []) W H s (k : Int) HSM.out (by simp) (Nums.none_ _ _ _)
          have hwo := fun w9 => Way_any (w := w9) (A := none) (cap := 0) (F := []) W H s (k : Int) HSM.out (by simp) (Nums.none_ _ _ _)
          rw [hdz] at hdo
          rw [hwz] at hwo
          have HDO := Lib.hid hdo
          have HWO := Lib.hid hwo
          clear hdz hwz hdo hwo
          have hnu := Lib.hid (Num_any 1 ev wr HER.out.is (hg.carry HBw.out))
          go_wp2_with fail
          refine hnu.out.mono ?_
          rintro e w9 ⟨rfl, hb9⟩
          have HBy : Hid (Below w.heap.size w w9) := Lib.hid (HBw.out.trans (hb9.mono HBw.out.size))
          have HMy : Hid (MapAt w9 q W H s) := Lib.hid (HMw.out.carry hb9)
          clear hnu hb9 c0 c1 c2 m0 m1 m2 HBw HMw HRw
          have m0 := HMy.out.w_
          have m1 := HMy.out.h_
          have m2 := HMy.out.s_
          have hk9 := Kind_own W H s 35 HSM.out w9
          rw [show ((35 : UInt8).toNat : Int) = 35 from rfl, ← HL.out] at hk9
          go_wp2_with fail
          refine hk9.mono ?_
          rintro e wa2 ⟨v2, rfl, hown2, hb9⟩
          obtain ⟨Av, capv, hv2, _⟩ := ListBox.nums hown2
          subst hv2
          have HBa : Hid (Below w.heap.size w wa2) := Lib.hid (HBy.out.trans (hb9.mono HBy.out.size))
          have HMa : Hid (MapAt wa2 q W H s) := Lib.hid (HMy.out.carry hb9)
          clear hk9 hown2 hb9 m0 m1 m2 HBy HMy
          have m0 := HMa.out.w_
          have m1 := HMa.out.h_
          have m2 := HMa.out.s_
          have h62 : (62 : Int) < (l.length : Int) := by have := HSL.out; omega
          have hdo := Lib.hid (HDO.out wa2)
          go_wp2_with fail
          refine hdo.out.mono ?_
          rintro e w10 ⟨A9, cap9, rfl, _, hb9, _⟩
          have HBy : Hid (Below w.heap.size w w10) := Lib.hid (HBa.out.trans (hb9.mono HBa.out.size))
          have HMy : Hid (MapAt w10 q W H s) := Lib.hid (HMa.out.carry hb9)
          clear hdo hb9 m0 m1 m2 HBa HMa
          have m0 := HMy.out.w_
          have m1 := HMy.out.h_
          have m2 := HMy.out.s_
          have hwo := Lib.hid (HWO.out w10)
          go_wp2_with fail
          refine hwo.out.mono ?_
          rintro e wz ⟨A8, cap8, rfl, _, hb8, _⟩
          have HBz : Hid (Below w.heap.size w wz) := Lib.hid (HBy.out.trans (hb8.mono HBy.out.size))
          clear hb8 hwo m0 m1 m2
          go_wp2_with fail
          go_ret
          exact ⟨rfl, HBz.out⟩
end Go.Proofs.YtiffgmgefpoblaaDoor
