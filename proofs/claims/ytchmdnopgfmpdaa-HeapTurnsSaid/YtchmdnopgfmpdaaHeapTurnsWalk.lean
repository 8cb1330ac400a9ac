/-
  The walk of HeapTurns. Conditions: none beyond the premises of each theorem.
-/
import Derived.Test.YtchmdnopgfmpdaaHeapAwake
import Derived.Test.YtchmdnopgfmpdaaHeapCmp
namespace Go.Proofs.Ytchmdnopgfmpdaa
open Go.RowKit Hp

/-- the list, turned round from place k on -/
def TurnR (B : Nat) (L : List Itm) (w : World) (u3 u4 : Value) (wr : World) : Prop :=
  ∃ k : Nat, k ≤ L.length ∧ u4 = .int .i64 ((k : Int) - 1) ∧ wr.ownsRow B 30 2 u3 (L.drop k).reverse.length (flat2 (L.drop k).reverse) ∧ Below B w wr
theorem turn_next {L : List Itm} {k : Nat} (h : k < L.length) : (L.drop k).reverse = (L.drop (k + 1)).reverse ++ [at2 L k] := by
  rw [List.drop_eq_getElem_cons h, List.reverse_cons, at2_get h]
set_option maxRecDepth 100000 in
set_option maxHeartbeats 1000000 in
theorem turns_walk {A : Option Addr} {L : List Itm} {n cap : Nat} {w : World} (hl : ItmsAt w w.heap.size A L) (hn : L.length = n) : Calls Try.prog 8 #[.slice A n cap] w fun e w' => e = .returned (.bool true) ∧ Below w.heap.size w w' := by
  obtain ⟨i0, hi0, hz0, hz1, hz2⟩ := info_parts Try.dueInfo
  obtain ⟨B, HB⟩ : ∃ B, Hid (B = w.heap.size) := ⟨_, Lib.hid rfl⟩
  have HL : Hid (ItmsAt w B A L) := Lib.hid (by rw [HB.out]; exact hl)
  have HN := Lib.hid hn
  rw [← HB.out]
  clear hl hn
  go_enter Try.func8, Try.ntmps8
  go_wp2_with fail
  refine (awake_any w).mono ?_
  rintro e w1 ⟨rfl, hbw⟩
  have H1 : Hid (Below B w w1) := Lib.hid (by rw [HB.out]; exact hbw)
  clear hbw
  have HB1 : Hid (B ≤ w1.heap.size) := Lib.hid (by have := H1.out.size; have := HB.out; omega)
  by_cases hbig : 200 < n
  · go_wp2_with fail
    refine (awake_any w1).mono ?_
    rintro e w2 ⟨rfl, hbw⟩
    have H2 : Hid (Below B w w2) := Lib.hid (H1.out.trans (hbw.mono HB1.out))
    clear hbw
    go_wp2_with fail
    go_ret
    exact ⟨rfl, H2.out⟩
  · have hnw : wrap64 ((n : Int) - 1) = (n : Int) - 1 := by unfold wrap64; omega
    go_wp2_with fail
    go_loopw [3, 4] (fun u3 u4 wr => TurnR B L w u3 u4 wr) (fun _ u4 _ => (intOf u4 + 1).toNat)
    case atStart => exact ⟨L.length, Nat.le_refl _, by rw [HN.out], by rw [List.drop_length]; exact World.ownsRow_nil _ _ _ _, H1.out⟩
    case round =>
      clear hnw H1
      obtain ⟨k, hk, rfl, hrow, hbl⟩ := hrel
      have HK : Hid (k ≤ n) := Lib.hid (by rw [← HN.out]; exact hk)
      have HR := Lib.hid hrow
      have H2 := Lib.hid hbl
      have HBW : Hid (B ≤ wr.heap.size) := Lib.hid (by have := hbl.size; have := HB.out; omega)
      clear hk hrow hbl
      cases k with
      | zero =>
        have h0 : ((0 : Nat) : Int) - 1 = -1 := rfl
        rw [List.drop_zero] at HR
        obtain ⟨A2, c2, hu3, hi2, -⟩ := ItmsAt.own HR.out (Nat.le_refl _)
        rw [hu3] at HR ⊢
        have hs1 := Lib.hid (Sorted_any (cap := cap) ((HL.out.below H2.out).more HBW.out) HN.out (by omega))
        clear hu3 hi2
        go_wp2_with fail
        refine hs1.out.mono ?_
        rintro e w4 ⟨v1, S1, rfl, h1, h2, h3, h4⟩
        have HR4 := Lib.hid (row_carry HR.out h4)
        have HV1 := Lib.hid h1
        have HP1 : Hid (Rise S1 ∧ S1.Perm L) := Lib.hid ⟨h2, h3⟩
        have H4 : Hid (Below B w w4) := Lib.hid (H2.out.trans (h4.mono HBW.out))
        have HBS : Hid (B ≤ wr.heap.size ∧ wr.heap.size ≤ w4.heap.size) := Lib.hid ⟨HBW.out, h4.size⟩
        clear h1 h2 h3 h4 hs1 HR
        obtain ⟨A3, c3, hu3, hi3, -⟩ := ItmsAt.own HR4.out (Nat.le_refl _)
        obtain ⟨rfl, -, rfl⟩ : A2 = A3 ∧ L.reverse.length = L.reverse.length ∧ c2 = c3 := by injection hu3 with e1 e2 e3; exact ⟨e1, rfl, e3⟩
        have hln : L.reverse.length = n := by rw [List.length_reverse]; exact HN.out
        have hs2 := Lib.hid (Sorted_any (cap := c2) hi3 hln (by omega))
        rw [hln]
        clear hu3 hi3 hln
        go_wp2_with fail
        refine hs2.out.mono ?_
        rintro e w5 ⟨v2, S2, rfl, h1, h2, h3, h4⟩
        have hSS : S2 = S1 := Rise.uniq h2 HP1.out.1 (h3.trans (L.reverse_perm.trans HP1.out.2.symm))
        subst hSS
        have HSL : Hid (S2.length = n) := Lib.hid (by rw [HP1.out.2.length_eq]; exact HN.out)
        have HV5 := Lib.hid (row_carry HV1.out h4)
        have H5 : Hid (Below B w w5) := Lib.hid (H4.out.trans (h4.mono (by have := HBS.out; omega)))
        obtain ⟨C, HCC⟩ : ∃ C, Hid (C = w5.heap.size) := ⟨_, Lib.hid rfl⟩
        obtain ⟨S, HSE⟩ : ∃ S, Hid (S = S2) := ⟨_, Lib.hid rfl⟩
        obtain ⟨A1, c1, hv1, hi1, -⟩ := ItmsAt.own HV5.out (Nat.le_refl _)
        obtain ⟨A5, c5, hv2, hi2, -⟩ := ItmsAt.own h1 (Nat.le_refl _)
        rw [HSL.out] at hv1 hv2
        subst hv1 hv2
        clear h1 h2 h3 h4 hs2 HV1 HV5 HR4 H4
        obtain ⟨A2, HA2⟩ : ∃ A2, Hid (A2 = A5) := ⟨_, Lib.hid rfl⟩
        obtain ⟨c2, HC2⟩ : ∃ c2, Hid (c2 = c5) := ⟨_, Lib.hid rfl⟩
        rw [← HA2.out, ← HC2.out]
        have HC : Hid (CmpS B C A1 A2 S w w5) := Lib.hid (by rw [HSE.out, HCC.out, HA2.out]; exact ⟨hi1, hi2, H5.out⟩)
        rw [← HSE.out] at HSL
        have HNW : Hid (True) := Lib.hid trivial
        clear hi1 hi2 H5
        go_wp2_with fail
        go_loopw [7] (fun u wr => ∃ k : Nat, k ≤ n ∧ u = .int .i64 (k : Int) ∧ CmpS B C A1 A2 S w wr) (fun u _ => n - (intOf u).toNat)
        case atStart => exact ⟨0, Nat.zero_le _, rfl, HC.out⟩
        case round =>
          clear HC
          obtain ⟨k, hk, rfl, hc⟩ := hrel
          have HC := Lib.hid hc
          clear hc
          by_cases hkn : k < n
          · have hkl : k < S.length := by rw [HSL.out]; exact hkn
            obtain ⟨b1, o1, hA1, hbC1, hr1⟩ := HC.out.i1 (by omega)
            obtain ⟨b2, o2, hA2, hbC2, hr2⟩ := HC.out.i2 (by omega)
            subst hA1 hA2
            obtain ⟨x, HX⟩ : ∃ x, Hid (x = at2 S k) := ⟨_, Lib.hid rfl⟩
            have hrr : wr.rangeAt b1 (o1 + k * 2) (itC x) ∧ wr.rangeAt b2 (o2 + k * 2) (itC x) := by rw [HX.out]; exact ⟨hr1 k hkl, hr2 k hkl⟩
            have HR := Lib.hid hrr
            clear hr1 hr2 hrr
            go_upto_region 12 with (fail)
            refine wp_region_held (S := fun w9 => w9.rangeAt b1 (o1 + k * 2) (itC x) ∧ w9.rangeAt b2 (o2 + k * 2) (itC x)) (by kernel_rfl) ?_
            change wpAnyH _ _ _ _ _ _ _ _ wr.drew
            obtain ⟨wa, HWA⟩ : ∃ wa, Hid (wa = wr.drew) := ⟨_, Lib.hid rfl⟩
            rw [← HWA.out]
            have hS : wa.rangeAt b1 (o1 + k * 2) (itC x) ∧ wa.rangeAt b2 (o2 + k * 2) (itC x) := by rw [HWA.out]; exact HR.out
            have HC2 : Hid (CmpS B C _ _ S w wa) := Lib.hid (by rw [HWA.out]; exact HC.out.drew)
            have hq : ∀ w, (binOp .neq 30 (itV x) (itV x)).run Try.prog w = .ok (.bool false) w := fun w => by rw [neq_it]; simp
            have hg := guardDue
            have hnn : ((n : Int) != (n : Int)) = false := by simp
            clear HWA HR HC
            refine takeH (i := 0) 40 (v := .slice (some ⟨b1, o1, none⟩) n c1) rfl (by kernel_rfl) (by kernel_rfl) (by kernel_rfl) rfl (fun _ _ _ h => h) (.inl ⟨by rfl, fun _ _ => by go_simp⟩) hS ?_
            simp only [Act.put, List.setIfInBounds_toArray, List.set_cons_zero, List.set_cons_succ]
            refine takeH (i := 1) 41 (v := .int .i64 (n : Int)) rfl (by kernel_rfl) (by kernel_rfl) (by kernel_rfl) rfl (fun _ _ _ h => h) (.inl ⟨by rfl, fun _ _ => by go_simp⟩) hS ?_
            simp only [Act.put, List.setIfInBounds_toArray, List.set_cons_zero, List.set_cons_succ]
            refine takeH (i := 2) 42 (v := .slice (some ⟨b2, o2, none⟩) n c2) rfl (by kernel_rfl) (by kernel_rfl) (by kernel_rfl) rfl (fun _ _ _ h => h) (.inl ⟨by rfl, fun _ _ => by go_simp⟩) hS ?_
            simp only [Act.put, List.setIfInBounds_toArray, List.set_cons_zero, List.set_cons_succ]
            refine takeH (i := 3) 43 (v := .int .i64 (n : Int)) rfl (by kernel_rfl) (by kernel_rfl) (by kernel_rfl) rfl (fun _ _ _ h => h) (.inl ⟨by rfl, fun _ _ => by go_simp⟩) hS ?_
            simp only [Act.put, List.setIfInBounds_toArray, List.set_cons_zero, List.set_cons_succ]
            refine takeH (i := 4) 44 (v := .bool false) rfl (by kernel_rfl) (by kernel_rfl) (by kernel_rfl) rfl (fun _ _ _ h => h) (.inl ⟨by rfl, fun _ _ => by go_simp⟩) hS ?_
            simp only [Act.put, List.setIfInBounds_toArray, List.set_cons_zero, List.set_cons_succ]
            refine takeH (i := 5) 45 (v := .bool false) rfl (by kernel_rfl) (by kernel_rfl) (by kernel_rfl) rfl (fun _ _ _ h => h) (.inl ⟨by rfl, fun _ _ => by go_simp⟩) hS ?_
            simp only [Act.put, List.setIfInBounds_toArray, List.set_cons_zero, List.set_cons_succ]
            refine takeH (i := 6) 46 (v := .slice (some ⟨b1, o1, none⟩) n c1) rfl (by kernel_rfl) (by kernel_rfl) (by kernel_rfl) rfl (fun _ _ _ h => h) (.inl ⟨by rfl, fun _ _ => by go_simp⟩) hS ?_
            simp only [Act.put, List.setIfInBounds_toArray, List.set_cons_zero, List.set_cons_succ]
            refine takeH (i := 7) 47 (v := .int .i64 (k : Int)) rfl (by kernel_rfl) (by kernel_rfl) (by kernel_rfl) rfl (fun _ _ _ h => h) (.inl ⟨by rfl, fun _ _ => by go_simp⟩) hS ?_
            simp only [Act.put, List.setIfInBounds_toArray, List.set_cons_zero, List.set_cons_succ]
            refine takeH (i := 8) 48 (v := .pointer (some ⟨b1, o1 + k * 2, none⟩)) rfl (by kernel_rfl) (by kernel_rfl) (by kernel_rfl) rfl (fun _ _ _ h => h) (.inl ⟨by rfl, fun _ _ => by go_simp⟩) hS ?_
            simp only [Act.put, List.setIfInBounds_toArray, List.set_cons_zero, List.set_cons_succ]
            refine takeH (i := 9) 49 (v := itV x) rfl (by kernel_rfl) (by kernel_rfl) (by kernel_rfl) rfl (fun _ _ _ h => h) (yieldsIf_c dueTy (by rfl) _ rfl b1 (o1 + k * 2) (by rfl) (itC x) rfl (fun _ h => h.1)) hS ?_
            simp only [Act.put, List.setIfInBounds_toArray, List.set_cons_zero, List.set_cons_succ]
            refine takeH (i := 10) 50 (v := .slice (some ⟨b2, o2, none⟩) n c2) rfl (by kernel_rfl) (by kernel_rfl) (by kernel_rfl) rfl (fun _ _ _ h => h) (.inl ⟨by rfl, fun _ _ => by go_simp⟩) hS ?_
            simp only [Act.put, List.setIfInBounds_toArray, List.set_cons_zero, List.set_cons_succ]
            refine takeH (i := 11) 51 (v := .int .i64 (k : Int)) rfl (by kernel_rfl) (by kernel_rfl) (by kernel_rfl) rfl (fun _ _ _ h => h) (.inl ⟨by rfl, fun _ _ => by go_simp⟩) hS ?_
            simp only [Act.put, List.setIfInBounds_toArray, List.set_cons_zero, List.set_cons_succ]
            refine takeH (i := 12) 52 (v := .pointer (some ⟨b2, o2 + k * 2, none⟩)) rfl (by kernel_rfl) (by kernel_rfl) (by kernel_rfl) rfl (fun _ _ _ h => h) (.inl ⟨by rfl, fun _ _ => by go_simp⟩) hS ?_
            simp only [Act.put, List.setIfInBounds_toArray, List.set_cons_zero, List.set_cons_succ]
            refine takeH (i := 13) 53 (v := itV x) rfl (by kernel_rfl) (by kernel_rfl) (by kernel_rfl) rfl (fun _ _ _ h => h) (yieldsIf_c dueTy (by rfl) _ rfl b2 (o2 + k * 2) (by rfl) (itC x) rfl (fun _ h => h.2)) hS ?_
            simp only [Act.put, List.setIfInBounds_toArray, List.set_cons_zero, List.set_cons_succ]
            refine takeH (i := 14) 54 (v := .bool false) rfl (by kernel_rfl) (by kernel_rfl) (by kernel_rfl) rfl (fun _ _ _ h => h) (.inl ⟨by rfl, fun _ _ => by go_simp⟩) hS ?_
            simp only [Act.put, List.setIfInBounds_toArray, List.set_cons_zero, List.set_cons_succ]
            refine takeH (i := 15) 55 (v := .bool false) rfl (by kernel_rfl) (by kernel_rfl) (by kernel_rfl) rfl (fun _ _ _ h => h) (.inl ⟨by rfl, fun _ _ => by go_simp⟩) hS ?_
            simp only [Act.put, List.setIfInBounds_toArray, List.set_cons_zero, List.set_cons_succ]
            refine wpAnyH_done (by kernel_rfl) ?_ _
            clear hS hq
            have hnw := HNW.out
            go_wp2_with fail
            go_roundw
            case rel => exact ⟨k + 1, hkn, by go_num, HC2.out⟩
            case measure => simp [intOf]; omega
          · obtain rfl : k = n := by omega
            go_wp2_with fail
            go_ret
            exact ⟨by simp, HC.out.below⟩
      | succ k =>
        have hkl : k < L.length := by have := HK.out; have := HN.out; omega
        obtain ⟨b, o, hA, hbB, hc⟩ := HL.out (by omega)
        subst hA
        obtain ⟨x, HX⟩ : ∃ x, Hid (x = at2 L k) := ⟨_, Lib.hid rfl⟩
        have HC : Hid (wr.rangeAt b (o + k * 2) (itC x)) := Lib.hid (by rw [HX.out]; intro j u hu; exact (H2.out.cell (p := ⟨b, o + k * 2 + j, none⟩) hbB).trans (hc k hkl j u hu))
        clear hc
        have e1 : ((k + 1 : Nat) : Int) - 1 = (k : Int) := by omega
        rw [e1]
        have hkn : k < n := by have := HK.out; omega
        go_wp2_with (with_reducible refine stop_at (o := ⟨some 27, _, _, _, _, _⟩) ?_)
        unfold Stopped
        refine wpList_load_c dueTy (by rfl) _ rfl b (o + k * 2) rfl (itC x) rfl HC.out ?_
        simp only [Act.put, List.setIfInBounds_toArray, List.set_cons_zero, List.set_cons_succ]
        refine wpList_plain rfl fun _ hK => ?_
        refine wp_one9 _ 30 _ rfl (itC x).toArray rfl Try.underlying37 (by kernel_rfl) dueTy.size (by simp) (by simp) ?_
        refine hK _ _ ?_
        clear hK
        simp only [Act.put, List.setIfInBounds_toArray, List.set_cons_zero, List.set_cons_succ]
        obtain ⟨w5, HW5⟩ : ∃ w5, Hid (w5 = wr.alloc (.cells (itC x).toArray 30)) := ⟨_, Lib.hid rfl⟩
        obtain ⟨g5, HG5⟩ : ∃ g5, Hid (g5 = wr.heap.size) := ⟨_, Lib.hid rfl⟩
        rw [← HW5.out, ← HG5.out]
        have hb5 : Below wr.heap.size wr w5 := by rw [HW5.out]; exact (Below.refl _ _).alloc (Nat.le_refl _) _
        have HN5 : Hid (∀ j u, (itC x)[j]? = some u → w5.cell? ((⟨g5, 0, none⟩ : Addr).add j) = some u) := Lib.hid (by rw [HW5.out, HG5.out]; exact World.news_of_block (cs := (itC x).toArray) (heap_alloc_new wr _))
        have HR5 := Lib.hid (row_carry HR.out hb5)
        have HB5 : Hid (B ≤ w5.heap.size) := Lib.hid (Nat.le_trans HBW.out hb5.size)
        have HL5 : Hid (Below B w w5) := Lib.hid (H2.out.trans (hb5.mono HBW.out))
        clear HW5 hb5 HR H2 HBW HC
        refine wpList_plain rfl fun _ hK => ?_
        refine wp_append_lies _ _ _ _ rfl B 30 i0 _ 2 16 Try.underlying37 hi0 hz0 hz1 hz2 rfl (by omega) u3 (L.drop (k + 1)).reverse.length (flat2 (L.drop (k + 1)).reverse) rfl HR5.out ⟨g5, 0, none⟩ 1 1 (itC x) rfl rfl HN5.out (itC_one x)
          (by omega) (by have hll : (L.drop (k + 1)).reverse.length ≤ n := (by have := HN.out; simp; omega); unfold maxLen; omega) (by have hll : (L.drop (k + 1)).reverse.length ≤ n := (by have := HN.out; simp; omega); omega) HB5.out w5.heap.size rfl ?_
        intro g capr w6 hown hgrow hat hlt
        refine hK _ _ ?_
        clear hK HN5 HG5
        simp only [Act.put, List.setIfInBounds_toArray, List.set_cons_zero, List.set_cons_succ]
        have HO6 : Hid (w6.ownsRow B 30 2 (.slice (some ⟨g, 0, none⟩) ((L.drop (k + 1)).reverse.length + 1) capr) (L.drop k).reverse.length (flat2 (L.drop k).reverse)) := Lib.hid (by rw [turn_next hkl, flat2_append, flat2_one, List.length_append, List.length_singleton, ← HX.out]; exact hown)
        have HL6 : Hid (Below B w w6) := Lib.hid (HL5.out.grown hgrow HB5.out (fun k hk => (HR5.out.lt k hk).1))
        clear hown hgrow hat hlt HR5 HB5 HL5 HX e1
        have hw : wrap64 ((k : Int) - 1) = (k : Int) - 1 := by unfold wrap64; omega
        go_wp2_with fail
        go_roundw
        case rel => exact ⟨k, by omega, rfl, HO6.out, HL6.out⟩
        case measure =>
          show ((k : Int) - 1 + 1).toNat < ((k : Int) + 1).toNat
          omega
end Go.Proofs.Ytchmdnopgfmpdaa
