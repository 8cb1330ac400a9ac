/-
  The walk of HeapBoth. Conditions: none beyond the premises of each theorem.
-/
import Derived.Test.YtchmdnopgfmpdaaHeapAwake
import Derived.Test.YtchmdnopgfmpdaaHeapCmp
namespace Go.Proofs.Ytchmdnopgfmpdaa
open Go.RowKit Hp

set_option maxRecDepth 100000 in
set_option maxHeartbeats 1000000 in
theorem both_walk {A0 A9 : Option Addr} {L M : List Itm} {na nb ca cb : Nat} {w : World} (hl : ItmsAt w w.heap.size A0 L) (hm : ItmsAt w w.heap.size A9 M) (hla : L.length = na) (hlb : M.length = nb) (hca : A0 = none → ca = 0) (hcb : A9 = none → cb = 0) :
    Calls Try.prog 6 #[.slice A0 na ca, .slice A9 nb cb] w fun e w' => e = .returned (.bool true) ∧ Below w.heap.size w w' := by
  obtain ⟨i0, hi0, hz0, hz1, hz2⟩ := info_parts Try.dueInfo
  obtain ⟨B, HB⟩ : ∃ B, Hid (B = w.heap.size) := ⟨_, Lib.hid rfl⟩
  have HL : Hid (ItmsAt w B A0 L) := Lib.hid (by rw [HB.out]; exact hl)
  have HM : Hid (ItmsAt w B A9 M) := Lib.hid (by rw [HB.out]; exact hm)
  have HLA := Lib.hid hla
  have HLB := Lib.hid hlb
  have HCA := Lib.hid hca
  have HCB := Lib.hid hcb
  rw [← HB.out]
  clear hl hm hla hlb hca hcb
  go_enter Try.func6, Try.ntmps6
  go_wp2_with fail
  refine (awake_any w).mono ?_
  rintro e w1 ⟨rfl, hbw⟩
  have H1 : Hid (Below B w w1) := Lib.hid (by rw [HB.out]; exact hbw)
  clear hbw
  have HSw1 : Hid (B ≤ w1.heap.size) := Lib.hid (by have := H1.out.size; have := HB.out; omega)
  by_cases hbig : 100 < na ∨ 100 < nb
  · have key : Calls Try.prog 9 #[] w1 fun e w' => e = .returned (.bool true) ∧ Below B w w' := (awake_any w1).mono fun e w2 h => ⟨h.1, H1.out.trans (h.2.mono HSw1.out)⟩
    have hkey := Lib.hid key
    clear key
    rcases Nat.lt_or_ge 100 na with h | h
    · clear hbig
      go_wp2_with fail
      refine hkey.out.mono ?_
      rintro e w2 ⟨rfl, hbw⟩
      have H2 := Lib.hid hbw
      clear hbw hkey
      go_wp2_with fail
      go_ret
      exact ⟨rfl, H2.out⟩
    · have h2 : 100 < nb := by omega
      clear hbig
      go_wp2_with fail
      refine hkey.out.mono ?_
      rintro e w2 ⟨rfl, hbw⟩
      have H2 := Lib.hid hbw
      clear hbw hkey
      go_wp2_with fail
      go_ret
      exact ⟨rfl, H2.out⟩
  · have hna : na ≤ 100 := by omega
    have hnb : nb ≤ 100 := by omega
    clear hbig
    obtain ⟨n, HNN⟩ : ∃ n, Hid (n = na + nb) := ⟨_, Lib.hid rfl⟩
    have hn2 : n ≤ 200 := by have := HNN.out; omega
    go_wp2_with (with_reducible refine stop_at (o := ⟨some 21, _, _, _, _, _⟩) ?_)
    unfold Stopped
    refine wpList_plain rfl fun _ hK => ?_
    refine wp_empty9 _ 30 i0 rfl Try.underlying37 hi0 ?_
    refine hK _ _ ?_
    clear hK
    simp only [Act.put, List.setIfInBounds_toArray, List.set_cons_zero, List.set_cons_succ]
    obtain ⟨w2, HW⟩ : ∃ w2, Hid (w2 = w1.alloc (.cells #[] 30)) := ⟨_, Lib.hid rfl⟩
    obtain ⟨u21, HV⟩ : ∃ u21, Hid (u21 = Value.slice (some ⟨w1.heap.size, 0, none⟩) 0 0) := ⟨_, Lib.hid rfl⟩
    rw [← HW.out, ← HV.out]
    have hb : Below w1.heap.size w1 w2 := by rw [HW.out]; exact (Below.refl _ _).alloc (Nat.le_refl _) _
    have HOu21 : Hid (w2.ownsRow B 30 2 u21 ([] : List Itm).length (flat2 [])) := Lib.hid (by rw [HW.out, HV.out]; exact World.ownsRow_made w1 #[] 0 HSw1.out (by unfold maxLen; omega) rfl)
    have HSw2 : Hid (B ≤ w2.heap.size) := Lib.hid (Nat.le_trans HSw1.out hb.size)
    have H2 : Hid (Below B w w2) := Lib.hid (H1.out.trans (hb.mono HSw1.out))
    clear hb HW HV H1
    go_wp2_with (with_reducible refine stop_at (o := ⟨some 23, _, _, _, _, _⟩) ?_)
    unfold Stopped
    refine wpList_plain rfl fun _ hK => ?_
    refine wp_append_its _ _ 37 30 rfl i0 _ Try.underlying37 hi0 hz0 hz1 hz2 rfl (X := []) (Y := L) rfl HLA.out rfl HCA.out HOu21.out (HL.out.below H2.out) (by have := HLA.out; simp; omega) HSw2.out ?_
    intro u23 w3 hown hgrow hat
    refine hK _ _ ?_
    clear hK
    simp only [Act.put, List.setIfInBounds_toArray, List.set_cons_zero, List.set_cons_succ]
    have HOu23 : Hid (w3.ownsRow B 30 2 u23 ([] ++ L).length (flat2 ([] ++ L))) := Lib.hid hown
    have HSw3 : Hid (B ≤ w3.heap.size) := Lib.hid (Nat.le_trans HSw2.out hgrow.size)
    have H3 : Hid (Below B w w3) := Lib.hid (H2.out.grown hgrow HSw2.out (fun k hk => (HOu21.out.lt k hk).1))
    clear hown hgrow hat HOu21
    go_wp2_with (with_reducible refine stop_at (o := ⟨some 25, _, _, _, _, _⟩) ?_)
    unfold Stopped
    refine wpList_plain rfl fun _ hK => ?_
    refine wp_append_its _ _ 37 30 rfl i0 _ Try.underlying37 hi0 hz0 hz1 hz2 rfl (X := ([] ++ L)) (Y := M) rfl HLB.out rfl HCB.out HOu23.out (HM.out.below H3.out) (by have := HLA.out; have := HLB.out; simp; omega) HSw3.out ?_
    intro u25 w4 hown hgrow hat
    refine hK _ _ ?_
    clear hK
    simp only [Act.put, List.setIfInBounds_toArray, List.set_cons_zero, List.set_cons_succ]
    have HOu25 : Hid (w4.ownsRow B 30 2 u25 (([] ++ L) ++ M).length (flat2 (([] ++ L) ++ M))) := Lib.hid hown
    have HSw4 : Hid (B ≤ w4.heap.size) := Lib.hid (Nat.le_trans HSw3.out hgrow.size)
    have H4 : Hid (Below B w w4) := Lib.hid (H3.out.grown hgrow HSw3.out (fun k hk => (HOu23.out.lt k hk).1))
    clear hown hgrow hat HOu23
    rw [List.nil_append] at HOu25
    obtain ⟨A4, c4, hu, hi, -⟩ := ItmsAt.own HOu25.out (Nat.le_refl _)
    have hln : (L ++ M).length = n := by rw [List.length_append, HLA.out, HLB.out, HNN.out]
    rw [hln] at hu
    subst hu
    have hso := Lib.hid (Sorted_any (cap := c4) hi hln (by omega))
    clear hi HOu25
    go_wp2_with fail
    refine hso.out.mono ?_
    rintro e w5 ⟨v1, S, rfl, h1, h2, h3, h4⟩
    have HSP : Hid (Rise S ∧ S.Perm (L ++ M)) := Lib.hid ⟨h2, h3⟩
    have HSL : Hid (S.length = n) := Lib.hid (by rw [h3.length_eq, hln])
    have H5 : Hid (Below B w w5) := Lib.hid (H4.out.trans (h4.mono HSw4.out))
    obtain ⟨A1, c1, hv1, hi1, -⟩ := ItmsAt.own h1 (Nat.le_refl _)
    rw [HSL.out] at hv1
    subst hv1
    obtain ⟨C, HCC⟩ : ∃ C, Hid (C = w5.heap.size) := ⟨_, Lib.hid rfl⟩
    have HI1 : Hid (ItmsAt w5 C A1 S) := Lib.hid (by rw [HCC.out]; exact hi1)
    have HBC : Hid (B ≤ C) := Lib.hid (by rw [HCC.out]; exact Nat.le_trans HSw4.out h4.size)
    have HSw5 : Hid (C ≤ w5.heap.size) := Lib.hid (by rw [HCC.out]; exact Nat.le_refl _)
    clear h1 h2 h3 h4 hi1 hso hln HCC
    go_wp2_with (with_reducible refine stop_at (o := ⟨some 27, _, _, _, _, _⟩) ?_)
    unfold Stopped
    refine wpList_plain rfl fun _ hK => ?_
    refine wp_empty9 _ 30 i0 rfl Try.underlying37 hi0 ?_
    refine hK _ _ ?_
    clear hK
    simp only [Act.put, List.setIfInBounds_toArray, List.set_cons_zero, List.set_cons_succ]
    obtain ⟨w6, HW⟩ : ∃ w6, Hid (w6 = w5.alloc (.cells #[] 30)) := ⟨_, Lib.hid rfl⟩
    obtain ⟨u27, HV⟩ : ∃ u27, Hid (u27 = Value.slice (some ⟨w5.heap.size, 0, none⟩) 0 0) := ⟨_, Lib.hid rfl⟩
    rw [← HW.out, ← HV.out]
    have hb : Below w5.heap.size w5 w6 := by rw [HW.out]; exact (Below.refl _ _).alloc (Nat.le_refl _) _
    have HOu27 : Hid (w6.ownsRow C 30 2 u27 ([] : List Itm).length (flat2 [])) := Lib.hid (by rw [HW.out, HV.out]; exact World.ownsRow_made w5 #[] 0 HSw5.out (by unfold maxLen; omega) rfl)
    have HSw6 : Hid (C ≤ w6.heap.size) := Lib.hid (Nat.le_trans HSw5.out hb.size)
    have HK6 : Hid (Below C w5 w6) := Lib.hid (hb.mono HSw5.out)
    clear hb HW HV
    have hsa := Lib.hid (Sorted_any (cap := ca) (((HL.out.below H5.out).below (HK6.out.mono HBC.out)).more (Nat.le_trans HBC.out HSw6.out)) HLA.out (by omega))
    go_wp2_with fail
    refine hsa.out.mono ?_
    rintro e w7 ⟨va, Sa, rfl, h1, h2, h3, h4⟩
    have HO7 := Lib.hid h1
    have HPA : Hid (Sa.Perm L) := Lib.hid h3
    have HK7 : Hid (Below C w5 w7) := Lib.hid (HK6.out.trans (h4.mono HSw6.out))
    have HSw7 : Hid (C ≤ w7.heap.size) := Lib.hid (Nat.le_trans HSw6.out h4.size)
    have HOu27 := Lib.hid (row_carry HOu27.out h4)
    clear h1 h2 h3 h4 hsa HK6
    obtain ⟨Aa, cpa, hva, hia, hna0⟩ := ItmsAt.own HO7.out (Nat.le_refl _)
    have hsl : Sa.length = na := by rw [HPA.out.length_eq]; exact HLA.out
    have HSLA := Lib.hid hsl
    rw [hsl] at hva
    subst hva
    have HIA := Lib.hid hia
    have HNA0 := Lib.hid hna0
    clear hia hna0 hsl HO7
    go_wp2_with (with_reducible refine stop_at (o := ⟨some 30, _, _, _, _, _⟩) ?_)
    unfold Stopped
    refine wpList_plain rfl fun _ hK => ?_
    refine wp_append_its _ _ 37 30 rfl i0 _ Try.underlying37 hi0 hz0 hz1 hz2 rfl (X := []) (Y := Sa) rfl HSLA.out rfl HNA0.out HOu27.out HIA.out (by have := HSLA.out; simp; omega) HSw7.out ?_
    intro u30 w8 hown hgrow hat
    refine hK _ _ ?_
    clear hK
    simp only [Act.put, List.setIfInBounds_toArray, List.set_cons_zero, List.set_cons_succ]
    have HOu30 : Hid (w8.ownsRow C 30 2 u30 ([] ++ Sa).length (flat2 ([] ++ Sa))) := Lib.hid hown
    have HSw8 : Hid (C ≤ w8.heap.size) := Lib.hid (Nat.le_trans HSw7.out hgrow.size)
    have HK8 : Hid (Below C w5 w8) := Lib.hid (HK7.out.grown hgrow HSw7.out (fun k hk => (HOu27.out.lt k hk).1))
    clear hown hgrow hat HOu27 HIA HNA0 HK7
    rw [List.nil_append] at HOu30
    have hsb := Lib.hid (Sorted_any (cap := cb) (((HM.out.below H5.out).below (HK8.out.mono HBC.out)).more (Nat.le_trans HBC.out HSw8.out)) HLB.out (by omega))
    go_wp2_with fail
    refine hsb.out.mono ?_
    rintro e w9 ⟨vb, Sb, rfl, h1, h2, h3, h4⟩
    have HO9 := Lib.hid h1
    have HPB : Hid (Sb.Perm M) := Lib.hid h3
    have HK9 : Hid (Below C w5 w9) := Lib.hid (HK8.out.trans (h4.mono HSw8.out))
    have HSw9 : Hid (C ≤ w9.heap.size) := Lib.hid (Nat.le_trans HSw8.out h4.size)
    have HOu30 := Lib.hid (row_carry HOu30.out h4)
    clear h1 h2 h3 h4 hsb HK8
    obtain ⟨Ab, cpb, hvb, hib, hnb0⟩ := ItmsAt.own HO9.out (Nat.le_refl _)
    have hsl : Sb.length = nb := by rw [HPB.out.length_eq]; exact HLB.out
    have HSLB := Lib.hid hsl
    rw [hsl] at hvb
    subst hvb
    have HIB := Lib.hid hib
    have HNB0 := Lib.hid hnb0
    clear hib hnb0 hsl HO9
    go_wp2_with (with_reducible refine stop_at (o := ⟨some 33, _, _, _, _, _⟩) ?_)
    unfold Stopped
    refine wpList_plain rfl fun _ hK => ?_
    refine wp_append_its _ _ 37 30 rfl i0 _ Try.underlying37 hi0 hz0 hz1 hz2 rfl (X := Sa) (Y := Sb) rfl HSLB.out rfl HNB0.out HOu30.out HIB.out (by have := HSLA.out; have := HSLB.out; omega) HSw9.out ?_
    intro u33 w10 hown hgrow hat
    refine hK _ _ ?_
    clear hK
    simp only [Act.put, List.setIfInBounds_toArray, List.set_cons_zero, List.set_cons_succ]
    have HOu33 : Hid (w10.ownsRow C 30 2 u33 (Sa ++ Sb).length (flat2 (Sa ++ Sb))) := Lib.hid hown
    have HSw10 : Hid (C ≤ w10.heap.size) := Lib.hid (Nat.le_trans HSw9.out hgrow.size)
    have HK10 : Hid (Below C w5 w10) := Lib.hid (HK9.out.grown hgrow HSw9.out (fun k hk => (HOu30.out.lt k hk).1))
    clear hown hgrow hat HOu30 HIB HNB0 HK9
    obtain ⟨A4, c4, hu, hi, -⟩ := ItmsAt.own HOu33.out (Nat.le_refl _)
    have hln : (Sa ++ Sb).length = n := by rw [List.length_append, HSLA.out, HSLB.out, HNN.out]
    rw [hln] at hu
    subst hu
    have hso := Lib.hid (Sorted_any (cap := c4) hi hln (by omega))
    clear hi HOu33
    go_wp2_with fail
    refine hso.out.mono ?_
    rintro e w11 ⟨v2, S2, rfl, h1, h2, h3, h4⟩
    have hSS : S2 = S := Rise.uniq h2 HSP.out.1 (h3.trans ((HPA.out.append HPB.out).trans HSP.out.2.symm))
    subst hSS
    have HK11 : Hid (Below C w5 w11) := Lib.hid (HK10.out.trans (h4.mono HSw10.out))
    obtain ⟨A2, c2, hv2, hi2, -⟩ := ItmsAt.own h1 (Nat.le_refl _)
    rw [HSL.out] at hv2
    subst hv2
    obtain ⟨S, HSE⟩ : ∃ S, Hid (S = S2) := ⟨_, Lib.hid rfl⟩
    obtain ⟨D, HDD⟩ : ∃ D, Hid (D = w11.heap.size) := ⟨_, Lib.hid rfl⟩
    have HC : Hid (CmpS B D A1 A2 S w w11) := Lib.hid (by rw [HSE.out, HDD.out]; exact ⟨(HI1.out.below HK11.out).more (Nat.le_trans HSw10.out h4.size), hi2, H5.out.trans (HK11.out.mono HBC.out)⟩)
    rw [← HSE.out] at HSL
    obtain ⟨C, HC0⟩ : ∃ C, Hid (C = D) := ⟨_, Lib.hid rfl⟩
    rw [← HC0.out] at HC
    have HNW : Hid (True) := Lib.hid trivial
    have HAB : Hid ((na : Int) + (nb : Int) = (n : Int)) := Lib.hid (by have := HNN.out; omega)
    have HW64 : Hid (wrap64 (n : Int) = (n : Int)) := Lib.hid (by unfold wrap64; omega)
    clear h1 h2 h3 h4 hi2 hln hso HI1 HK10 HK11 H5 HSP HSE HPA HPB HSLA HSLB HDD HC0
    go_wp2_with fail
    go_loopw [7] (fun u wr => ∃ k : Nat, k ≤ n ∧ u = .int .i64 (k : Int) ∧ CmpS B C A1 A2 S w wr) (fun u _ => n - (intOf u).toNat)
    case atStart => exact ⟨0, Nat.zero_le _, rfl, HC.out⟩
    case round =>
      clear HC
      obtain ⟨k, hk, rfl, hc⟩ := hrel
      have HC := Lib.hid hc
      clear hc
      by_cases hkn : k < n
      · have hkl : k < S.length := by rw [HSL.out]; exact hkn
        obtain ⟨b1, o1, hA1, hbC1, hr1⟩ := HC.out.i1 (by omega)
        obtain ⟨b2, o2, hA2, hbC2, hr2⟩ := HC.out.i2 (by omega)
        subst hA1 hA2
        obtain ⟨x, HX⟩ : ∃ x, Hid (x = at2 S k) := ⟨_, Lib.hid rfl⟩
        have hrr : wr.rangeAt b1 (o1 + k * 2) (itC x) ∧ wr.rangeAt b2 (o2 + k * 2) (itC x) := by rw [HX.out]; exact ⟨hr1 k hkl, hr2 k hkl⟩
        have HR := Lib.hid hrr
        clear hr1 hr2 hrr
        go_upto_region 8 with (fail)
        refine wp_region_held (S := fun w9 => w9.rangeAt b1 (o1 + k * 2) (itC x) ∧ w9.rangeAt b2 (o2 + k * 2) (itC x)) (by kernel_rfl) ?_
        change wpAnyH _ _ _ _ _ _ _ _ wr.drew
        obtain ⟨wa, HWA⟩ : ∃ wa, Hid (wa = wr.drew) := ⟨_, Lib.hid rfl⟩
        rw [← HWA.out]
        have hS : wa.rangeAt b1 (o1 + k * 2) (itC x) ∧ wa.rangeAt b2 (o2 + k * 2) (itC x) := by rw [HWA.out]; exact HR.out
        have HC2 : Hid (CmpS B C _ _ S w wa) := Lib.hid (by rw [HWA.out]; exact HC.out.drew)
        have hq : ∀ w, (binOp .neq 30 (itV x) (itV x)).run Try.prog w = .ok (.bool false) w := fun w => by rw [neq_it]; simp
        have hg := guardDue
        have hnn : ((n : Int) != (n : Int)) = false := by simp
        clear HWA HR HC
        refine takeH (i := 0) 41 (v := .slice (some ⟨b1, o1, none⟩) n c1) rfl (by kernel_rfl) (by kernel_rfl) (by kernel_rfl) rfl (fun _ _ _ h => h) (.inl ⟨by rfl, fun _ _ => by go_simp⟩) hS ?_
        simp only [Act.put, List.setIfInBounds_toArray, List.set_cons_zero, List.set_cons_succ]
        refine takeH (i := 1) 42 (v := .int .i64 (n : Int)) rfl (by kernel_rfl) (by kernel_rfl) (by kernel_rfl) rfl (fun _ _ _ h => h) (.inl ⟨by rfl, fun _ _ => by go_simp⟩) hS ?_
        simp only [Act.put, List.setIfInBounds_toArray, List.set_cons_zero, List.set_cons_succ]
        refine takeH (i := 2) 43 (v := .slice (some ⟨b2, o2, none⟩) n c2) rfl (by kernel_rfl) (by kernel_rfl) (by kernel_rfl) rfl (fun _ _ _ h => h) (.inl ⟨by rfl, fun _ _ => by go_simp⟩) hS ?_
        simp only [Act.put, List.setIfInBounds_toArray, List.set_cons_zero, List.set_cons_succ]
        refine takeH (i := 3) 44 (v := .int .i64 (n : Int)) rfl (by kernel_rfl) (by kernel_rfl) (by kernel_rfl) rfl (fun _ _ _ h => h) (.inl ⟨by rfl, fun _ _ => by go_simp⟩) hS ?_
        simp only [Act.put, List.setIfInBounds_toArray, List.set_cons_zero, List.set_cons_succ]
        refine takeH (i := 4) 45 (v := .bool false) rfl (by kernel_rfl) (by kernel_rfl) (by kernel_rfl) rfl (fun _ _ _ h => h) (.inl ⟨by rfl, fun _ _ => by go_simp⟩) hS ?_
        simp only [Act.put, List.setIfInBounds_toArray, List.set_cons_zero, List.set_cons_succ]
        refine takeH (i := 5) 46 (v := .bool false) rfl (by kernel_rfl) (by kernel_rfl) (by kernel_rfl) rfl (fun _ _ _ h => h) (.inl ⟨by rfl, fun _ _ => by go_simp⟩) hS ?_
        simp only [Act.put, List.setIfInBounds_toArray, List.set_cons_zero, List.set_cons_succ]
        refine takeH (i := 6) 47 (v := .slice (some ⟨b1, o1, none⟩) n c1) rfl (by kernel_rfl) (by kernel_rfl) (by kernel_rfl) rfl (fun _ _ _ h => h) (.inl ⟨by rfl, fun _ _ => by go_simp⟩) hS ?_
        simp only [Act.put, List.setIfInBounds_toArray, List.set_cons_zero, List.set_cons_succ]
        refine takeH (i := 7) 48 (v := .int .i64 (k : Int)) rfl (by kernel_rfl) (by kernel_rfl) (by kernel_rfl) rfl (fun _ _ _ h => h) (.inl ⟨by rfl, fun _ _ => by go_simp⟩) hS ?_
        simp only [Act.put, List.setIfInBounds_toArray, List.set_cons_zero, List.set_cons_succ]
        refine takeH (i := 8) 49 (v := .pointer (some ⟨b1, o1 + k * 2, none⟩)) rfl (by kernel_rfl) (by kernel_rfl) (by kernel_rfl) rfl (fun _ _ _ h => h) (.inl ⟨by rfl, fun _ _ => by go_simp⟩) hS ?_
        simp only [Act.put, List.setIfInBounds_toArray, List.set_cons_zero, List.set_cons_succ]
        refine takeH (i := 9) 50 (v := itV x) rfl (by kernel_rfl) (by kernel_rfl) (by kernel_rfl) rfl (fun _ _ _ h => h) (yieldsIf_c dueTy (by rfl) _ rfl b1 (o1 + k * 2) (by rfl) (itC x) rfl (fun _ h => h.1)) hS ?_
        simp only [Act.put, List.setIfInBounds_toArray, List.set_cons_zero, List.set_cons_succ]
        refine takeH (i := 10) 51 (v := .slice (some ⟨b2, o2, none⟩) n c2) rfl (by kernel_rfl) (by kernel_rfl) (by kernel_rfl) rfl (fun _ _ _ h => h) (.inl ⟨by rfl, fun _ _ => by go_simp⟩) hS ?_
        simp only [Act.put, List.setIfInBounds_toArray, List.set_cons_zero, List.set_cons_succ]
        refine takeH (i := 11) 52 (v := .int .i64 (k : Int)) rfl (by kernel_rfl) (by kernel_rfl) (by kernel_rfl) rfl (fun _ _ _ h => h) (.inl ⟨by rfl, fun _ _ => by go_simp⟩) hS ?_
        simp only [Act.put, List.setIfInBounds_toArray, List.set_cons_zero, List.set_cons_succ]
        refine takeH (i := 12) 53 (v := .pointer (some ⟨b2, o2 + k * 2, none⟩)) rfl (by kernel_rfl) (by kernel_rfl) (by kernel_rfl) rfl (fun _ _ _ h => h) (.inl ⟨by rfl, fun _ _ => by go_simp⟩) hS ?_
        simp only [Act.put, List.setIfInBounds_toArray, List.set_cons_zero, List.set_cons_succ]
        refine takeH (i := 13) 54 (v := itV x) rfl (by kernel_rfl) (by kernel_rfl) (by kernel_rfl) rfl (fun _ _ _ h => h) (yieldsIf_c dueTy (by rfl) _ rfl b2 (o2 + k * 2) (by rfl) (itC x) rfl (fun _ h => h.2)) hS ?_
        simp only [Act.put, List.setIfInBounds_toArray, List.set_cons_zero, List.set_cons_succ]
        refine takeH (i := 14) 55 (v := .bool false) rfl (by kernel_rfl) (by kernel_rfl) (by kernel_rfl) rfl (fun _ _ _ h => h) (.inl ⟨by rfl, fun _ _ => by go_simp⟩) hS ?_
        simp only [Act.put, List.setIfInBounds_toArray, List.set_cons_zero, List.set_cons_succ]
        refine takeH (i := 15) 56 (v := .bool false) rfl (by kernel_rfl) (by kernel_rfl) (by kernel_rfl) rfl (fun _ _ _ h => h) (.inl ⟨by rfl, fun _ _ => by go_simp⟩) hS ?_
        simp only [Act.put, List.setIfInBounds_toArray, List.set_cons_zero, List.set_cons_succ]
        refine wpAnyH_done (by kernel_rfl) ?_ _
        clear hS hq
        have hnw := HNW.out
        go_wp2_with fail
        go_roundw
        case rel => exact ⟨k + 1, hkn, by go_num, HC2.out⟩
        case measure => simp [intOf]; omega
      · obtain rfl : k = n := by omega
        have hab := HAB.out
        have h64 := HW64.out
        go_wp2_with fail
        go_ret
        exact ⟨by simp, HC.out.below⟩
end Go.Proofs.Ytchmdnopgfmpdaa
