/-
 TrTopDel. Conditions: as each theorem says.
-/
import Derived.Test.YticbgbngookmnaaGreatDoorSm
import Derived.Test.YticbgbngookmnaaGreatDoorTrCut
import Derived.Test.YticbgbngookmnaaGreatDoorTc
namespace Go.Proofs.YticbgbngookmnaaGreatDoor
open Go.RowKit
section
variable {O : PgOwn} (H : PgSpec O)
include H
set_option maxRecDepth 100000 in
set_option maxHeartbeats 4000000 in
theorem Delete_any {w0 : World} {K : Nat → Prop} {w : World} {P D n : Nat} {S : TS} {firm : Nat → List UInt8} (hl : LawT O w0 K w P D n S firm) (hg : Laid2 w0) (hs : S.d.soft.length ≤ 99900) (root key : Int) :
  Calls Tryz.prog 18 #[ptr P, .int .i64 root, .int .i64 key] w (AddPost O w0 K w P D n firm (delTop n S root key)) := by
 obtain ⟨R, HRR⟩ : ∃ R, Hid (R = delTop n S root key) := Hy
 have HL := Hi hl
 have HTH : Hid (There K w) := Hi hl.there
 have HSS := Hi hs
 rw [← HRR.out]
 by_cases h0 : root = 0
 ·subst h0
  have HR9 : Hid (R = (.error 4, S)) := Hi (by rw [HRR.out]; unfold delTop; rw [if_pos rfl])
  clear hl hs HRR
  go_enter Tryz.func18, Tryz.ntmps18
  go_wp2_with fail
  refine (trFault_any 4 (by decide) _).mono ?_
  rintro e w1 ⟨v, rfl, he, hb⟩
  have HE := Hi he
  have HB := Hi hb
  clear he hb
  go_wp2_with fail
  go_ret2
  rw [HR9.out]
  exact ⟨HL.out.carry H HB.out, Kept.of_below HB.out HTH.out, by decide, _, rfl, HE.out⟩
 ·obtain ⟨RK, HRK⟩ : ∃ RK, Hid (RK = cutM n 12 S root key) := Hy
  have HR9 : Hid (R = match (generalizing := false) RK with
   | (.error c, S1) => (.error c, S1)
   | (.ok x, S1) => if 0 < x.keys.length then (match changeM n S1 x [root] with
     | (.error c, S2) => (.error c, S2)
     | (.ok (_, ks), S2) => (.ok (ks.getD 0 0), S2))
    else match dropM S1 root with
     | (c, S2) => if c = 0 then (.ok (x.kids.getD 0 0), S2) else (.error c, S2)) := Hi (by
   rw [HRR.out, HRK.out]
   unfold delTop
   rw [if_neg h0]
   rfl)
  have HCU := Hi (cut_any H hg key 12 (Nat.le_refl _) hl (by omega) root (lv := 1) rfl)
  rw [← HRK.out] at HCU
  have HST : Hid (RK.2.d.soft.length ≤ S.d.soft.length + 24) := Hi (by rw [HRK.out]; exact (cutM_stay 12 hl.inv root key).soft)
  have HSH : Hid (∀ x S1, RK = (.ok x, S1) → NdShape x) := Hi fun x S1 h => cutM_shape 12 (HRK.out.symm.trans h)
  have hz : (root == 0) = false := by simp [h0]
  clear hl hs HRR HRK
  go_enter Tryz.func18, Tryz.ntmps18
  go_wp2_with fail
  refine HCU.out.mono ?_
  rintro e w2 hpp
  obtain ⟨lk, xk, v, rfl, hk2, ho⟩ := put_out H hpp HL.out.low
  have HK2 := Hi hk2
  obtain ⟨R1, S1⟩ := RK
  obtain ⟨hlaw, hcase⟩ := ho
  have HLW := Hi hlaw
  obtain ⟨q, HCq⟩ : ∃ q, Hid (q = w2.heap.size) := Hy
  obtain ⟨w3, HWw3⟩ : ∃ w3, Hid (w3 = w2.alloc (.cells #[.slice lk.A xk.keys.length lk.ca, .slice lk.B xk.vals.length lk.cb, .slice lk.C xk.kids.length lk.cc] 61)) := Hy
  have HB3 : Hid (Below w2.heap.size w2 w3 ∧ w3.heap.size = w2.heap.size + 1) := Hi (by rw [HWw3.out]; exact ⟨(Below.refl _ _).alloc (Nat.le_refl _) _, by simp⟩)
  have HQ3 : Hid (NdBox w3 q lk xk) := Hi (by rw [HWw3.out, HCq.out]; exact NdBox.new _)
  have HK3 : Hid (Kept K w w3) := Hi (HK2.out.trans (Kept.of_below HB3.out.1 fun k hk => Nat.lt_of_lt_of_le (HTH.out k hk) HK2.out.size))
  go_upto_region 4 with (fail)
  rw [← HWw3.out, ← HCq.out]
  clear HWw3 HCU hpp hk2 hlaw
  rcases hcase with ⟨cd, e1, e2, rfl, rfl, e5⟩ | ⟨e1, rfl, e3⟩
  ·obtain rfl : R1 = .error cd := e1
   have HR8 : Hid (R = (.error cd, S1)) := Hi HR9.out
   obtain ⟨tt, xx, rfl⟩ := e5.some e2
   have HE := Hi (e5.below HB3.out.1)
   have HC0 := Hi e2
   clear e2 e5
   go_wp2_with fail
   go_ret2
   rw [HR8.out]
   exact ⟨(HLW.out.less H (fun k hk => .inl hk) HL.out.low).carry H HB3.out.1, HK3.out, HC0.out, _, rfl, HE.out⟩
  ·obtain rfl : R1 = .ok xk := e1
   have HN2 := Hi e3
   have c0 := HQ3.out.c0
   clear e3
   by_cases hp : 0 < xk.keys.length
   ·have hp2 : (0 : Int) < (xk.keys.length : Int) := by omega
    obtain ⟨RC, HRC⟩ : ∃ RC, Hid (RC = changeM n S1 xk [root]) := Hy
    have HR8 : Hid (R = match (generalizing := false) RC with
     | (.error c, S2) => (.error c, S2)
     | (.ok (_, ks), S2) => (.ok (ks.getD 0 0), S2)) := Hi (by
     rw [HRC.out]
     exact HR9.out.trans (if_pos hp))
    clear HR9
    go_wp2_with (with_reducible refine stop_at (o := ⟨some 32, _, _, _, _, _⟩) ?_)
    refine wpList_load_nd Tryz.ndProg (by rfl) _ rfl q rfl lk xk HQ3.out ?_
    obtain ⟨g, HG⟩ : ∃ g, Hid (g = w3.heap.size) := Hy
    obtain ⟨w4, HW4⟩ : ∃ w4, Hid (w4 = w3.alloc (.cells #[.int .i64 root] 3)) := Hy
    have HB4 : Hid (Below w2.heap.size w2 w4 ∧ w4.heap.size = w2.heap.size + 2) := Hi (by rw [HW4.out]; exact ⟨HB3.out.1.alloc HB3.out.1.size _, by simp [HB3.out.2]⟩)
    have HNU : Hid (Nums w4 .i64 (some ⟨g, 0, none⟩) [root]) := Hi (by
     rw [HW4.out, HG.out]
     refine fun _ => ⟨_, rfl, by simp, fun i z hz => ?_⟩
     cases i with
     | zero => simp only [List.getElem?_cons_zero, Option.some.injEq] at hz; subst hz; rw [Addr.add_mid]; simp
     | succ i => simp at hz)
    have HL4 := Hi (HLW.out.grow H HB4.out.1)
    have HCH := Hi (change_any H HL4.out hg (by have := HST.out; have h2 : S1.d.soft.length ≤ S.d.soft.length + 24 := this; have := HSS.out; omega) (HN2.out.carry HB4.out.1) (fun g hg => .inl (.inr hg)) (HSH.out xk S1 rfl) HNU.out (oc := 1) (fun a ha _ => .inr (by cases ha; show w2.heap.size ≤ g ∧ g < w4.heap.size; have := HG.out; have := HB3.out.2; have := HB4.out.2; omega)) (by show 1 ≤ 2; decide))
    rw [← HRC.out, show [root].length = 1 from rfl] at HCH
    have HKX : Hid (∀ z ∈ xk.keys, -9223372036854775808 ≤ z ∧ z ≤ 9223372036854775807) := Hi HN2.out.is.kw
    clear hp hp2 c0
    go_wp2_with fail
    rw [← HW4.out, ← HG.out]
    refine HCH.out.mono ?_
    rintro e w5 hcp
    obtain ⟨lr, xr, v, rfl, hk5, ho5⟩ := change_out H hcp (fun k hk => .inl (.inl (HL.out.low k hk)))
    have HK5 : Hid (Kept K w w5) := Hi (HK2.out.trans ((Kept.of_below HB4.out.1 fun k hk => Nat.lt_of_lt_of_le (HTH.out k hk) HK2.out.size).trans (hk5.less8 fun k hk => .inl (.inl hk))))
    have HO5 := Hi ho5
    obtain ⟨c, HCc⟩ : ∃ c, Hid (c = w5.heap.size) := Hy
    obtain ⟨w6, HW6⟩ : ∃ w6, Hid (w6 = w5.alloc (.cells #[.slice lr.A xr.keys.length lr.ca, .slice lr.B xr.vals.length lr.cb, .slice lr.C xr.kids.length lr.cc] 61)) := Hy
    have HB6 : Hid (Below w5.heap.size w5 w6) := Hi (by rw [HW6.out]; exact (Below.refl _ _).alloc (Nat.le_refl _) _)
    have HC6 : Hid (NdBox w6 c lr xr) := Hi (by rw [HW6.out, HCc.out]; exact NdBox.new _)
    have HK6 : Hid (Kept K w w6) := Hi (HK5.out.trans (Kept.of_below HB6.out fun k hk => Nat.lt_of_lt_of_le (HTH.out k hk) HK5.out.size))
    have HSZ : Hid (w.heap.size ≤ w4.heap.size) := Hi (Nat.le_trans HK2.out.size HB4.out.1.size)
    go_upto_region 8 with (fail)
    rw [← HW6.out, ← HCc.out]
    clear HW6 HCH hcp hk5 ho5 HW4 HNU HN2
    obtain ⟨R2, S2⟩ := RC
    have hcase := HO5.out.2
    rcases hcase with ⟨cd, e1, e2, rfl, rfl, e5⟩ | ⟨bk, ks, e1, rfl, e3, -, -, -, -, -⟩
    ·obtain rfl : R2 = .error cd := e1
     have HR7 : Hid (R = (.error cd, S2)) := Hi HR8.out
     obtain ⟨tt, xx, rfl⟩ := e5.some e2
     have HE := Hi ((e5.below HB6.out).mono HSZ.out)
     have HC0 := Hi e2
     have HFK := Hi (firstKid_any (NdIs.empty w6))
     clear e2 e5
     go_wp2_with (with_reducible refine stop_at (o := ⟨some 38, _, _, _, _, _⟩) ?_)
     refine wpList_load_nd Tryz.ndProg (by rfl) _ rfl c rfl Lay3.none_ Nd.empty HC6.out ?_
     go_wp2_with fail
     refine HFK.out.mono ?_
     rintro e w7 ⟨rfl, hb⟩
     have HB7 := Hi hb
     clear hb
     go_wp2_with fail
     go_ret2
     rw [HR7.out]
     refine ⟨((HO5.out.1.less H (fun k hk => .inl (.inl (.inl hk))) HL.out.low).carry H HB6.out).carry H HB7.out, HK6.out.trans (Kept.of_below HB7.out fun k hk => Nat.lt_of_lt_of_le (HTH.out k hk) HK6.out.size), HC0.out, _, rfl, HE.out.below HB7.out⟩
    ·obtain rfl : R2 = .ok (bk, ks) := e1
     obtain ⟨h5, h6⟩ := changeM_row HRC.out.symm
     have hbl : bk.length ≤ 1 := by rw [h5]; exact partsN_keys_few xk
     have hrg := changeM_range HLW.out.inv HRC.out.symm
     obtain ⟨hnd, -, -, hlw5⟩ := HO5.out.is rfl hbl (by omega) (fun z hz => HKX.out z (partsN_mem (by rw [← h5]; exact hz))) hrg
     have HR7 : Hid (R = (.ok (xr.kids.getD 0 0), S2)) := Hi (by rw [e3]; exact HR8.out)
     have HL6 : Hid (LawT O w0 K w6 P D n S2 firm) := Hi ((hlw5.less H (fun k hk => .inl (.inl (.inl hk))) HL.out.low).carry H HB6.out)
     have HFK := Hi (firstKid_any (hnd.carry HB6.out))
     clear h5 h6 hbl hrg hnd hlw5 e3 HR8
     go_wp2_with (with_reducible refine stop_at (o := ⟨some 38, _, _, _, _, _⟩) ?_)
     refine wpList_load_nd Tryz.ndProg (by rfl) _ rfl c rfl lr xr HC6.out ?_
     go_wp2_with fail
     refine HFK.out.mono ?_
     rintro e w7 ⟨rfl, hb⟩
     have HB7 := Hi hb
     clear hb
     go_wp2_with fail
     go_ret2
     rw [HR7.out]
     exact ⟨HL6.out.carry H HB7.out, HK6.out.trans (Kept.of_below HB7.out fun k hk => Nat.lt_of_lt_of_le (HTH.out k hk) HK6.out.size), rfl⟩
   ·have hp2 : ¬ (0 : Int) < (xk.keys.length : Int) := by omega
    obtain ⟨RD, HRD⟩ : ∃ RD, Hid (RD = dropM S1 root) := Hy
    have HR8 : Hid (R = if RD.1 = 0 then (.ok (xk.kids.getD 0 0), RD.2) else (.error RD.1, RD.2)) := Hi (by
     have h := HR9.out
     rw [HRD.out]
     exact h.trans (if_neg hp))
    have HL3 := Hi (HLW.out.grow H HB3.out.1)
    have HDP := Hi (drop_any H HL3.out root)
    rw [← HRD.out] at HDP
    have HN3 := Hi (HN2.out.carry HB3.out.1)
    have HQL : Hid (∀ g, lk.has g → g < w3.heap.size) := Hi fun g hg => (HN3.out.lt g hg).2
    clear HR9 hp
    go_wp2_with fail
    refine HDP.out.mono ?_
    rintro e w4 ⟨v, rfl, he, hlaw, hkept⟩
    have HK4 : Hid (Kept K w w4) := Hi (HK3.out.trans (hkept.less8 fun k hk => .inl (.inl hk)))
    have HL4 := Hi (hlaw.less H (fun k hk => .inl (.inl hk)) HL.out.low)
    obtain ⟨cd, S3⟩ := RD
    by_cases hc : cd = 0
    ·subst hc
     obtain rfl : v = .nilIface := he.zero
     have HR7 : Hid (R = (.ok (xk.kids.getD 0 0), S3)) := Hi (by rw [HR8.out]; rfl)
     have HN4 : Hid (NdMine w4 w.heap.size lk xk) := Hi (HN3.out.keep hkept.size fun g hg => hkept.block g (.inl (.inr hg)))
     have HQ4 : Hid (NdBox w4 q lk xk) := Hi (HQ3.out.keep (hkept.block q (.inr ⟨by rw [HCq.out]; exact Nat.le_refl _, HQ3.out.lt⟩)))
     have HFK := Hi (firstKid_any HN4.out.is)
     clear he hlaw hkept HDP hp2 c0
     go_wp2_with (with_reducible refine stop_at (o := ⟨some 47, _, _, _, _, _⟩) ?_)
     refine wpList_load_nd Tryz.ndProg (by rfl) _ rfl q rfl lk xk HQ4.out ?_
     go_wp2_with fail
     refine HFK.out.mono ?_
     rintro e w5 ⟨rfl, hb⟩
     have HB5 := Hi hb
     clear hb
     go_wp2_with fail
     go_ret2
     rw [HR7.out]
     exact ⟨HL4.out.carry H HB5.out, HK4.out.trans (Kept.of_below HB5.out fun k hk => Nat.lt_of_lt_of_le (HTH.out k hk) HK4.out.size), rfl⟩
    ·obtain ⟨tt, xx, rfl⟩ := he.some hc
     have HR7 : Hid (R = (.error cd, S3)) := Hi (by rw [HR8.out]; exact if_neg hc)
     have HE := Hi (he.mono HK3.out.size)
     have HC0 := Hi hc
     clear he hlaw hkept hc HDP
     go_wp2_with fail
     go_ret2
     rw [HR7.out]
     exact ⟨HL4.out, HK4.out, HC0.out, _, rfl, HE.out⟩
end
end Go.Proofs.YticbgbngookmnaaGreatDoor
