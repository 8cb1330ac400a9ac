/-
 TrTopDel. Conditions: as each theorem says.
-/
import Derived.Test.YtafclmbecmgbnaaGreatDoorTrCut
set_option maxRecDepth 100000
set_option maxHeartbeats 4000000
open Nat renaming lt_of_lt_of_le -> zd5
namespace Go.Proofs.YtafclmbecmgbnaaGreatDoor
open Go.RowKit
section
variable {O : yq} (H : yA O)
include H
theorem Y9 {w0 : World} {K : Nat -> Prop} {w : World} {P D n : Nat} {S : TS} {firm : Nat -> List UInt8} (hl : zX O w0 K w P D n S firm) (hg : yO w0) (hs : S.d.soft.length <= 99900) (root key : Int) :
  Calls Tryz.prog 18 #[ptr P, .int .i64 root, .int .i64 key] w (Zr O w0 K w P D n firm (xO n S root key)) := by
 obtain ⟨R, HRR⟩ : ∃ R, Hid (R = xO n S root key) := Hy;have HL := Hi hl;have HTH : Hid (yd K w) := Hi hl.there;have HSS := Hi hs;rw [<- HRR.o];by_cases h0 : root = 0
 ·subst h0;have HR9 : Hid (R = (.error 4, S)) := Hi (by rw [HRR.o]; unfold xO; rw [if_pos rfl]);clear hl hs HRR
  go_enter Tryz.func18, Tryz.ntmps18
  go_wp2_with fail;refine (xF 4 (by decide) _).mono ?_;rintro e w1 ⟨v, rfl, he, hb⟩;have HE := Hi he;have HB := Hi hb;clear he hb;go_wp2_with fail
  go_ret2
  rw [HR9.o];exact ⟨HL.o.carry H HB.o, zg.of_below HB.o HTH.o, by decide, _, rfl, HE.o⟩
 ·obtain ⟨RK, HRK⟩ : ∃ RK, Hid (RK = kp n 12 S root key) := Hy;have HR9 : Hid (R = match (generalizing := false) RK with
   | (.error c, S1) => (.error c, S1)
   | (.ok x, S1) => if 0 < x.keys.length then (match yh n S1 x [root] with
     | (.error c, S2) => (.error c, S2)
     | (.ok (_, ks), S2) => (.ok (ks.getD 0 0), S2))
    else match xU S1 root with
     | (c, S2) => if c = 0 then (.ok (x.kids.getD 0 0), S2) else (.error c, S2)) := Hi (by
   rw [HRR.o, HRK.o];unfold xO;rw [if_neg h0];rfl)
  have HCU := Hi (zch H hg key 12 (Nat.le_refl _) hl (by omega) root (lv := 1) rfl);rw [<- HRK.o] at HCU;have HST : Hid (RK.2.d.soft.length <= S.d.soft.length + 24) := Hi (by rw [HRK.o]; exact (kC 12 hl.inv root key).soft);have HSH : Hid (∀ x S1, RK = (.ok x, S1) -> xw x) := Hi fun x S1 h => Xu 12 (HRK.o.symm.trans h)
  have hz : (root == 0) = false := by simp [h0]
  clear hl hs HRR HRK
  go_enter Tryz.func18, Tryz.ntmps18
  go_wp2_with fail;refine HCU.o.mono ?_;rintro e w2 hpp;obtain ⟨lk, xk, v, rfl, hk2, ho⟩ := Y6 H hpp HL.o.low;have HK2 := Hi hk2;obtain ⟨R1, S1⟩ := RK;obtain ⟨hlaw, hcase⟩ := ho;have HLW := Hi hlaw;obtain ⟨q, HCq⟩ : ∃ q, Hid (q = w2.1.size) := Hy;obtain ⟨w3, HWw3⟩ : ∃ w3, Hid (w3 = w2.alloc (.cells #[.slice lk.A xk.keys.length lk.ca, .slice lk.B xk.vals.length lk.cb, .slice lk.C xk.kids.length lk.cc] 48)) := Hy;have HB3 : Hid (Below w2.1.size w2 w3 /\ w3.1.size = w2.1.size + 1) := Hi (by rw [HWw3.o]; exact ⟨(Below.refl _ _).alloc (Nat.le_refl _) _, by simp⟩);have HQ3 : Hid (zb w3 q lk xk) := Hi (by rw [HWw3.o, HCq.o]; exact zb.new _);have HK3 : Hid (zg K w w3) := Hi (HK2.o.trans (zg.of_below HB3.o.1 fun k hk => zd5 (HTH.o k hk) HK2.o.size));go_upto_region 4 with (fail)
  rw [<- HWw3.o, <- HCq.o];clear HWw3 HCU hpp hk2 hlaw;rcases hcase with ⟨cd, e1, e2, rfl, rfl, e5⟩ | ⟨e1, rfl, e3⟩
  ·obtain rfl : R1 = .error cd := e1;have HR8 : Hid (R = (.error cd, S1)) := Hi HR9.o;obtain ⟨tt, xx, rfl⟩ := e5.some e2;have HE := Hi (e5.below HB3.o.1);have HC0 := Hi e2;clear e2 e5;go_wp2_with fail
   go_ret2
   rw [HR8.o];exact ⟨(HLW.o.less H (fun k hk => .inl hk) HL.o.low).carry H HB3.o.1, HK3.o, HC0.o, _, rfl, HE.o⟩
  ·obtain rfl : R1 = .ok xk := e1;have HN2 := Hi e3;have c0 := HQ3.o.c0;clear e3;by_cases hp : 0 < xk.keys.length
   ·have hp2 : (0 : Int) < (xk.keys.length : Int) := by omega
    obtain ⟨RC, HRC⟩ : ∃ RC, Hid (RC = yh n S1 xk [root]) := Hy;have HR8 : Hid (R = match (generalizing := false) RC with
     | (.error c, S2) => (.error c, S2)
     | (.ok (_, ks), S2) => (.ok (ks.getD 0 0), S2)) := Hi (by
     rw [HRC.o];exact HR9.o.trans (if_pos hp))
    clear HR9;go_wp2_with (with_reducible refine zc (o := ⟨some 32, _, _, _, _, _⟩) ?_);refine zf Tryz.ndProg (by rfl) _ rfl q rfl lk xk HQ3.o ?_;obtain ⟨g, HG⟩ : ∃ g, Hid (g = w3.1.size) := Hy;obtain ⟨w4, HW4⟩ : ∃ w4, Hid (w4 = w3.alloc (.cells #[.int .i64 root] 3)) := Hy;have HB4 : Hid (Below w2.1.size w2 w4 /\ w4.1.size = w2.1.size + 2) := Hi (by rw [HW4.o]; exact ⟨HB3.o.1.alloc HB3.o.1.size _, by simp [HB3.o.2]⟩);have HNU : Hid (Nums w4 .i64 (some ⟨g, 0, none⟩) [root]) := Hi (by
     rw [HW4.o, HG.o];refine fun _ => ⟨_, rfl, by simp, fun i z hz => ?_⟩
     cases i with
     | zero => simp only [List.getElem?_cons_zero, Option.some.injEq] at hz; subst hz; rw [Addr.add_mid]; simp
     | succ i => simp at hz)
    have HL4 := Hi (HLW.o.grow H HB4.o.1);have HCH := Hi (Ze H HL4.o hg (by have := HST.o; have h2 : S1.d.soft.length <= S.d.soft.length + 24 := this; have := HSS.o; omega) (HN2.o.carry HB4.o.1) (fun g hg => .inl (.inr hg)) (HSH.o xk S1 rfl) HNU.o (oc := 1) (fun a ha _ => .inr (by cases ha; show w2.1.size <= g /\ g < w4.1.size; have := HG.o; have := HB3.o.2; have := HB4.o.2; omega)) (by show 1 <= 2; decide));rw [<- HRC.o, show [root].length = 1 from rfl] at HCH;have HKX : Hid (∀ z ∈ xk.keys, -9223372036854775808 <= z /\ z <= 9223372036854775807) := Hi HN2.o.is.kw;clear hp hp2 c0;go_wp2_with fail;rw [<- HW4.o, <- HG.o];refine HCH.o.mono ?_;rintro e w5 hcp;obtain ⟨lr, xr, v, rfl, hk5, ho5⟩ := Zf H hcp (fun k hk => .inl (.inl (HL.o.low k hk)));have HK5 : Hid (zg K w w5) := Hi (HK2.o.trans ((zg.of_below HB4.o.1 fun k hk => zd5 (HTH.o k hk) HK2.o.size).trans (hk5.less8 fun k hk => .inl (.inl hk))));have HO5 := Hi ho5;obtain ⟨c, HCc⟩ : ∃ c, Hid (c = w5.1.size) := Hy;obtain ⟨w6, HW6⟩ : ∃ w6, Hid (w6 = w5.alloc (.cells #[.slice lr.A xr.keys.length lr.ca, .slice lr.B xr.vals.length lr.cb, .slice lr.C xr.kids.length lr.cc] 48)) := Hy;have HB6 : Hid (Below w5.1.size w5 w6) := Hi (by rw [HW6.o]; exact (Below.refl _ _).alloc (Nat.le_refl _) _);have HC6 : Hid (zb w6 c lr xr) := Hi (by rw [HW6.o, HCc.o]; exact zb.new _);have HK6 : Hid (zg K w w6) := Hi (HK5.o.trans (zg.of_below HB6.o fun k hk => zd5 (HTH.o k hk) HK5.o.size));have HSZ : Hid (w.1.size <= w4.1.size) := Hi (Nat.le_trans HK2.o.size HB4.o.1.size);go_upto_region 8 with (fail)
    rw [<- HW6.o, <- HCc.o];clear HW6 HCH hcp hk5 ho5 HW4 HNU HN2;obtain ⟨R2, S2⟩ := RC;have hcase := HO5.o.2;rcases hcase with ⟨cd, e1, e2, rfl, rfl, e5⟩ | ⟨bk, ks, e1, rfl, e3, -, -, -, -, -⟩
    ·obtain rfl : R2 = .error cd := e1;have HR7 : Hid (R = (.error cd, S2)) := Hi HR8.o;obtain ⟨tt, xx, rfl⟩ := e5.some e2;have HE := Hi ((e5.below HB6.o).mono HSZ.o);have HC0 := Hi e2;have HFK := Hi (vf (xH.empty w6));clear e2 e5;go_wp2_with (with_reducible refine zc (o := ⟨some 38, _, _, _, _, _⟩) ?_);refine zf Tryz.ndProg (by rfl) _ rfl c rfl zd.none_ Nd.empty HC6.o ?_;go_wp2_with fail;refine HFK.o.mono ?_;rintro e w7 ⟨rfl, hb⟩;have HB7 := Hi hb;clear hb;go_wp2_with fail
     go_ret2
     rw [HR7.o];refine ⟨((HO5.o.1.less H (fun k hk => .inl (.inl (.inl hk))) HL.o.low).carry H HB6.o).carry H HB7.o, HK6.o.trans (zg.of_below HB7.o fun k hk => zd5 (HTH.o k hk) HK6.o.size), HC0.o, _, rfl, HE.o.below HB7.o⟩
    ·obtain rfl : R2 = .ok (bk, ks) := e1;obtain ⟨h5, h6⟩ := vU HRC.o.symm;have hbl : bk.length <= 1 := by rw [h5]; exact wP xk
     have hrg := ja HLW.o.inv HRC.o.symm;obtain ⟨hnd, -, -, hlw5⟩ := HO5.o.is rfl hbl (by omega) (fun z hz => HKX.o z (Zk (by rw [<- h5]; exact hz))) hrg;have HR7 : Hid (R = (.ok (xr.kids.getD 0 0), S2)) := Hi (by rw [e3]; exact HR8.o);have HL6 : Hid (zX O w0 K w6 P D n S2 firm) := Hi ((hlw5.less H (fun k hk => .inl (.inl (.inl hk))) HL.o.low).carry H HB6.o);have HFK := Hi (vf (hnd.carry HB6.o));clear h5 h6 hbl hrg hnd hlw5 e3 HR8;go_wp2_with (with_reducible refine zc (o := ⟨some 38, _, _, _, _, _⟩) ?_);refine zf Tryz.ndProg (by rfl) _ rfl c rfl lr xr HC6.o ?_;go_wp2_with fail;refine HFK.o.mono ?_;rintro e w7 ⟨rfl, hb⟩;have HB7 := Hi hb;clear hb;go_wp2_with fail
     go_ret2
     rw [HR7.o];exact ⟨HL6.o.carry H HB7.o, HK6.o.trans (zg.of_below HB7.o fun k hk => zd5 (HTH.o k hk) HK6.o.size), rfl⟩
   ·have hp2 : ¬ (0 : Int) < (xk.keys.length : Int) := by omega
    obtain ⟨RD, HRD⟩ : ∃ RD, Hid (RD = xU S1 root) := Hy;have HR8 : Hid (R = if RD.1 = 0 then (.ok (xk.kids.getD 0 0), RD.2) else (.error RD.1, RD.2)) := Hi (by
     have h := HR9.o;rw [HRD.o];exact h.trans (if_neg hp))
    have HL3 := Hi (HLW.o.grow H HB3.o.1);have HDP := Hi (VJ H HL3.o root);rw [<- HRD.o] at HDP;have HN3 := Hi (HN2.o.carry HB3.o.1);have HQL : Hid (∀ g, lk.has g -> g < w3.1.size) := Hi fun g hg => (HN3.o.lt g hg).2
    clear HR9 hp;go_wp2_with fail;refine HDP.o.mono ?_;rintro e w4 ⟨v, rfl, he, hlaw, hkept⟩;have HK4 : Hid (zg K w w4) := Hi (HK3.o.trans (hkept.less8 fun k hk => .inl (.inl hk)));have HL4 := Hi (hlaw.less H (fun k hk => .inl (.inl hk)) HL.o.low);obtain ⟨cd, S3⟩ := RD;by_cases hc : cd = 0
    ·subst hc;obtain rfl : v = .nilIface := he.zero;have HR7 : Hid (R = (.ok (xk.kids.getD 0 0), S3)) := Hi (by rw [HR8.o]; rfl);have HN4 : Hid (zl w4 w.1.size lk xk) := Hi (HN3.o.keep hkept.size fun g hg => hkept.block g (.inl (.inr hg)));have HQ4 : Hid (zb w4 q lk xk) := Hi (HQ3.o.keep (hkept.block q (.inr ⟨by rw [HCq.o]; exact Nat.le_refl _, HQ3.o.lt⟩)));have HFK := Hi (vf HN4.o.is);clear he hlaw hkept HDP hp2 c0;go_wp2_with (with_reducible refine zc (o := ⟨some 47, _, _, _, _, _⟩) ?_);refine zf Tryz.ndProg (by rfl) _ rfl q rfl lk xk HQ4.o ?_;go_wp2_with fail;refine HFK.o.mono ?_;rintro e w5 ⟨rfl, hb⟩;have HB5 := Hi hb;clear hb;go_wp2_with fail
     go_ret2
     rw [HR7.o];exact ⟨HL4.o.carry H HB5.o, HK4.o.trans (zg.of_below HB5.o fun k hk => zd5 (HTH.o k hk) HK4.o.size), rfl⟩
    ·obtain ⟨tt, xx, rfl⟩ := he.some hc;have HR7 : Hid (R = (.error cd, S3)) := Hi (by rw [HR8.o]; exact if_neg hc);have HE := Hi (he.mono HK3.o.size);have HC0 := Hi hc;clear he hlaw hkept hc HDP;go_wp2_with fail
     go_ret2
     rw [HR7.o];exact ⟨HL4.o, HK4.o, HC0.o, _, rfl, HE.o⟩
end
end Go.Proofs.YtafclmbecmgbnaaGreatDoor
