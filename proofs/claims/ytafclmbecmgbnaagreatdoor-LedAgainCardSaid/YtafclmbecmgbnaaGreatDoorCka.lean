/-
  Cka. Conditions: as said.
-/
import Derived.Test.YtafclmbecmgbnaaGreatDoorTa
import Derived.Test.YtafclmbecmgbnaaGreatDoorCells
set_option maxRecDepth 100000
set_option maxHeartbeats 2000000
open Nat renaming le_trans -> ze2,le_refl -> ze3
open List renaming getD_eq_getElem?_getD -> ze6,getElem?_eq_getElem -> ze7
namespace Go.Proofs.YtafclmbecmgbnaaGreatDoor
open Go.RowKit
section
abbrev spV (sector level least end_:Int):Value:=.agg #[.int .i64 sector,.int .i64 level,.int .i64 least,.int .i64 end_]
theorem kF (n:Int) (hn:n ≠ 0) (w:World):Calls Tryz.prog 72 #[.int .i64 n] w (yZ n w.1.size w):=by
 go_enter Tryz.func72,Tryz.ntmps72
 go_wp2_with fail;refine (yi _ w.1.size n _ w (.inr ⟨hn,.base⟩) (ze3 _)).mono ?_;rintro e w' ⟨v,rfl,he,hb⟩;have HE:=Hi he;have HB:=Hi hb;clear he hb;go_wp2_with fail
 go_ret
 exact ⟨_,rfl,HE.o,HB.o⟩
section
variable {O:zV} (H:ye O)
include H
theorem Ki {w0:World} {K:Nat -> Prop} {w:World} {P D n:Nat} {S:TS} {firm:Nat -> List UInt8} (hl:zP O w0 K w P D n S firm) (hg:yC w0) (i level lo hi:Int) :
  Calls Tryz.prog 117 #[ptr P,spV i level lo hi] w (V4 w (yk S i level)):=by
 have hbn:=Tryz.nodeNone;have hz:=Tryz.zeroNode;obtain ⟨wb,HWB⟩:=hY (w.alloc (.cells #[.int .i64 i,.int .i64 level,.int .i64 lo,.int .i64 hi] 176));obtain ⟨p,HPP⟩:=hY (wb.1.size);obtain ⟨w1,HW1⟩:=hY (wb.alloc (.cells #[.slice none 0 0,.slice none 0 0,.slice none 0 0] 48));have HBB:=hI (Below w.1.size w wb) (by rw [HWB.o]; exact bA);have HB1:=hI (Below w.1.size w w1) (by rw [HW1.o]; exact HBB.o.alloc HBB.o.size _);have HX1:=hI (zb w1 p zd.none_ Nd.empty) (by rw [HW1.o,HPP.o]; exact zb.new (l:=zd.none_) (x:=Nd.empty) _);have HFZ:=hI (∀ j,w1.frozen? ⟨p,j,none⟩ = false) (by rw [HW1.o,HPP.o]; exact zU _ _ _);have HPL:=hI (p < w1.1.size) (by rw [HW1.o,HPP.o]; simp);have HLP:=hI (w.1.size <= p) (by rw [HPP.o]; exact HBB.o.size);have HPW:=hI (p = w.1.size + 1) (by rw [HPP.o,HWB.o]; simp);have HWW:=hI (w1 = (w.alloc (.cells #[.int .i64 i,.int .i64 level,.int .i64 lo,.int .i64 hi] 176)).alloc (.cells #[.slice none 0 0,.slice none 0 0,.slice none 0 0] 48)) (by rw [HW1.o,HWB.o]);have HL1:=Hi (hl.carry H HB1.o);have HLA:=Hi (HL1.o.laid hg);clear hl;by_cases h12:12 < level
 ·have HM:=hI (yk S i level = .error 2) (by unfold yk; rw [if_pos h12]);rw [HM.o]
  go_enter Tryz.func117,Tryz.ntmps117
  go_wp2_with fail;rw [<- HWW.o,<- HPW.o];clear HW1 HPP HWB HBB HWW HPW;refine (kF 2 (by decide) _).mono ?_;rintro e w2 ⟨v,rfl,he,hb⟩;have HE:=Hi he;have HB2:=Hi (HB1.o.trans (hb.mono HB1.o.size));have HX2:=Hi (HX1.o.carry hb HPL.o);have f0:=zl hb HPL.o HFZ.o 0;have f1:=zl hb HPL.o HFZ.o 1;have f2:=zl hb HPL.o HFZ.o 2;have d0:=HX2.o.c0;have d1:=HX2.o.c1;have d2:=HX2.o.c2;obtain ⟨w3,HWw3⟩:=hY (((w2.setCell ⟨p,0,none⟩ (.slice none 0 0)).setCell ⟨p,1,none⟩ (.slice none 0 0)).setCell ⟨p,2,none⟩ (.slice none 0 0));have HSw3:=hI (w3 = zx w2 p zd.none_ Nd.empty) HWw3.o;have HXw3:=hI (zb w3 p zd.none_ Nd.empty) (by rw [HSw3.o]; exact zC HX2.o);have HB3:=hI (Below w.1.size w w3) (by rw [HSw3.o]; exact xc HB2.o HLP.o);have HE3:=hI (zi w3 w.1.size 2 v) (by rw [HSw3.o]; exact (yR HE.o HPL.o).mono HB1.o.size);clear he hb HE HB2 HX2;go_wp2_with fail;rw [<- HWw3.o];exact bodyPost_ret (zq Tryz.ndProg rfl _ _ p zd.none_ Nd.empty v rfl rfl HXw3.o) rfl ⟨by decide,v,rfl,HE3.o,HB3.o⟩
 ·cases hin:jb S.s i with
  | false =>
   have HM:=hI (yk S i level = .error 4) (by unfold yk; rw [if_neg h12,show inZ S.s i = jb S.s i from rfl,hin,if_neg (by decide)]);rw [HM.o];have HLD:=Hi (H.load HL1.o.pg HL1.o.inv HL1.o.up HLA.o.crc i);rw [hin] at HLD
   go_enter Tryz.func117,Tryz.ntmps117
   go_wp2_with fail;rw [<- HWW.o,<- HPW.o];clear HW1 HPP HWB HBB HWW HPW;refine HLD.o.mono ?_;rintro e w2 ⟨v,rfl,he,hb⟩;rw [if_neg (by decide)] at he;obtain ⟨tt,xx,rfl⟩:=he.some (by decide);rw [if_neg (by decide)];obtain ⟨v1,HV1⟩:=hY (Value.iface tt xx);have HE1:=hI (zi w2 w1.1.size 4 v1) (by rw [HV1.o]; exact he);have HBA:=Hi hb;clear he hb HLD;go_wp2_with fail;rw [<- HV1.o];refine (yi _ w1.1.size 4 v1 w2 HE1.o HBA.o.size).mono ?_;rintro e w4 ⟨v,rfl,he,hb4⟩;have hb:=HBA.o.trans (hb4.mono HBA.o.size);clear hb4 HBA HE1 HV1;have HE:=Hi he;have HB2:=Hi (HB1.o.trans (hb.mono HB1.o.size));have HX2:=Hi (HX1.o.carry hb HPL.o);have f0:=zl hb HPL.o HFZ.o 0;have f1:=zl hb HPL.o HFZ.o 1;have f2:=zl hb HPL.o HFZ.o 2;have d0:=HX2.o.c0;have d1:=HX2.o.c1;have d2:=HX2.o.c2;obtain ⟨w3,HWw3⟩:=hY (((w4.setCell ⟨p,0,none⟩ (.slice none 0 0)).setCell ⟨p,1,none⟩ (.slice none 0 0)).setCell ⟨p,2,none⟩ (.slice none 0 0));have HSw3:=hI (w3 = zx w4 p zd.none_ Nd.empty) HWw3.o;have HXw3:=hI (zb w3 p zd.none_ Nd.empty) (by rw [HSw3.o]; exact zC HX2.o);have HB3:=hI (Below w.1.size w w3) (by rw [HSw3.o]; exact xc HB2.o HLP.o);have HE3:=hI (zi w3 w.1.size 4 v) (by rw [HSw3.o]; exact (yR HE.o HPL.o).mono HB1.o.size);clear he hb HE HB2 HX2;go_wp2_with fail;rw [<- HWw3.o];exact bodyPost_ret (zq Tryz.ndProg rfl _ _ p zd.none_ Nd.empty v rfl rfl HXw3.o) rfl ⟨by decide,v,rfl,HE3.o,HB3.o⟩
  | true =>
   obtain ⟨dt,HDT⟩:=hY (S.data i.toNat);have HM:=hI (yk S i level = match yg dt with | some x=>.ok x | none=>.error 2) (by unfold yk; rw [if_neg h12,show inZ S.s i = jb S.s i from rfl,hin,if_pos rfl,HDT.o]; cases yg (S.data i.toNat) <;> rfl);have HLD:=Hi (H.load HL1.o.pg HL1.o.inv HL1.o.up HLA.o.crc i);rw [hin,if_pos rfl,if_pos rfl,<- HDT.o] at HLD
   go_enter Tryz.func117,Tryz.ntmps117
   go_wp2_with fail;rw [<- HWW.o,<- HPW.o];clear HW1 HPP HWB HBB HWW HPW;refine HLD.o.mono ?_;rintro e w2 ⟨v,rfl,he,hb⟩;obtain rfl:=he.zero;have HB2:=Hi (HB1.o.trans (hb.mono HB1.o.size));have HX2:=Hi (HX1.o.carry hb HPL.o);have HF2:=hI (∀ j,w2.frozen? ⟨p,j,none⟩ = false) (zl hb HPL.o HFZ.o);clear he hb HLD HX1 HFZ HB1;obtain ⟨ss,HSS⟩:∃ ss:ByteArray,Hid (ss = ⟨dt.toArray⟩):=Hy;rw [show txt dt = Value.string ss by rw [HSS.o]; rfl];have HRD:=Hi (XC w2 ss);rw [show ss.data.toList = dt by rw [HSS.o]] at HRD;go_wp2_with fail;refine HRD.o.mono ?_;rintro e w4 hrp;obtain ⟨l,x,v1,c,rfl,he,hwh,hb⟩:∃ l x v1 c,e = .returned (.tuple #[ndV l x,v1]) /\ zi w4 w2.1.size c v1 /\ ((c = 2 /\ yg dt = none /\ l = zd.none_ /\ x = Nd.empty) \/ (c = 0 /\ yg dt = some x /\ zo w4 w2.1.size l x)) /\ Below w2.1.size w2 w4:=by
    rcases hrp with ⟨hr,v,rfl,he,hb⟩ | ⟨x,l,hr,rfl,hn,hb⟩
    ·exact ⟨_,_,v,2,rfl,he,.inl ⟨rfl,hr,rfl,rfl⟩,hb⟩
    ·exact ⟨l,x,_,0,rfl,.nil _ _,.inr ⟨rfl,hr,hn⟩,hb⟩
   have HWH:=Hi hwh;have HNP:=hI (¬ l.has p) (by
    rcases hwh with ⟨_,_,rfl,_⟩ | ⟨_,_,hn⟩
    ·exact zd.has_none p
    ·intro h;have:=(hn.lt p h).1;have:=HX2.o.lt;omega)
   obtain ⟨q,HQQ⟩:=hY (w4.1.size);obtain ⟨w5,HW5⟩:=hY (w4.alloc (.cells #[.slice l.A x.keys.length l.ca,.slice l.B x.vals.length l.cb,.slice l.C x.kids.length l.cc] 48));have HB45:=hI (Below w4.1.size w4 w5) (by rw [HW5.o]; exact bA);have HE5:=hI (zi w5 w2.1.size c v1) (he.below HB45.o);have HS5:=hI (LdS w p q l x w5) (by
    have hb5:=hb.trans (HB45.o.mono hb.size);refine ⟨HX2.o.carry hb5 HX2.o.lt,?_,fun j=>zl hb5 HX2.o.lt HF2.o j,?_,HB2.o.trans (hb5.mono HB2.o.size),HLP.o⟩
    ·rw [HW5.o,HQQ.o]; exact zb.new (l:=l) (x:=x) _
    ·rw [HQQ.o]; exact Nat.lt_of_lt_of_le HX2.o.lt hb.size)
   have HP2:=hI (p < w2.1.size /\ w.1.size <= w2.1.size /\ w2.1.size <= w5.1.size) ⟨HX2.o.lt,HB2.o.size,ze2 hb.size HB45.o.size⟩;have HN5:=hI (∀ w',Below w5.1.size w5 w' -> (c = 2 /\ yg dt = none /\ l = zd.none_ /\ x = Nd.empty) \/ (c = 0 /\ yg dt = some x /\ zo w' w2.1.size l x)) (fun w' hb'=>hwh.imp id fun h=>⟨h.1,h.2.1,(h.2.2.carry HB45.o).carry hb'⟩);clear he hb HRD HX2 HF2 HB2 HB45 hwh HWH hrp;go_upto_region 7 with (fail)
   rw [<- HW5.o,<- HQQ.o];clear HW5 HQQ;refine wp_region_held (S:=fun w9=>zb w9 q l x) (by kernel_rfl) ?_;change wpAnyH _ _ _ _ _ _ _ _ w5.drew;obtain ⟨wa,HWA⟩:=hY (w5.drew);rw [<- HWA.o];have hS:zb wa q l x:=by rw [HWA.o]; exact HS5.o.b.carry (Below.refl _ _).drew HS5.o.b.lt
   have HBA:=hI (Below w5.1.size w5 wa) (by rw [HWA.o]; exact (Below.refl _ _).drew);clear HWA;refine xG9 0 31 (ndV l x) rfl (yE Tryz.ndProg (by rfl) _ rfl q rfl l x (fun _ h=>h)) hS ?_;refine xA9 1 32 (v1) hS ?_;refine xJ9 2 (some 33) (fun K hK=>?_);go_simp;refine (yi _ w2.1.size c v1 wa (HE5.o.below HBA.o) (ze2 HP2.o.2.2 HBA.o.size)).mono ?_;rintro e wn ⟨vv,rfl,he,hb⟩;have hS2:=hS.carry hb hS.lt;have HEE:=Hi he;have HBN:=Hi (HBA.o.trans (hb.mono HBA.o.size));clear he hb hS;refine hK.out _ _ hS2 ?_;clear hK K;have hS:=hS2;clear hS2;refine xJ9 3 (none) (fun K hK=>?_);have HSS:=Hi (HS5.o.carry HBN.o);have HAA:=Hi HSS.o.a;have f0:=HSS.o.fz 0;have f1:=HSS.o.fz 1;have f2:=HSS.o.fz 2;have d0:=HAA.o.c0;have d1:=HAA.o.c1;have d2:=HAA.o.c2;obtain ⟨w6,HWw6⟩:=hY (((wn.setCell ⟨p,0,none⟩ (.slice l.A x.keys.length l.ca)).setCell ⟨p,1,none⟩ (.slice l.B x.vals.length l.cb)).setCell ⟨p,2,none⟩ (.slice l.C x.kids.length l.cc));have HSw6:=hI (w6 = zx wn p l x) HWw6.o;have HXw6:=hI (zb w6 p l x) (by rw [HSw6.o]; exact zC HAA.o);go_simp;rw [<- HWw6.o];have hS2:zb w6 q l x:=by
    rw [HSw6.o];exact hS.keep (zj (by have:=HSS.o.pq; omega))
   refine hK.out _ _ hS2 ?_;clear hK K hS;have hS:=hS2;clear hS2;refine xA9 4 5 (vv) hS ?_;refine wpAnyH_done (by kernel_rfl) ?_ _;have HB6:=hI (Below w.1.size w w6) (by rw [HSw6.o]; exact xc HSS.o.below HLP.o);have HE6:=hI (zi w6 w.1.size c vv) (by rw [HSw6.o]; exact (yR HEE.o HP2.o.1).mono HP2.o.2.1);go_wp2_with fail;rw [HM.o];refine bodyPost_ret (zq Tryz.ndProg rfl _ _ p l x vv rfl rfl HXw6.o) rfl ?_;rcases HN5.o _ HBN.o with ⟨rfl,hr,rfl,rfl⟩ | ⟨rfl,hr,hn⟩
   ·rw [hr];exact ⟨by decide,vv,rfl,HE6.o,HB6.o⟩
   ·obtain rfl:=HE6.o.zero;rw [hr];exact ⟨je hr,l,rfl,by rw [HSw6.o]; exact (vi hn HNP.o).mono HP2.o.2.1,HB6.o⟩
end
end
section
def qA (x:Nd) (level least end_:Int):Bool:=decide ((if level = 1 then 1 else 3) <= x.keys.length) && (decide (least <= x.keys.getD 0 0) && decide (x.keys.getD (x.keys.length - 1) 0 < end_))
structure Vh (w:World) (p q:Nat) (l:zd) (x:Nd) (s lv lo hi:Int) (wr:World):Prop where
 cp:xz w p l x wr
 c0:wr.cell? ⟨q,0,none⟩ = some (.int .i64 s)
 c1:wr.cell? ⟨q,1,none⟩ = some (.int .i64 lv)
 c2:wr.cell? ⟨q,2,none⟩ = some (.int .i64 lo)
 c3:wr.cell? ⟨q,3,none⟩ = some (.int .i64 hi)
 pq:q = p + 1
theorem Vh.new {w:World} {l:zd} {x:Nd} (h:xt w l x) (s lv lo hi:Int):Vh w w.1.size (w.1.size + 1) l x s lv lo hi ((w.alloc (.cells #[.slice l.A x.keys.length l.ca,.slice l.B x.vals.length l.cb,.slice l.C x.kids.length l.cc] 48)).alloc (.cells #[.int .i64 s,.int .i64 lv,.int .i64 lo,.int .i64 hi] 176)):=by
 obtain ⟨w1,HW1⟩:∃ w1,w1 = w.alloc (.cells #[.slice l.A x.keys.length l.ca,.slice l.B x.vals.length l.cb,.slice l.C x.kids.length l.cc] 48):=⟨_,rfl⟩
 have h1:xz w w.1.size l x w1:=by rw [HW1]; exact xz.new h
 have hs:w1.1.size = w.1.size + 1:=by rw [HW1]; simp
 rw [<- HW1,<- hs];have hc:=wP.new (w:=w1) [.int .i64 s,.int .i64 lv,.int .i64 lo,.int .i64 hi] 176;exact ⟨h1.carry ((Below.refl _ _).alloc (ze3 _) _),hc.cell rfl,hc.cell rfl,hc.cell rfl,hc.cell rfl,hs⟩
structure Yw (p q:Nat) (A:Addr) (many ca j:Nat) (k0 k1 lo hi:Int) (w:World):Prop where
 c0:w.cell? ⟨p,0,none⟩ = some (.slice (some A) many ca)
 hc:w.cell? A = some (.int .i64 k0)
 hd:w.cell? (A.add j) = some (.int .i64 k1)
 e2:w.cell? ⟨q,2,none⟩ = some (.int .i64 lo)
 e3:w.cell? ⟨q,3,none⟩ = some (.int .i64 hi)
theorem Kh {w:World} {l:zd} {x:Nd} (h:xt w l x) (s lv lo hi:Int):Calls Tryz.prog 118 #[ndV l x,spV s lv lo hi] w
  fun e w'=>e = .returned (.bool (qA x lv lo hi)) /\ Below w.1.size w w':=by
 obtain ⟨p,HPP⟩:=hY (w.1.size);obtain ⟨q,HQQ⟩:=hY (w.1.size + 1);obtain ⟨w1,HW1⟩:=hY ((w.alloc (.cells #[.slice l.A x.keys.length l.ca,.slice l.B x.vals.length l.cb,.slice l.C x.kids.length l.cc] 48)).alloc (.cells #[.int .i64 s,.int .i64 lv,.int .i64 lo,.int .i64 hi] 176));have HS1:=hI (Vh w p q l x s lv lo hi w1) (by rw [HW1.o,HPP.o,HQQ.o]; exact Vh.new h s lv lo hi);have HKL:=Hi h.kl;clear h;have c0:=HS1.o.cp.b.c0;have e1:=HS1.o.c1;obtain ⟨least,HLE⟩:∃ m:Nat,Hid (m = if lv = 1 then 1 else 3):=Hy;have h1:1 <= least /\ least <= 3:=by rw [HLE.o]; split <;> decide
 by_cases hm:least <= x.keys.length
 ·obtain ⟨A,HA,hc⟩:=yf HS1.o.cp.is.keys (i:=0) (by omega);obtain ⟨A2,HA2,hd⟩:=yf HS1.o.cp.is.keys (i:=x.keys.length - 1) (by omega);obtain rfl:A = A2:=by rw [HA] at HA2; exact Option.some.inj HA2
  have hc0:w1.cell? A = some (.int .i64 (x.keys[0]'(by omega))):=by have:=hc; unfold Addr.add at this; simpa using this
  obtain ⟨k0,HK0⟩:=hY (x.keys[0]'(by omega));obtain ⟨k1,HK1⟩:=hY (x.keys[x.keys.length - 1]'(by omega));have HR:=hI (qA x lv lo hi = (decide (lo <= k0) && decide (k1 < hi))) (by
   unfold qA;rw [<- HLE.o,decide_eq_true hm,Bool.true_and,HK0.o,HK1.o,ze6,ze7 (by omega),ze6,ze7 (by omega)]; rfl)
  rw [HR.o];rw [<- HK0.o] at hc0;rw [<- HK1.o] at hd;rw [HA] at c0;obtain ⟨j,HJ⟩:∃ j,Hid (x.keys.length = j + 1):=⟨x.keys.length - 1,Hi (by omega)⟩
  obtain ⟨many,HMA⟩:=hY (x.keys.length);have hjw:wrap64 ((many:Int) - 1) = (j:Int):=by have:=HJ.o; have:=HMA.o; have:=HKL.o; unfold maxLen at this; unfold wrap64; omega
  rw [show x.keys.length - 1 = j by have:=HJ.o; omega] at hd;rw [<- HMA.o] at c0 hm;have hjl:(j:Int) < (many:Int):=by have:=HJ.o; have:=HMA.o; omega
  have hm0:(0:Int) < (many:Int):=by omega
  have HFC:=hI (Yw p q A many l.ca j k0 k1 lo hi w1.drew) ⟨c0,hc0,hd,HS1.o.c2,HS1.o.c3⟩;clear HA HA2 HR HK0 HK1 HJ hc hd hc0;by_cases hlv:lv = 1
  ·have HLV:=Hi hlv;have hm1:(1:Int) <= (many:Int):=by rw [HLE.o,if_pos hlv] at hm; omega
   clear hm HLE h1 hlv;by_cases hlo:lo <= k0
   ·by_cases hhi:k1 < hi
    ·rw [decide_eq_true hlo,decide_eq_true hhi,show (true && true) = true from rfl]
     go_enter Tryz.func118,Tryz.ntmps118
     go_upto_region 1 with (fail)
     rw [<- HW1.o,<- HQQ.o,<- HPP.o];clear HW1 HQQ HPP;have hlv:=HLV.o;go_upto_region 5 with (fail)
     clear hlv;refine wp_region_held (S:=Yw p q A many l.ca j k0 k1 lo hi) (by kernel_rfl) ?_;change wpAnyH _ _ _ _ _ _ _ _ w1.drew;obtain ⟨wa,HWA⟩:=hY (w1.drew);rw [<- HWA.o];have hS:Yw p q A many l.ca j k0 k1 lo hi wa:=by rw [HWA.o]; exact HFC.o
     have HBA:=hI (Below w.1.size w wa) (by rw [HWA.o]; exact HS1.o.cp.below.drew);clear HWA;refine xA9 0 13 (.int .i64 (many:Int)) hS ?_;refine xA9 1 14 (.int .i64 1) hS ?_;refine xA9 2 15 (.bool true) hS ?_;refine xA9 3 16 (.bool true) hS ?_;refine xA9 4 17 (.pointer (some ⟨p,0,none⟩)) hS ?_;refine xG9 5 18 (.slice (some A) many l.ca) rfl (.inl ⟨by rfl,fun _ h=>by have c0:=h.c0; go_simp⟩) hS ?_;refine xG9 6 19 (.pointer (some A)) rfl (.inl ⟨by rfl,fun _ _=>by go_simp; intro; omega⟩) hS ?_;refine xG9 7 20 (.int .i64 k0) rfl (.inl ⟨by rfl,fun _ h=>by have c0:=h.hc; go_simp⟩) hS ?_;refine xA9 8 21 (.pointer (some ⟨q,2,none⟩)) hS ?_;refine xG9 9 22 (.int .i64 lo) rfl (.inl ⟨by rfl,fun _ h=>by have c0:=h.e2; go_simp⟩) hS ?_;refine xA9 10 23 (.bool true) hS ?_;refine xA9 11 24 (.bool true) hS ?_;refine xA9 12 25 (.bool true) hS ?_;refine xA9 13 26 (.pointer (some ⟨p,0,none⟩)) hS ?_;refine xG9 14 27 (.slice (some A) many l.ca) rfl (.inl ⟨by rfl,fun _ h=>by have c0:=h.c0; go_simp⟩) hS ?_;refine xA9 15 28 (.int .i64 (many:Int)) hS ?_;refine xG9 16 29 (.int .i64 (j:Int)) rfl (.inl ⟨by rfl,fun _ _=>by go_simp; rw [IntKind.wrap_i64]; unfold wrap64 at hjw; exact hjw⟩) hS ?_;refine xA9 17 30 (.pointer (some (A.add j))) hS ?_;refine xG9 18 31 (.int .i64 k1) rfl (.inl ⟨by rfl,fun _ h=>by have c0:=h.hd; go_simp⟩) hS ?_;refine xA9 19 32 (.pointer (some ⟨q,3,none⟩)) hS ?_;refine xG9 20 33 (.int .i64 hi) rfl (.inl ⟨by rfl,fun _ h=>by have c0:=h.e3; go_simp⟩) hS ?_;refine xA9 21 34 (.bool true) hS ?_;refine xA9 22 35 (.bool true) hS ?_;refine xA9 23 4 (.bool true) hS ?_;refine wpAnyH_done (by kernel_rfl) ?_ _;go_wp2_with fail
     go_ret
     exact ⟨rfl,HBA.o⟩
    ·rw [decide_eq_true hlo,decide_eq_false hhi,show (true && false) = false from rfl]
     go_enter Tryz.func118,Tryz.ntmps118
     go_upto_region 1 with (fail)
     rw [<- HW1.o,<- HQQ.o,<- HPP.o];clear HW1 HQQ HPP;have hlv:=HLV.o;go_upto_region 5 with (fail)
     clear hlv;refine wp_region_held (S:=Yw p q A many l.ca j k0 k1 lo hi) (by kernel_rfl) ?_;change wpAnyH _ _ _ _ _ _ _ _ w1.drew;obtain ⟨wa,HWA⟩:=hY (w1.drew);rw [<- HWA.o];have hS:Yw p q A many l.ca j k0 k1 lo hi wa:=by rw [HWA.o]; exact HFC.o
     have HBA:=hI (Below w.1.size w wa) (by rw [HWA.o]; exact HS1.o.cp.below.drew);clear HWA;refine xA9 0 13 (.int .i64 (many:Int)) hS ?_;refine xA9 1 14 (.int .i64 1) hS ?_;refine xA9 2 15 (.bool true) hS ?_;refine xA9 3 16 (.bool true) hS ?_;refine xA9 4 17 (.pointer (some ⟨p,0,none⟩)) hS ?_;refine xG9 5 18 (.slice (some A) many l.ca) rfl (.inl ⟨by rfl,fun _ h=>by have c0:=h.c0; go_simp⟩) hS ?_;refine xG9 6 19 (.pointer (some A)) rfl (.inl ⟨by rfl,fun _ _=>by go_simp; intro; omega⟩) hS ?_;refine xG9 7 20 (.int .i64 k0) rfl (.inl ⟨by rfl,fun _ h=>by have c0:=h.hc; go_simp⟩) hS ?_;refine xA9 8 21 (.pointer (some ⟨q,2,none⟩)) hS ?_;refine xG9 9 22 (.int .i64 lo) rfl (.inl ⟨by rfl,fun _ h=>by have c0:=h.e2; go_simp⟩) hS ?_;refine xA9 10 23 (.bool true) hS ?_;refine xA9 11 24 (.bool true) hS ?_;refine xA9 12 25 (.bool true) hS ?_;refine xA9 13 26 (.pointer (some ⟨p,0,none⟩)) hS ?_;refine xG9 14 27 (.slice (some A) many l.ca) rfl (.inl ⟨by rfl,fun _ h=>by have c0:=h.c0; go_simp⟩) hS ?_;refine xA9 15 28 (.int .i64 (many:Int)) hS ?_;refine xG9 16 29 (.int .i64 (j:Int)) rfl (.inl ⟨by rfl,fun _ _=>by go_simp; rw [IntKind.wrap_i64]; unfold wrap64 at hjw; exact hjw⟩) hS ?_;refine xA9 17 30 (.pointer (some (A.add j))) hS ?_;refine xG9 18 31 (.int .i64 k1) rfl (.inl ⟨by rfl,fun _ h=>by have c0:=h.hd; go_simp⟩) hS ?_;refine xA9 19 32 (.pointer (some ⟨q,3,none⟩)) hS ?_;refine xG9 20 33 (.int .i64 hi) rfl (.inl ⟨by rfl,fun _ h=>by have c0:=h.e3; go_simp⟩) hS ?_;refine xA9 21 34 (.bool false) hS ?_;refine xA9 22 35 (.bool false) hS ?_;refine xA9 23 4 (.bool false) hS ?_;refine wpAnyH_done (by kernel_rfl) ?_ _;go_wp2_with fail
     go_ret
     exact ⟨rfl,HBA.o⟩
   ·rw [decide_eq_false hlo,Bool.false_and]
    go_enter Tryz.func118,Tryz.ntmps118
    go_upto_region 1 with (fail)
    rw [<- HW1.o,<- HQQ.o,<- HPP.o];clear HW1 HQQ HPP;have hlv:=HLV.o;go_upto_region 5 with (fail)
    clear hlv;refine wp_region_held (S:=Yw p q A many l.ca j k0 k1 lo hi) (by kernel_rfl) ?_;change wpAnyH _ _ _ _ _ _ _ _ w1.drew;obtain ⟨wa,HWA⟩:=hY (w1.drew);rw [<- HWA.o];have hS:Yw p q A many l.ca j k0 k1 lo hi wa:=by rw [HWA.o]; exact HFC.o
    have HBA:=hI (Below w.1.size w wa) (by rw [HWA.o]; exact HS1.o.cp.below.drew);clear HWA;refine xA9 0 13 (.int .i64 (many:Int)) hS ?_;refine xA9 1 14 (.int .i64 1) hS ?_;refine xA9 2 15 (.bool true) hS ?_;refine xA9 3 16 (.bool true) hS ?_;refine xA9 4 17 (.pointer (some ⟨p,0,none⟩)) hS ?_;refine xG9 5 18 (.slice (some A) many l.ca) rfl (.inl ⟨by rfl,fun _ h=>by have c0:=h.c0; go_simp⟩) hS ?_;refine xG9 6 19 (.pointer (some A)) rfl (.inl ⟨by rfl,fun _ _=>by go_simp; intro; omega⟩) hS ?_;refine xG9 7 20 (.int .i64 k0) rfl (.inl ⟨by rfl,fun _ h=>by have c0:=h.hc; go_simp⟩) hS ?_;refine xA9 8 21 (.pointer (some ⟨q,2,none⟩)) hS ?_;refine xG9 9 22 (.int .i64 lo) rfl (.inl ⟨by rfl,fun _ h=>by have c0:=h.e2; go_simp⟩) hS ?_;refine xA9 10 23 (.bool false) hS ?_;refine xA9 11 24 (.bool false) hS ?_;refine xA9 12 25 (.bool false) hS ?_;refine xG9 13 26 (undef) rfl (.inr ⟨by rfl,rfl⟩) hS ?_;refine xG9 14 27 (undef) rfl (.inr ⟨by rfl,rfl⟩) hS ?_;refine xG9 15 28 (undef) rfl (.inr ⟨by rfl,rfl⟩) hS ?_;refine xG9 16 29 (undef) rfl (.inr ⟨by rfl,rfl⟩) hS ?_;refine xG9 17 30 (undef) rfl (.inr ⟨by rfl,rfl⟩) hS ?_;refine xG9 18 31 (undef) rfl (.inr ⟨by rfl,rfl⟩) hS ?_;refine xG9 19 32 (undef) rfl (.inr ⟨by rfl,rfl⟩) hS ?_;refine xG9 20 33 (undef) rfl (.inr ⟨by rfl,rfl⟩) hS ?_;refine xG9 21 34 (undef) rfl (.inr ⟨by rfl,rfl⟩) hS ?_;refine xA9 22 35 (.bool false) hS ?_;refine xA9 23 4 (.bool false) hS ?_;refine wpAnyH_done (by kernel_rfl) ?_ _;go_wp2_with fail
    go_ret
    exact ⟨rfl,HBA.o⟩
  ·have HLV:=Hi hlv;have hm1:(3:Int) <= (many:Int):=by rw [HLE.o,if_neg hlv] at hm; omega
   clear hm HLE h1 hlv;by_cases hlo:lo <= k0
   ·by_cases hhi:k1 < hi
    ·rw [decide_eq_true hlo,decide_eq_true hhi,show (true && true) = true from rfl]
     go_enter Tryz.func118,Tryz.ntmps118
     go_upto_region 1 with (fail)
     rw [<- HW1.o,<- HQQ.o,<- HPP.o];clear HW1 HQQ HPP;have hlv:=HLV.o;go_upto_region 5 with (fail)
     clear hlv;refine wp_region_held (S:=Yw p q A many l.ca j k0 k1 lo hi) (by kernel_rfl) ?_;change wpAnyH _ _ _ _ _ _ _ _ w1.drew;obtain ⟨wa,HWA⟩:=hY (w1.drew);rw [<- HWA.o];have hS:Yw p q A many l.ca j k0 k1 lo hi wa:=by rw [HWA.o]; exact HFC.o
     have HBA:=hI (Below w.1.size w wa) (by rw [HWA.o]; exact HS1.o.cp.below.drew);clear HWA;refine xA9 0 13 (.int .i64 (many:Int)) hS ?_;refine xA9 1 14 (.int .i64 3) hS ?_;refine xA9 2 15 (.bool true) hS ?_;refine xA9 3 16 (.bool true) hS ?_;refine xA9 4 17 (.pointer (some ⟨p,0,none⟩)) hS ?_;refine xG9 5 18 (.slice (some A) many l.ca) rfl (.inl ⟨by rfl,fun _ h=>by have c0:=h.c0; go_simp⟩) hS ?_;refine xG9 6 19 (.pointer (some A)) rfl (.inl ⟨by rfl,fun _ _=>by go_simp; intro; omega⟩) hS ?_;refine xG9 7 20 (.int .i64 k0) rfl (.inl ⟨by rfl,fun _ h=>by have c0:=h.hc; go_simp⟩) hS ?_;refine xA9 8 21 (.pointer (some ⟨q,2,none⟩)) hS ?_;refine xG9 9 22 (.int .i64 lo) rfl (.inl ⟨by rfl,fun _ h=>by have c0:=h.e2; go_simp⟩) hS ?_;refine xA9 10 23 (.bool true) hS ?_;refine xA9 11 24 (.bool true) hS ?_;refine xA9 12 25 (.bool true) hS ?_;refine xA9 13 26 (.pointer (some ⟨p,0,none⟩)) hS ?_;refine xG9 14 27 (.slice (some A) many l.ca) rfl (.inl ⟨by rfl,fun _ h=>by have c0:=h.c0; go_simp⟩) hS ?_;refine xA9 15 28 (.int .i64 (many:Int)) hS ?_;refine xG9 16 29 (.int .i64 (j:Int)) rfl (.inl ⟨by rfl,fun _ _=>by go_simp; rw [IntKind.wrap_i64]; unfold wrap64 at hjw; exact hjw⟩) hS ?_;refine xA9 17 30 (.pointer (some (A.add j))) hS ?_;refine xG9 18 31 (.int .i64 k1) rfl (.inl ⟨by rfl,fun _ h=>by have c0:=h.hd; go_simp⟩) hS ?_;refine xA9 19 32 (.pointer (some ⟨q,3,none⟩)) hS ?_;refine xG9 20 33 (.int .i64 hi) rfl (.inl ⟨by rfl,fun _ h=>by have c0:=h.e3; go_simp⟩) hS ?_;refine xA9 21 34 (.bool true) hS ?_;refine xA9 22 35 (.bool true) hS ?_;refine xA9 23 4 (.bool true) hS ?_;refine wpAnyH_done (by kernel_rfl) ?_ _;go_wp2_with fail
     go_ret
     exact ⟨rfl,HBA.o⟩
    ·rw [decide_eq_true hlo,decide_eq_false hhi,show (true && false) = false from rfl]
     go_enter Tryz.func118,Tryz.ntmps118
     go_upto_region 1 with (fail)
     rw [<- HW1.o,<- HQQ.o,<- HPP.o];clear HW1 HQQ HPP;have hlv:=HLV.o;go_upto_region 5 with (fail)
     clear hlv;refine wp_region_held (S:=Yw p q A many l.ca j k0 k1 lo hi) (by kernel_rfl) ?_;change wpAnyH _ _ _ _ _ _ _ _ w1.drew;obtain ⟨wa,HWA⟩:=hY (w1.drew);rw [<- HWA.o];have hS:Yw p q A many l.ca j k0 k1 lo hi wa:=by rw [HWA.o]; exact HFC.o
     have HBA:=hI (Below w.1.size w wa) (by rw [HWA.o]; exact HS1.o.cp.below.drew);clear HWA;refine xA9 0 13 (.int .i64 (many:Int)) hS ?_;refine xA9 1 14 (.int .i64 3) hS ?_;refine xA9 2 15 (.bool true) hS ?_;refine xA9 3 16 (.bool true) hS ?_;refine xA9 4 17 (.pointer (some ⟨p,0,none⟩)) hS ?_;refine xG9 5 18 (.slice (some A) many l.ca) rfl (.inl ⟨by rfl,fun _ h=>by have c0:=h.c0; go_simp⟩) hS ?_;refine xG9 6 19 (.pointer (some A)) rfl (.inl ⟨by rfl,fun _ _=>by go_simp; intro; omega⟩) hS ?_;refine xG9 7 20 (.int .i64 k0) rfl (.inl ⟨by rfl,fun _ h=>by have c0:=h.hc; go_simp⟩) hS ?_;refine xA9 8 21 (.pointer (some ⟨q,2,none⟩)) hS ?_;refine xG9 9 22 (.int .i64 lo) rfl (.inl ⟨by rfl,fun _ h=>by have c0:=h.e2; go_simp⟩) hS ?_;refine xA9 10 23 (.bool true) hS ?_;refine xA9 11 24 (.bool true) hS ?_;refine xA9 12 25 (.bool true) hS ?_;refine xA9 13 26 (.pointer (some ⟨p,0,none⟩)) hS ?_;refine xG9 14 27 (.slice (some A) many l.ca) rfl (.inl ⟨by rfl,fun _ h=>by have c0:=h.c0; go_simp⟩) hS ?_;refine xA9 15 28 (.int .i64 (many:Int)) hS ?_;refine xG9 16 29 (.int .i64 (j:Int)) rfl (.inl ⟨by rfl,fun _ _=>by go_simp; rw [IntKind.wrap_i64]; unfold wrap64 at hjw; exact hjw⟩) hS ?_;refine xA9 17 30 (.pointer (some (A.add j))) hS ?_;refine xG9 18 31 (.int .i64 k1) rfl (.inl ⟨by rfl,fun _ h=>by have c0:=h.hd; go_simp⟩) hS ?_;refine xA9 19 32 (.pointer (some ⟨q,3,none⟩)) hS ?_;refine xG9 20 33 (.int .i64 hi) rfl (.inl ⟨by rfl,fun _ h=>by have c0:=h.e3; go_simp⟩) hS ?_;refine xA9 21 34 (.bool false) hS ?_;refine xA9 22 35 (.bool false) hS ?_;refine xA9 23 4 (.bool false) hS ?_;refine wpAnyH_done (by kernel_rfl) ?_ _;go_wp2_with fail
     go_ret
     exact ⟨rfl,HBA.o⟩
   ·rw [decide_eq_false hlo,Bool.false_and]
    go_enter Tryz.func118,Tryz.ntmps118
    go_upto_region 1 with (fail)
    rw [<- HW1.o,<- HQQ.o,<- HPP.o];clear HW1 HQQ HPP;have hlv:=HLV.o;go_upto_region 5 with (fail)
    clear hlv;refine wp_region_held (S:=Yw p q A many l.ca j k0 k1 lo hi) (by kernel_rfl) ?_;change wpAnyH _ _ _ _ _ _ _ _ w1.drew;obtain ⟨wa,HWA⟩:=hY (w1.drew);rw [<- HWA.o];have hS:Yw p q A many l.ca j k0 k1 lo hi wa:=by rw [HWA.o]; exact HFC.o
    have HBA:=hI (Below w.1.size w wa) (by rw [HWA.o]; exact HS1.o.cp.below.drew);clear HWA;refine xA9 0 13 (.int .i64 (many:Int)) hS ?_;refine xA9 1 14 (.int .i64 3) hS ?_;refine xA9 2 15 (.bool true) hS ?_;refine xA9 3 16 (.bool true) hS ?_;refine xA9 4 17 (.pointer (some ⟨p,0,none⟩)) hS ?_;refine xG9 5 18 (.slice (some A) many l.ca) rfl (.inl ⟨by rfl,fun _ h=>by have c0:=h.c0; go_simp⟩) hS ?_;refine xG9 6 19 (.pointer (some A)) rfl (.inl ⟨by rfl,fun _ _=>by go_simp; intro; omega⟩) hS ?_;refine xG9 7 20 (.int .i64 k0) rfl (.inl ⟨by rfl,fun _ h=>by have c0:=h.hc; go_simp⟩) hS ?_;refine xA9 8 21 (.pointer (some ⟨q,2,none⟩)) hS ?_;refine xG9 9 22 (.int .i64 lo) rfl (.inl ⟨by rfl,fun _ h=>by have c0:=h.e2; go_simp⟩) hS ?_;refine xA9 10 23 (.bool false) hS ?_;refine xA9 11 24 (.bool false) hS ?_;refine xA9 12 25 (.bool false) hS ?_;refine xG9 13 26 (undef) rfl (.inr ⟨by rfl,rfl⟩) hS ?_;refine xG9 14 27 (undef) rfl (.inr ⟨by rfl,rfl⟩) hS ?_;refine xG9 15 28 (undef) rfl (.inr ⟨by rfl,rfl⟩) hS ?_;refine xG9 16 29 (undef) rfl (.inr ⟨by rfl,rfl⟩) hS ?_;refine xG9 17 30 (undef) rfl (.inr ⟨by rfl,rfl⟩) hS ?_;refine xG9 18 31 (undef) rfl (.inr ⟨by rfl,rfl⟩) hS ?_;refine xG9 19 32 (undef) rfl (.inr ⟨by rfl,rfl⟩) hS ?_;refine xG9 20 33 (undef) rfl (.inr ⟨by rfl,rfl⟩) hS ?_;refine xG9 21 34 (undef) rfl (.inr ⟨by rfl,rfl⟩) hS ?_;refine xA9 22 35 (.bool false) hS ?_;refine xA9 23 4 (.bool false) hS ?_;refine wpAnyH_done (by kernel_rfl) ?_ _;go_wp2_with fail
    go_ret
    exact ⟨rfl,HBA.o⟩
 ·have HR:=hI (qA x lv lo hi = false) (by unfold qA; rw [<- HLE.o,decide_eq_false hm,Bool.false_and]);rw [HR.o];obtain ⟨many,HMA⟩:=hY (x.keys.length);rw [<- HMA.o] at c0 hm;obtain ⟨A,HA⟩:=hY (l.A);rw [<- HA.o] at c0;clear HR;by_cases hlv:lv = 1
  ·have HLV:=Hi hlv;have hm1:¬ (1:Int) <= (many:Int):=by rw [HLE.o,if_pos hlv] at hm; omega
   clear hm HLE h1 hlv
   go_enter Tryz.func118,Tryz.ntmps118
   go_upto_region 1 with (fail)
   rw [<- HW1.o,<- HQQ.o,<- HPP.o];clear HW1 HQQ HPP;have hlv:=HLV.o;go_upto_region 5 with (fail)
   clear hlv;refine wp_region_held (S:=fun _=>True) (by kernel_rfl) ?_;change wpAnyH _ _ _ _ _ _ _ _ w1.drew;obtain ⟨wa,HWA⟩:=hY (w1.drew);rw [<- HWA.o];have hS:True:=trivial;have HBA:=hI (Below w.1.size w wa) (by rw [HWA.o]; exact HS1.o.cp.below.drew);clear HWA;refine xA9 0 13 (.int .i64 (many:Int)) hS ?_;refine xA9 1 14 (.int .i64 1) hS ?_;refine xA9 2 15 (.bool false) hS ?_;refine xA9 3 16 (.bool false) hS ?_;refine xG9 4 17 (undef) rfl (.inr ⟨by rfl,rfl⟩) hS ?_;refine xG9 5 18 (undef) rfl (.inr ⟨by rfl,rfl⟩) hS ?_;refine xG9 6 19 (undef) rfl (.inr ⟨by rfl,rfl⟩) hS ?_;refine xG9 7 20 (undef) rfl (.inr ⟨by rfl,rfl⟩) hS ?_;refine xG9 8 21 (undef) rfl (.inr ⟨by rfl,rfl⟩) hS ?_;refine xG9 9 22 (undef) rfl (.inr ⟨by rfl,rfl⟩) hS ?_;refine xG9 10 23 (undef) rfl (.inr ⟨by rfl,rfl⟩) hS ?_;refine xA9 11 24 (.bool false) hS ?_;refine xA9 12 25 (.bool false) hS ?_;refine xG9 13 26 (undef) rfl (.inr ⟨by rfl,rfl⟩) hS ?_;refine xG9 14 27 (undef) rfl (.inr ⟨by rfl,rfl⟩) hS ?_;refine xG9 15 28 (undef) rfl (.inr ⟨by rfl,rfl⟩) hS ?_;refine xG9 16 29 (undef) rfl (.inr ⟨by rfl,rfl⟩) hS ?_;refine xG9 17 30 (undef) rfl (.inr ⟨by rfl,rfl⟩) hS ?_;refine xG9 18 31 (undef) rfl (.inr ⟨by rfl,rfl⟩) hS ?_;refine xG9 19 32 (undef) rfl (.inr ⟨by rfl,rfl⟩) hS ?_;refine xG9 20 33 (undef) rfl (.inr ⟨by rfl,rfl⟩) hS ?_;refine xG9 21 34 (undef) rfl (.inr ⟨by rfl,rfl⟩) hS ?_;refine xA9 22 35 (.bool false) hS ?_;refine xA9 23 4 (.bool false) hS ?_;refine wpAnyH_done (by kernel_rfl) ?_ _;go_wp2_with fail
   go_ret
   exact ⟨rfl,HBA.o⟩
  ·have HLV:=Hi hlv;have hm1:¬ (3:Int) <= (many:Int):=by rw [HLE.o,if_neg hlv] at hm; omega
   clear hm HLE h1 hlv
   go_enter Tryz.func118,Tryz.ntmps118
   go_upto_region 1 with (fail)
   rw [<- HW1.o,<- HQQ.o,<- HPP.o];clear HW1 HQQ HPP;have hlv:=HLV.o;go_upto_region 5 with (fail)
   clear hlv;refine wp_region_held (S:=fun _=>True) (by kernel_rfl) ?_;change wpAnyH _ _ _ _ _ _ _ _ w1.drew;obtain ⟨wa,HWA⟩:=hY (w1.drew);rw [<- HWA.o];have hS:True:=trivial;have HBA:=hI (Below w.1.size w wa) (by rw [HWA.o]; exact HS1.o.cp.below.drew);clear HWA;refine xA9 0 13 (.int .i64 (many:Int)) hS ?_;refine xA9 1 14 (.int .i64 3) hS ?_;refine xA9 2 15 (.bool false) hS ?_;refine xA9 3 16 (.bool false) hS ?_;refine xG9 4 17 (undef) rfl (.inr ⟨by rfl,rfl⟩) hS ?_;refine xG9 5 18 (undef) rfl (.inr ⟨by rfl,rfl⟩) hS ?_;refine xG9 6 19 (undef) rfl (.inr ⟨by rfl,rfl⟩) hS ?_;refine xG9 7 20 (undef) rfl (.inr ⟨by rfl,rfl⟩) hS ?_;refine xG9 8 21 (undef) rfl (.inr ⟨by rfl,rfl⟩) hS ?_;refine xG9 9 22 (undef) rfl (.inr ⟨by rfl,rfl⟩) hS ?_;refine xG9 10 23 (undef) rfl (.inr ⟨by rfl,rfl⟩) hS ?_;refine xA9 11 24 (.bool false) hS ?_;refine xA9 12 25 (.bool false) hS ?_;refine xG9 13 26 (undef) rfl (.inr ⟨by rfl,rfl⟩) hS ?_;refine xG9 14 27 (undef) rfl (.inr ⟨by rfl,rfl⟩) hS ?_;refine xG9 15 28 (undef) rfl (.inr ⟨by rfl,rfl⟩) hS ?_;refine xG9 16 29 (undef) rfl (.inr ⟨by rfl,rfl⟩) hS ?_;refine xG9 17 30 (undef) rfl (.inr ⟨by rfl,rfl⟩) hS ?_;refine xG9 18 31 (undef) rfl (.inr ⟨by rfl,rfl⟩) hS ?_;refine xG9 19 32 (undef) rfl (.inr ⟨by rfl,rfl⟩) hS ?_;refine xG9 20 33 (undef) rfl (.inr ⟨by rfl,rfl⟩) hS ?_;refine xG9 21 34 (undef) rfl (.inr ⟨by rfl,rfl⟩) hS ?_;refine xA9 22 35 (.bool false) hS ?_;refine xA9 23 4 (.bool false) hS ?_;refine wpAnyH_done (by kernel_rfl) ?_ _;go_wp2_with fail
   go_ret
   exact ⟨rfl,HBA.o⟩
end
section
theorem Tryz.spotInfo:(Tryz.prog.info? 176).map (fun i=>(i.zero,i.size,i.bytes)) = some (some (.agg #[.int .i64 0,.int .i64 0,.int .i64 0,.int .i64 0]),4,32):=by kernel_rfl
theorem Tryz.spotSize:(Tryz.prog.info? 176).map (·.size) = some 4:=by kernel_rfl
theorem Tryz.spotZero:((Tryz.prog.info? 176).bind (·.zero)).isSome = true:=by kernel_rfl
theorem Tryz.spotBuilt (a b c d:Int):Tryz.prog.built 176 [(0,.int .i64 a),(1,.int .i64 b),(2,.int .i64 c),(3,.int .i64 d)] = some #[.int .i64 a,.int .i64 b,.int .i64 c,.int .i64 d]:=by kernel_rfl
structure Sp where
 at_:Int
 lv:Int
 lo:Int
 hi:Int
def xp (s:Sp):List Value:=[.int .i64 s.at_,.int .i64 s.lv,.int .i64 s.lo,.int .i64 s.hi]
def YA (x:Nd) (hi:Int) (i:Nat):Int:=if i < x.keys.length then x.keys.getD i 0 else hi
def Y6 (x:Nd) (lo hi:Int):Nat -> Int
 | 0=>lo
 | i + 1=>YA x hi i
def belowK (x:Nd) (lv lo hi:Int):Nat -> List Sp
 | 0=>[]
 | n + 1=>belowK x lv lo hi n ++ [⟨x.kids.getD n 0,lv + 1,Y6 x lo hi n,YA x hi n⟩]
def xw (x:Nd) (lv lo hi:Int):List Sp:=belowK x lv lo hi x.kids.length
def vG (l:List Sp):List Value:=l.flatMap xp
theorem Wm (l:List Sp) (s:Sp):vG (l ++ [s]) = vG l ++ xp s:=by simp [vG]
theorem wT (x:Nd) (lv lo hi:Int):∀ n,(belowK x lv lo hi n).length = n
 | 0=>rfl
 | n + 1=>by rw [belowK,List.length_append,wT x lv lo hi n]; rfl
theorem Vh.carry {w:World} {p q:Nat} {l:zd} {x:Nd} {s lv lo hi:Int} {wr w':World} (h:Vh w p q l x s lv lo hi wr) (hb:Below wr.1.size wr w') (hq:q < wr.1.size):Vh w p q l x s lv lo hi w' :=
 ⟨h.cp.carry hb,(hb.cell (p:=⟨q,0,none⟩) hq).trans h.c0,(hb.cell (p:=⟨q,1,none⟩) hq).trans h.c1,(hb.cell (p:=⟨q,2,none⟩) hq).trans h.c2,(hb.cell (p:=⟨q,3,none⟩) hq).trans h.c3,h.pq⟩
theorem Ze {w w':World} {N:Nat} {T:TypeId} {s:Nat} {v:Value} {n:Nat} {xs:List Value} (h:w.ownsRow N T s v n xs) (hb:Below w.1.size w w'):w'.ownsRow N T s v n xs:=zB h fun g hg=>hb.block g (h.lt g hg).2
def zec (w1:World) (x:Nd) (lv lo hi:Int) (v le i:Value) (wr:World):Prop :=
 ∃ k,k <= x.kids.length /\ i = .int .i64 (k:Int) /\ le = .int .i64 (Y6 x lo hi k) /\ wr.ownsRow w1.1.size 176 4 v k (vG (belowK x lv lo hi k)) /\ Below w1.1.size w1 wr
theorem Vy {w:World} {l:zd} {x:Nd} (h:xt w l x) (s lv lo hi:Int) (hlv:0 <= lv /\ lv <= 12) (hkn:x.kids.length <= 255):Calls Tryz.prog 119 #[ndV l x,spV s lv lo hi] w
  fun e w'=>∃ v,e = .returned v /\ w'.ownsRow w.1.size 176 4 v x.kids.length (vG (xw x lv lo hi)) /\ Below w.1.size w w':=by
 obtain ⟨i0,hi0,hz0,hz1,hz2⟩:=info_parts Tryz.spotInfo;obtain ⟨p,HPP⟩:=hY (w.1.size);obtain ⟨q,HQQ⟩:=hY (w.1.size + 1);obtain ⟨w1,HW1⟩:=hY ((w.alloc (.cells #[.slice l.A x.keys.length l.ca,.slice l.B x.vals.length l.cb,.slice l.C x.kids.length l.cc] 48)).alloc (.cells #[.int .i64 s,.int .i64 lv,.int .i64 lo,.int .i64 hi] 176));have HS1:=hI (Vh w p q l x s lv lo hi w1) (by rw [HW1.o,HPP.o,HQQ.o]; exact Vh.new h s lv lo hi);have HSZ:=hI (w1.1.size = w.1.size + 2 /\ p < w1.1.size /\ q < w1.1.size) (by rw [HW1.o,HPP.o,HQQ.o]; refine ⟨?_,?_,?_⟩ <;> simp <;> omega);have HKC:=hI (x.kids.length <= 255 /\ x.keys.length <= maxLen) ⟨hkn,h.kl⟩;have HLV:=Hi hlv;have c2:=HS1.o.cp.b.c2;have e2:=HS1.o.c2;obtain ⟨n,HN⟩:=hY (x.kids.length);clear h hkn hlv
 go_enter Tryz.func119,Tryz.ntmps119
 go_upto_region 1 with (fail)
 rw [<- HW1.o,<- HQQ.o,<- HPP.o];clear HW1 HQQ HPP;rw [<- HN.o] at c2;go_wp2_with fail
 go_loopw [5,6,15] (fun v le i wr=>zec w1 x lv lo hi v le i wr) (fun _ _ i _=>n - (intOf i).toNat)
 case atStart=>exact ⟨0,Nat.zero_le _,rfl,rfl,World.ownsRow_nil _ _ _ _,Below.refl _ _⟩
 case round =>
  obtain ⟨k,hk,rfl,rfl,ho,hb⟩:=hrel;have HO:=Hi ho;have HB:=Hi hb;have HF:=Hi (HS1.o.carry hb HSZ.o.2.2);clear ho hb c2 e2;have c2:=HF.o.cp.b.c2;rw [<- HN.o] at c2;by_cases hlt:k < x.kids.length
  ·obtain ⟨C,HC,hc⟩:=yf HF.o.cp.is.kids hlt;rw [HC] at c2 ⊢;obtain ⟨z,HZ⟩:=hY (x.kids.getD k 0);rw [show x.kids[k] = z by rw [HZ.o,ze6,ze7 hlt]; rfl] at hc;obtain ⟨le,HLE⟩:=hY (Y6 x lo hi k);rw [<- HLE.o];have c0:=HF.o.cp.b.c0;have e1:=HF.o.c1;have e3:=HF.o.c3;have hkn:(k:Int) < (n:Int):=by rw [HN.o]; omega
   have hadd:wrap64 (lv + 1) = lv + 1:=by have:=HLV.o; unfold wrap64; omega
   have hbu:=Tryz.spotBuilt z (lv + 1);obtain ⟨en,HEN⟩:=hY (YA x hi k);obtain ⟨m,HM⟩:=hY (x.keys.length);rw [<- HM.o] at c0;clear HC;by_cases hm:k < x.keys.length
   ·obtain ⟨A,HA,hd⟩:=yf HF.o.cp.is.keys hm;rw [HA] at c0;rw [show x.keys[k] = en by rw [HEN.o]; unfold YA; rw [if_pos hm,ze6,ze7 hm]; rfl] at hd;have hkm:(k:Int) < (m:Int):=by rw [HM.o]; omega
    clear HA hm;go_wp2_with (with_reducible refine xD9 (some 40) ?_);refine qS rfl 177 176 4 1 #[(0,.tmp 39)] rfl [[.int .i64 z,.int .i64 (lv + 1),.int .i64 le,.int .i64 en]] Tryz.underlying177 Tryz.spotSize Tryz.spotZero rfl (by decide) (by decide) (by simp) (by rfl) ?_;intro w2 B HBB HRW HBE HBL;go_wp2_with (with_reducible refine xD9 (some 41) ?_);refine wpList_append_own _ rfl _ _ 177 rfl w1.1.size 176 i0 _ 4 32 Tryz.underlying177 hi0 hz0 hz1 hz2 rfl (by decide) u5 k _ rfl (Ze HO.o HBE.o) ⟨B,0,none⟩ 1 1 [.int .i64 z,.int .i64 (lv + 1),.int .i64 le,.int .i64 en] rfl rfl (fun j u hu=>by have:=HRW.o 0 j _ u rfl hu; cases j <;> simpa [Addr.add] using this) (by simp [Value.oneCell']) (by have:=HKC.o; unfold maxLen; omega) (by have:=HKC.o; omega) (ze2 HB.o.size HBE.o.size) ?_;intro v' w3 hown hgrow _;have HO3:=hI (w3.ownsRow w1.1.size 176 4 v' (k + 1) (vG (belowK x lv lo hi (k + 1)))) (by rw [show belowK x lv lo hi (k + 1) = belowK x lv lo hi k ++ [⟨x.kids.getD k 0,lv + 1,Y6 x lo hi k,YA x hi k⟩] from rfl,Wm,<- HZ.o,<- HLE.o,<- HEN.o]; exact hown);have HB3:=hI (Below w1.1.size w1 w3) (((HB.o.trans (HBE.o.mono HB.o.size))).grown hgrow (ze2 HB.o.size HBE.o.size) (fun g hg=>((Ze HO.o HBE.o).lt g hg).1));clear hown hgrow HRW HBE HBL HBB HB HO;go_wp2_with fail
    go_roundw
    case rel=>exact ⟨k + 1,hlt,congrArg (Value.int .i64) (by have:=HKC.o.1; unfold wrap64; omega),by rw [show Y6 x lo hi (k + 1) = YA x hi k from rfl,<- HEN.o],HO3.o,HB3.o⟩
    case measure=>have:=HKC.o.1; have:=HN.o; rw [show wrap64 ((k:Int) + 1) = (k:Int) + 1 by unfold wrap64; omega]; simp [intOf]; omega
   ·obtain ⟨A,HA⟩:=hY (l.A);rw [<- HA.o] at c0;obtain rfl:hi = en:=by rw [HEN.o]; unfold YA; rw [if_neg hm]
    have hkm:¬ (k:Int) < (m:Int):=by rw [HM.o]; omega
    clear HA hm;go_wp2_with (with_reducible refine xD9 (some 40) ?_);refine qS rfl 177 176 4 1 #[(0,.tmp 39)] rfl [[.int .i64 z,.int .i64 (lv + 1),.int .i64 le,.int .i64 hi]] Tryz.underlying177 Tryz.spotSize Tryz.spotZero rfl (by decide) (by decide) (by simp) (by rfl) ?_;intro w2 B HBB HRW HBE HBL;go_wp2_with (with_reducible refine xD9 (some 41) ?_);refine wpList_append_own _ rfl _ _ 177 rfl w1.1.size 176 i0 _ 4 32 Tryz.underlying177 hi0 hz0 hz1 hz2 rfl (by decide) u5 k _ rfl (Ze HO.o HBE.o) ⟨B,0,none⟩ 1 1 [.int .i64 z,.int .i64 (lv + 1),.int .i64 le,.int .i64 hi] rfl rfl (fun j u hu=>by have:=HRW.o 0 j _ u rfl hu; cases j <;> simpa [Addr.add] using this) (by simp [Value.oneCell']) (by have:=HKC.o; unfold maxLen; omega) (by have:=HKC.o; omega) (ze2 HB.o.size HBE.o.size) ?_;intro v' w3 hown hgrow _;have HO3:=hI (w3.ownsRow w1.1.size 176 4 v' (k + 1) (vG (belowK x lv lo hi (k + 1)))) (by rw [show belowK x lv lo hi (k + 1) = belowK x lv lo hi k ++ [⟨x.kids.getD k 0,lv + 1,Y6 x lo hi k,YA x hi k⟩] from rfl,Wm,<- HZ.o,<- HLE.o,<- HEN.o]; exact hown);have HB3:=hI (Below w1.1.size w1 w3) (((HB.o.trans (HBE.o.mono HB.o.size))).grown hgrow (ze2 HB.o.size HBE.o.size) (fun g hg=>((Ze HO.o HBE.o).lt g hg).1));clear hown hgrow HRW HBE HBL HBB HB HO;go_wp2_with fail
    go_roundw
    case rel=>exact ⟨k + 1,hlt,congrArg (Value.int .i64) (by have:=HKC.o.1; unfold wrap64; omega),by rw [show Y6 x lo hi (k + 1) = YA x hi k from rfl,<- HEN.o],HO3.o,HB3.o⟩
    case measure=>have:=HKC.o.1; have:=HN.o; rw [show wrap64 ((k:Int) + 1) = (k:Int) + 1 by unfold wrap64; omega]; simp [intOf]; omega
  ·obtain rfl:k = x.kids.length:=by omega
   have hkn:¬ ((x.kids.length:Nat):Int) < (n:Int):=by rw [HN.o]; omega
   go_wp2_with fail
   go_ret
   exact ⟨u5,rfl,yM HO.o (by have:=HSZ.o; omega),(HS1.o.cp.below).trans (HB.o.mono (by have:=HSZ.o; omega))⟩
end
section
theorem JF {w:World} {g cap:Nat} {v:Value} (hv:w.cell? ⟨g,0,none⟩ = some v) (F:Value):Calls Tryz.prog 147 #[.slice (some ⟨g,0,none⟩) 1 cap,F] w fun e w'=>e = .returned v /\ Below w.1.size w w':=by
 have HV:=Hi hv
 go_enter Tryz.func147,Tryz.ntmps147
 go_wp2_with fail
 go_loopw [5,6] (fun m i wr=>m = v /\ i = .int .i64 1 /\ Below w.1.size w wr) (fun _ _ _=>0)
 case atStart=>exact ⟨rfl,rfl,Below.refl _ _⟩
 case round =>
  obtain ⟨rfl,rfl,hb⟩:=hrel;have HB:=Hi hb;clear hb;go_wp2_with fail
  go_ret
  exact ⟨rfl,HB.o⟩
theorem Vz {w:World} {g cap:Nat} {v:Value} (hv:w.cell? ⟨g,0,none⟩ = some v) (hg:g < w.1.size):Calls Tryz.prog 120 #[.slice (some ⟨g,0,none⟩) 1 cap] w fun e w'=>e = .returned v /\ Below w.1.size w w':=by
 have HV:=Hi hv;have HG:=Hi hg;clear hv hg;obtain ⟨w1,HW1⟩:=hY ((w.alloc (.cells #[.int .i64 9,.int .i64 4,.int .i64 7,.int .i64 1,.int .i64 3,.int .i64 2] 3)).alloc (.cells #[.slice (some ⟨w.1.size,0,none⟩) 6 6] 45));have HB1:=hI (Below w.1.size w w1) (by rw [HW1.o]; exact ((Below.refl _ _).alloc (ze3 _) _).alloc (by simp) _);have HV1:=Hi ((HB1.o.cell (p:=⟨g,0,none⟩) HG.o).trans HV.o)
 go_enter Tryz.func120,Tryz.ntmps120
 go_wp2_with fail;rw [<- HW1.o];refine (JF HV1.o _).mono ?_;rintro e w2 ⟨rfl,hb⟩;have HB2:=Hi (HB1.o.trans (hb.mono HB1.o.size));clear hb;go_wp2_with fail
 go_ret
 exact ⟨rfl,HB2.o⟩
end
