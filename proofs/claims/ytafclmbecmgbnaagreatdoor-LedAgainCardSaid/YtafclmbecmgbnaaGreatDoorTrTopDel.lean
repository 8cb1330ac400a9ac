/-
 TrCut. Conditions: as each theorem says.
-/
import Derived.Test.YtafclmbecmgbnaaGreatDoorTrMend
import Derived.Test.YtafclmbecmgbnaaGreatDoorTc
import Derived.Test.YtafclmbecmgbnaaGreatDoorTrWithout
set_option maxRecDepth 100000
set_option maxHeartbeats 4000000
open Nat renaming le_refl -> ze3
namespace Go.Proofs.YtafclmbecmgbnaaGreatDoor
open Go.RowKit
structure CuS (w:World) (q r b:Nat) (l:zd) (x:Nd) (wr:World):Prop where
 bq:zb wr q l x
 br:zb wr r zd.none_ Nd.empty
 fr:∀ j,wr.frozen? ⟨r,j,none⟩ = false
 mi:zo wr b l x
 below:Below w.1.size w wr
 rl:w.1.size <= r /\ r < b
 bl:b <= q
 lq:∀ g,l.has g -> g < q
theorem CuS.carry {w:World} {q r b:Nat} {l:zd} {x:Nd} {wr w':World} (h:CuS w q r b l x wr) (hb:Below wr.1.size wr w'):CuS w q r b l x w' :=
 ⟨h.bq.carry hb h.bq.lt,h.br.carry hb h.br.lt,zl hb h.br.lt h.fr,h.mi.carry hb,h.below.trans (hb.mono h.below.size),h.rl,h.bl,h.lq⟩
section
variable {O:zV} (H:ye O)
include H
theorem Kp {w0:World} {K:Nat -> Prop} {w wr:World} {P D n:Nat} {S:TS} {firm:Nat -> List UInt8} {r lo:Nat} {c:Int} {v:Value} (hl:zP O w0 K w P D n S firm) (hb:Below w.1.size w wr) (hr:w.1.size <= r /\ r < lo) (hc:c ≠ 0) (he:zi wr lo c v) :
  xm O w0 K w P D n firm (.error c,S) (.returned (.tuple #[ndV zd.none_ Nd.empty,v])) (zx wr r zd.none_ Nd.empty):=by
 have h3:Below w.1.size w (zx wr r zd.none_ Nd.empty):=xc hb hr.1;exact ⟨zh.of_below h3 hl.there,hl.carry H h3,hc,v,rfl,(yR he hr.2).mono (by omega)⟩
theorem zbU {w0:World} {K:Nat -> Prop} {w w4 w5:World} {P D n:Nat} {S:TS} {firm:Nat -> List UInt8} {q r b:Nat} {l:zd} {x:Nd} {R:Except Int Nd} {e:Ending} (hl:zP O w0 K w P D n S firm) (h:CuS w q r b l x w4) (hp:zbH w4 b l R e w5) :
  ∃ lk xk v,e = .returned (.tuple #[ndV lk xk,v]) /\ zb w5 r zd.none_ Nd.empty /\ (∀ j,w5.frozen? ⟨r,j,none⟩ = false) /\ xm O w0 K w P D n firm (R,S) (.returned (.tuple #[ndV lk xk,v])) (zx w5 r lk xk):=by
 obtain ⟨ht,hp⟩:=hp;have hrl:=h.rl;have hlr:¬ l.has r:=fun hh=>by have:=(h.mi.lt r hh).1; omega
 have hbr:=ht.block r ⟨h.br.lt,hlr⟩;have hb5:Below w.1.size w w5:=h.below.trans (ht.below h.below.size fun k hk=>by have:=(h.mi.lt k hk).1; omega);have hb6:∀ lk xk,Below w.1.size w (zx w5 r lk xk):=fun lk xk=>xc hb5 hrl.1
 have hbx:zb w5 r zd.none_ Nd.empty:=h.br.keep hbr;have hfr:∀ j,w5.frozen? ⟨r,j,none⟩ = false:=fun j=>(World.frozen?_of_block (w:=w4) (a:=⟨r,j,none⟩) hbr).trans (h.fr j)
 cases R with
 | error c =>
  obtain ⟨h1,v,h2,h3⟩:=hp;exact ⟨_,_,v,h2,hbx,hfr,Kp H hl hb5 ⟨hrl.1,h.br.lt⟩ h1 h3⟩
 | ok y =>
  obtain ⟨l',h2,h3,h4⟩:=hp;refine ⟨l',y,_,h2,hbx,hfr,zh.of_below (hb6 _ _) hl.there,l',?_,rfl,(vi h3 fun hh=>hlr (h4 r hh)).mono (by omega)⟩;refine (hl.grow H (hb6 l' y)).less H (fun k hk=>hk.imp id fun h5=>?_) fun k hk=>.inl (hl.low k hk)
  have:=h3.lt k h5;rw [zK];omega
theorem zeu {w0:World} {L:Nat -> Prop} {w1 w2:World} {P D n:Nat} {firm:Nat -> List UInt8} {b:Nat} {l l2:zd} {R:Except Int Nd × TS} {e:Ending} (h:jp O w0 L w1 P D n firm b l l2 R e w2) (hb:b <= w1.1.size) (hlow:∀ k,k < w0.1.size -> L k) :
  ∃ lk xk v,e = .returned (.tuple #[ndV lk xk,v]) /\ zh (fun g=>L g /\ ¬ l.has g /\ ¬ l2.has g) w1 w2 /\ kY O w0 L b P D n firm R lk xk v w2:=by
 obtain ⟨R1,R2⟩:=R;obtain ⟨h1,h2⟩:=h;cases R1 with
 | error cd =>
  obtain ⟨h3,h4,v,h5,h6⟩:=h2;exact ⟨_,_,_,h5,h1,h3.less H (fun k hk=>hk.elim id fun h=>absurd h (zd.has_none k)) (fun k hk=>.inl (hlow k hk)),.inl ⟨cd,rfl,h4,rfl,rfl,h6.mono hb⟩⟩
 | ok x =>
  obtain ⟨l',h3,h4,h5⟩:=h2;exact ⟨_,_,_,h4,h1,h3,.inr ⟨rfl,rfl,h5⟩⟩
theorem zdx {w0:World} {P D n:Nat} {firm:Nat -> List UInt8} (hg:yC w0) (key:Int) (f:Nat) (hf:f <= 12) {K:Nat -> Prop} {w:World} {S:TS} (hl:zP O w0 K w P D n S firm) (hs:S.d.soft.length + 2 * f <= 99990) (i:Int) {lv:Int} (hlv:lv = 13 - (f:Int)) :
  Calls Tryz.prog 63 #[ptr P,.int .i64 i,.int .i64 lv,.int .i64 key] w (xm O w0 K w P D n firm (ky n f S i key)):=by
 have hbn:=Tryz.nodeNone;have hz:=Tryz.zeroNode;induction f generalizing w K i S lv
 all_goals
  have HLV:=Hi hlv;have HL:=Hi hl;have HW0:=hI (w0.1.size <= w.1.size) hl.below.size;have HTH:=hI (zZ K w) hl.there;obtain ⟨r,HRC⟩:=hY (w.1.size);obtain ⟨w1,HW1⟩:=hY (w.alloc (.cells #[.slice none 0 0,.slice none 0 0,.slice none 0 0] 48));have HB1:=hI (Below w.1.size w w1 /\ w1.1.size = w.1.size + 1) (by rw [HW1.o]; exact ⟨(Below.refl _ _).alloc (ze3 _) _,by simp⟩);have HX1:=hI (zb w1 r zd.none_ Nd.empty /\ ∀ j,w1.frozen? ⟨r,j,none⟩ = false) (by
   rw [HW1.o,HRC.o];exact ⟨zb.new (l:=zd.none_) (x:=Nd.empty) _,zU _ _ _⟩)
  have HRL:=hI (w.1.size <= r /\ r < w1.1.size) (by rw [HB1.o.2,HRC.o]; omega);have HLD:=Hi (kp H (hl.carry H HB1.o.1) hg i lv);obtain ⟨ol,HOL⟩:=hY (yk S i lv);rw [<- HOL.o] at HLD
 case' zero =>
  obtain ⟨R,HRR⟩:=hY (ky n 0 S i key);rw [<- HRR.o];obtain rfl:ol = .error 2:=by rw [HOL.o,HLV.o]; unfold yk; exact if_pos (by decide)
  obtain ⟨cd,HCD⟩:∃ cd:Int,Hid (cd = 2):=Hy;rw [<- HCD.o] at HLD;have HG0:=hI (R = (.error cd,S)) (by rw [HRR.o,HCD.o]; rfl);clear HCD HRR HOL hl hs hlv
 case' succ f ih =>
  have HLE:=hI (lv = 12 - (f:Int)) (by rw [HLV.o]; omega);have HOK:=hI (OkT n S firm) hl.inv;have HSS:=hI (S.d.soft.length + 2 * (f + 1) <= 99990) hs;have HIH:Hid (∀ {K:Nat -> Prop} {w:World},zP O w0 K w P D n S firm -> ∀ i:Int,Calls Tryz.prog 63 #[ptr P,.int .i64 i,.int .i64 (13 - (f:Int)),.int .i64 key] w (xm O w0 K w P D n firm (ky n f S i key))):=Hi fun h i=>ih (by omega) h (by omega) i rfl
  obtain ⟨R,HRR⟩:=hY (ky n (f + 1) S i key);rw [<- HRR.o];clear hl hs ih hlv;have HGX:=hI (R = match (generalizing:=false) ol with
   | .error c=>(.error c,S)
   | .ok x=>if x.kids.length = 0 then (wF x key,S) else match ky n f S (x.kids.getD (yB x key) 0) key with
    | (.error c,S1)=>(.error c,S1)
    | (.ok kid,S1)=>if kid.keys.length < 3 then kq n S1 x (yB x key) (13 - f:Int) kid else zQ n S1 x (yB x key) 1 kid) (by
   rw [HRR.o,HOL.o,HLE.o];rfl)
  clear HRR;cases ol
  case' error cd =>
   have HG0:Hid (R = (.error cd,S)):=HGX;clear HGX HOL HIH HSS HOK HLE
 case ok x =>
  have HG0:=Hi HGX.o;have HRT:=Hi (xn HOL.o.symm);clear HGX HOL
  go_enter Tryz.func63,Tryz.ntmps63
  go_upto_region 1 with (fail)
  rw [<- HW1.o,<- HRC.o];clear HW1;go_wp2_with fail;refine HLD.o.mono ?_;rintro e w2 ⟨_,l,rfl,hn,hb⟩;have HN:=Hi hn;have HB:=Hi hb;clear hn hb HLD;obtain ⟨q,HCq⟩:=hY (w2.1.size);obtain ⟨w3,HWw3⟩:=hY (w2.alloc (.cells #[.slice l.A x.keys.length l.ca,.slice l.B x.vals.length l.cb,.slice l.C x.kids.length l.cc] 48));go_upto_region 2 with (fail)
  rw [<- HWw3.o,<- HCq.o];have HS3:=hI (CuS w q r w1.1.size l x w3) (by
   have hb3:Below w2.1.size w2 w3:=by rw [HWw3.o]; exact bA
   have hb13:Below w1.1.size w1 w3:=HB.o.trans (hb3.mono HB.o.size);exact ⟨by rw [HWw3.o,HCq.o]; exact zb.new _,HX1.o.1.carry hb13 HX1.o.1.lt,zl hb13 HX1.o.1.lt HX1.o.2,HN.o.carry hb3,HB1.o.1.trans (hb13.mono HB1.o.1.size),HRL.o,by rw [HCq.o]; exact HB.o.size,fun g hg=>by rw [HCq.o]; exact (HN.o.lt g hg).2⟩)
  clear HWw3 HCq HN HB HX1;go_wp2_with (with_reducible refine xD9 (some 25) ?_);refine zf Tryz.ndProg (by rfl) _ rfl q rfl l x HS3.o.bq ?_;go_wp2_with fail;refine (wR x).mono ?_;rintro e w4 ⟨rfl,hb⟩;have HS4:=Hi (HS3.o.carry hb);clear hb HS3;by_cases hlf:x.kids.length = 0
  ·rw [decide_eq_true hlf];have HG1:=hI (R = (wF x key,S)) (by rw [HG0.o,if_pos hlf]);have HWO:=Hi (Jd HS4.o.mi (Nat.le_of_lt (Nat.lt_of_le_of_lt HS4.o.bl HS4.o.bq.lt)) HRT.o hlf key);clear HG0 hlf HIH;go_wp2_with (with_reducible refine xD9 (some 27) ?_);refine zf Tryz.ndProg (by rfl) _ rfl q rfl l x HS4.o.bq ?_;go_wp2_with fail;refine HWO.o.mono ?_;rintro e w5 hwo;obtain ⟨lk,xk,v,rfl,hbx,hfr,hpp⟩:=zbU H HL.o HS4.o hwo;have HBX:=Hi (And.intro hbx hfr);have HPP:=Hi hpp;clear hwo hbx hfr hpp HWO HS4;have f0:=HBX.o.2 0;have f1:=HBX.o.2 1;have f2:=HBX.o.2 2;have HBR9:=Hi HBX.o.1;have d0:=HBR9.o.c0;have d1:=HBR9.o.c1;have d2:=HBR9.o.c2;obtain ⟨w9,HW9⟩:=hY (((w5.setCell ⟨r,0,none⟩ (.slice lk.A xk.keys.length lk.ca)).setCell ⟨r,1,none⟩ (.slice lk.B xk.vals.length lk.cb)).setCell ⟨r,2,none⟩ (.slice lk.C xk.kids.length lk.cc));have HS9:=hI (w9 = zx w5 r lk xk) HW9.o;have HX9:=hI (zb w9 r lk xk) (by rw [HS9.o]; exact zC HBR9.o);have HP9:=hI (xm O w0 K w P D n firm R (.returned (.tuple #[ndV lk xk,v])) w9) (by
    rw [HS9.o];exact by rw [HG1.o]; exact HPP.o)
   go_wp2_with fail;rw [<- HW9.o];exact bodyPost_ret (zq Tryz.ndProg rfl _ _ r lk xk (v) rfl rfl HX9.o) rfl HP9.o
  ·rw [decide_eq_false hlf];have HNE:=Hi hlf;have HKL:=Hi (kI HRT.o hlf key);have HG1:=hI (R = match (generalizing:=false) ky n f S (x.kids.getD (yB x key) 0) key with
    | (.error c,S1)=>(.error c,S1)
    | (.ok kid,S1)=>if kid.keys.length < 3 then kq n S1 x (yB x key) (13 - f:Int) kid else zQ n S1 x (yB x key) 1 kid) (by rw [HG0.o,if_neg hlf])
   have HKA:=Hi (YD HS4.o.mi.is key);obtain ⟨k,HKK⟩:=hY (yB x key);rw [<- HKK.o] at HKL HG1 HKA;obtain ⟨z,HZ⟩:=hY (x.kids.getD k 0);rw [<- HZ.o] at HG1;clear HG0 hlf;go_wp2_with (with_reducible refine xD9 (some 32) ?_);refine zf Tryz.ndProg (by rfl) _ rfl q rfl l x HS4.o.bq ?_;go_wp2_with fail;refine HKA.o.mono ?_;rintro e w5 ⟨rfl,hb⟩;have HS5:=Hi (HS4.o.carry hb);clear hb HS4 HKA;obtain ⟨C,hC,hcc⟩:=yf HS5.o.mi.is.kids (i:=k) HKL.o;rw [show x.kids[k]'HKL.out = z by rw [HZ.o,List.getD_eq_getElem?_getD,List.getElem?_eq_getElem HKL.o]; rfl] at hcc;have c2:=HS5.o.bq.c2;rw [hC] at c2;clear hC;have hkl:(k:Int) < (x.kids.length:Int):=by have:=HKL.o; omega
   obtain ⟨lv2,HL2⟩:∃ lv2:Int,Hid (lv2 = 13 - (f:Int)):=Hy;have hwl:wrap64 (lv + 1) = lv2:=by have:=HLE.o; have:=HL2.o; unfold wrap64; omega
   have hwl2:IntKind.i64.wrap (lv + 1) = lv2:=by have:=HLE.o; have:=HL2.o; rw [IntKind.wrap_i64]; omega
   have HIC:=Hi (HIH.o (HL.o.grow H HS5.o.below) z);obtain ⟨RK,HRK⟩:=hY (ky n f S z key);rw [<- HRK.o] at HIC HG1;rw [<- HL2.o] at HIC HG1;clear HIH;go_wp2_with fail;refine HIC.o.mono ?_;rintro e w6 hpp;obtain ⟨lk,xk,v,rfl,hk,ho⟩:=Xs H hpp (fun k hk=>.inl (HL.o.low k hk));clear hpp HIC hcc c2 hwl hwl2 hkl;obtain ⟨c,HCc⟩:=hY (w6.1.size);obtain ⟨w7,HW7⟩:=hY (w6.alloc (.cells #[.slice lk.A xk.keys.length lk.ca,.slice lk.B xk.vals.length lk.cb,.slice lk.C xk.kids.length lk.cc] 48));have HSC:=hI (PuS O w0 K w P D n firm q r c w1.1.size l x RK lk xk v w7) (by
    have h5:=HS5.o;have hrl:=h5.rl;have hbl:=h5.bl;have hq5:=h5.bq.lt;have hk6:=hk.size;have hw5:=h5.below.size;have hKq:=hk.block q (.inr ⟨by omega,hq5⟩);have hKr:=hk.block r (.inr ⟨hrl.1,h5.br.lt⟩);have hb7:Below w6.1.size w6 w7:=by rw [HW7.o]; exact bA
    refine PuS.make H (h5.bq.keep hKq) (h5.br.keep hKr) (fun j=>(World.frozen?_of_block (w:=w5) (a:=⟨r,j,none⟩) hKr).trans (h5.fr j)) (h5.mi.keep hk.size fun g hg=>hk.block g (.inr ⟨by have:=(h5.mi.lt g hg).1; omega,(h5.mi.lt g hg).2⟩))
     ((zh.of_below h5.below HTH.o).trans (hk.less8 fun g hg=>.inl hg)) ho (zr.of_below hb7) (by rw [HW7.o,HCc.o]; exact zb.new _) (fun h=>by rw [HCc.o] at h; omega) (fun g hg=>?_) (by rw [HCc.o]; omega) (by rw [HCc.o]; omega) (fun h=>by have:=h5.lq c h; rw [HCc.o] at this; omega) (by rw [HCc.o]; omega) (by omega) (by omega) (fun g hg=>(h5.mi.lt g hg).2) HTH.o HW0.o HL.o.low
    rcases hg with hg | rfl | hg
    ·exact .inl hg
    ·exact .inr ⟨hrl.1,h5.br.lt⟩
    ·exact .inr ⟨by have:=(h5.mi.lt g hg).1; omega,(h5.mi.lt g hg).2⟩)
   have HQP:=hI (w1.1.size <= q /\ q < w7.1.size /\ w0.1.size <= w1.1.size /\ w.1.size <= r) ⟨HS5.o.bl,HSC.o.bq.lt,Nat.le_trans HW0.o HB1.o.1.size,HRL.o.1⟩;have HLB:=hI (∀ g,l.has g -> w1.1.size <= g) fun g hg=>(HS5.o.mi.lt g hg).1
   go_upto_region 8 with (fail)
   rw [<- HW7.o,<- HCc.o];clear HW7 HCc hk ho HS5;obtain ⟨lo,hll,hrl,hbl,hout⟩:=HSC.o.out;have HLO:=Hi (And.intro hll (And.intro hrl hbl));have HOU:=Hi hout;obtain ⟨hlaw,hcase⟩:=hout;obtain ⟨R1,S2⟩:=RK;rcases hcase with ⟨cd,e1,e2,rfl,rfl,e5⟩ | ⟨e1,rfl,e3⟩
   ·obtain rfl:R1 = .error cd:=e1;have HR9:=hI (R = (.error cd,S2)) HG1.o;obtain ⟨tt,xx,rfl⟩:=e5.some e2;clear e2 e5 hlaw hll hrl hbl;have f0:=HSC.o.fr 0;have f1:=HSC.o.fr 1;have f2:=HSC.o.fr 2;have HBR9:=Hi HSC.o.br;have d0:=HBR9.o.c0;have d1:=HBR9.o.c1;have d2:=HBR9.o.c2;obtain ⟨w9,HW9⟩:=hY (((w7.setCell ⟨r,0,none⟩ (.slice none 0 0)).setCell ⟨r,1,none⟩ (.slice none 0 0)).setCell ⟨r,2,none⟩ (.slice none 0 0));have HS9:=hI (w9 = zx w7 r zd.none_ Nd.empty) HW9.o;have HX9:=hI (zb w9 r zd.none_ Nd.empty) (by rw [HS9.o]; exact zC HBR9.o);have HP9:=hI (xm O w0 K w P D n firm R (.returned (.tuple #[ndV zd.none_ Nd.empty,.iface tt xx])) w9) (by
     rw [HS9.o];exact by rw [HR9.o]; exact HOU.o.ret H HSC.o.kept HTH.o (fun k hk=>.inl hk) (.inr (.inl rfl)) HSC.o.br.lt HQP.o.2.2.2 HLO.o.2.1 HW0.o HL.o.low)
    go_wp2_with fail;rw [<- HW9.o];exact bodyPost_ret (zq Tryz.ndProg rfl _ _ r zd.none_ Nd.empty (.iface tt xx) rfl rfl HX9.o) rfl HP9.o
   ·obtain rfl:R1 = .ok xk:=e1;have HR9:=hI (R = if xk.keys.length < 3 then kq n S2 x k lv2 xk else zQ n S2 x k 1 xk) HG1.o;have HSO:=hI (S2.d.soft.length <= 99990) (by
     have h1:=(kH f HOK.o z key).soft;rw [<- HRK.o] at h1;have h2:S2.d.soft.length <= S.d.soft.length + 2 * f:=h1;have:=HSS.o;omega)
    have HE3:=Hi (e3.mono hbl);have HLR:=hI (∀ g,lk.has g -> w1.1.size <= g /\ r < g /\ w.1.size <= g) fun g hg=>by have:=(e3.lt g hg).1; have:=HQP.o; omega
    have HLW:=Hi hlaw;have HSH:=Hi (XS f HRK.o.symm);have HDS:=hI (∀ g,l.has g -> ¬ lk.has g) fun g h1 h2=>by have:=hll g h1; have:=(e3.lt g h2).1; omega
    have HBZ:=hI (w1.1.size <= w7.1.size) (by have:=HQP.o; omega);clear e3 hlaw hll hrl hbl HG1 HOK HSS HRK;have c0:=HSC.o.bc.c0;by_cases h3:xk.keys.length < 3
    case' pos =>
     have hk3:(xk.keys.length:Int) < 3:=by omega
     have HGM:=hI (R = kq n S2 x k lv2 xk) (by rw [HR9.o,if_pos h3]);have HRP:=Hi (zcl H (at_:=k) (lv:=lv2) HLW.o hg HSO.o HSC.o.mi (fun g hg=>.inl (.inr (.inr hg))) HRT.o HNE.o HE3.o (fun g hg=>.inr hg) HSH.o h3 HDS.o HBZ.o HBZ.o HQP.o.2.2.1 HQP.o.2.2.1 HKL.o (by have:=HL2.o; omega));rw [<- HGM.o,show lv2 - 1 = lv by rw [HL2.o,HLE.o]; omega] at HRP;clear HGM HR9 h3;go_wp2_with (with_reducible refine xD9 (some 57) ?_);refine zf Tryz.ndProg (by rfl) _ rfl q rfl l x HSC.o.bq ?_;go_wp2_with (with_reducible refine xD9 (some 60) ?_);refine zf Tryz.ndProg (by rfl) _ rfl c rfl lk xk HSC.o.bc ?_;go_wp2_with fail;refine HRP.o.mono ?_;rintro e w8 hrp;obtain ⟨l5,x5,v5,rfl,hk5,ho5⟩:=zeu H hrp HBZ.o (fun k hk=>.inl (.inl (HL.o.low k hk)));have hk5:=hk5.less8 (K:=fun g=>(K g \/ g = r) /\ ¬ l.has g) fun g hg=>⟨.inl (hg.1.imp id .inl),hg.2,fun h=>by
      have:=HLR.o g h;rcases hg.1 with h9 | h9
      ·have:=HTH.o g h9; omega
      ·omega⟩
    case' neg =>
     have hk3:¬ (xk.keys.length:Int) < 3:=by omega
     have HGM:=hI (R = zQ n S2 x k 1 xk) (by rw [HR9.o,if_neg h3]);have HRP:=Hi (jf H (at_:=k) (many:=1) HLW.o hg HSO.o HSC.o.mi (fun g hg=>.inl (.inr (.inr hg))) HRT.o HNE.o HE3.o (fun g hg=>.inr hg) HSH.o HDS.o HBZ.o HQP.o.2.2.1 (ze3 _) (by decide) HKL.o);rw [<- HGM.o,show ((1:Nat):Int) = 1 from rfl] at HRP;clear HGM HR9 h3;go_wp2_with (with_reducible refine xD9 (some 65) ?_);refine zf Tryz.ndProg (by rfl) _ rfl q rfl l x HSC.o.bq ?_;go_wp2_with (with_reducible refine xD9 (some 67) ?_);refine zf Tryz.ndProg (by rfl) _ rfl c rfl lk xk HSC.o.bc ?_;go_wp2_with fail;refine HRP.o.mono ?_;rintro e w8 hrp;obtain ⟨l5,x5,v5,rfl,hk5,ho5⟩:=KV H hrp HBZ.o (fun k hk=>.inl (.inl (HL.o.low k hk)));have hk5:=hk5.less8 (K:=fun g=>(K g \/ g = r) /\ ¬ l.has g) fun g hg=>⟨.inl (hg.1.imp id .inl),hg.2⟩
    all_goals
     have hrb:=hk5.block r ⟨.inr rfl,fun h=>by have:=HLB.o r h; have:=HRL.o; omega⟩;have HR5:=hI (zb w8 r zd.none_ Nd.empty /\ ∀ j,w8.frozen? ⟨r,j,none⟩ = false) ⟨HSC.o.br.keep hrb,fun j=>(World.frozen?_of_block (w:=w7) (a:=⟨r,j,none⟩) hrb).trans (HSC.o.fr j)⟩;have HK5:=hI (zh K w w8) (HSC.o.kept.trans (hk5.less8 fun k hk=>⟨.inl hk,fun h=>by have:=HTH.o k hk; have:=HLB.o k h; have:=HRL.o; omega⟩));have HO5:=Hi ho5;clear hrp hk5 ho5 hrb HRP c0 hk3;have f0:=HR5.o.2 0;have f1:=HR5.o.2 1;have f2:=HR5.o.2 2;have HBR9:=Hi HR5.o.1;have d0:=HBR9.o.c0;have d1:=HBR9.o.c1;have d2:=HBR9.o.c2;obtain ⟨w9,HW9⟩:=hY (((w8.setCell ⟨r,0,none⟩ (.slice l5.A x5.keys.length l5.ca)).setCell ⟨r,1,none⟩ (.slice l5.B x5.vals.length l5.cb)).setCell ⟨r,2,none⟩ (.slice l5.C x5.kids.length l5.cc));have HS9:=hI (w9 = zx w8 r l5 x5) HW9.o;have HX9:=hI (zb w9 r l5 x5) (by rw [HS9.o]; exact zC HBR9.o);have HP9:=hI (xm O w0 K w P D n firm R (.returned (.tuple #[ndV l5 x5,v5])) w9) (by
      rw [HS9.o];exact HO5.o.ret H HK5.o HTH.o (fun k hk=>.inl (.inl hk)) (.inl (.inr (.inl rfl))) HR5.o.1.lt HQP.o.2.2.2 HRL.o.2 HW0.o HL.o.low)
     go_wp2_with fail;rw [<- HW9.o];exact bodyPost_ret (zq Tryz.ndProg rfl _ _ r l5 x5 (v5) rfl rfl HX9.o) rfl HP9.o
 all_goals
  go_enter Tryz.func63,Tryz.ntmps63
  go_upto_region 1 with (fail)
  rw [<- HW1.o,<- HRC.o];clear HW1;go_wp2_with fail;refine HLD.o.mono ?_;rintro e w2 ⟨hc,v,rfl,he,hb⟩;obtain ⟨tt,xx,rfl⟩:=he.some hc;have HE:=Hi he;have HB:=Hi hb;have HC:=Hi hc;clear he hb HLD hc;obtain ⟨q,HCq⟩:=hY (w2.1.size);obtain ⟨w3,HWw3⟩:=hY (w2.alloc (.cells #[.slice zd.none_.A Nd.empty.keys.length zd.none_.ca,.slice zd.none_.B Nd.empty.vals.length zd.none_.cb,.slice zd.none_.C Nd.empty.kids.length zd.none_.cc] 48));have HB3:=hI (Below w2.1.size w2 w3) (by rw [HWw3.o]; exact bA);go_upto_region 2 with (fail)
  rw [<- HWw3.o,<- HCq.o];have HB13:=hI (Below w1.1.size w1 w3) (HB.o.trans (HB3.o.mono HB.o.size));have HR3:=hI (zb w3 r zd.none_ Nd.empty /\ ∀ j,w3.frozen? ⟨r,j,none⟩ = false) ⟨HX1.o.1.carry HB13.o HX1.o.1.lt,zl HB13.o HX1.o.1.lt HX1.o.2⟩;have HE3:=Hi (HE.o.below HB3.o);have HB03:=hI (Below w.1.size w w3) (HB1.o.1.trans (HB13.o.mono HB1.o.1.size));clear HWw3 HCq HE HB HB3 HB13;have f0:=HR3.o.2 0;have f1:=HR3.o.2 1;have f2:=HR3.o.2 2;have HBR9:=Hi HR3.o.1;have d0:=HBR9.o.c0;have d1:=HBR9.o.c1;have d2:=HBR9.o.c2;obtain ⟨w9,HW9⟩:=hY (((w3.setCell ⟨r,0,none⟩ (.slice none 0 0)).setCell ⟨r,1,none⟩ (.slice none 0 0)).setCell ⟨r,2,none⟩ (.slice none 0 0));have HS9:=hI (w9 = zx w3 r zd.none_ Nd.empty) HW9.o;have HX9:=hI (zb w9 r zd.none_ Nd.empty) (by rw [HS9.o]; exact zC HBR9.o);have HP9:=hI (xm O w0 K w P D n firm R (.returned (.tuple #[ndV zd.none_ Nd.empty,.iface tt xx])) w9) (by
   rw [HS9.o];exact by rw [HG0.o]; exact Kp H HL.o HB03.o HRL.o HC.o HE3.o)
  go_wp2_with fail;rw [<- HW9.o];exact bodyPost_ret (zq Tryz.ndProg rfl _ _ r zd.none_ Nd.empty (.iface tt xx) rfl rfl HX9.o) rfl HP9.o
end
end Go.Proofs.YtafclmbecmgbnaaGreatDoor
set_option maxRecDepth 100000
set_option maxHeartbeats 4000000
open Nat renaming lt_of_lt_of_le -> ze1
namespace Go.Proofs.YtafclmbecmgbnaaGreatDoor
open Go.RowKit
section
variable {O:zV} (H:ye O)
include H
theorem Xw {w0:World} {K:Nat -> Prop} {w:World} {P D n:Nat} {S:TS} {firm:Nat -> List UInt8} (hl:zP O w0 K w P D n S firm) (hg:yC w0) (hs:S.d.soft.length <= 99900) (root key:Int) :
  Calls Tryz.prog 18 #[ptr P,.int .i64 root,.int .i64 key] w (ZP O w0 K w P D n firm (xL n S root key)):=by
 obtain ⟨R,HRR⟩:=hY (xL n S root key);have HL:=Hi hl;have HTH:=hI (zZ K w) hl.there;have HSS:=Hi hs;rw [<- HRR.o];by_cases h0:root = 0
 ·subst h0;have HR9:=hI (R = (.error 4,S)) (by rw [HRR.o]; unfold xL; rw [if_pos rfl]);clear hl hs HRR
  go_enter Tryz.func18,Tryz.ntmps18
  go_wp2_with fail;refine (xJ 4 (by decide) _).mono ?_;rintro e w1 ⟨v,rfl,he,hb⟩;have HE:=Hi he;have HB:=Hi hb;clear he hb;go_wp2_with fail
  go_ret2
  rw [HR9.o];exact ⟨HL.o.carry H HB.o,zh.of_below HB.o HTH.o,by decide,_,rfl,HE.o⟩
 ·obtain ⟨RK,HRK⟩:=hY (ky n 12 S root key);have HR9:=hI (R = match (generalizing:=false) RK with
   | (.error c,S1)=>(.error c,S1)
   | (.ok x,S1)=>if 0 < x.keys.length then (match yo n S1 x [root] with
     | (.error c,S2)=>(.error c,S2)
     | (.ok (_,ks),S2)=>(.ok (ks.getD 0 0),S2))
    else match xY S1 root with
     | (c,S2)=>if c = 0 then (.ok (x.kids.getD 0 0),S2) else (.error c,S2)) (by
   rw [HRR.o,HRK.o];unfold xL;rw [if_neg h0];rfl)
  have HCU:=Hi (zdx H hg key 12 (Nat.le_refl _) hl (by omega) root (lv:=1) rfl);rw [<- HRK.o] at HCU;have HST:=hI (RK.2.d.soft.length <= S.d.soft.length + 24) (by rw [HRK.o]; exact (kH 12 hl.inv root key).soft);have HSH:=hI (∀ x S1,RK = (.ok x,S1) -> xB x) fun x S1 h=>XS 12 (HRK.o.symm.trans h)
  have hz:(root == 0) = false:=by simp [h0]
  clear hl hs HRR HRK
  go_enter Tryz.func18,Tryz.ntmps18
  go_wp2_with fail;refine HCU.o.mono ?_;rintro e w2 hpp;obtain ⟨lk,xk,v,rfl,hk2,ho⟩:=Xs H hpp HL.o.low;have HK2:=Hi hk2;obtain ⟨R1,S1⟩:=RK;obtain ⟨hlaw,hcase⟩:=ho;have HLW:=Hi hlaw;obtain ⟨q,HCq⟩:=hY (w2.1.size);obtain ⟨w3,HWw3⟩:=hY (w2.alloc (.cells #[.slice lk.A xk.keys.length lk.ca,.slice lk.B xk.vals.length lk.cb,.slice lk.C xk.kids.length lk.cc] 48));have HB3:=hI (Below w2.1.size w2 w3 /\ w3.1.size = w2.1.size + 1) (by rw [HWw3.o]; exact ⟨(Below.refl _ _).alloc (Nat.le_refl _) _,by simp⟩);have HQ3:=hI (zb w3 q lk xk) (by rw [HWw3.o,HCq.o]; exact zb.new _);have HK3:=hI (zh K w w3) (HK2.o.trans (zh.of_below HB3.o.1 fun k hk=>ze1 (HTH.o k hk) HK2.o.size));go_upto_region 4 with (fail)
  rw [<- HWw3.o,<- HCq.o];clear HWw3 HCU hpp hk2 hlaw;rcases hcase with ⟨cd,e1,e2,rfl,rfl,e5⟩ | ⟨e1,rfl,e3⟩
  ·obtain rfl:R1 = .error cd:=e1;have HR8:=hI (R = (.error cd,S1)) HR9.o;obtain ⟨tt,xx,rfl⟩:=e5.some e2;have HE:=Hi (e5.below HB3.o.1);have HC0:=Hi e2;clear e2 e5;go_wp2_with fail
   go_ret2
   rw [HR8.o];exact ⟨(HLW.o.less H (fun k hk=>.inl hk) HL.o.low).carry H HB3.o.1,HK3.o,HC0.o,_,rfl,HE.o⟩
  ·obtain rfl:R1 = .ok xk:=e1;have HN2:=Hi e3;have c0:=HQ3.o.c0;clear e3;by_cases hp:0 < xk.keys.length
   ·have hp2:(0:Int) < (xk.keys.length:Int):=by omega
    obtain ⟨RC,HRC⟩:=hY (yo n S1 xk [root]);have HR8:=hI (R = match (generalizing:=false) RC with
     | (.error c,S2)=>(.error c,S2)
     | (.ok (_,ks),S2)=>(.ok (ks.getD 0 0),S2)) (by
     rw [HRC.o];exact HR9.o.trans (if_pos hp))
    clear HR9;go_wp2_with (with_reducible refine xD9 (some 32) ?_);refine zf Tryz.ndProg (by rfl) _ rfl q rfl lk xk HQ3.o ?_;obtain ⟨g,HG⟩:=hY (w3.1.size);obtain ⟨w4,HW4⟩:=hY (w3.alloc (.cells #[.int .i64 root] 3));have HB4:=hI (Below w2.1.size w2 w4 /\ w4.1.size = w2.1.size + 2) (by rw [HW4.o]; exact ⟨HB3.o.1.alloc HB3.o.1.size _,by simp [HB3.o.2]⟩);have HNU:=hI (Nums w4 .i64 (some ⟨g,0,none⟩) [root]) (by
     rw [HW4.o,HG.o];refine fun _=>⟨_,rfl,by simp,fun i z hz=>?_⟩
     cases i with
     | zero=>simp only [List.getElem?_cons_zero,Option.some.injEq] at hz; subst hz; rw [Addr.add_mid]; simp
     | succ i=>simp at hz)
    have HL4:=Hi (HLW.o.grow H HB4.o.1);have HCH:=Hi (Zy H HL4.o hg (by have:=HST.o; have h2:S1.d.soft.length <= S.d.soft.length + 24:=this; have:=HSS.o; omega) (HN2.o.carry HB4.o.1) (fun g hg=>.inl (.inr hg)) (HSH.o xk S1 rfl) HNU.o (oc:=1) (fun a ha _=>.inr (by cases ha; show w2.1.size <= g /\ g < w4.1.size; have:=HG.o; have:=HB3.o.2; have:=HB4.o.2; omega)) (by show 1 <= 2; decide));rw [<- HRC.o,show [root].length = 1 from rfl] at HCH;have HKX:=hI (∀ z ∈ xk.keys,-9223372036854775808 <= z /\ z <= 9223372036854775807) HN2.o.is.kw;clear hp hp2 c0;go_wp2_with fail;rw [<- HW4.o,<- HG.o];refine HCH.o.mono ?_;rintro e w5 hcp;obtain ⟨lr,xr,v,rfl,hk5,ho5⟩:=Zz H hcp (fun k hk=>.inl (.inl (HL.o.low k hk)));have HK5:=hI (zh K w w5) (HK2.o.trans ((zh.of_below HB4.o.1 fun k hk=>ze1 (HTH.o k hk) HK2.o.size).trans (hk5.less8 fun k hk=>.inl (.inl hk))));have HO5:=Hi ho5;obtain ⟨c,HCc⟩:=hY (w5.1.size);obtain ⟨w6,HW6⟩:=hY (w5.alloc (.cells #[.slice lr.A xr.keys.length lr.ca,.slice lr.B xr.vals.length lr.cb,.slice lr.C xr.kids.length lr.cc] 48));have HB6:=hI (Below w5.1.size w5 w6) (by rw [HW6.o]; exact (Below.refl _ _).alloc (Nat.le_refl _) _);have HC6:=hI (zb w6 c lr xr) (by rw [HW6.o,HCc.o]; exact zb.new _);have HK6:=hI (zh K w w6) (HK5.o.trans (zh.of_below HB6.o fun k hk=>ze1 (HTH.o k hk) HK5.o.size));have HSZ:=hI (w.1.size <= w4.1.size) (Nat.le_trans HK2.o.size HB4.o.1.size);go_upto_region 8 with (fail)
    rw [<- HW6.o,<- HCc.o];clear HW6 HCH hcp hk5 ho5 HW4 HNU HN2;obtain ⟨R2,S2⟩:=RC;have hcase:=HO5.o.2;rcases hcase with ⟨cd,e1,e2,rfl,rfl,e5⟩ | ⟨bk,ks,e1,rfl,e3,-,-,-,-,-⟩
    ·obtain rfl:R2 = .error cd:=e1;have HR7:=hI (R = (.error cd,S2)) HR8.o;obtain ⟨tt,xx,rfl⟩:=e5.some e2;have HE:=Hi ((e5.below HB6.o).mono HSZ.o);have HC0:=Hi e2;have HFK:=Hi (vp (xt.empty w6));clear e2 e5;go_wp2_with (with_reducible refine xD9 (some 38) ?_);refine zf Tryz.ndProg (by rfl) _ rfl c rfl zd.none_ Nd.empty HC6.o ?_;go_wp2_with fail;refine HFK.o.mono ?_;rintro e w7 ⟨rfl,hb⟩;have HB7:=Hi hb;clear hb;go_wp2_with fail
     go_ret2
     rw [HR7.o];refine ⟨((HO5.o.1.less H (fun k hk=>.inl (.inl (.inl hk))) HL.o.low).carry H HB6.o).carry H HB7.o,HK6.o.trans (zh.of_below HB7.o fun k hk=>ze1 (HTH.o k hk) HK6.o.size),HC0.o,_,rfl,HE.o.below HB7.o⟩
    ·obtain rfl:R2 = .ok (bk,ks):=e1;obtain ⟨h5,h6⟩:=kh HRC.o.symm;have hbl:bk.length <= 1:=by rw [h5]; exact wV xk
     have hrg:=jj HLW.o.inv HRC.o.symm;obtain ⟨hnd,-,-,hlw5⟩:=HO5.o.is rfl hbl (by omega) (fun z hz=>HKX.o z (ZG (by rw [<- h5]; exact hz))) hrg;have HR7:=hI (R = (.ok (xr.kids.getD 0 0),S2)) (by rw [e3]; exact HR8.o);have HL6:=hI (zP O w0 K w6 P D n S2 firm) ((hlw5.less H (fun k hk=>.inl (.inl (.inl hk))) HL.o.low).carry H HB6.o);have HFK:=Hi (vp (hnd.carry HB6.o));clear h5 h6 hbl hrg hnd hlw5 e3 HR8;go_wp2_with (with_reducible refine xD9 (some 38) ?_);refine zf Tryz.ndProg (by rfl) _ rfl c rfl lr xr HC6.o ?_;go_wp2_with fail;refine HFK.o.mono ?_;rintro e w7 ⟨rfl,hb⟩;have HB7:=Hi hb;clear hb;go_wp2_with fail
     go_ret2
     rw [HR7.o];exact ⟨HL6.o.carry H HB7.o,HK6.o.trans (zh.of_below HB7.o fun k hk=>ze1 (HTH.o k hk) HK6.o.size),rfl⟩
   ·have hp2:¬ (0:Int) < (xk.keys.length:Int):=by omega
    obtain ⟨RD,HRD⟩:=hY (xY S1 root);have HR8:=hI (R = if RD.1 = 0 then (.ok (xk.kids.getD 0 0),RD.2) else (.error RD.1,RD.2)) (by
     have h:=HR9.o;rw [HRD.o];exact h.trans (if_neg hp))
    have HL3:=Hi (HLW.o.grow H HB3.o.1);have HDP:=Hi (Kt H HL3.o root);rw [<- HRD.o] at HDP;have HN3:=Hi (HN2.o.carry HB3.o.1);have HQL:=hI (∀ g,lk.has g -> g < w3.1.size) fun g hg=>(HN3.o.lt g hg).2
    clear HR9 hp;go_wp2_with fail;refine HDP.o.mono ?_;rintro e w4 ⟨v,rfl,he,hlaw,hkept⟩;have HK4:=hI (zh K w w4) (HK3.o.trans (hkept.less8 fun k hk=>.inl (.inl hk)));have HL4:=Hi (hlaw.less H (fun k hk=>.inl (.inl hk)) HL.o.low);obtain ⟨cd,S3⟩:=RD;by_cases hc:cd = 0
    ·subst hc;obtain rfl:v = .nilIface:=he.zero;have HR7:=hI (R = (.ok (xk.kids.getD 0 0),S3)) (by rw [HR8.o]; rfl);have HN4:=hI (zo w4 w.1.size lk xk) (HN3.o.keep hkept.size fun g hg=>hkept.block g (.inl (.inr hg)));have HQ4:=hI (zb w4 q lk xk) (HQ3.o.keep (hkept.block q (.inr ⟨by rw [HCq.o]; exact Nat.le_refl _,HQ3.o.lt⟩)));have HFK:=Hi (vp HN4.o.is);clear he hlaw hkept HDP hp2 c0;go_wp2_with (with_reducible refine xD9 (some 47) ?_);refine zf Tryz.ndProg (by rfl) _ rfl q rfl lk xk HQ4.o ?_;go_wp2_with fail;refine HFK.o.mono ?_;rintro e w5 ⟨rfl,hb⟩;have HB5:=Hi hb;clear hb;go_wp2_with fail
     go_ret2
     rw [HR7.o];exact ⟨HL4.o.carry H HB5.o,HK4.o.trans (zh.of_below HB5.o fun k hk=>ze1 (HTH.o k hk) HK4.o.size),rfl⟩
    ·obtain ⟨tt,xx,rfl⟩:=he.some hc;have HR7:=hI (R = (.error cd,S3)) (by rw [HR8.o]; exact if_neg hc);have HE:=Hi (he.mono HK3.o.size);have HC0:=Hi hc;clear he hlaw hkept hc HDP;go_wp2_with fail
     go_ret2
     rw [HR7.o];exact ⟨HL4.o,HK4.o,HC0.o,_,rfl,HE.o⟩
end
