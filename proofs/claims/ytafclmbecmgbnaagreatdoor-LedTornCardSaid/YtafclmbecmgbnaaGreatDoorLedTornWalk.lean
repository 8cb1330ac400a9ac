/-
 LedTornWalk. Conditions: as each theorem says.
-/
import Derived.Test.YtafclmbecmgbnaaGreatDoorLedTornMath
import Derived.Test.YtafclmbecmgbnaaGreatDoorLedOpen
set_option maxRecDepth 100000
set_option maxHeartbeats 4000000
open Nat renaming lt_of_lt_of_le -> zfG
open List renaming length_nil -> zf2
namespace Go.Proofs.YtafclmbecmgbnaaGreatDoor
open Go.RowKit
structure zap (M:Nat -> Prop) (w6:World) (D n:Nat) (s:Pst) (data firm:Nat -> List UInt8) (d:Dk) (k:Nat) (wr:World):Prop where
 disk:zB M wr D n d
 kept:zf M w6 wr
 there:zR M wr
 inv:yH n d s data firm
 up:d.down = false
 soft:d.soft.length <= 300 + k
def jJ:Pg:=[1,2,3] ++ List.replicate 125 0
theorem ZP:jJ.length = 128:=by simp [jJ]
theorem Qe:Tryz.prog.built 86 [(0,.int .u8 1),(1,.int .u8 2),(2,.int .u8 3)] = some (zx jJ):=by kernel_rfl
theorem KT:Tryz.prog.built 86 [] = some (zx zt):=by kernel_rfl
theorem zfb:zcm Tryz.prog 87 128:=⟨⟨_,Tryz.underlying87,rfl⟩,by kernel_rfl⟩
theorem qR {P:Program} {ops:Array Oper} {rest:List Oper} {o:Oper} {a:Act} {w:World} {Q:Exit -> Act -> World -> Prop} (hw:Region.wanted o (yielded ops a.tmps) = true) (t:TypeId) (ho:o.op = .build t #[]) (c:Array Value) (hb:P.built t [] = some c)
  (h:wpList P ops Q rest (a.put o.dst (.agg c)) w):wpList P ops Q (o :: rest) a w :=
 wpList_step fun K hK=>by rw [if_pos hw]; exact wp_build t #[] ho (by simp [hb]) (hK _ _ (by simpa [hb] using h))
theorem WE {w:World} {b:Nat} {p:Pg} {t:TypeId} {fr:Nat × Nat} (h:w.1[b]? = some (.cells (zx p) t fr)):w.rangeAt b 0 (ze p):=fun j u hu=>by
 rw [cell_of_row w b (0 + j) _ _ _ h,Nat.zero_add];simpa [zx] using hu
section
variable {O:ye} (H:ym O) (HA:AbD O)
include H HA
theorem Je {w:World} {AK AN AK2 AN2:Option Addr} {ks ns zs:List Nat} {nk ck nn cn nz cz nn2 cn2:Nat} (cr cr2:Bool) (mask torn mask2 torn2:Int) (hk:Nums w .u8 AK (kU ks)) (hn:Nums w .u32 AN (kU ns)) (hz:Nums w .u8 AK2 (kU zs)) (hnk:ks.length = nk) (hnn:ns.length = nn) (hnz:zs.length = nz) (h8:∀ k ∈ ks,k < 256) (hz8:∀ k ∈ zs,k < 256)
  (m:Nat) (hm:m < 4294967296) (x:Int) (hx:x <= 9223372036854775807) (hg:yL w) :
  Calls Tryz.prog 8 #[zaQ AK AN nk ck nn cn cr mask torn,zaQ AK2 AN2 nz cz nn2 cn2 cr2 mask2 torn2,.int .u32 (m:Int),.int .i64 x] w fun e w'=>e = .returned (.bool true) /\ Below w.1.size w w':=by
 obtain ⟨w1,HW1⟩:=hY ((w.alloc (.cells #[.slice AK nk ck,.slice AN nn cn,.bool cr,.int .u32 mask,.int .i64 torn] 78)).alloc (.cells #[.slice AK2 nz cz,.slice AN2 nn2 cn2,.bool cr2,.int .u32 mask2,.int .i64 torn2] 78));obtain ⟨p,HP⟩:=hY (w.1.size);obtain ⟨p2,HP2⟩:=hY (w.1.size + 1);have HB1:=hI (Below w.1.size w w1) (by rw [HW1.o]; exact ((Below.refl _ _).alloc (Nat.le_refl _) _).alloc (by simp) _);have HX1:=hI (wE w1 p [.slice AK nk ck,.slice AN nn cn,.bool cr,.int .u32 mask,.int .i64 torn]) (by
  rw [HW1.o,HP.o];exact (wE.new (w:=w) [.slice AK nk ck,.slice AN nn cn,.bool cr,.int .u32 mask,.int .i64 torn] 78).carry ((Below.refl _ _).alloc (Nat.le_refl _) _) (by simp))
 have HX2:=hI (wE w1 p2 [.slice AK2 nz cz,.slice AN2 nn2 cn2,.bool cr2,.int .u32 mask2,.int .i64 torn2]) (by
  rw [HW1.o,HP2.o];have:=wE.new (w:=w.alloc (.cells #[.slice AK nk ck,.slice AN nn cn,.bool cr,.int .u32 mask,.int .i64 torn] 78)) [.slice AK2 nz cz,.slice AN2 nn2 cn2,.bool cr2,.int .u32 mask2,.int .i64 torn2] 78
  rwa [World.size_alloc] at this)
 have HPL:=hI (p < w1.1.size /\ p2 < w1.1.size) ⟨HX1.o.lt (by simp),HX2.o.lt (by simp)⟩;have HKS:=Hi hk;have HNS:=Hi hn;have HZS:=Hi hz;have HNK:=Hi hnk;have HNN:=Hi hnn;have HNZ:=Hi hnz;have H8:=Hi h8;have HZ8:=Hi hz8;have HM:=Hi hm;have HXT:=Hi hx;have HG:=Hi (hg.carry HB1.o);clear hk hn hz hnk hnn hnz h8 hz8 hm hx hg
 go_enter Tryz.func8,Tryz.ntmps8
 go_upto_region 1 with (fail)
 rw [<- HW1.o,<- HP2.o,<- HP.o];clear HW1 HP HP2;go_wp2_with fail;refine (KP H HA _ HG.o).mono ?_;rintro e w2 ⟨rfl,hb⟩;have HB2:=Hi hb;clear hb;go_wp2_with fail;refine (zak 100 (by decide) (by decide) w2).mono ?_;rintro e w3 ⟨D,rfl,hd2,hb⟩;have HF:=Hi (WA H (w0:=w1) (n:=100) (by decide) (by decide) HB2.o hd2 hb HG.o);clear hd2 hb;go_wp2_with fail;refine HF.o.mono ?_;rintro e w4 ⟨b,P,K,rfl,hd,hl,hkb,hlow⟩;have HL:=Hi hl;have HD:=Hi hd;have HKB:=Hi hkb;have HLOWK:=Hi hlow;clear hd hl hkb hlow HF;have hbl:=HL.o.below;have hcx:=HX1.o.below hbl HPL.o.1;have c0:=hcx.cell (j:=0) rfl;have c1:=hcx.cell (j:=1) rfl;have c2:=hcx.cell (j:=2) rfl;have c3:=hcx.cell (j:=3) rfl;have c4:=hcx.cell (j:=4) rfl;have HBW4:=hI (Below w.1.size w w4) (HB1.o.trans (hbl.mono HB1.o.size));clear hbl hcx;go_wp2_with fail;refine (zaV cr mask torn (HKS.o.carry HBW4.o) (HNS.o.carry HBW4.o) HNK.o HNN.o H8.o).mono ?_;rintro e w5 ⟨A5,a5,B5,b5,rfl,hoA,hoB,hb⟩;have HMAY:=hI (∀ x ∈ vE ks ns,xa x.1 x.2.size) (zcx H8.o);have HLOW:=hI (∀ x ∈ vE ks ns,0 <= x.1 /\ x.1 < 256) (zcw H8.o);have HLEN:=hI ((vE ks ns).length <= 10) (by rw [Xm]; omega);obtain ⟨cs,HCS⟩:=hY (vE ks ns);rw [<- HCS.o] at hoA hoB HMAY HLOW HLEN ⊢;clear HCS;obtain ⟨L,HLL⟩:∃ L:Nat -> Prop,Hid (L = fun k=>K k \/ (w4.1.size <= k /\ k < w5.1.size)):=Hy;have HL5:=hI (zX O w1 L w5 P D 100 (S0 100) (fun _=>[])) (by rw [HLL.o]; exact HL.o.grow H hb);have HD5:=Hi (HD.o.carry hb);have HLB:=hI (L b) (by rw [HLL.o]; exact .inl HKB.o);have HLP:=hI (L p2) (by rw [HLL.o]; exact .inl (HLOWK.o p2 (zfG HPL.o.2 HB2.o.size)));have HC5:=hI (Xh w5 L A5 cs) (zef hoA fun k h1 h2=>by rw [HLL.o]; exact .inr ⟨h1,h2⟩);have HOB:=hI (∀ w',zf L w5 w' -> w'.ownsRow w4.1.size 94 2 (.slice B5 cs.length b5) cs.length (zE cs)) fun w' hk=>QJ hoB hk fun k h1 h2=>by rw [HLL.o]; exact .inr ⟨h1,h2⟩
 clear hoA hoB hb c0 c1 c2 c3 c4 HL HD HKB HBW4 HLOWK;obtain ⟨r1,S1,q1,hrun,hro,hge,hsf,hwh,hgen⟩:=zc2 (WhM.start (n:=100) (by decide) (by decide)) HMAY.o (by have:=HLEN.o; simp only [zf2]; omega) (by have:=HLEN.o; simp only [zf2]; omega) (Nat.zero_le _);have HAP:=Hi (Xz H HA HL5.o HG.o HD5.o HLB.o (cs:=cs) (m:=cs.length) (cap:=a5) HC5.o rfl HMAY.o hsf hrun hro hge (by have:=HLEN.o; omega));obtain ⟨ps,HPS⟩:=hY (jq [] cs);have HPL2:=hI (∀ x ∈ ps,0 <= x.1 /\ x.1 < 256) (by rw [HPS.o]; exact zcu (fun x hx=>by cases hx) HLOW.o);have HPN:=hI (ps.length <= 10) (by have:=qY [] cs; have:=HLEN.o; rw [HPS.o]; simp only [zf2] at *; omega);obtain ⟨T1,HT1⟩:=hY (S1.commit r1);obtain ⟨f1,HF1⟩:=hY (S1.data);obtain ⟨k1,HK1⟩:=hY (0 + cs.length + 1);rw [<- HT1.o,<- HF1.o,<- HPS.o,<- HK1.o] at hwh;rw [<- HT1.o,<- HF1.o] at HAP;have HW1:=Hi hwh;have HK1L:=hI (k1 <= 11) (by have:=HLEN.o; rw [HK1.o]; omega);clear hrun hro hge hsf hwh hgen HT1 HF1 HK1;go_wp2_with fail;refine HAP.o.mono ?_;rintro e w6 ⟨rfl,hl,hk⟩;have HL6:=Hi hl;have HD6:=Hi (HD5.o.kept hk HLB.o);have HK6:=Hi hk;obtain ⟨BB,hO,hdk,hth,hdis⟩:=hl.pg;have HO6:=Hi hO;have HDIS:=Hi hdis;have HTH:=Hi hth;obtain ⟨M,HMM⟩:∃ M:Nat -> Prop,Hid (M = fun b=>L b \/ BB b):=Hy;have HST:=hI (zap M w6 D 100 T1.s T1.data f1 T1.d 0 w6) (by
  rw [HMM.o];exact ⟨hdk,zf.refl _ _,fun k hk=>by rcases hk with hk | hk; exact hth k hk; exact H.lt hO k hk,hl.inv,hl.up,by have:=HW1.o.soft; have:=HK1L.o; omega⟩)
 have HOB6:=hI (∀ w',zf M w6 w' -> w'.ownsRow w4.1.size 94 2 (.slice B5 cs.length b5) cs.length (zE cs)) fun w' h9=>HOB.o w' (hk.trans (h9.less8 fun k hk=>by rw [HMM.o]; exact .inl hk))
 have HBK:=hI (∀ w',zf M w6 w' -> Below w1.1.size w1 w') fun w' h9=>hl.belowK (h9.less8 fun k hk=>by rw [HMM.o]; exact .inl hk)
 have HC6:=hI (∀ w',zf M w6 w' -> w'.cell? ⟨p2,0,none⟩ = some (.slice AK2 nz cz)) fun w' h9=>(HX2.o.below (HBK.o w' h9) HPL.o.2).cell (j:=0) rfl
 have HZ6:=hI (∀ w',zf M w6 w' -> Nums w' .u8 AK2 (kU zs)) fun w' h9=>(HZS.o.carry HB1.o).carry (HBK.o w' h9)
 clear hl hk hO hdk hth hdis HAP HL5 HD5 HC5 HOB;go_wp2_with (go_at_call 17; refine (kp _).mono ?_; rintro e w' ⟨rfl,rfl⟩)
 go_loopw [16,17] (fun u16 u wr=>∃ (k:Nat) (z:Int) (d:Dk),u = .int .i64 (k:Int) /\ u16 = .int .i64 z /\ k <= zs.length /\ k <= 10 /\ zap M w6 D 100 T1.s T1.data f1 d k wr) (fun _ u _=>10 - (intOf u).toNat)
 case atStart=>exact ⟨0,2,T1.d,rfl,rfl,Nat.zero_le _,Nat.zero_le _,HST.o⟩
 case round =>
  clear HST;obtain ⟨k,z,d,rfl,rfl,hk,hk10,hti⟩:=hrel;have HT:=Hi hti;have HK:=Hi hk;clear hti hk;have c0:=HC6.o wr HT.o.kept;have HNZI:=hI ((nz:Int) = (zs.length:Int)) (by rw [HNZ.o]);by_cases hkz:k < zs.length
  ·by_cases hk9:k < 10
   ·obtain ⟨zk,hzk⟩:∃ zk,zs[k]? = some zk:=⟨_,List.getElem?_eq_getElem hkz⟩
    have hz8:zk < 256:=HZ8.o zk (List.mem_of_getElem? hzk);obtain ⟨aZ,hAZ,hcZ⟩:=(HZ6.o wr HT.o.kept).at_ (i:=k) (z:=(zk:Int)) (by unfold kU; rw [List.getElem?_map,hzk]; rfl);subst hAZ;obtain ⟨i,HI⟩:∃ i:Nat,Hid (i = 2 + zk % 90):=Hy;have hi2:2 <= i /\ i < 92:=by rw [HI.o]; omega
    have hii:(2:Int) + (zk:Int) % 90 = (i:Int):=by rw [HI.o]; omega
    have hkn:(k:Int) < (nz:Int):=by rw [HNZI.o]; omega
    have hkn2:k < nz:=by omega
    clear hzk;go_wp2_with fail;refine (qT HT.o.disk (i:Int)).mono ?_;rw [HT.o.up,jQ (by omega:i < 100),if_pos rfl,show ((i:Int)).toNat = i from by omega];rintro e w7 ⟨v,rfl,he,hb⟩;obtain rfl:=he.zero;obtain ⟨pg,HPG⟩:=hY (xU d.seen i);have HL9:=hI (pg.length = 128) (by rw [HPG.o]; exact Zj HT.o.inv.held.ok.ws (by rw [HT.o.inv.held.ok.seen]; omega));rw [<- HPG.o];clear he c0;go_wp2_with (with_reducible refine xD9 (none) ?_);unfold xA;refine zv rfl _ _ _ rfl (zx zt) (zx pg) _ rfl rfl rfl (by rw [zu,HL9.o]; exact Tryz.pageSize) (by rw [zu,zu,HL9.o,zI]) (yS _) ?_;obtain ⟨wa,HWA⟩:=hY (w7.alloc (.cells (zx pg) 87));obtain ⟨ba,HBA⟩:=hY (w7.1.size);rw [<- HWA.o,<- HBA.o];have hbb:Below wr.1.size wr wa:=by rw [HWA.o]; exact hb.trans ((Below.refl _ _).alloc hb.size _)
    have HRA:=hI (wa.rangeAt ba 0 (ze pg)) (WE (by rw [HWA.o,HBA.o]; exact heap_alloc_last w7 _));have HTa:=hI (zap M w6 D 100 T1.s T1.data f1 d k wa) ⟨HT.o.disk.carry hbb,HT.o.kept.trans (zf.of_below hbb HT.o.there),fun q hq=>zfG (HT.o.there q hq) hbb.size,HT.o.inv,HT.o.up,HT.o.soft⟩;clear hb hbb HWA HBA HT hcZ;go_wp2_with fail;refine (kp _).mono ?_;rintro e w' ⟨rfl,rfl⟩;go_wp2_with (with_reducible refine xD9 (some 85) ?_);unfold xA;refine vi zfb (by rfl) _ rfl ba 0 rfl (ze pg) (by rw [zG,HL9.o]) HRA.o ?_;simp only [Act.put,pU];refine qR (by rfl) 86 rfl _ KT ?_;simp only [Act.put,pU];have heq:=fun w=>Xu pg zt HL9.o zI w
    have hgp:=zbe;have hpv:Value.agg (ze pg).toArray = pgV pg:=rfl;have hpz:Value.agg (zx zt) = pgV zt:=rfl;rw [hpv,hpz];obtain ⟨bz,HBZ⟩:=hY (decide (pg = zt));rw [<- HBZ.o] at heq;clear hpv hpz;have HKW:=hI (wrap64 ((k:Int) + 1) = ((k + 1:Nat):Int)) (by unfold wrap64; omega);cases bz with
    | false =>
     go_wp2_with fail
     go_roundw
     case rel=>exact ⟨k + 1,(i:Int),d,by go_num,rfl,hkz,hk9,HTa.o.disk,HTa.o.kept,HTa.o.there,HTa.o.inv,HTa.o.up,by have:=HTa.o.soft; omega⟩
     case measure=>simp [intOf]; omega
    | true =>
     have HZP:=hI (pg = zt) (of_decide_eq_true HBZ.o.symm);have HTN:=hI (yH 100 (d.write i jJ) T1.s T1.data f1) (HTa.o.inv.outside HW1.o.new hi2.1 (by omega) (HTa.o.inv.zero_free (by omega) (by rw [<- HPG.o]; exact HZP.o)) ZP);go_wp2_with (with_reducible refine xD9 (some 91) ?_);unfold xA;refine XP rfl 86 _ rfl (zx jJ) [(0,.int .u8 1),(1,.int .u8 2),(2,.int .u8 3)] (by simp only [List.map_toArray,List.map_cons,List.map_nil]; rfl) Qe ?_;simp only [Act.put,pU];have hpv:Value.agg (zx jJ) = pgV jJ:=rfl;rw [hpv];clear hpv heq hgp;have hwr:=Hi (Vv (i:=i) (p:=jJ) HTa.o.disk HTa.o.there HTa.o.up (by omega) ZP (by have:=HTa.o.soft; omega));go_wp2_with fail;refine hwr.out.mono ?_;rintro e w8 ⟨rfl,hd8,hk8⟩;have HT8:=hI (zap M w6 D 100 T1.s T1.data f1 (d.write i jJ) (k + 1) w8) ⟨hd8,HTa.o.kept.trans hk8,fun q hq=>zfG (HTa.o.there q hq) hk8.size,HTN.o,HTa.o.up,by
      have:=HTa.o.soft;show (d.soft ++ [(i,jJ)]).length <= _;rw [List.length_append,List.length_singleton];omega⟩
     clear hwr hd8 hk8 HTN HTa;go_wp2_with fail
     go_roundw
     case rel=>exact ⟨k + 1,(i:Int),_,by go_num,rfl,hkz,hk9,HT8.o⟩
     case measure=>simp [intOf]; omega
   ·have hk9':k = 10:=by omega
    subst hk9';have hkn:(10:Int) < (nz:Int):=by rw [HNZI.o]; omega
    go_wp2_with fail;refine (Vm (m:=m) (t:=x) HM.o HT.o.disk HT.o.there (by have:=HT.o.soft; omega) HXT.o).mono ?_;rintro e w8 ⟨rfl,hd8,hk8⟩;have HDK8:=Hi hd8;have HK8:=Hi hk8;clear hd8 hk8;go_wp2_with fail;refine (zcq HDK8.o).mono ?_;rintro e w9 ⟨rfl,hd9,hk9⟩;have HDK9:=Hi hd9;have HK9:=hI (zf M w6 w9) (HT.o.kept.trans (HK8.o.trans hk9));have HT9:=hI (zR M w9) (fun q hq=>zfG (HT.o.there q hq) (HK8.o.trans hk9).size);clear hd9 hk9 HDK8 HK8;obtain ⟨S2,HS2⟩:∃ S2:TS,Hid (S2 = ⟨(d.crash m x).up,Pst.opened T1.s.sup,f1⟩):=Hy;have HWO:=hI (WhM 100 S2 f1 ps q1 k1) (by rw [HS2.o]; exact HW1.o.opened m x HT.o.inv);have HGE2:=hI (S2.s.sup.gen = T1.s.sup.gen) (by rw [HS2.o]; rfl);obtain ⟨sv,hsv,hwz⟩:=HWO.o.wholeZ (by have:=HPN.o; omega);have HPO:=hI (Calls Tryz.prog 27 #[ptr D] w9 (Wa O w1 M w9 D 100 S2 f1)) (by
     have hi:=HT.o.inv.crashed m x;have hb9:=HBK.o w9 HK9.o;refine (H.openYes HDK9.o (HG.o.carry hb9).crc rfl hi.held.three hi.bestD hi.held.good).mono ?_;rintro e w' ⟨Q,B',rfl,ho,hB,hb2⟩;refine ⟨Q,rfl,?_,zf.of_below hb2 HT9.o⟩;rw [HS2.o];exact ⟨zZ.opened HDK9.o HT9.o ho hB hb2,hi,rfl,hb9.trans (hb2.mono hb9.size),fun q hq=>by rw [HMM.o]; exact .inl (HL6.o.low q hq)⟩)
    have HLO:=Hi (XA H HG.o HT9.o HPO.o hsv);rw [hwz] at HLO;clear hsv hwz HPO HDK9 HS2 HT;go_wp2_with fail;refine HLO.o.mono ?_;rintro e wa ⟨hka,hor⟩;rcases hor with ⟨_,b2,P2,rfl,hla,_,hlw⟩ | ⟨hne,_⟩
    rotate_left
    ·exact absurd rfl hne
    have HLA:=Hi hla;have HLW:=Hi hlw;have HKA:=hI (zf M w6 wa) (HK9.o.trans hka);have HTA:=hI (zR M wa) (fun q hq=>zfG (HT9.o q hq) hka.size);clear hla hlw hka HLO HK9 HT9;have HRT:=hI (wy S2 S2.s.sup.root 0 4294967296 = .ok ps) (by
     rw [Zk HWO.o.ok HWO.o.rt (by show ps.length <= 500; have:=HPN.o; omega)];exact congrArg _ (K3 fun q hq=>by have:=HPL2.o q hq; omega))
    have HRA:=Hi (Yy H HG.o HLW.o HLA.o 0 4294967296);rw [HRT.o] at HRA;go_wp2_with fail;refine (kp _).mono ?_;rintro e w' ⟨rfl,rfl⟩;go_wp2_with fail;refine HRA.o.mono ?_;rintro e wb ⟨hb,A11,c11,rfl,ho⟩;have HO11:=Hi ho;have HLWb:=Hi (HLW.o.carry H hb);have HLAb:=Hi (HLA.o.carry hb);have HKb:=hI (zf M w6 wb) (HKA.o.trans (zf.of_below hb HTA.o));have HTb:=hI (zR M wb) (fun q hq=>zfG (HTA.o q hq) hb.size);have HOW:=Hi (HOB6.o wb HKb.o);clear hb ho HRA HLW HLA HKA HTA;go_wp2_with fail;refine (kp _).mono ?_;rintro e w' ⟨rfl,rfl⟩;go_wp2_with fail;refine (Yk (N:=wb.1.size) (ps:=[]) (A:=none) (c:=0) (World.ownsRow_nil _ _ _ _) HOW.o List.Pairwise.nil (by have:=HLEN.o; simp only [zf2]; omega) (Nat.le_refl _)).mono ?_;rw [<- HPS.o];rintro e wc ⟨A7,c7,rfl,ho,hb⟩;have HO7:=Hi ho;have HO11c:=Hi (zV HO11.o hb);have HLWc:=Hi (HLWb.o.carry H hb);have HLAc:=Hi (HLAb.o.carry hb);have HKc:=hI (zf M w6 wc) (HKb.o.trans (zf.of_below hb HTb.o));have HTc:=hI (zR M wc) (fun q hq=>zfG (HTb.o q hq) hb.size);clear ho hb HOW HO11 HLWb HLAb HKb HTb;go_wp2_with fail;refine (KJ HO11c.o HO7.o (by have:=HPN.o; omega)).mono ?_;rintro e wd ⟨rfl,hb⟩;have HLWd:=Hi (HLWc.o.carry H hb);have HLAd:=Hi (HLAc.o.carry hb);have HKd:=hI (zf M w6 wd) (HKc.o.trans (zf.of_below hb HTc.o));have HTd:=hI (zR M wd) (fun q hq=>zfG (HTc.o q hq) hb.size);clear hb HO11c HO7 HLWc HLAc HKc HTc;have HGY:=Hi (qo H HLWd.o.pg HLAd.o);rw [HGE2.o] at HGY;go_wp2_with fail;refine HGY.o.mono ?_;rintro e we ⟨rfl,hb⟩;have HKe:=hI (zf M w6 we) (HKd.o.trans (zf.of_below hb HTd.o));have HLWe:=Hi (HLWd.o.carry H hb);clear hb HGY;have HPX:=hI (zZ O L we P D 100 S2.d T1.s) (by
     refine ⟨BB,H.carry HO6.o (fun q hq=>HKe.o.block q (by rw [HMM.o]; exact .inr hq)),?_,fun q hq=>zfG (HTH.o q hq) HKe.o.size,HDIS.o⟩;have:=HLWe.o.pg.disk
     rwa [HMM.o] at this)
    have HDX:=hI (xc we b P) (HD6.o.kept (HKe.o.less8 fun q hq=>by rw [HMM.o]; exact .inl hq) HLB.o);have HGX:=Hi (qo H HPX.o HDX.o);go_wp2_with fail;refine HGX.o.mono ?_;rintro e wf ⟨rfl,hb⟩;have HBF:=hI (Below w.1.size w wf) (by
     have h1:=HLWe.o.below.trans (hb.mono HLWe.o.below.size);exact HB1.o.trans (h1.mono HB1.o.size))
    clear hb HGX;go_wp2_with fail
    go_ret
    exact ⟨rfl,HBF.o⟩
  ·have hkn:¬ (k:Int) < (nz:Int):=by rw [HNZI.o]; omega
   go_wp2_with fail;refine (Vm (m:=m) (t:=x) HM.o HT.o.disk HT.o.there (by have:=HT.o.soft; omega) HXT.o).mono ?_;rintro e w8 ⟨rfl,hd8,hk8⟩;have HDK8:=Hi hd8;have HK8:=Hi hk8;clear hd8 hk8;go_wp2_with fail;refine (zcq HDK8.o).mono ?_;rintro e w9 ⟨rfl,hd9,hk9⟩;have HDK9:=Hi hd9;have HK9:=hI (zf M w6 w9) (HT.o.kept.trans (HK8.o.trans hk9));have HT9:=hI (zR M w9) (fun q hq=>zfG (HT.o.there q hq) (HK8.o.trans hk9).size);clear hd9 hk9 HDK8 HK8;obtain ⟨S2,HS2⟩:∃ S2:TS,Hid (S2 = ⟨(d.crash m x).up,Pst.opened T1.s.sup,f1⟩):=Hy;have HWO:=hI (WhM 100 S2 f1 ps q1 k1) (by rw [HS2.o]; exact HW1.o.opened m x HT.o.inv);have HGE2:=hI (S2.s.sup.gen = T1.s.sup.gen) (by rw [HS2.o]; rfl);obtain ⟨sv,hsv,hwz⟩:=HWO.o.wholeZ (by have:=HPN.o; omega);have HPO:=hI (Calls Tryz.prog 27 #[ptr D] w9 (Wa O w1 M w9 D 100 S2 f1)) (by
    have hi:=HT.o.inv.crashed m x;have hb9:=HBK.o w9 HK9.o;refine (H.openYes HDK9.o (HG.o.carry hb9).crc rfl hi.held.three hi.bestD hi.held.good).mono ?_;rintro e w' ⟨Q,B',rfl,ho,hB,hb2⟩;refine ⟨Q,rfl,?_,zf.of_below hb2 HT9.o⟩;rw [HS2.o];exact ⟨zZ.opened HDK9.o HT9.o ho hB hb2,hi,rfl,hb9.trans (hb2.mono hb9.size),fun q hq=>by rw [HMM.o]; exact .inl (HL6.o.low q hq)⟩)
   have HLO:=Hi (XA H HG.o HT9.o HPO.o hsv);rw [hwz] at HLO;clear hsv hwz HPO HDK9 HS2 HT;go_wp2_with fail;refine HLO.o.mono ?_;rintro e wa ⟨hka,hor⟩;rcases hor with ⟨_,b2,P2,rfl,hla,_,hlw⟩ | ⟨hne,_⟩
   rotate_left
   ·exact absurd rfl hne
   have HLA:=Hi hla;have HLW:=Hi hlw;have HKA:=hI (zf M w6 wa) (HK9.o.trans hka);have HTA:=hI (zR M wa) (fun q hq=>zfG (HT9.o q hq) hka.size);clear hla hlw hka HLO HK9 HT9;have HRT:=hI (wy S2 S2.s.sup.root 0 4294967296 = .ok ps) (by
    rw [Zk HWO.o.ok HWO.o.rt (by show ps.length <= 500; have:=HPN.o; omega)];exact congrArg _ (K3 fun q hq=>by have:=HPL2.o q hq; omega))
   have HRA:=Hi (Yy H HG.o HLW.o HLA.o 0 4294967296);rw [HRT.o] at HRA;go_wp2_with fail;refine (kp _).mono ?_;rintro e w' ⟨rfl,rfl⟩;go_wp2_with fail;refine HRA.o.mono ?_;rintro e wb ⟨hb,A11,c11,rfl,ho⟩;have HO11:=Hi ho;have HLWb:=Hi (HLW.o.carry H hb);have HLAb:=Hi (HLA.o.carry hb);have HKb:=hI (zf M w6 wb) (HKA.o.trans (zf.of_below hb HTA.o));have HTb:=hI (zR M wb) (fun q hq=>zfG (HTA.o q hq) hb.size);have HOW:=Hi (HOB6.o wb HKb.o);clear hb ho HRA HLW HLA HKA HTA;go_wp2_with fail;refine (kp _).mono ?_;rintro e w' ⟨rfl,rfl⟩;go_wp2_with fail;refine (Yk (N:=wb.1.size) (ps:=[]) (A:=none) (c:=0) (World.ownsRow_nil _ _ _ _) HOW.o List.Pairwise.nil (by have:=HLEN.o; simp only [zf2]; omega) (Nat.le_refl _)).mono ?_;rw [<- HPS.o];rintro e wc ⟨A7,c7,rfl,ho,hb⟩;have HO7:=Hi ho;have HO11c:=Hi (zV HO11.o hb);have HLWc:=Hi (HLWb.o.carry H hb);have HLAc:=Hi (HLAb.o.carry hb);have HKc:=hI (zf M w6 wc) (HKb.o.trans (zf.of_below hb HTb.o));have HTc:=hI (zR M wc) (fun q hq=>zfG (HTb.o q hq) hb.size);clear ho hb HOW HO11 HLWb HLAb HKb HTb;go_wp2_with fail;refine (KJ HO11c.o HO7.o (by have:=HPN.o; omega)).mono ?_;rintro e wd ⟨rfl,hb⟩;have HLWd:=Hi (HLWc.o.carry H hb);have HLAd:=Hi (HLAc.o.carry hb);have HKd:=hI (zf M w6 wd) (HKc.o.trans (zf.of_below hb HTc.o));have HTd:=hI (zR M wd) (fun q hq=>zfG (HTc.o q hq) hb.size);clear hb HO11c HO7 HLWc HLAc HKc HTc;have HGY:=Hi (qo H HLWd.o.pg HLAd.o);rw [HGE2.o] at HGY;go_wp2_with fail;refine HGY.o.mono ?_;rintro e we ⟨rfl,hb⟩;have HKe:=hI (zf M w6 we) (HKd.o.trans (zf.of_below hb HTd.o));have HLWe:=Hi (HLWd.o.carry H hb);clear hb HGY;have HPX:=hI (zZ O L we P D 100 S2.d T1.s) (by
    refine ⟨BB,H.carry HO6.o (fun q hq=>HKe.o.block q (by rw [HMM.o]; exact .inr hq)),?_,fun q hq=>zfG (HTH.o q hq) HKe.o.size,HDIS.o⟩;have:=HLWe.o.pg.disk
    rwa [HMM.o] at this)
   have HDX:=hI (xc we b P) (HD6.o.kept (HKe.o.less8 fun q hq=>by rw [HMM.o]; exact .inl hq) HLB.o);have HGX:=Hi (qo H HPX.o HDX.o);go_wp2_with fail;refine HGX.o.mono ?_;rintro e wf ⟨rfl,hb⟩;have HBF:=hI (Below w.1.size w wf) (by
    have h1:=HLWe.o.below.trans (hb.mono HLWe.o.below.size);exact HB1.o.trans (h1.mono HB1.o.size))
   clear hb HGX;go_wp2_with fail
   go_ret
   exact ⟨rfl,HBF.o⟩
end
