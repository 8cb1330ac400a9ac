/-
 LedAgainWalk. Conditions: as each theorem says.
-/
import Derived.Test.YtafclmbecmgbnaaGreatDoorLda
import Derived.Test.YtafclmbecmgbnaaGreatDoorLdd
import Derived.Test.YtafclmbecmgbnaaGreatDoorLdb
import Derived.Test.YtafclmbecmgbnaaGreatDoorTq
set_option maxRecDepth 100000
set_option maxHeartbeats 4000000
namespace Go.Proofs.YtafclmbecmgbnaaGreatDoor
open Go.RowKit
def AgS (O:zV) (w1:World) (b P D:Nat) (ps:List Pr) (k:Nat) (wr:World):Prop:=∃ (K:Nat -> Prop) (S:TS) (f:Nat -> List UInt8),LgS O w1 K wr b P D 200 S f ps k
section
variable {O:zV} (H:ye O) (HA:AbD O)
include H HA
theorem LgS.apply_any {w0:World} {K:Nat -> Prop} {w:World} {b P D n:Nat} {S:TS} {firm:Nat -> List UInt8} {ps:List Pr} {k:Nat} (h:LgS O w0 K w b P D n S firm ps k) (hg:yC w0) {A:Option Addr} {cs:List Pr} {m cap:Nat} (hc:Zm w K A cs) (hm:cs.length = m) (hmay:∀ c ∈ cs,yI c.1 c.2.size) (h5:ps.length + m <= 500) (hk:k + m <= 2000) (hm2:m <= 1000) :
  Calls Tryz.prog 41 #[ptr b,.slice A m cap] w fun e w'=>(∃ v,e = .returned v) /\ zh K w w' /\ ∃ S' firm' ps',LgS O w0 K w' b P D n S' firm' ps' (k + m + 1) /\ (ps' = ps \/ ps' = zae ps cs):=by
 obtain ⟨qs,hw⟩:=h.whole;obtain ⟨h3,⟨S',hr,h4,_⟩ | ⟨r,S',qs',hr,h1,h2,h4,_⟩⟩:=zdJ hw hmay (by omega) (by omega)
 ·rw [hm] at h3 h4;refine (VI H HA h.law hg h.led h.mine hc hm hmay h3 hr hm2).mono ?_;rintro e w' ⟨⟨t,x,rfl⟩,hl,hk2⟩;exact ⟨⟨_,rfl⟩,hk2,_,_,ps,⟨hl,h.led.kept hk2 h.mine,h.mine,_,h4⟩,.inl rfl⟩
 ·rw [hm] at h3 h4;refine (Y5 H HA h.law hg h.led h.mine hc hm hmay h3 hr h1 h2 hm2).mono ?_;rintro e w' ⟨rfl,hl,hk2⟩;exact ⟨⟨_,rfl⟩,hk2,_,_,_,⟨hl,h.led.kept hk2 h.mine,h.mine,_,h4⟩,.inr rfl⟩
omit HA in
theorem zP.opens {w0:World} {K:Nat -> Prop} {w:World} {P D n:Nat} {S:TS} {firm:Nat -> List UInt8} (h:zP O w0 K w P D n S firm) (hg:yC w0) (hn:S.s.new = wU) (hgo:S.s.gone = wU) :
  ∃ M:Nat -> Prop,(∀ k,K k -> M k) /\ zZ M w /\ Calls Tryz.prog 27 #[ptr D] w (V6 O w0 M w D n S firm) /\ ∀ w',zh M w w' -> zE M w' D n S.d -> zW O K w' P D n S.d S.s:=by
 obtain ⟨B,h1,h2,h3,h4⟩:=h.pg;have hM:zZ (fun k=>K k \/ B k) w:=fun k hk=>by
  rcases hk with hk | hk
  ·exact h3 k hk
  ·exact H.lt h1 k hk
 refine ⟨fun k=>K k \/ B k,fun k hk=>.inl hk,hM,?_,fun w' hk hd=>⟨B,H.carry h1 (fun q hq=>hk.block q (.inr hq)),hd,fun q hq=>Nat.lt_of_lt_of_le (h3 q hq) hk.size,h4⟩⟩;refine (H.openYes h2 (hg.carry h.below).crc h.up h.inv.held.three h.inv.bestD h.inv.held.good).mono ?_;rintro e w' ⟨Q,B',rfl,ho,hB,hb2⟩;have e1:Pst.opened S.s.sup = S.s:=by
  obtain ⟨d,⟨x,y,z⟩,f⟩:=S;obtain rfl:y = wU:=hn;obtain rfl:z = wU:=hgo;rfl
 refine ⟨Q,rfl,⟨?_,h.inv,h.up,h.below.trans (hb2.mono h.below.size),fun q hq=>.inl (h.low q hq)⟩,zh.of_below hb2 hM⟩;rw [<- e1];exact zW.opened h2 hM ho hB hb2
theorem VJ {w:World} {A:Option Addr} {l:List Xd} {m c:Nat} (ha:jG w A l) (hm:l.length = m) (hg:yC w) :
  Calls Tryz.prog 11 #[.slice A m c] w fun e w'=>e = .returned (.bool true) /\ Below w.1.size w w':=by
 have HG:=Hi hg;have HAC:=Hi ha;have HM:=Hi hm;clear hg ha hm;by_cases hlong:10 < m
 ·have hd:decide ((10:Int) < (m:Int)) = true:=by simp; omega
  clear hlong
  go_enter Tryz.func11,Tryz.ntmps11
  go_wp2_with fail;refine (qr H HA _ HG.o).mono ?_;rintro e w2 ⟨rfl,hb⟩;have HB2:=Hi hb;have HG2:=Hi (HG.o.carry hb);clear hb;go_wp2_with fail;refine (qr H HA _ HG2.o).mono ?_;rintro e w3 ⟨rfl,hb⟩;have HB3:=Hi (HB2.o.trans (hb.mono HB2.o.size));clear hb;go_wp2_with fail
  go_ret
  exact ⟨rfl,HB3.o⟩
 have hd:decide ((10:Int) < (m:Int)) = false:=by simp; omega
 have HM8:=hI (m <= 10) (by omega);clear hlong
 go_enter Tryz.func11,Tryz.ntmps11
 go_wp2_with fail;refine (qr H HA _ HG.o).mono ?_;rintro e w2 ⟨rfl,hb⟩;have HB2:=Hi hb;clear hb;go_wp2_with fail;refine (QF 200 (by decide) (by decide) w2).mono ?_;rintro e w3 ⟨D,rfl,hd2,hb⟩;have HF:=Hi (X4 H (w0:=w) (n:=200) (by decide) (by decide) HB2.o hd2 hb HG.o);clear hd2 hb hd;go_wp2_with fail;refine HF.o.mono ?_;rintro e w4 ⟨b,P,K0,rfl,hd,hl,hkb,hlow⟩;have HS4:=hI (AgS O w b P D [] (11 * 0) w4) ⟨K0,_,_,hl,hd,hkb,_,WhM.start (n:=200) (by decide) (by decide)⟩;clear hd hl hkb hlow HF HB2;go_wp2_with fail
 go_loopw [7] (fun i wr=>∃ (k:Nat) (ps:List Pr),k <= m /\ i = .int .i64 (k:Int) /\ ps.length <= 10 * k /\ Hid (∀ p ∈ ps,0 <= p.1 /\ p.1 < 256) /\ Hid (AgS O w b P D ps (11 * k) wr)) (fun i _=>m - (intOf i).toNat)
 case atStart=>exact ⟨0,[],Nat.zero_le _,rfl,Nat.zero_le _,Hi (fun p hp=>by cases hp),HS4⟩
 case round =>
  clear HS4;obtain ⟨k,ps,hk,rfl,hps,HLOW,HS⟩:=hrel;by_cases hlt:k < m
  ·obtain ⟨K,S,f,hx⟩:=HS.o;obtain ⟨a,hak⟩:∃ a,l[k]? = some a:=⟨_,List.getElem?_eq_getElem (by rw [HM.o]; exact hlt)⟩
   have HBW:=hI (Below w.1.size w wr) hx.law.below;have hin:=(HAC.o.below HBW.o).each a (List.mem_of_getElem? hak);obtain ⟨ba,oa,hA,hba,hcell⟩:=(HAC.o.below HBW.o).at_ hak;have c0:wr.cell? ⟨ba,oa + k * 5,none⟩ = some (.slice a.AK a.ks.length a.ck):=hcell 0 _ rfl;have c1:wr.cell? ⟨ba,oa + k * 5 + 1,none⟩ = some (.slice a.AN a.ns.length a.cn):=hcell 1 _ rfl;have c2:wr.cell? ⟨ba,oa + k * 5 + 2,none⟩ = some (.bool a.cr):=hcell 2 _ rfl;have c3:wr.cell? ⟨ba,oa + k * 5 + 3,none⟩ = some (.int .u32 (a.mask:Int)):=hcell 3 _ rfl;have c4:wr.cell? ⟨ba,oa + k * 5 + 4,none⟩ = some (.int .i64 a.torn):=hcell 4 _ rfl;subst hA;have HIN:=Hi hin;have HX:=Hi hx;have HK7:=hI (k <= 9) (by have:=HM8.o; omega);have HPS:=Hi hps;have hkl:(k:Int) < (m:Int):=by omega
   have HWK:=hI (wrap64 ((k:Int) + 1) = ((k + 1:Nat):Int)) (by have:=HK7.o; unfold wrap64; omega);clear hx hin hcell hak hba HS hps;go_wp2_with fail;refine (zag a.cr (a.mask:Int) a.torn HIN.o.keys HIN.o.nums rfl rfl HIN.o.key).mono ?_;rintro e w6 ⟨A6,a6,B6,b6,rfl,hoA,-,hb⟩;have HMAY:=hI (∀ x ∈ vn a.ks a.ns,yI x.1 x.2.size) (zbL HIN.o.key);have HLO2:=hI (∀ x ∈ vn a.ks a.ns,0 <= x.1 /\ x.1 < 256) (zbK HIN.o.key);have HLEN:=hI ((vn a.ks a.ns).length <= 10) (by rw [YV]; omega);obtain ⟨cs,HCS⟩:=hY (vn a.ks a.ns);rw [<- HCS.o] at hoA HMAY HLO2 HLEN ⊢;clear HCS;obtain ⟨K2,HK2⟩:∃ K2:Nat -> Prop,Hid (K2 = fun k=>K k \/ (wr.1.size <= k /\ k < w6.1.size)):=Hy;have HX6:=hI (LgS O w K2 w6 b P D 200 S f ps (11 * k)) (by rw [HK2.o]; exact HX.o.grow H hb);have HXA:=Hi (HX6.o.apply_any H HA HG.o (A:=A6) (cs:=cs) (m:=cs.length) (cap:=a6) (zdw hoA fun b h1 h2=>by rw [HK2.o]; exact .inr ⟨h1,h2⟩) rfl HMAY.o (by have:=HLEN.o; have:=HPS.o; have:=HK7.o; omega) (by have:=HLEN.o; have:=HK7.o; omega) (by have:=HLEN.o; omega));clear hoA hb HX HK2 c0 c1 c2 c3 c4 HX6;go_wp2_with fail;refine HXA.o.mono ?_;rintro e w7 ⟨⟨v,rfl⟩,hk7,S7,f7,ps7,hx,hor⟩;have HS7:=hI (AgS O w b P D ps7 (11 * (k + 1)) w7) ⟨K2,S7,f7,hx.more (by have:=HLEN.o; omega)⟩;have HPS7:=hI (ps7.length <= 10 * (k + 1)) (by
    have h1:=YU ps cs;have:=HPS.o;have:=HLEN.o;rcases hor with rfl | rfl <;> omega)
   have HLOW7:=hI (∀ p ∈ ps7,0 <= p.1 /\ p.1 < 256) (by
    rcases hor with rfl | rfl
    ·exact HLOW.o
    ·exact zbI HLOW.o HLO2.o)
   clear hk7 hx hor HXA;go_wp2_with fail
   go_roundw
   case rel=>exact ⟨k + 1,ps7,by omega,by rw [HWK.o],HPS7.o,HLOW7,HS7⟩
   case measure=>rw [HWK.o]; simp only [intOf,Int.toNat_natCast]; omega
  ·have hkl:decide ((k:Int) < (m:Int)) = false:=by simp; omega
   have hke:k = m:=by omega
   subst hke;obtain ⟨K,S,f,hx⟩:=HS.o;have HPS:=hI (ps.length <= 100) (by have:=HM8.o; omega);obtain ⟨q,hwm⟩:=hx.whole;obtain ⟨M,hKM,hTM,hop,hback⟩:=hx.law.opens H HG.o hwm.new hwm.gone;obtain ⟨sv,hsv,hwz⟩:=hwm.wholeZ (by have:=HPS.o; omega);have HLO:=Hi (KC H HG.o hTM hop hsv);rw [hwz] at HLO;have HRT:=hI (wA S S.s.sup.root 0 256 = .ok ps) (by
    rw [Y8 hwm.ok hwm.rt (by have:=HPS.o; omega)];exact congrArg _ (zbS HLOW.o))
   have HGT:=hI (∀ key val,(key,val) ∈ ps -> xy S S.s.sup.root key = .ok val) fun key val hin=>zcK hwm.ok hwm.rt (by have:=HPS.o; omega) hin
   have HBACK:=Hi hback;have HX:=Hi hx;have HKM:=hI (M b) (hKM b hx.mine);clear hx hwm hKM hTM hop hback hsv hwz HS;go_wp2_with fail;refine HLO.o.mono ?_;rintro e wa ⟨hka,hor⟩;rcases hor with ⟨_,b2,P2,rfl,hla,_,hlw⟩ | ⟨hne,_⟩
   rotate_left
   ·exact absurd rfl hne
   have HYL:=Hi hlw;have HYD:=Hi hla;have HXL:=hI (zP O w K wa P D 200 S f) ⟨HBACK.o wa hka hlw.pg.disk,hlw.inv,hlw.up,hlw.below,HX.o.law.low⟩;have HXD:=hI (yV wa b P) (HX.o.led.kept hka HKM.o);clear hka hla hlw HLO HBACK HX HKM;go_wp2_with fail;refine (jI _).mono ?_;rintro e w' ⟨rfl,rfl⟩;go_wp2_with fail;refine (jI _).mono ?_;rintro e w' ⟨rfl,rfl⟩;go_wp2_with fail;refine (X2 H HYL.o.pg HYD.o).mono ?_;rintro e wb ⟨rfl,hb⟩;have HYLb:=Hi (HYL.o.carry H hb);have HXLb:=Hi (HXL.o.carry H hb);have HYDb:=Hi (HYD.o.carry hb);have HXDb:=Hi (HXD.o.carry hb);clear hb HYL HXL HYD HXD;go_wp2_with fail;refine (X2 H HXLb.o.pg HXDb.o).mono ?_;rintro e wc ⟨rfl,hb⟩;have HYLc:=Hi (HYLb.o.carry H hb);have HXLc:=Hi (HXLb.o.carry H hb);have HYDc:=Hi (HYDb.o.carry hb);have HXDc:=Hi (HXDb.o.carry hb);clear hb HYLb HXLb HYDb HXDb;have HRA:=Hi (Yc H HG.o HXLc.o HXDc.o 0 256);rw [HRT.o] at HRA;go_wp2_with fail;refine HRA.o.mono ?_;rintro e wd ⟨hb,Aa,ca,rfl,ho⟩;have HOA:=Hi ho;have HYLd:=Hi (HYLc.o.carry H hb);have HYDd:=Hi (HYDc.o.carry hb);clear hb ho HRA HXLc HXDc HYLc HYDc;have HRB:=Hi (Yc H HG.o HYLd.o HYDd.o 0 256);rw [HRT.o] at HRB;go_wp2_with fail;refine HRB.o.mono ?_;rintro e we ⟨hb,Ab,cb,rfl,ho⟩;have HOB:=Hi ho;have HOA2:=Hi (xR HOA.o hb);have HYL:=Hi (HYLd.o.carry H hb);have HYD:=Hi (HYDd.o.carry hb);clear hb ho HRB HOA HYLd HYDd HRT;go_wp2_with fail
   go_loopw [16] (fun i wr=>∃ j:Nat,j <= ps.length /\ i = .int .i64 (j:Int) /\ Hid (Below we.1.size we wr)) (fun i _=>ps.length - (intOf i).toNat)
   case atStart=>exact ⟨0,Nat.zero_le _,rfl,Hi (Below.refl _ _)⟩
   case round =>
    obtain ⟨j,hj,rfl,HW⟩:=hrel;by_cases hjm:j < ps.length
    ·obtain ⟨q,HQ⟩:=hY (ps[j]);have hqm:q ∈ ps:=by rw [HQ.o]; exact List.getElem_mem _
     obtain ⟨ga,hga,a0,a1⟩:=qI (xR HOA2.o HW.o) hjm;rw [<- HQ.o] at a0 a1;obtain ⟨kz,vz⟩:=q;have HGE:=Hi (X3 H HG.o (HYL.o.carry H HW.o) (HYD.o.carry HW.o) kz);rw [HGT.o _ _ hqm] at HGE;obtain rfl:Aa = some ⟨ga,0,none⟩:=hga;have hjl:(j:Int) < (ps.length:Int):=by omega
     have HWK:=hI (wrap64 ((j:Int) + 1) = ((j + 1:Nat):Int)) (by have:=HPS.o; unfold wrap64; omega);clear hqm;go_wp2_with fail;refine HGE.o.mono ?_;rintro e wf ⟨rfl,hb⟩;have HWf:=Hi (HW.o.trans (hb.mono HW.o.size));clear hb HGE a0 a1;obtain ⟨ga2,hga,a0,a1⟩:=qI (xR HOA2.o HWf.o) hjm;obtain ⟨gb,hgb,b0,b1⟩:=qI (xR HOB.o HWf.o) hjm;rw [<- HQ.o] at a0 a1 b0 b1;obtain rfl:ga = ga2:=by injection hga with h; injection h
     obtain rfl:Ab = some ⟨gb,0,none⟩:=hgb;have hlq:(((ps.length:Nat):Int) != ((ps.length:Nat):Int)) = false:=by simp
     clear hga hjm HQ;have hne:=fun w=>zev kz vz w
     have hgd:=zdC;dsimp only;go_upto_region 19 with (fail)
     refine wp_region_held (S:=fun w9=>w9.cell? ⟨ga,j * 2,none⟩ = some (.int .i64 kz) /\ w9.cell? ⟨ga,j * 2 + 1,none⟩ = some (.string vz) /\ w9.cell? ⟨gb,j * 2,none⟩ = some (.int .i64 kz) /\ w9.cell? ⟨gb,j * 2 + 1,none⟩ = some (.string vz)) (by kernel_rfl) ?_;change wpAnyH _ _ _ _ _ _ _ _ wf.drew;obtain ⟨wa2,HWA⟩:=hY (wf.drew);rw [<- HWA.o];have hS:wa2.cell? ⟨ga,j * 2,none⟩ = some (.int .i64 kz) /\ wa2.cell? ⟨ga,j * 2 + 1,none⟩ = some (.string vz) /\ wa2.cell? ⟨gb,j * 2,none⟩ = some (.int .i64 kz) /\ wa2.cell? ⟨gb,j * 2 + 1,none⟩ = some (.string vz):=by rw [HWA.o]; exact ⟨a0,a1,b0,b1⟩
     have HBA:=hI (Below we.1.size we wa2) (by rw [HWA.o]; exact HWf.o.drew);clear HWA HWf a0 a1 b0 b1;refine xA9 0 99 (.slice (some ⟨ga,0,none⟩) ps.length ca) hS ?_;refine xA9 1 100 (.int .i64 (ps.length:Int)) hS ?_;refine xA9 2 101 (.slice (some ⟨gb,0,none⟩) ps.length cb) hS ?_;refine xA9 3 102 (.int .i64 (ps.length:Int)) hS ?_;refine xA9 4 103 (.bool false) hS ?_;refine xA9 5 104 (.bool false) hS ?_;refine xA9 6 105 (.slice (some ⟨ga,0,none⟩) ps.length ca) hS ?_;refine xA9 7 106 (.int .i64 (j:Int)) hS ?_;refine xA9 8 107 (.pointer (some ⟨ga,j * 2,none⟩)) hS ?_;refine xG9 9 108 (.agg #[.int .i64 kz,.string vz]) rfl (.inl ⟨by rfl,fun _ h=>by obtain ⟨q0,q1,q2,q3⟩:=h; go_simp⟩) hS ?_;refine xA9 10 109 (.slice (some ⟨gb,0,none⟩) ps.length cb) hS ?_;refine xA9 11 110 (.int .i64 (j:Int)) hS ?_;refine xA9 12 111 (.pointer (some ⟨gb,j * 2,none⟩)) hS ?_;refine xG9 13 112 (.agg #[.int .i64 kz,.string vz]) rfl (.inl ⟨by rfl,fun _ h=>by obtain ⟨q0,q1,q2,q3⟩:=h; go_simp⟩) hS ?_;refine xA9 14 113 (.bool false) hS ?_;refine xA9 15 114 (.bool false) hS ?_;refine xA9 16 115 (.bool false) hS ?_;refine xA9 17 116 (.nilIface) hS ?_;refine xJ9 18 (some 117) (fun K hK=>?_);rw [if_pos (by rfl)];go_simp;refine (jI _).mono ?_;rintro e w9 ⟨rfl,rfl⟩;refine hK.out _ _ hS ?_;clear hK K;refine xA9 19 118 (.bool false) hS ?_;refine xA9 20 119 (.bool false) hS ?_;refine xA9 21 120 (.bool false) hS ?_;refine xA9 22 121 (.string vz) hS ?_;refine xA9 23 122 (.slice (some ⟨ga,0,none⟩) ps.length ca) hS ?_;refine xA9 24 123 (.int .i64 (j:Int)) hS ?_;refine xA9 25 124 (.pointer (some ⟨ga,j * 2,none⟩)) hS ?_;refine xA9 26 125 (.pointer (some ⟨ga,j * 2 + 1,none⟩)) hS ?_;refine xG9 27 126 (.string vz) rfl (.inl ⟨by rfl,fun _ h=>by obtain ⟨q0,q1,q2,q3⟩:=h; go_simp⟩) hS ?_;refine xA9 28 127 (.bool false) hS ?_;refine xA9 29 128 (.bool false) hS ?_;refine wpAnyH_done (by kernel_rfl) ?_ _;go_wp2_with fail
     go_roundw
     case rel=>exact ⟨j + 1,by omega,by rw [HWK.o],HBA⟩
     case measure=>rw [HWK.o]; simp only [intOf,Int.toNat_natCast]; omega
    ·have hjl:decide ((j:Int) < (ps.length:Int)) = false:=by simp; omega
     have HBZ:=hI (Below w.1.size w wr) (HYL.o.below.trans (HW.o.mono HYL.o.below.size));go_wp2_with fail
     go_ret
     exact ⟨by simp,HBZ.o⟩
end
