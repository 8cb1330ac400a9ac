/-
  Te. Conditions: as said.
-/
import Derived.Test.YtafclmbecmgbnaaGreatDoorTq
set_option maxRecDepth 100000
set_option maxHeartbeats 4000000
open Nat renaming le_refl -> zfI
open Int renaming toNat_natCast -> zf1
open List renaming append_nil -> zgx,getElem?_cons_succ -> zgy,mem_cons -> zgz,mem_singleton -> zga
namespace Go.Proofs.YtafclmbecmgbnaaGreatDoor
open Go.RowKit
section
theorem Tryz.infoRPair9:(Tryz.prog.info? 94).map (fun i=>(i.zero,i.size,i.bytes)) = some (some (.agg #[.int .i64 0,.string ⟨#[]⟩]),2,24):=by kernel_rfl
theorem Ks (ps:List Pr):∀ {k:Nat} {p:Pr},ps[k]? = some p -> (zE ps)[k * 2]? = some (.int .i64 p.1) /\ (zE ps)[k * 2 + 1]? = some (.string p.2):=by
 induction ps with
 | nil=>intro k p h; simp at h
 | cons q ps ih =>
  intro k p h;have e:zE (q :: ps) = .int .i64 q.1 :: .string q.2 :: zE ps:=by simp [zE,Kr]
  rw [e];cases k with
  | zero =>
   simp only [List.getElem?_cons_zero,Option.some.injEq] at h;subst h;exact ⟨rfl,rfl⟩
  | succ k =>
   rw [zgy] at h;obtain ⟨h1,h2⟩:=ih h;rw [show (k + 1) * 2 = k * 2 + 1 + 1 by omega];exact ⟨by rw [zgy,zgy]; exact h1,by rw [zgy,zgy]; exact h2⟩
theorem jf {w:World} {N:Nat} {T:TypeId} {A:Option Addr} {c:Nat} {ps:List Pr} (h:w.ownsRow N T 2 (.slice A ps.length c) ps.length (zE ps)) {k:Nat} (hk:k < ps.length) :
  ∃ g,A = some ⟨g,0,none⟩ /\ w.cell? ⟨g,k * 2,none⟩ = some (.int .i64 (ps[k].1)) /\ w.cell? ⟨g,k * 2 + 1,none⟩ = some (.string (ps[k].2)):=by
 rcases h.2 with ⟨_,h0⟩ | ⟨g,cap,cur,e1,e2,e3,e4,e5,e6⟩
 ·omega
 ·simp only [Value.slice.injEq] at e1;obtain ⟨h1,h2⟩:=Ks ps (List.getElem?_eq_getElem hk);have hc:∀ (j:Nat) (v:Value),(zE ps)[j]? = some v -> w.cell? ⟨g,j,none⟩ = some v:=fun j v hj=>by
   rw [<- e6.2,List.getElem?_take] at hj;split at hj
   ·rw [cell_of_row w g j cur T (0,0) e3]
    rwa [Array.getElem?_toList] at hj
   ·cases hj
  exact ⟨g,e1.1,hc _ _ h1,hc _ _ h2⟩
theorem jy {w:World} (T:TypeId) (u v:Value):∀ (j:Nat) x,([u,v]:List Value)[j]? = some x -> (w.alloc (.cells #[u,v] T)).cell? ((⟨w.1.size,0,none⟩:Addr).add j) = some x:=World.news_of_block (cs:=#[u,v]) (heap_alloc_last w _)
theorem zV {w w':World} {N:Nat} {T:TypeId} {s:Nat} {v:Value} {n:Nat} {xs:List Value} (h:w.ownsRow N T s v n xs) (hb:Below w.1.size w w'):w'.ownsRow N T s v n xs:=zA h fun g hg=>hb.block g (h.lt g hg).2
structure RpS (w1:World) (p:Nat) (key:Int) (val:ByteArray) (os:List Pr) (v:Value) (wr:World):Prop where
 ex:∃ A c,v = .slice A os.length c /\ wr.ownsRow w1.1.size 94 2 (.slice A os.length c) os.length (zE os)
 below:Below w1.1.size w1 wr
theorem RpS.push {w1 wr w3:World} {p:Nat} {key:Int} {val:ByteArray} {os:List Pr} {A:Option Addr} {c gg c2:Nat} {q:Pr} (hb:Below w1.1.size w1 wr) (ho:wr.ownsRow w1.1.size 94 2 (.slice A os.length c) os.length (zE os)) (hg:wr.grownBy w3 (Value.slice A os.length c).ownBlock) (hown:w3.ownsRow w1.1.size 94 2 (.slice (some ⟨gg,0,none⟩) (os.length + 1) c2) (os.length + 1) (zE os ++ [.int .i64 q.1,.string q.2])) :
  RpS w1 p key val (os ++ [q]) (.slice (some ⟨gg,0,none⟩) (os.length + 1) c2) w3:=by
 refine ⟨⟨some ⟨gg,0,none⟩,c2,by rw [List.length_append]; rfl,?_⟩,hb.grown hg hb.size fun g hg=>(ho.lt g hg).1⟩;rw [kt,List.length_append,List.length_singleton];exact hown
theorem RpS.carry {w1 wr w':World} {p:Nat} {key:Int} {val:ByteArray} {os:List Pr} {v:Value} (h:RpS w1 p key val os v wr) (hb:Below wr.1.size wr w'):RpS w1 p key val os v w':=by
 obtain ⟨⟨A,c,e,ho⟩,h2⟩:=h;exact ⟨⟨A,c,e,zV ho hb⟩,h2.trans (hb.mono h2.size)⟩
theorem J2 {w:World} {N:Nat} {A:Option Addr} {c:Nat} {ps:List Pr} (h:w.ownsRow N 94 2 (.slice A ps.length c) ps.length (zE ps)) (hr:Yl ps) (hl:ps.length <= 1000) (key:Int) (val:ByteArray) :
  Calls Tryz.prog 89 #[.slice A ps.length c,.agg #[.int .i64 key,.string val]] w fun e w'=>∃ A' c',e = .returned (.slice A' (xH ps key val).length c') /\ w'.ownsRow w.1.size 94 2 (.slice A' (xH ps key val).length c') (xH ps key val).length (zE (xH ps key val)) /\ Below w.1.size w w':=by
 obtain ⟨ip,hi0,hi1,hi2,hi3⟩:=info_parts Tryz.infoRPair9;obtain ⟨p,HPP⟩:=hY (w.1.size);obtain ⟨w1,HW1⟩:=hY (w.alloc (.cells #[.int .i64 key,.string val] 94));have HB1:=hI (Below w.1.size w w1 /\ p < w1.1.size) (by rw [HW1.o,HPP.o]; exact ⟨(Below.refl _ _).alloc (zfI _) _,by simp⟩);have HP1:=hI (w1.cell? ⟨p,0,none⟩ = some (.int .i64 key) /\ w1.cell? ⟨p,1,none⟩ = some (.string val)) (by rw [HW1.o,HPP.o]; exact ⟨by simp,by simp⟩);have HO1:=Hi (zV h HB1.o.1);have HR:=Hi hr;have HL:=Hi hl;clear h hr hl
 go_enter Tryz.func89,Tryz.ntmps89
 go_upto_region 1 with (fail)
 rw [<- HW1.o,<- HPP.o];clear HW1 HPP;go_wp2_with fail
 go_loopw [5,6,7] (fun v d i wr=>∃ k:Nat,k <= ps.length /\ i = .int .i64 (k:Int) /\ d = .bool (yX (ps.take k) key) /\ Hid (RpS w1 p key val (xI (ps.take k) key val) v wr)) (fun _ _ i _=>ps.length - (intOf i).toNat)
 case atStart=>exact ⟨0,Nat.zero_le _,rfl,rfl,Hi ⟨⟨none,0,rfl,World.ownsRow_nil _ _ _ _⟩,Below.refl _ _⟩⟩
 case round =>
  obtain ⟨k,hk,rfl,rfl,HS⟩:=hrel;by_cases hlt:k < ps.length
  ·obtain ⟨os,HOS⟩:=hY (xI (ps.take k) key val);obtain ⟨dn,HDN⟩:=hY (yX (ps.take k) key);obtain ⟨q,HQ⟩:=hY (ps[k]);have HTK:=hI (ps.take (k + 1) = ps.take k ++ [q]) (by rw [HQ.o,List.take_append_getElem]);have HSN:=hI (xI (ps.take (k + 1)) key val = (os ++ if dn = false /\ key <= q.1 then [(key,val)] else []) ++ if q.1 = key then [] else [q]) (by
    rw [HTK.o,HOS.o,HDN.o];exact Jv (by rw [<- HTK.o]; exact HR.o.sublist (List.take_sublist _ _)))
   have HDS:=hI (yX (ps.take (k + 1)) key = (dn || decide (key <= q.1))) (by rw [HTK.o,HDN.o]; exact YJ _ _ _);have HOL0:=hI (os.length <= 1001) (by
    rw [HOS.o];unfold xI;have h1:(ps.take k).length <= 1000:=by rw [List.length_take]; have:=HL.o; omega
    split
    ·have:=(jt (ps:=ps.take k) (key:=key) (val:=val)).1; omega
    ·omega)
   obtain ⟨kz,vz⟩:=q;rw [<- HOS.o] at HS;rw [<- HDN.o];obtain ⟨g,hg0,hc0,hc1⟩:=jf HO1.o hlt;rw [<- HQ.o] at hc0 hc1;obtain rfl:A = some ⟨g,0,none⟩:=hg0;have HC:=hI (∀ w6,Below w1.1.size w1 w6 -> w6.cell? ⟨g,k * 2,none⟩ = some (.int .i64 kz) /\ w6.cell? ⟨g,k * 2 + 1,none⟩ = some (.string vz) /\ w6.cell? ⟨p,0,none⟩ = some (.int .i64 key) /\ w6.cell? ⟨p,1,none⟩ = some (.string val)) fun w6 h6=>⟨(h6.cell (p:=⟨g,k * 2,none⟩) (zp hc0)).trans hc0,(h6.cell (p:=⟨g,k * 2 + 1,none⟩) (zp hc1)).trans hc1,(h6.cell (p:=⟨p,0,none⟩) HB1.o.2).trans HP1.o.1,(h6.cell (p:=⟨p,1,none⟩) HB1.o.2).trans HP1.o.2⟩
   have hkl:(k:Int) < (ps.length:Int):=by omega
   have HWK:=hI (wrap64 ((k:Int) + 1) = ((k + 1:Nat):Int)) (by have:=HL.o; unfold wrap64; omega);have HOL1:=hI (∀ b:Bool,(os ++ if b = true then [(key,val)] else []).length <= 1002) fun b=>by have:=HOL0.o; cases b <;> simp <;> omega
   clear hlt hk HOS HDN HQ hc0 hc1;obtain ⟨b1,HB0⟩:∃ b1:Bool,Hid (b1 = (!dn && decide (key <= kz))):=Hy;have HSN2:=hI (xI (ps.take (k + 1)) key val = (os ++ if b1 = true then [(key,val)] else []) ++ if kz = key then [] else [(kz,vz)]) (by
    rw [HSN.o,HB0.o];congr 2;by_cases h:dn = false /\ key <= kz
    ·rw [if_pos h,if_pos (by rw [h.1,decide_eq_true h.2]; rfl)]
    ·rw [if_neg h,if_neg (by
      intro h2;apply h;simp only [Bool.and_eq_true,Bool.not_eq_true',decide_eq_true_eq] at h2;exact h2)])
   have h3:(dn = true /\ b1 = false /\ yX (ps.take (k + 1)) key = true) \/ (dn = false /\ b1 = false /\ decide (key <= kz) = false /\ yX (ps.take (k + 1)) key = false) \/ (dn = false /\ b1 = true /\ decide (key <= kz) = true /\ yX (ps.take (k + 1)) key = true):=by
    rw [HB0.o,HDS.o];cases dn with
    | true=>exact .inl ⟨rfl,rfl,rfl⟩
    | false =>
     by_cases h:key <= kz
     ·exact .inr (.inr ⟨rfl,by rw [decide_eq_true h]; rfl,decide_eq_true h,by rw [show decide (key <= (kz,vz).1) = true from decide_eq_true h]; rfl⟩)
     ·exact .inr (.inl ⟨rfl,by rw [decide_eq_false h]; rfl,decide_eq_false h,by rw [show decide (key <= (kz,vz).1) = false from decide_eq_false h]; rfl⟩)
   have h4:((kz != key) = true /\ ¬ kz = key) \/ ((kz != key) = false /\ kz = key):=by
    by_cases h:kz = key
    ·exact .inr ⟨by simp [h],h⟩
    ·exact .inl ⟨by simp [h],h⟩
   rcases h3 with ⟨hd,hb,hD⟩ | ⟨hd,hb,hlz,hD⟩ | ⟨hd,hb,hlz,hD⟩
   ·rename World=>wz
    obtain ⟨⟨A8,c8,rfl,hown⟩,hbl⟩:=HS.o;have HOW8:=Hi hown;have HBL8:=Hi hbl;clear hown hbl;have HS8:=HS;have HOL:=hI (os.length <= 1002) (by have:=HOL0.o; omega);have HSN8:=hI (xI (ps.take (k + 1)) key val = os ++ if kz = key then [] else [(kz,vz)]) (by rw [HSN2.o,hb,if_neg (by decide),zgx]);subst hd;obtain ⟨hc0,hc1,p0,p1⟩:=HC.o wz HBL8.o;go_upto_region 6 with (fail)
    go_quiet (fail)
    clear hc0 hc1 p0 p1;generalize hwd:World.drewN _ _ = we;have hbd:Below wz.1.size wz we:=by rw [<- hwd]; exact xh _ _
    have HOWD:=Hi (zV HOW8.o hbd);have HSD:=hI (RpS w1 p key val _ _ we) (HS8.o.carry hbd);have HBLD:=Hi HSD.o.below;clear hwd hbd;rcases h4 with ⟨hne,hnk⟩ | ⟨hne,hnk⟩
    ·have HNK:=hI (xI (ps.take (k + 1)) key val = os ++ [(kz,vz)]) (by rw [HSN8.o,if_neg hnk]);have HD:=Hi hD;clear hnk hD;obtain ⟨hc0,hc1,p0,p1⟩:=HC.o we HBLD.o;go_upto_region 9 with (fail)
     go_quiet (fail)
     clear hc0 hc1 p0 p1;generalize hwd:World.drewN _ _ = wd;have hbd:Below we.1.size we wd:=by rw [<- hwd]; exact xh _ _
     have HOWD:=Hi (zV HOWD.o hbd);have HSD:=hI (RpS w1 p key val _ _ wd) (HSD.o.carry hbd);have HBLD:=Hi HSD.o.below;clear hwd hbd;obtain ⟨hc0,hc1,p0,p1⟩:=HC.o wd HBLD.o;go_wp2_with (with_reducible refine xD9 (some 44) ?_);obtain ⟨g6,HG6⟩:=hY (wd.1.size);obtain ⟨w6,HW6⟩:=hY (wd.alloc (.cells #[.int .i64 kz,.string vz] 94));rw [<- HG6.o,<- HW6.o];have hb6:Below wd.1.size wd w6:=by rw [HW6.o]; exact bA
     have HBL:=hI (Below w1.1.size w1 w6) (HSD.o.below.trans (hb6.mono HSD.o.below.size));have HO6:=Hi (zV HOWD.o hb6);have hn6:∀ (j:Nat) u,([.int .i64 kz,.string vz]:List Value)[j]? = some u -> w6.cell? ((⟨g6,0,none⟩:Addr).add j) = some u:=by rw [HW6.o,HG6.o]; exact jy _ _ _
     clear HG6 HW6 hb6;refine wpList_append_lies (P:=Tryz.prog) w6 rfl _ _ 71 rfl w1.1.size 94 ip _ 2 24 Tryz.underlying71 hi0 hi1 hi2 hi3 rfl (by decide) (.slice A8 os.length c8) os.length (zE os) rfl HO6.o ⟨g6,0,none⟩ 1 1 [.int .i64 kz,.string vz] rfl rfl hn6 (fun u hu=>by rcases zgz.1 hu with h | h; (rw [h]; rfl); (rw [zga.1 h]; rfl)) (by decide) (by have:=HOL.o; unfold maxLen; omega) (by have:=HOL.o; omega) HBL.o.size w6.1.size rfl ?_;intro gg cap7 w7 hown hgrow _ _;have HS7:=Hi (RpS.push (p:=p) (key:=key) (val:=val) (q:=(kz,vz)) HBL.o HO6.o hgrow hown);clear hown hgrow hn6 HO6 HBL;go_wp2_with fail
     go_roundw
     case rel=>exact ⟨k + 1,by omega,by rw [HWK.o],by rw [HD.o],by rw [HNK.o]; exact HS7⟩
     case measure=>rw [HWK.o]; simp only [intOf,zf1]; omega
    ·have HNK:=hI (xI (ps.take (k + 1)) key val = os) (by rw [HSN8.o,if_pos hnk,zgx]);have HD:=Hi hD;clear hnk hD;obtain ⟨hc0,hc1,p0,p1⟩:=HC.o we HBLD.o;go_upto_region 9 with (fail)
     go_quiet (fail)
     clear hc0 hc1 p0 p1;generalize hwd:World.drewN _ _ = wd;have hbd:Below we.1.size we wd:=by rw [<- hwd]; exact xh _ _
     have HOWD:=Hi (zV HOWD.o hbd);have HSD:=hI (RpS w1 p key val _ _ wd) (HSD.o.carry hbd);have HBLD:=Hi HSD.o.below;clear hwd hbd;go_wp2_with fail
     go_roundw
     case rel=>exact ⟨k + 1,by omega,by rw [HWK.o],by rw [HD.o],by rw [HNK.o]; exact HSD⟩
     case measure=>rw [HWK.o]; simp only [intOf,zf1]; omega
   ·rename World=>wz
    obtain ⟨⟨A8,c8,rfl,hown⟩,hbl⟩:=HS.o;have HOW8:=Hi hown;have HBL8:=Hi hbl;clear hown hbl;have HS8:=HS;have HOL:=hI (os.length <= 1002) (by have:=HOL0.o; omega);have HSN8:=hI (xI (ps.take (k + 1)) key val = os ++ if kz = key then [] else [(kz,vz)]) (by rw [HSN2.o,hb,if_neg (by decide),zgx]);subst hd;obtain ⟨hc0,hc1,p0,p1⟩:=HC.o wz HBL8.o;go_upto_region 6 with (fail)
    go_quiet (fail)
    clear hc0 hc1 p0 p1;generalize hwd:World.drewN _ _ = we;have hbd:Below wz.1.size wz we:=by rw [<- hwd]; exact xh _ _
    have HOWD:=Hi (zV HOW8.o hbd);have HSD:=hI (RpS w1 p key val _ _ we) (HS8.o.carry hbd);have HBLD:=Hi HSD.o.below;clear hwd hbd;rcases h4 with ⟨hne,hnk⟩ | ⟨hne,hnk⟩
    ·have HNK:=hI (xI (ps.take (k + 1)) key val = os ++ [(kz,vz)]) (by rw [HSN8.o,if_neg hnk]);have HD:=Hi hD;clear hnk hD;obtain ⟨hc0,hc1,p0,p1⟩:=HC.o we HBLD.o;go_upto_region 9 with (fail)
     go_quiet (fail)
     clear hc0 hc1 p0 p1;generalize hwd:World.drewN _ _ = wd;have hbd:Below we.1.size we wd:=by rw [<- hwd]; exact xh _ _
     have HOWD:=Hi (zV HOWD.o hbd);have HSD:=hI (RpS w1 p key val _ _ wd) (HSD.o.carry hbd);have HBLD:=Hi HSD.o.below;clear hwd hbd;obtain ⟨hc0,hc1,p0,p1⟩:=HC.o wd HBLD.o;go_wp2_with (with_reducible refine xD9 (some 44) ?_);obtain ⟨g6,HG6⟩:=hY (wd.1.size);obtain ⟨w6,HW6⟩:=hY (wd.alloc (.cells #[.int .i64 kz,.string vz] 94));rw [<- HG6.o,<- HW6.o];have hb6:Below wd.1.size wd w6:=by rw [HW6.o]; exact bA
     have HBL:=hI (Below w1.1.size w1 w6) (HSD.o.below.trans (hb6.mono HSD.o.below.size));have HO6:=Hi (zV HOWD.o hb6);have hn6:∀ (j:Nat) u,([.int .i64 kz,.string vz]:List Value)[j]? = some u -> w6.cell? ((⟨g6,0,none⟩:Addr).add j) = some u:=by rw [HW6.o,HG6.o]; exact jy _ _ _
     clear HG6 HW6 hb6;refine wpList_append_lies (P:=Tryz.prog) w6 rfl _ _ 71 rfl w1.1.size 94 ip _ 2 24 Tryz.underlying71 hi0 hi1 hi2 hi3 rfl (by decide) (.slice A8 os.length c8) os.length (zE os) rfl HO6.o ⟨g6,0,none⟩ 1 1 [.int .i64 kz,.string vz] rfl rfl hn6 (fun u hu=>by rcases zgz.1 hu with h | h; (rw [h]; rfl); (rw [zga.1 h]; rfl)) (by decide) (by have:=HOL.o; unfold maxLen; omega) (by have:=HOL.o; omega) HBL.o.size w6.1.size rfl ?_;intro gg cap7 w7 hown hgrow _ _;have HS7:=Hi (RpS.push (p:=p) (key:=key) (val:=val) (q:=(kz,vz)) HBL.o HO6.o hgrow hown);clear hown hgrow hn6 HO6 HBL;go_wp2_with fail
     go_roundw
     case rel=>exact ⟨k + 1,by omega,by rw [HWK.o],by rw [HD.o],by rw [HNK.o]; exact HS7⟩
     case measure=>rw [HWK.o]; simp only [intOf,zf1]; omega
    ·have HNK:=hI (xI (ps.take (k + 1)) key val = os) (by rw [HSN8.o,if_pos hnk,zgx]);have HD:=Hi hD;clear hnk hD;obtain ⟨hc0,hc1,p0,p1⟩:=HC.o we HBLD.o;go_upto_region 9 with (fail)
     go_quiet (fail)
     clear hc0 hc1 p0 p1;generalize hwd:World.drewN _ _ = wd;have hbd:Below we.1.size we wd:=by rw [<- hwd]; exact xh _ _
     have HOWD:=Hi (zV HOWD.o hbd);have HSD:=hI (RpS w1 p key val _ _ wd) (HSD.o.carry hbd);have HBLD:=Hi HSD.o.below;clear hwd hbd;go_wp2_with fail
     go_roundw
     case rel=>exact ⟨k + 1,by omega,by rw [HWK.o],by rw [HD.o],by rw [HNK.o]; exact HSD⟩
     case measure=>rw [HWK.o]; simp only [intOf,zf1]; omega
   ·rename World=>wz
    obtain ⟨⟨A5,c5,rfl,hown⟩,hbl⟩:=HS.o;have HOW5:=Hi hown;have HBL5:=Hi hbl;clear hown hbl;have HOL:=hI (os.length <= 1002) (by have:=HOL0.o; omega);subst hd;obtain ⟨hc0,hc1,p0,p1⟩:=HC.o wz HBL5.o;go_upto_region 6 with (fail)
    go_quiet (fail)
    clear hc0 hc1 p0 p1;generalize hwd:World.drewN _ _ = we;have hbd:Below wz.1.size wz we:=by rw [<- hwd]; exact xh _ _
    have HOWD:=Hi (zV HOW5.o hbd);have HSD:=hI (RpS w1 p key val _ _ we) (HS.o.carry hbd);have HBLD:=Hi HSD.o.below;clear hwd hbd;obtain ⟨hc0,hc1,p0,p1⟩:=HC.o we HBLD.o;go_wp2_with (with_reducible refine xD9 (some 29) ?_);obtain ⟨g6,HG6⟩:=hY (we.1.size);obtain ⟨w6,HW6⟩:=hY (we.alloc (.cells #[.int .i64 key,.string val] 94));rw [<- HG6.o,<- HW6.o];have hb6:Below we.1.size we w6:=by rw [HW6.o]; exact bA
    have HBL:=hI (Below w1.1.size w1 w6) (HSD.o.below.trans (hb6.mono HSD.o.below.size));have HO6:=Hi (zV HOWD.o hb6);have hn6:∀ (j:Nat) u,([.int .i64 key,.string val]:List Value)[j]? = some u -> w6.cell? ((⟨g6,0,none⟩:Addr).add j) = some u:=by rw [HW6.o,HG6.o]; exact jy _ _ _
    clear HG6 HW6 hb6;refine wpList_append_lies (P:=Tryz.prog) w6 rfl _ _ 71 rfl w1.1.size 94 ip _ 2 24 Tryz.underlying71 hi0 hi1 hi2 hi3 rfl (by decide) (.slice A5 os.length c5) os.length (zE os) rfl HO6.o ⟨g6,0,none⟩ 1 1 [.int .i64 key,.string val] rfl rfl hn6 (fun u hu=>by rcases zgz.1 hu with h | h; (rw [h]; rfl); (rw [zga.1 h]; rfl)) (by decide) (by have:=HOL.o; unfold maxLen; omega) (by have:=HOL.o; omega) HBL.o.size w6.1.size rfl ?_;intro gg cap7 w8 hown hgrow _ _;have HS7:=Hi (RpS.push (p:=p) (key:=key) (val:=val) (q:=(key,val)) HBL.o HO6.o hgrow hown);clear hown hgrow hn6 HO6 HBL;obtain ⟨o1,HO1⟩:=hY (os ++ [(key,val)]);have hl1:os.length + 1 = o1.length:=by rw [HO1.o,List.length_append]; rfl
    rw [<- HO1.o] at HS7;rw [hl1] at HS7 ⊢;have HSN8:=hI (xI (ps.take (k + 1)) key val = o1 ++ if kz = key then [] else [(kz,vz)]) (by rw [HSN2.o,hb,if_pos rfl,HO1.o]);have HOL:=hI (o1.length <= 1002) (by have:=HOL0.o; omega);have HS8:=HS7;obtain ⟨⟨A8,c8,hv8,hown8⟩,hbl8⟩:=HS7.o;simp only [Value.slice.injEq] at hv8;obtain ⟨rfl,-,rfl⟩:=hv8;have HOW8:=Hi hown8;have HBL8:=Hi hbl8;clear hc0 hc1 p0 p1 hown8 hbl8 hl1 HS7;rcases h4 with ⟨hne,hnk⟩ | ⟨hne,hnk⟩
    ·have HNK:=hI (xI (ps.take (k + 1)) key val = o1 ++ [(kz,vz)]) (by rw [HSN8.o,if_neg hnk]);have HD:=Hi hD;clear hnk hD;obtain ⟨hc0,hc1,p0,p1⟩:=HC.o w8 HBL8.o;go_upto_region 9 with (fail)
     go_quiet (fail)
     clear hc0 hc1 p0 p1;generalize hwd:World.drewN _ _ = wd;have hbd:Below w8.1.size w8 wd:=by rw [<- hwd]; exact xh _ _
     have HOWD:=Hi (zV HOW8.o hbd);have HSD:=hI (RpS w1 p key val _ _ wd) (HS8.o.carry hbd);have HBLD:=Hi HSD.o.below;clear hwd hbd;obtain ⟨hc0,hc1,p0,p1⟩:=HC.o wd HBLD.o;go_wp2_with (with_reducible refine xD9 (some 44) ?_);obtain ⟨g6,HG6⟩:=hY (wd.1.size);obtain ⟨w6,HW6⟩:=hY (wd.alloc (.cells #[.int .i64 kz,.string vz] 94));rw [<- HG6.o,<- HW6.o];have hb6:Below wd.1.size wd w6:=by rw [HW6.o]; exact bA
     have HBL:=hI (Below w1.1.size w1 w6) (HSD.o.below.trans (hb6.mono HSD.o.below.size));have HO6:=Hi (zV HOWD.o hb6);have hn6:∀ (j:Nat) u,([.int .i64 kz,.string vz]:List Value)[j]? = some u -> w6.cell? ((⟨g6,0,none⟩:Addr).add j) = some u:=by rw [HW6.o,HG6.o]; exact jy _ _ _
     clear HG6 HW6 hb6;refine wpList_append_lies (P:=Tryz.prog) w6 rfl _ _ 71 rfl w1.1.size 94 ip _ 2 24 Tryz.underlying71 hi0 hi1 hi2 hi3 rfl (by decide) (.slice (some ⟨gg,0,none⟩) o1.length cap7) o1.length (zE o1) rfl HO6.o ⟨g6,0,none⟩ 1 1 [.int .i64 kz,.string vz] rfl rfl hn6 (fun u hu=>by rcases zgz.1 hu with h | h; (rw [h]; rfl); (rw [zga.1 h]; rfl)) (by decide) (by have:=HOL.o; unfold maxLen; omega) (by have:=HOL.o; omega) HBL.o.size w6.1.size rfl ?_;intro gg cap7 w7 hown hgrow _ _;have HS7:=Hi (RpS.push (p:=p) (key:=key) (val:=val) (q:=(kz,vz)) HBL.o HO6.o hgrow hown);clear hown hgrow hn6 HO6 HBL;go_wp2_with fail
     go_roundw
     case rel=>exact ⟨k + 1,by omega,by rw [HWK.o],by rw [HD.o],by rw [HNK.o]; exact HS7⟩
     case measure=>rw [HWK.o]; simp only [intOf,zf1]; omega
    ·have HNK:=hI (xI (ps.take (k + 1)) key val = o1) (by rw [HSN8.o,if_pos hnk,zgx]);have HD:=Hi hD;clear hnk hD;obtain ⟨hc0,hc1,p0,p1⟩:=HC.o w8 HBL8.o;go_upto_region 9 with (fail)
     go_quiet (fail)
     clear hc0 hc1 p0 p1;generalize hwd:World.drewN _ _ = wd;have hbd:Below w8.1.size w8 wd:=by rw [<- hwd]; exact xh _ _
     have HOWD:=Hi (zV HOW8.o hbd);have HSD:=hI (RpS w1 p key val _ _ wd) (HS8.o.carry hbd);have HBLD:=Hi HSD.o.below;clear hwd hbd;go_wp2_with fail
     go_roundw
     case rel=>exact ⟨k + 1,by omega,by rw [HWK.o],by rw [HD.o],by rw [HNK.o]; exact HSD⟩
     case measure=>rw [HWK.o]; simp only [intOf,zf1]; omega
  ·have hk2:k = ps.length:=by omega
   subst hk2;have hT:ps.take ps.length = ps:=List.take_of_length_le (zfI _);rw [hT] at HS ⊢;have HE:=Hi (QR (ps:=ps) (key:=key) (val:=val));obtain ⟨os,HOS⟩:=hY (xI ps key val);obtain ⟨dn,HDN⟩:=hY (yX ps key);have HOL:=hI (os.length <= 1002) (by
    rw [HOS.o];unfold xI;have:=(jt (ps:=ps) (key:=key) (val:=val)).1;have:=HL.o;split <;> omega)
   rw [<- HOS.o] at HS HE;rw [<- HDN.o] at HE ⊢;obtain ⟨⟨A8,c8,rfl,hown⟩,hbl⟩:=HS.o;have HOW8:=Hi hown;have HBL8:=Hi hbl;clear hown hbl HOS HDN hk hT;cases dn with
   | true =>
    have HE2:=hI (xH ps key val = os) (by rw [<- HE.o,if_neg (by decide),zgx]);go_wp2_with fail
    go_ret
    rw [HE2.o];exact ⟨A8,c8,rfl,yG HOW8.o HB1.o.1.size,HB1.o.1.trans (HBL8.o.mono HB1.o.1.size)⟩
   | false =>
    have HE2:=hI (xH ps key val = os ++ [(key,val)]) (by rw [<- HE.o,if_pos rfl]);have p0:=(HBL8.o.cell (p:=⟨p,0,none⟩) HB1.o.2).trans HP1.o.1;have p1:=(HBL8.o.cell (p:=⟨p,1,none⟩) HB1.o.2).trans HP1.o.2;go_wp2_with (with_reducible refine xD9 (some 50) ?_);obtain ⟨g6,HG6⟩:=hY (wr.1.size);obtain ⟨w6,HW6⟩:=hY (wr.alloc (.cells #[.int .i64 key,.string val] 94));rw [<- HG6.o,<- HW6.o];have hb6:Below wr.1.size wr w6:=by rw [HW6.o]; exact bA
    have HBL:=hI (Below w1.1.size w1 w6) (HS.o.below.trans (hb6.mono HS.o.below.size));have HO6:=Hi (zV HOW8.o hb6);have hn6:∀ (j:Nat) u,([.int .i64 key,.string val]:List Value)[j]? = some u -> w6.cell? ((⟨g6,0,none⟩:Addr).add j) = some u:=by rw [HW6.o,HG6.o]; exact jy _ _ _
    clear HG6 HW6 hb6;refine wpList_append_lies (P:=Tryz.prog) w6 rfl _ _ 71 rfl w1.1.size 94 ip _ 2 24 Tryz.underlying71 hi0 hi1 hi2 hi3 rfl (by decide) (.slice A8 os.length c8) os.length (zE os) rfl HO6.o ⟨g6,0,none⟩ 1 1 [.int .i64 key,.string val] rfl rfl hn6 (fun u hu=>by rcases zgz.1 hu with h | h; (rw [h]; rfl); (rw [zga.1 h]; rfl)) (by decide) (by have:=HOL.o; unfold maxLen; omega) (by have:=HOL.o; omega) HBL.o.size w6.1.size rfl ?_;intro gg cap7 w7 hown hgrow _ _;have HS7:=Hi (RpS.push (p:=p) (key:=key) (val:=val) (q:=(key,val)) HBL.o HO6.o hgrow hown);clear hown hgrow hn6 HO6 HBL;obtain ⟨⟨A9,c9,hv9,hown9⟩,hbl9⟩:=HS7.o;have HOW9:=Hi hown9;have HBL9:=Hi hbl9;have HV9:=Hi hv9;clear hown9 hbl9 hv9 p0 p1 HS7;go_wp2_with fail
    go_ret
    rw [HE2.o];exact ⟨A9,c9,by rw [HV9.o]; rfl,yG HOW9.o HB1.o.1.size,HB1.o.1.trans (HBL9.o.mono HB1.o.1.size)⟩
end
section
theorem KJ {w:World} {N M:Nat} {A B:Option Addr} {c d:Nat} {ps:List Pr} (ha:w.ownsRow N 97 2 (.slice A ps.length c) ps.length (zE ps)) (hb:w.ownsRow M 94 2 (.slice B ps.length d) ps.length (zE ps)) (hl:ps.length <= 1000) :
  Calls Tryz.prog 45 #[.slice A ps.length c,.slice B ps.length d] w fun e w'=>e = .returned (.int .i64 1) /\ Below w.1.size w w':=by
 have HA:=Hi ha;have HB:=Hi hb;have HL:=Hi hl;clear ha hb hl
 go_enter Tryz.func45,Tryz.ntmps45
 go_wp2_with fail
 go_loopw [5] (fun i wr=>∃ k:Nat,k <= ps.length /\ i = .int .i64 (k:Int) /\ Hid (Below w.1.size w wr)) (fun i _=>ps.length - (intOf i).toNat)
 case atStart=>exact ⟨0,Nat.zero_le _,rfl,Hi (Below.refl _ _)⟩
 case round =>
  obtain ⟨k,hk,rfl,HW⟩:=hrel;by_cases hlt:k < ps.length
  ·obtain ⟨q,HQ⟩:=hY (ps[k]);obtain ⟨g,hg0,a0,a1⟩:=jf (zV HA.o HW.o) hlt;obtain ⟨h,hh0,b0,b1⟩:=jf (zV HB.o HW.o) hlt;rw [<- HQ.o] at a0 a1 b0 b1;obtain ⟨kz,vz⟩:=q;obtain rfl:A = some ⟨g,0,none⟩:=hg0;obtain rfl:B = some ⟨h,0,none⟩:=hh0;have hkl:(k:Int) < (ps.length:Int):=by omega
   have HWK:=hI (wrap64 ((k:Int) + 1) = ((k + 1:Nat):Int)) (by have:=HL.o; unfold wrap64; omega);clear hlt HQ;go_upto_region 6 with (fail)
   go_quiet (fail)
   generalize hwd:World.drewN _ _ = wd;have HBD:=hI (Below w.1.size w wd) (HW.o.trans ((show Below wr.1.size wr wd by rw [<- hwd]; exact xh _ _).mono HW.o.size));clear hwd a0 a1 b0 b1;go_wp2_with fail
   go_roundw
   case rel=>exact ⟨k + 1,by omega,by rw [HWK.o],HBD⟩
   case measure=>rw [HWK.o]; simp only [intOf,zf1]; omega
  ·go_wp2_with fail
   go_ret
   exact ⟨rfl,HW.o⟩
end
