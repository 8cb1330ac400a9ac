/-
  Ldc. Conditions: as said.
-/
import Derived.Test.YtafclmbecmgbnaaGreatDoorLda
import Derived.Test.YtafclmbecmgbnaaGreatDoorTe
import Derived.Test.YtafclmbecmgbnaaGreatDoorTrVal
import Derived.Test.YtafclmbecmgbnaaGreatDoorStructOpen
import Derived.Deep.Slices
set_option maxRecDepth 100000
set_option maxHeartbeats 4000000
open List renaming getElem?_eq_getElem -> zfM,length_take -> zfZ
open Nat renaming le_refl -> zfI
open Int renaming toNat_natCast -> zf1
namespace Go.Proofs.YtafclmbecmgbnaaGreatDoor
section
open Go.RowKit
theorem za8 (ps:List Pr) (q:Pr) (key:Int):vh (ps ++ [q]) key = vh ps key ++ if q.1 = key then [] else [q]:=by
 rw [jR];congr 1;unfold vh;by_cases h:q.1 = key <;> simp [h]
theorem Xd {ps:List Pr} {k:Nat} {q:Pr} (h:ps[k]? = some q):ps.take (k + 1) = ps.take k ++ [q]:=by
 rw [List.take_add_one,h]; rfl
theorem za7 {ps:List Pr} (h:Yl ps) (key:Int):Yl (vh ps key):=h.sublist List.filter_sublist
theorem za2 {ps:List Pr} (h:Yl ps) (c:Pr):Yl (YX ps c):=by
 unfold YX;split
 ·exact zbg h _ _
 ·exact za7 h _
theorem zaT {ps:List Pr} (h:Yl ps) (cs:List Pr):Yl (jq ps cs):=by
 induction cs generalizing ps with
 | nil=>exact h
 | cons c r ih=>exact ih (za2 h c)
theorem zaS {ps cs:List Pr} {k:Nat} {c:Pr} (h:cs[k]? = some c):jq ps (cs.take (k + 1)) = YX (jq ps (cs.take k)) c:=by
 rw [Xd h];unfold jq;rw [List.foldl_append];rfl
theorem Wc {w:World} {N:Nat} {A:Option Addr} {c:Nat} {ps:List Pr} (h:w.ownsRow N 94 2 (.slice A ps.length c) ps.length (zE ps)) (hl:ps.length <= 1000) (key:Int) :
  Calls Tryz.prog 88 #[.slice A ps.length c,.int .i64 key] w fun e w'=>∃ A' c',e = .returned (.slice A' (vh ps key).length c') /\ w'.ownsRow w.1.size 94 2 (.slice A' (vh ps key).length c') (vh ps key).length (zE (vh ps key)) /\ Below w.1.size w w':=by
 obtain ⟨ip,hi0,hi1,hi2,hi3⟩:=info_parts Tryz.infoRPair9;have HO:=Hi h;have HL:=Hi hl;clear h hl
 go_enter Tryz.func88,Tryz.ntmps88
 go_wp2_with fail
 go_loopw [5,6] (fun v i wr=>∃ k:Nat,k <= ps.length /\ i = .int .i64 (k:Int) /\ Hid (RpS w 0 key ⟨#[]⟩ (vh (ps.take k) key) v wr)) (fun _ i _=>ps.length - (intOf i).toNat)
 case atStart=>exact ⟨0,Nat.zero_le _,rfl,Hi ⟨⟨none,0,rfl,World.ownsRow_nil _ _ _ _⟩,Below.refl _ _⟩⟩
 case round =>
  obtain ⟨k,hk,rfl,HS⟩:=hrel;by_cases hlt:k < ps.length
  ·obtain ⟨g,hg0,hc0,hc1⟩:=jf HO.o hlt;obtain ⟨kz,vz,hq⟩:∃ kz vz,ps[k]? = some (kz,vz):=⟨_,_,zfM hlt⟩
   have hq2:ps[k] = (kz,vz):=by rw [zfM hlt] at hq; exact Option.some.inj hq
   rw [hq2] at hc0 hc1;obtain rfl:A = some ⟨g,0,none⟩:=hg0;obtain ⟨os,HOS⟩:=hY (vh (ps.take k) key);have HNX:=hI (vh (ps.take (k + 1)) key = os ++ if kz = key then [] else [(kz,vz)]) (by rw [Xd hq,za8,HOS.o]);have HOL:=hI (os.length <= 1000) (by rw [HOS.o]; have h1:=Xt (ps.take k) key; have:=HL.o; rw [zfZ] at h1; omega);rw [<- HOS.o] at HS;obtain ⟨⟨A8,c8,rfl,hown⟩,hbl⟩:=HS.o;have HOW:=Hi hown;have HBL:=Hi hbl;have c0:wr.cell? ⟨g,k * 2,none⟩ = some (.int .i64 kz):=(hbl.cell (p:=⟨g,k * 2,none⟩) (zp hc0)).trans hc0;have c1:wr.cell? ⟨g,k * 2 + 1,none⟩ = some (.string vz):=(hbl.cell (p:=⟨g,k * 2 + 1,none⟩) (zp hc1)).trans hc1;have HWK:=hI (wrap64 ((k:Int) + 1) = ((k + 1:Nat):Int)) (by have:=HL.o; unfold wrap64; omega);clear hown hbl hc0 hc1 hq hq2 HOS;by_cases hkk:kz = key
   ·have hne:(kz != key) = false:=by simp [hkk]
    have HN2:=hI (vh (ps.take (k + 1)) key = os) (by rw [HNX.o,if_pos hkk,List.append_nil]);clear hkk;go_wp2_with fail
    go_roundw
    case rel=>exact ⟨k + 1,by omega,by rw [HWK.o],by rw [HN2.o]; exact HS⟩
    case measure=>rw [HWK.o]; simp only [intOf,zf1]; omega
   ·have hne:(kz != key) = true:=by simp [hkk]
    have HN2:=hI (vh (ps.take (k + 1)) key = os ++ [(kz,vz)]) (by rw [HNX.o,if_neg hkk]);clear hkk;go_wp2_with (with_reducible refine xD9 (some 26) ?_);obtain ⟨g6,HG6⟩:=hY (wr.1.size);obtain ⟨w6,HW6⟩:=hY (wr.alloc (.cells #[.int .i64 kz,.string vz] 94));rw [<- HG6.o,<- HW6.o];have hb6:Below wr.1.size wr w6:=by rw [HW6.o]; exact bA
    have HBL6:=hI (Below w.1.size w w6) (HBL.o.trans (hb6.mono HBL.o.size));have HO6:=Hi (zV HOW.o hb6);have hn6:∀ (j:Nat) u,([.int .i64 kz,.string vz]:List Value)[j]? = some u -> w6.cell? ((⟨g6,0,none⟩:Addr).add j) = some u:=by rw [HW6.o,HG6.o]; exact jy _ _ _
    clear HG6 HW6 hb6;unfold xA;refine wpList_append_lies (P:=Tryz.prog) w6 rfl _ _ 71 rfl w.1.size 94 ip _ 2 24 Tryz.underlying71 hi0 hi1 hi2 hi3 rfl (by decide) (.slice A8 os.length c8) os.length (zE os) rfl HO6.o ⟨g6,0,none⟩ 1 1 [.int .i64 kz,.string vz] rfl rfl hn6 (fun u hu=>by rcases List.mem_cons.1 hu with h | h; (rw [h]; rfl); (rw [List.mem_singleton.1 h]; rfl)) (by decide) (by have:=HOL.o; unfold maxLen; omega) (by have:=HOL.o; omega) HBL6.o.size _ rfl ?_;intro gg cap7 w7 hown hgrow _ _;have HS7:=Hi (RpS.push (p:=0) (key:=key) (val:=⟨#[]⟩) (q:=(kz,vz)) HBL6.o HO6.o hgrow hown);clear hown hgrow hn6 HO6 HBL6;go_wp2_with fail
    go_roundw
    case rel=>exact ⟨k + 1,by omega,by rw [HWK.o],by rw [HN2.o]; exact HS7⟩
    case measure=>rw [HWK.o]; simp only [intOf,zf1]; omega
  ·obtain rfl:k = ps.length:=by omega
   rw [List.take_length] at HS;obtain ⟨⟨A8,c8,rfl,hown⟩,hbl⟩:=HS.o;have HOW:=Hi hown;have HBL:=Hi hbl;clear hown hbl;go_wp2_with fail
   go_ret
   exact ⟨A8,c8,rfl,HOW.o,HBL.o⟩
theorem kr {w:World} {B C n k:Nat} {v:Value} {xs:List Value} {e:TypeId} (h:w.ownsRow C e k v n xs) (hBC:B <= C):w.ownsRow B e k v n xs:=by
 obtain ⟨hl,h3⟩:=h;refine ⟨hl,?_⟩;rcases h3 with h3 | ⟨g,cap,cur,rfl,hg,hh,r⟩
 ·exact .inl h3
 ·exact .inr ⟨g,cap,cur,rfl,by omega,hh,r⟩
theorem Qi (s:ByteArray):s.toList.isEmpty = decide (s.size = 0):=by
 rw [Bool.eq_iff_iff,List.isEmpty_iff,decide_eq_true_eq,ByteArray.toList_eq];constructor
 ·intro h; have:=congrArg List.length h; simpa using this
 ·intro h; exact List.eq_nil_of_length_eq_zero (by rw [Array.length_toList]; exact h)
theorem Yk {w:World} {N M:Nat} {A A2:Option Addr} {c c2:Nat} {ps cs:List Pr} (h:w.ownsRow N 94 2 (.slice A ps.length c) ps.length (zE ps)) (h2:w.ownsRow M 94 2 (.slice A2 cs.length c2) cs.length (zE cs)) (hr:Yl ps) (hl:ps.length + cs.length <= 1000) (hN:N <= w.1.size) :
  Calls Tryz.prog 42 #[.slice A ps.length c,.slice A2 cs.length c2] w fun e w'=>∃ A' c',e = .returned (.slice A' (jq ps cs).length c') /\ w'.ownsRow N 94 2 (.slice A' (jq ps cs).length c') (jq ps cs).length (zE (jq ps cs)) /\ Below w.1.size w w':=by
 have HO:=Hi h;have HO2:=Hi h2;have HR:=Hi hr;have HL:=Hi hl;have HN:=Hi hN;clear h h2 hr hl hN
 go_enter Tryz.func42,Tryz.ntmps42
 go_wp2_with fail
 go_loopw [0,5] (fun v i wr=>∃ (k:Nat) (A':Option Addr) (c':Nat),k <= cs.length /\ i = .int .i64 (k:Int) /\ v = .slice A' (jq ps (cs.take k)).length c' /\ wr.ownsRow N 94 2 (.slice A' (jq ps (cs.take k)).length c') (jq ps (cs.take k)).length (zE (jq ps (cs.take k))) /\ Below w.1.size w wr) (fun _ i _=>cs.length - (intOf i).toNat)
 case atStart=>exact ⟨0,A,c,Nat.zero_le _,rfl,rfl,HO.o,.refl _ _⟩
 case round =>
  clear HO;obtain ⟨k,A8,c8,hk,rfl,rfl,hown,hbl⟩:=hrel;by_cases hlt:k < cs.length
  ·obtain ⟨g,hg0,hc0,hc1⟩:=jf HO2.o hlt;obtain ⟨kz,vz,hq⟩:∃ kz vz,cs[k]? = some (kz,vz):=⟨_,_,zfM hlt⟩
   have hq2:cs[k] = (kz,vz):=by rw [zfM hlt] at hq; exact Option.some.inj hq
   rw [hq2] at hc0 hc1;obtain rfl:A2 = some ⟨g,0,none⟩:=hg0;obtain ⟨os,HOS⟩:=hY (jq ps (cs.take k));have HNX:=hI (jq ps (cs.take (k + 1)) = YX os (kz,vz)) (by rw [zaS hq,HOS.o]);have HOR:=hI (Yl os) (by rw [HOS.o]; exact zaT HR.o _);have HOL:=hI (os.length <= 1000) (by rw [HOS.o]; have h1:=qY ps (cs.take k); have:=HL.o; rw [zfZ] at h1; omega);rw [<- HOS.o] at hown ⊢;have HOW:=Hi hown;have HBL:=Hi hbl;have c0:wr.cell? ⟨g,k * 2,none⟩ = some (.int .i64 kz):=(hbl.cell (p:=⟨g,k * 2,none⟩) (zp hc0)).trans hc0;have c1:wr.cell? ⟨g,k * 2 + 1,none⟩ = some (.string vz):=(hbl.cell (p:=⟨g,k * 2 + 1,none⟩) (zp hc1)).trans hc1;have HWK:=hI (wrap64 ((k:Int) + 1) = ((k + 1:Nat):Int)) (by have:=HL.o; unfold wrap64; omega);clear hown hbl hc0 hc1 hq hq2 HOS;have hem:=Qi vz;by_cases h0:vz.size = 0
   ·have he:vz.toList.isEmpty = true:=by rw [hem]; simp [h0]
    have HN2:=hI (jq ps (cs.take (k + 1)) = vh os kz) (by rw [HNX.o]; unfold YX; rw [if_neg (by simp [h0])]);clear hem h0;go_wp2_with fail;refine (Wc HOW.o HOL.o kz).mono ?_;rintro e w3 ⟨A9,c9,rfl,h1,h2⟩;have H1:=Hi (kr h1 (Nat.le_trans HN.o HBL.o.size));have H2:=Hi (HBL.o.trans (h2.mono HBL.o.size));clear h1 h2;go_wp2_with fail
    go_roundw
    case rel=>exact ⟨k + 1,A9,c9,by omega,by rw [HWK.o],by rw [HN2.o],by rw [HN2.o]; exact H1.o,H2.o⟩
    case measure=>rw [HWK.o]; simp only [intOf,zf1]; omega
   ·have he:vz.toList.isEmpty = false:=by rw [hem]; simp [h0]
    have HN2:=hI (jq ps (cs.take (k + 1)) = xH os kz vz) (by rw [HNX.o]; unfold YX; rw [if_pos h0]);clear hem h0;go_wp2_with fail;refine (J2 HOW.o HOR.o HOL.o kz vz).mono ?_;rintro e w3 ⟨A9,c9,rfl,h1,h2⟩;have H1:=Hi (kr h1 (Nat.le_trans HN.o HBL.o.size));have H2:=Hi (HBL.o.trans (h2.mono HBL.o.size));clear h1 h2;go_wp2_with fail
    go_roundw
    case rel=>exact ⟨k + 1,A9,c9,by omega,by rw [HWK.o],by rw [HN2.o],by rw [HN2.o]; exact H1.o,H2.o⟩
    case measure=>rw [HWK.o]; simp only [intOf,zf1]; omega
  ·obtain rfl:k = cs.length:=by omega
   rw [List.take_length] at hown ⊢;have HOW:=Hi hown;have HBL:=Hi hbl;clear hown hbl;go_wp2_with fail
   go_ret
   exact ⟨A8,c8,rfl,HOW.o,HBL.o⟩
end
section
open Go.RowKit
def vE (ks ns:List Nat):List Pr:=((ks.zip ns).take 10).map fun x=>((x.1:Int),if x.2 = 0 then ⟨#[]⟩ else Vl x.2)
theorem Xm (ks ns:List Nat):(vE ks ns).length = min 10 (min ks.length ns.length):=by simp [vE]
theorem zcv {ks ns:List Nat} {k a b:Nat} (h10:k < 10) (ha:ks[k]? = some a) (hb:ns[k]? = some b):(vE ks ns)[k]? = some ((a:Int),if b = 0 then ⟨#[]⟩ else Vl b):=by
 unfold vE;rw [List.getElem?_map,List.getElem?_take,if_pos h10,(List.getElem?_zip_eq_some (z:=(a,b))).2 ⟨ha,hb⟩];rfl
theorem zcx {ks ns:List Nat} (hk:∀ k ∈ ks,k < 256):∀ c ∈ vE ks ns,xa c.1 c.2.size:=by
 intro c hc;unfold vE at hc;obtain ⟨x,hx,rfl⟩:=List.mem_map.1 hc;have h1:=hk x.1 (List.of_mem_zip (List.mem_of_mem_take hx)).1;refine ⟨by show (0:Int) <= (x.1:Int); omega,by show ((x.1:Nat):Int) <= 4294967295; omega,?_⟩;show (if x.2 = 0 then (⟨#[]⟩:ByteArray) else Vl x.2).size = 0 \/ (if x.2 = 0 then (⟨#[]⟩:ByteArray) else Vl x.2).size = 12;split
 ·exact .inl rfl
 ·exact .inr (zbV _)
theorem Tryz.infoChange:(Tryz.prog.info? 93).map (fun i=>(i.zero,i.size,i.bytes)) = some (some (.agg #[.int .i64 0,.string ⟨#[]⟩]),2,24):=by kernel_rfl
structure BaS (w1:World) (cs:List Pr) (v4 v5:Value) (wr:World):Prop where
 ex:∃ A c B d,v4 = .slice A cs.length c /\ v5 = .slice B cs.length d /\ wr.ownsRow w1.1.size 93 2 (.slice A cs.length c) cs.length (zE cs) /\ wr.ownsRow w1.1.size 94 2 (.slice B cs.length d) cs.length (zE cs) /\
  ∀ g,(Value.slice A cs.length c).ownBlock = some g -> (Value.slice B cs.length d).ownBlock ≠ some g
 below:Below w1.1.size w1 wr
abbrev zaQ (AK AN:Option Addr) (nk ck nn cn:Nat) (cr:Bool) (mask torn:Int):Value:=.agg #[.slice AK nk ck,.slice AN nn cn,.bool cr,.int .u32 mask,.int .i64 torn]
theorem BaS.carry {w1 wr w':World} {cs:List Pr} {v4 v5:Value} (h:BaS w1 cs v4 v5 wr) (hb:Below wr.1.size wr w'):BaS w1 cs v4 v5 w':=by
 obtain ⟨⟨A,c,B,d,e1,e2,h1,h2,h3⟩,h4⟩:=h;exact ⟨⟨A,c,B,d,e1,e2,zV h1 hb,zV h2 hb,h3⟩,h4.trans (hb.mono h4.size)⟩
theorem zaV {w:World} {AK AN:Option Addr} {ks ns:List Nat} {nk ck nn cn:Nat} (cr:Bool) (mask torn:Int) (hk:Nums w .u8 AK (kU ks)) (hn:Nums w .u32 AN (kU ns)) (hnk:ks.length = nk) (hnn:ns.length = nn) (h8:∀ k ∈ ks,k < 256) :
  Calls Tryz.prog 39 #[zaQ AK AN nk ck nn cn cr mask torn] w fun e w'=>∃ A c B d,e = .returned (.tuple #[.slice A (vE ks ns).length c,.slice B (vE ks ns).length d]) /\
   w'.ownsRow w.1.size 93 2 (.slice A (vE ks ns).length c) (vE ks ns).length (zE (vE ks ns)) /\ w'.ownsRow w.1.size 94 2 (.slice B (vE ks ns).length d) (vE ks ns).length (zE (vE ks ns)) /\ Below w.1.size w w':=by
 obtain ⟨ip,hi0,hi1,hi2,hi3⟩:=info_parts Tryz.infoRPair9;obtain ⟨iq,hj0,hj1,hj2,hj3⟩:=info_parts Tryz.infoChange;obtain ⟨w1,HW1⟩:=hY (w.alloc (.cells #[.slice AK nk ck,.slice AN nn cn,.bool cr,.int .u32 mask,.int .i64 torn] 78));obtain ⟨p,HP⟩:=hY (w.1.size);have HB1:=hI (Below w.1.size w w1) (by rw [HW1.o]; exact bA);have HX1:=hI (w1.cell? ⟨p,0,none⟩ = some (.slice AK nk ck) /\ w1.cell? ⟨p,1,none⟩ = some (.slice AN nn cn)) (by rw [HW1.o,HP.o]; exact ⟨by simp,by simp⟩);have HKS:=Hi (hk.carry HB1.o);have HNS:=Hi (hn.carry HB1.o);have HNK:=Hi hnk;have HNN:=Hi hnn;have HPL:=hI (p < w1.1.size) (by rw [HW1.o,HP.o]; simp);have H8:=Hi h8;clear hk hn hnk hnn h8;obtain ⟨m,HM⟩:∃ m,Hid ((vE ks ns).length = m):=⟨_,Hi (rfl)⟩
 have hm:m = min 10 (min nk nn):=by rw [<- HM.o,Xm,HNK.o,HNN.o]
 have HMM:=Hi hm;clear hm
 go_enter Tryz.func39,Tryz.ntmps39
 go_upto_region 1 with (fail)
 rw [<- HW1.o,<- HP.o];clear HW1 HP;go_wp2_with fail
 go_loopw [4,5,6] (fun v4 v5 i wr=>∃ k:Nat,k <= m /\ i = .int .i64 (k:Int) /\ Hid (BaS w1 ((vE ks ns).take k) v4 v5 wr)) (fun _ _ i _=>m - (intOf i).toNat)
 case atStart=>exact ⟨0,Nat.zero_le _,rfl,Hi ⟨⟨none,0,none,0,rfl,rfl,World.ownsRow_nil _ _ _ _,World.ownsRow_nil _ _ _ _,fun g hg=>by cases hg⟩,Below.refl _ _⟩⟩
 case round =>
  obtain ⟨k,hk,rfl,HS⟩:=hrel;have hbl:=HS.o.below;have c0:wr.cell? ⟨p,0,none⟩ = some (.slice AK nk ck):=(hbl.cell (p:=⟨p,0,none⟩) HPL.o).trans HX1.o.1;have c1:wr.cell? ⟨p,1,none⟩ = some (.slice AN nn cn):=(hbl.cell (p:=⟨p,1,none⟩) HPL.o).trans HX1.o.2;clear hbl;by_cases hlt:k < m
  ·have h1:k < nk:=by have:=HMM.o; omega
   have h2:k < nn:=by have:=HMM.o; omega
   have h3:k < 10:=by have:=HMM.o; omega
   obtain ⟨ka,hka⟩:∃ ka,ks[k]? = some ka:=⟨_,zfM (by rw [HNK.o]; exact h1)⟩
   obtain ⟨nb,hnb⟩:∃ nb,ns[k]? = some nb:=⟨_,zfM (by rw [HNN.o]; exact h2)⟩
   have hg:=zcv h3 hka hnb;have hka8:ka < 256:=H8.o ka (List.mem_of_getElem? hka);have hkw:wrap64 (ka:Int) = (ka:Int):=by unfold wrap64; omega
   obtain ⟨aK,hAK,hcK⟩:=HKS.o.at_ (i:=k) (z:=(ka:Int)) (by unfold kU; rw [List.getElem?_map,hka]; rfl);obtain ⟨aN,hAN,hcN⟩:=HNS.o.at_ (i:=k) (z:=(nb:Int)) (by unfold kU; rw [List.getElem?_map,hnb]; rfl);subst hAK hAN;have hbl:=HS.o.below;have c2:wr.cell? (aK.add k) = some (.int .u8 (ka:Int)):=(hbl.cell (zp hcK)).trans hcK;have c3:wr.cell? (aN.add k) = some (.int .u32 (nb:Int)):=(hbl.cell (zp hcN)).trans hcN;obtain ⟨val,HV⟩:=hY (if nb = 0 then (⟨#[]⟩:ByteArray) else Vl nb);rw [<- HV.o] at hg;have HTK:=hI ((vE ks ns).take (k + 1) = (vE ks ns).take k ++ [((ka:Int),val)]) (Xd hg);have HCK:=Hi hcK;have HBK:=hI (∀ w6,Below w1.1.size w1 w6 -> w6.cell? (aK.add k) = some (.int .u8 (ka:Int)) /\ w6.cell? ⟨p,0,none⟩ = some (.slice (some aK) nk ck)) fun w6 h6=>⟨(h6.cell (zp HCK.o)).trans HCK.o,(h6.cell (p:=⟨p,0,none⟩) HPL.o).trans HX1.o.1⟩
   clear hg hcK hcN hka hnb hbl HCK;have HAF:=hI (((nb:Int) != 0) = !decide (nb = 0)) (by rw [Bool.eq_iff_iff]; simp)
   go_upto_if 31 with (fail)
   go_cut [7] from 8 to 37 (fun s7 wx=>s7 = .string val /\ Hid (BaS w1 ((vE ks ns).take k) u4 u5 wx))
   case first =>
    by_cases hz:nb = 0
    ·have hb0:((nb:Int) != 0) = false:=by simp [hz]
     have HVE:=hI (val = ⟨#[]⟩) (by rw [HV.o,if_pos hz]);rw [hb0];clear hz;go_wp2_with fail
     go_meet
     exact ⟨by rw [HVE.o],HS⟩
    ·have hb0:((nb:Int) != 0) = true:=by simp [hz]
     have HVE:=hI (val = Vl nb) (by rw [HV.o,if_neg hz]);rw [hb0];clear hz;go_wp2_with fail;refine (zd6 nb wr).mono ?_;rintro e w3 ⟨rfl,hb⟩;have HS3:=Hi (HS.o.carry hb);clear hb;go_wp2_with fail
     go_meet
     exact ⟨by rw [HVE.o],HS3⟩
   case rest =>
    obtain ⟨rfl,HSC⟩:=hcut;clear HS HAF c0 c1 c2 c3 HV;obtain ⟨os,HOS⟩:=hY ((vE ks ns).take k);rw [<- HOS.o] at HSC HTK;have HOL:=hI (os.length <= 10) (by rw [HOS.o,zfZ]; omega);obtain ⟨⟨A8,c8,B8,d8,rfl,rfl,hoA,hoB,hap⟩,hbl⟩:=HSC.o;have HOA:=Hi hoA;have HOB:=Hi hoB;have HAP:=Hi hap;have HBL:=Hi hbl;clear hoA hoB hap hbl HSC HOS;obtain ⟨c2,c0⟩:=HBK.o wc HBL.o;go_wp2_with (with_reducible refine xD9 (some 48) ?_);obtain ⟨g6,HG6⟩:=hY (wc.1.size);obtain ⟨w6,HW6⟩:=hY (wc.alloc (.cells #[.int .i64 (ka:Int),.string val] 93));rw [<- HG6.o,<- HW6.o];have hb6:Below wc.1.size wc w6:=by rw [HW6.o]; exact bA
    have HBL6:=hI (Below w1.1.size w1 w6) (HBL.o.trans (hb6.mono HBL.o.size));have HOA6:=Hi (zV HOA.o hb6);have HOB6:=Hi (zV HOB.o hb6);have hn6:∀ (j:Nat) u,([.int .i64 (ka:Int),.string val]:List Value)[j]? = some u -> w6.cell? ((⟨g6,0,none⟩:Addr).add j) = some u:=by rw [HW6.o,HG6.o]; exact jy _ _ _
    clear HG6 HW6 hb6 HOA HOB HBL c0 c2;unfold xA;refine wpList_append_lies (P:=Tryz.prog) w6 rfl _ _ 72 rfl w1.1.size 93 iq _ 2 24 Tryz.underlying72 hj0 hj1 hj2 hj3 rfl (by decide) (.slice A8 os.length c8) os.length (zE os) rfl HOA6.o ⟨g6,0,none⟩ 1 1 [.int .i64 (ka:Int),.string val] rfl rfl hn6 (fun u hu=>by rcases List.mem_cons.1 hu with h | h; (rw [h]; rfl); (rw [List.mem_singleton.1 h]; rfl)) (by decide) (by have:=HOL.o; unfold maxLen; omega) (by have:=HOL.o; omega) HBL6.o.size _ rfl ?_;intro gg cap7 w7 hown hgrow hat _;have HOA7:=hI (w7.ownsRow w1.1.size 93 2 (.slice (some ⟨gg,0,none⟩) (os.length + 1) cap7) (os.length + 1) (zE (os ++ [((ka:Int),val)]))) (by rw [kt]; exact hown);have HOB7:=hI (w7.ownsRow w1.1.size 94 2 (.slice B8 os.length d8) os.length (zE os)) (HOB6.o.kept hgrow (by
     cases e:(Value.slice B8 os.length d8).ownBlock with
     | none=>exact .inl rfl
     | some g=>exact .inr fun e2=>HAP.o g e2.symm e))
    have HGG:=hI ((Value.slice B8 os.length d8).ownBlock ≠ some gg) (by
     rcases hat with h | h
     ·exact HAP.o gg h
     ·intro e; have:=(HOB6.o.lt gg e).2; omega)
    have HBL7:=hI (Below w1.1.size w1 w7) (HBL6.o.grown hgrow HBL6.o.size fun g hg=>(HOA6.o.lt g hg).1);clear hown hgrow hat hn6 HOA6 HOB6 HBL6 HAP;obtain ⟨c2,c0⟩:=HBK.o w7 HBL7.o;go_wp2_with (with_reducible refine xD9 (some 59) ?_);obtain ⟨g8,HG8⟩:=hY (w7.1.size);obtain ⟨w8,HW8⟩:=hY (w7.alloc (.cells #[.int .i64 (ka:Int),.string val] 94));rw [<- HG8.o,<- HW8.o];have hb8:Below w7.1.size w7 w8:=by rw [HW8.o]; exact bA
    have HBL8:=hI (Below w1.1.size w1 w8) (HBL7.o.trans (hb8.mono HBL7.o.size));have HOA8:=Hi (zV HOA7.o hb8);have HOB8:=Hi (zV HOB7.o hb8);have hn8:∀ (j:Nat) u,([.int .i64 (ka:Int),.string val]:List Value)[j]? = some u -> w8.cell? ((⟨g8,0,none⟩:Addr).add j) = some u:=by rw [HW8.o,HG8.o]; exact jy _ _ _
    clear HG8 HW8 hb8 HOA7 HOB7 HBL7 c0 c2;unfold xA;refine wpList_append_lies (P:=Tryz.prog) w8 rfl _ _ 71 rfl w1.1.size 94 ip _ 2 24 Tryz.underlying71 hi0 hi1 hi2 hi3 rfl (by decide) (.slice B8 os.length d8) os.length (zE os) rfl HOB8.o ⟨g8,0,none⟩ 1 1 [.int .i64 (ka:Int),.string val] rfl rfl hn8 (fun u hu=>by rcases List.mem_cons.1 hu with h | h; (rw [h]; rfl); (rw [List.mem_singleton.1 h]; rfl)) (by decide) (by have:=HOL.o; unfold maxLen; omega) (by have:=HOL.o; omega) HBL8.o.size _ rfl ?_;intro hh cap9 w9 hown hgrow hat _;have HS9:=hI (BaS w1 ((vE ks ns).take (k + 1)) (.slice (some ⟨gg,0,none⟩) (os.length + 1) cap7) (.slice (some ⟨hh,0,none⟩) (os.length + 1) cap9) w9) (by
     rw [HTK.o];have hl:(os ++ [((ka:Int),val)]).length = os.length + 1:=by rw [List.length_append,List.length_singleton]
     refine ⟨⟨some ⟨gg,0,none⟩,cap7,some ⟨hh,0,none⟩,cap9,by rw [hl],by rw [hl],by rw [hl]; exact HOA8.o.kept hgrow (.inr fun e=>HGG.o e.symm),by rw [hl,kt]; exact hown,fun g hg e=>?_⟩,HBL8.o.grown hgrow HBL8.o.size fun g hg=>(HOB8.o.lt g hg).1⟩;have h1:gg = g:=Option.some.inj hg;have h2:hh = g:=Option.some.inj e;rcases hat with h | h
     ·exact HGG.o (by rw [h,h2,h1])
     ·have:=(HOA8.o.lt gg rfl).2; omega)
    clear hown hgrow hat hn8 HOA8 HOB8 HBL8 HGG;go_wp2_with fail
    go_roundw
    case rel=>exact ⟨k + 1,by omega,by first | rfl | simp,HS9⟩
    case measure=>simp [intOf]; omega
  ·have hkm:k = m:=by omega
   subst hkm;have htk:(vE ks ns).take k = vE ks ns:=List.take_of_length_le (by rw [HM.o]; exact zfI _);rw [htk] at HS;obtain ⟨⟨A8,c8,B8,d8,rfl,rfl,hoA,hoB,hap⟩,hbl⟩:=HS.o;have HOA:=Hi (kr hoA HB1.o.size);have HOB:=Hi (kr hoB HB1.o.size);have HBL:=Hi (HB1.o.trans (hbl.mono HB1.o.size));clear hoA hoB hap hbl HS htk;rcases Nat.lt_or_ge k nk with h1 | h1
   ·rcases Nat.lt_or_ge k nn with h2 | h2
    ·have h3:10 <= k:=by have:=HMM.o; omega
     go_wp2_with fail
     go_ret2
     exact ⟨A8,c8,B8,d8,rfl,HOA.o,HOB.o,HBL.o⟩
    ·go_wp2_with fail
     go_ret2
     exact ⟨A8,c8,B8,d8,rfl,HOA.o,HOB.o,HBL.o⟩
   ·go_wp2_with fail
    go_ret2
    exact ⟨A8,c8,B8,d8,rfl,HOA.o,HOB.o,HBL.o⟩
end
section
open Go.ChangeShapes Go.WideShapes Go.ChangeAt Go.RowKit
theorem YD {H:Type} {enc:TypeId × Value -> H} {P:Program} {W:World} {t e:TypeId} {k:IntKind} {fuel:Nat} {c:Value} {y:DataW H × List MemPlace} (ht:P.underlying t = some (.slice e)) (he:P.underlying e = some (.int k)) (hce:P.cellsOf e = 1)
  (h:DataW.trod enc P W 0 (fun _=>true) true fuel t [c] = some y):∃ (A:Option Addr) (cap:Nat) (zs:List Int),c = .slice A zs.length cap /\ Nums W k A zs /\ zs.length <= cap /\ cap <= maxLen /\ ∀ z ∈ zs,(Lit.int k z).wf = true:=by
 rcases open_ints ht he hce h with ⟨hcs,hx⟩ | ⟨a,len',cap',zs,hcs,_,hl,hm,hz,hx,hcell,hwf⟩
 ·simp at hcs;subst hcs;exact ⟨none,0,[],rfl,Nums.none_ _ _ _,zfI _,by unfold maxLen; omega,by simp⟩
 ·simp at hcs;subst hcs;rw [if_pos rfl] at hz;have hlen:(zs.take len').length = len':=by rw [zfZ]; omega
  refine ⟨some a,cap',zs.take len',by rw [hlen],fun hp=>⟨a,rfl,?_,fun i z hi=>?_⟩,by omega,hm,fun z hz'=>hwf z (List.mem_of_mem_take hz')⟩
  ·have:=zp (hcell 0 (by omega))
   rwa [yP] at this
  ·rw [List.getElem?_take] at hi;split at hi
   ·rw [hcell i (by omega)];simp [List.getD,hi]
   ·cases hi
theorem Ka {H:Type} {enc:TypeId × Value -> H} {P:Program} {w:World} {base:Nat} {sp:Nat -> Bool} {held:Bool} {fuel:Nat} {t:TypeId} {c:Value} {y:DataW H × List MemPlace}
  (ht:P.underlying t = some .bool) (h:DataW.trod enc P w base sp held fuel t [c] = some y):∃ b,c = .bool b:=by
 cases fuel with
 | zero=>simp [DataW.trod] at h
 | succ fuel =>
  cases c <;> simp [DataW.trod,ht] at h;exact ⟨_,rfl⟩
theorem Tryz.actStruct13:Tryz.prog.underlying 78 = some (.struct (Tryz.prog.fieldsOf 78)):=by kernel_rfl
theorem Tryz.cellsAct13:Tryz.prog.cellsOf 78 = 5:=by kernel_rfl
theorem Tryz.cellsU8s13:Tryz.prog.cellsOf 75 = 1:=by kernel_rfl
theorem Tryz.cellsU32s13:Tryz.prog.cellsOf 76 = 1:=by kernel_rfl
theorem Tryz.cellsU813:Tryz.prog.cellsOf 5 = 1:=by kernel_rfl
theorem Tryz.cellsU3213:Tryz.prog.cellsOf 23 = 1:=by kernel_rfl
theorem Tryz.cellsBool13:Tryz.prog.cellsOf 4 = 1:=by kernel_rfl
theorem Tryz.cellsInt13:Tryz.prog.cellsOf 3 = 1:=by kernel_rfl
theorem Tryz.act13Fields:(Tryz.prog.fieldsOf 78).size = 5:=by kernel_rfl
theorem Tryz.act13Field0:(Tryz.prog.fieldsOf 78)[0]? = some ⟨"Keys",75,0,false, "", "",0⟩:=by kernel_rfl
theorem Tryz.act13Field1:(Tryz.prog.fieldsOf 78)[1]? = some ⟨"Nums",76,1,false, "", "",24⟩:=by kernel_rfl
theorem Tryz.act13Field2:(Tryz.prog.fieldsOf 78)[2]? = some ⟨"Crash",4,2,false, "", "",48⟩:=by kernel_rfl
theorem Tryz.act13Field3:(Tryz.prog.fieldsOf 78)[3]? = some ⟨"Mask",23,3,false, "", "",52⟩:=by kernel_rfl
theorem Tryz.act13Field4:(Tryz.prog.fieldsOf 78)[4]? = some ⟨"Torn",3,4,false, "", "",56⟩:=by kernel_rfl
theorem Jn {H:Type} {enc:TypeId × Value -> H} {W:World} {v:Value} {d:DataW H} {ps:List MemPlace} {r:Reach} {b0:Nat} (hval:Value.okWide Tryz.prog W r b0 78 v)
  (h:DataW.Trod enc Tryz.prog W 0 (fun _=>true) true 78 v d ps):∃ (AK AN:Option Addr) (ck cn:Nat) (ks ns:List Nat) (cr:Bool) (mask:Nat) (torn:Int),v = zaQ AK AN ks.length ck ns.length cn cr (mask:Int) torn /\ Nums W .u8 AK (kU ks) /\ Nums W .u32 AN (kU ns) /\ (∀ k ∈ ks,k < 256) /\ (∀ k ∈ ns,k < 4294967296) /\ mask < 4294967296 /\ (-9223372036854775808 <= torn /\ torn <= 9223372036854775807):=by
 obtain ⟨cs,rfl,hcs⟩:=W5 Tryz.actStruct13 hval;rw [Tryz.cellsAct13] at hcs;obtain ⟨fuel,hf⟩:=h;have hf':DataW.trod enc Tryz.prog W 0 (fun _=>true) true fuel 78 cs.toList = some (d,ps):=hf;obtain ⟨xs,n,_,_,hl,hx,hel⟩:=DataW.trod_struct Tryz.actStruct13 hf';rw [Tryz.act13Fields] at hx;have h0:=hel 0 _ Tryz.act13Field0;have h1:=hel 1 _ Tryz.act13Field1;have h2:=hel 2 _ Tryz.act13Field2;have h3:=hel 3 _ Tryz.act13Field3;have h4:=hel 4 _ Tryz.act13Field4;simp only [Tryz.cellsU8s13,Tryz.cellsU32s13,Tryz.cellsBool13,Tryz.cellsU3213,Tryz.cellsInt13] at h0 h1 h2 h3 h4;rw [zfM (by omega)] at h0 h1 h2 h3 h4;have hlen:cs.toList.length = 5:=by simpa using hcs
 match hc:cs.toList,hlen with
 | [c0,c1,c2,c3,c4],_ =>
  rw [hc] at h0 h1 h2 h3 h4;simp only [List.drop_zero,List.drop_succ_cons,List.take_succ_cons,List.take_zero] at h0 h1 h2 h3 h4;obtain ⟨AK,ck,zk,rfl,nk,-,-,wk⟩:=YD Tryz.underlying75 Tryz.underlying5 Tryz.cellsU813 h0;obtain ⟨AN,cn,zn,rfl,nn,-,-,wn⟩:=YD Tryz.underlying76 Tryz.underlying23 Tryz.cellsU3213 h1;obtain ⟨ks,rfl,hk⟩:=Ko (fun _ h=>Jo h) zk wk;obtain ⟨ns,rfl,hn⟩:=Ko (fun _ h=>qr h) zn wn;obtain ⟨cr,rfl⟩:=Ka Tryz.underlying4 h2;obtain ⟨m,rfl,wm⟩:=XC Tryz.underlying23 h3;obtain ⟨mask,rfl,hm⟩:=qr wm;obtain ⟨torn,rfl,wt⟩:=XC Tryz.underlying3 h4;refine ⟨AK,AN,ck,cn,ks,ns,cr,mask,torn,?_,nk,nn,hk,hn,hm,qH wt⟩;show Value.agg cs = Value.agg #[_,_,_,_,_];congr 1;apply Array.ext';rw [hc];simp [kU]
end
section
open Go.ChangeShapes Go.WideShapes Go.ChangeAt Go.RowKit Go.Deep
inductive Yc
 | int (k:IntKind)
 | str
 | bool
def Yc.ok:Yc -> Value -> Prop
 | .int k,v=>∃ n,v = .int k n /\ (Lit.int k n).wf = true
 | .str,v=>∃ s,v = .string s
 | .bool,v=>∃ b,v = .bool b
def Yc.is (P:Program):Yc -> TypeId -> Prop
 | .int k,t=>P.underlying t = some (.int k)
 | .str,t=>P.underlying t = some .string
 | .bool,t=>P.underlying t = some .bool
end
section
open Go.ChangeShapes Go.WideShapes Go.ChangeAt Go.RowKit Go.Deep
inductive CKW
 | int (k:IntKind)
 | str
 | bool
 | nums (k:IntKind)
def CKW.ok (W:World):CKW -> Value -> Prop
 | .int k,v=>∃ n,v = .int k n /\ (Lit.int k n).wf = true
 | .str,v=>∃ s,v = .string s
 | .bool,v=>∃ b,v = .bool b
 | .nums k,v=>∃ A cap zs,v = .slice A zs.length cap /\ Nums W k A zs /\ ∀ z ∈ zs,(Lit.int k z).wf = true
def CKW.is (P:Program):CKW -> TypeId -> Prop
 | .int k,t=>P.underlying t = some (.int k)
 | .str,t=>P.underlying t = some .string
 | .bool,t=>P.underlying t = some .bool
 | .nums k,t=>∃ e,P.underlying t = some (.slice e) /\ P.underlying e = some (.int k) /\ P.cellsOf e = 1
end
