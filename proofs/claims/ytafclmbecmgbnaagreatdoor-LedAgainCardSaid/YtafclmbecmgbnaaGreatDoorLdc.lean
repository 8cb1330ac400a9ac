/-
  Ldc. Conditions: as said.
-/
import Derived.Test.YtafclmbecmgbnaaGreatDoorLda
import Derived.Test.YtafclmbecmgbnaaGreatDoorTq
import Derived.Test.YtafclmbecmgbnaaGreatDoorTrVal
import Derived.Test.YtafclmbecmgbnaaGreatDoorStructOpen
import Derived.Deep.Slices
set_option maxRecDepth 100000
set_option maxHeartbeats 4000000
open Option renaming some -> ze8
open List renaming getElem?_eq_getElem -> ze7,getElem?_map -> zfl,getElem?_eq_some_iff -> ze5
open Nat renaming le_refl -> ze3
namespace Go.Proofs.YtafclmbecmgbnaaGreatDoor
section
open Go.RowKit
theorem za8 {ps:List Pr} {k:Nat} {q:Pr} (h:ps[k]? = some q):ps.take (k + 1) = ps.take k ++ [q]:=by
 rw [List.take_add_one,h]; rfl
theorem Zr {w:World} {B C n k:Nat} {v:Value} {xs:List Value} {e:TypeId} (h:w.ownsRow C e k v n xs) (hBC:B <= C):w.ownsRow B e k v n xs:=by
 obtain ⟨hl,h3⟩:=h;refine ⟨hl,?_⟩;rcases h3 with h3 | ⟨g,cap,cur,rfl,hg,hh,r⟩
 ·exact .inl h3
 ·exact .inr ⟨g,cap,cur,rfl,by omega,hh,r⟩
end
section
open Go.RowKit
def vn (ks ns:List Nat):List Pr:=((ks.zip ns).take 10).map fun x=>((x.1:Int),if x.2 = 0 then ⟨#[]⟩ else WN x.2)
theorem YV (ks ns:List Nat):(vn ks ns).length = min 10 (min ks.length ns.length):=by simp [vn]
theorem zbJ {ks ns:List Nat} {k a b:Nat} (h10:k < 10) (ha:ks[k]? = some a) (hb:ns[k]? = some b):(vn ks ns)[k]? = some ((a:Int),if b = 0 then ⟨#[]⟩ else WN b):=by
 unfold vn;rw [zfl,List.getElem?_take,if_pos h10,(List.getElem?_zip_eq_some (z:=(a,b))).2 ⟨ha,hb⟩];rfl
theorem zbL {ks ns:List Nat} (hk:∀ k ∈ ks,k < 256):∀ c ∈ vn ks ns,yI c.1 c.2.size:=by
 intro c hc;unfold vn at hc;obtain ⟨x,hx,rfl⟩:=List.mem_map.1 hc;have h1:=hk x.1 (List.of_mem_zip (List.mem_of_mem_take hx)).1;refine ⟨by show (0:Int) <= (x.1:Int); omega,by show ((x.1:Nat):Int) <= 4294967295; omega,?_⟩;show (if x.2 = 0 then (⟨#[]⟩:ByteArray) else WN x.2).size = 0 \/ (if x.2 = 0 then (⟨#[]⟩:ByteArray) else WN x.2).size = 12;split
 ·exact .inl rfl
 ·exact .inr (zbb _)
theorem Tryz.infoChange:(Tryz.prog.info? 93).map (fun i=>(i.zero,i.size,i.bytes)) = some (some (.agg #[.int .i64 0,.string ⟨#[]⟩]),2,24):=by kernel_rfl
structure BaS (w1:World) (cs:List Pr) (v4 v5:Value) (wr:World):Prop where
 ex:∃ A c B d,v4 = .slice A cs.length c /\ v5 = .slice B cs.length d /\ wr.ownsRow w1.1.size 93 2 (.slice A cs.length c) cs.length (yv cs) /\ wr.ownsRow w1.1.size 94 2 (.slice B cs.length d) cs.length (yv cs) /\
  ∀ g,(Value.slice A cs.length c).ownBlock = some g -> (Value.slice B cs.length d).ownBlock ≠ some g
 below:Below w1.1.size w1 wr
abbrev zeZ (AK AN:Option Addr) (nk ck nn cn:Nat) (cr:Bool) (mask torn:Int):Value:=.agg #[.slice AK nk ck,.slice AN nn cn,.bool cr,.int .u32 mask,.int .i64 torn]
theorem BaS.carry {w1 wr w':World} {cs:List Pr} {v4 v5:Value} (h:BaS w1 cs v4 v5 wr) (hb:Below wr.1.size wr w'):BaS w1 cs v4 v5 w':=by
 obtain ⟨⟨A,c,B,d,e1,e2,h1,h2,h3⟩,h4⟩:=h;exact ⟨⟨A,c,B,d,e1,e2,xR h1 hb,xR h2 hb,h3⟩,h4.trans (hb.mono h4.size)⟩
theorem zag {w:World} {AK AN:Option Addr} {ks ns:List Nat} {nk ck nn cn:Nat} (cr:Bool) (mask torn:Int) (hk:Nums w .u8 AK (jN ks)) (hn:Nums w .u32 AN (jN ns)) (hnk:ks.length = nk) (hnn:ns.length = nn) (h8:∀ k ∈ ks,k < 256) :
  Calls Tryz.prog 39 #[zeZ AK AN nk ck nn cn cr mask torn] w fun e w'=>∃ A c B d,e = .returned (.tuple #[.slice A (vn ks ns).length c,.slice B (vn ks ns).length d]) /\
   w'.ownsRow w.1.size 93 2 (.slice A (vn ks ns).length c) (vn ks ns).length (yv (vn ks ns)) /\ w'.ownsRow w.1.size 94 2 (.slice B (vn ks ns).length d) (vn ks ns).length (yv (vn ks ns)) /\ Below w.1.size w w':=by
 obtain ⟨ip,hi0,hi1,hi2,hi3⟩:=info_parts Tryz.infoRPair9;obtain ⟨iq,hj0,hj1,hj2,hj3⟩:=info_parts Tryz.infoChange;obtain ⟨w1,HW1⟩:=hY (w.alloc (.cells #[.slice AK nk ck,.slice AN nn cn,.bool cr,.int .u32 mask,.int .i64 torn] 78));obtain ⟨p,HP⟩:=hY (w.1.size);have HB1:=hI (Below w.1.size w w1) (by rw [HW1.o]; exact bA);have HX1:=hI (w1.cell? ⟨p,0,none⟩ = some (.slice AK nk ck) /\ w1.cell? ⟨p,1,none⟩ = some (.slice AN nn cn)) (by rw [HW1.o,HP.o]; exact ⟨by simp,by simp⟩);have HKS:=Hi (hk.carry HB1.o);have HNS:=Hi (hn.carry HB1.o);have HNK:=Hi hnk;have HNN:=Hi hnn;have HPL:=hI (p < w1.1.size) (by rw [HW1.o,HP.o]; simp);have H8:=Hi h8;clear hk hn hnk hnn h8;obtain ⟨m,HM⟩:∃ m,Hid ((vn ks ns).length = m):=⟨_,Hi (rfl)⟩
 have hm:m = min 10 (min nk nn):=by rw [<- HM.o,YV,HNK.o,HNN.o]
 have HMM:=Hi hm;clear hm
 go_enter Tryz.func39,Tryz.ntmps39
 go_upto_region 1 with (fail)
 rw [<- HW1.o,<- HP.o];clear HW1 HP;go_wp2_with fail
 go_loopw [4,5,6] (fun v4 v5 i wr=>∃ k:Nat,k <= m /\ i = .int .i64 (k:Int) /\ Hid (BaS w1 ((vn ks ns).take k) v4 v5 wr)) (fun _ _ i _=>m - (intOf i).toNat)
 case atStart=>exact ⟨0,Nat.zero_le _,rfl,Hi ⟨⟨none,0,none,0,rfl,rfl,World.ownsRow_nil _ _ _ _,World.ownsRow_nil _ _ _ _,fun g hg=>by cases hg⟩,Below.refl _ _⟩⟩
 case round =>
  obtain ⟨k,hk,rfl,HS⟩:=hrel;have hbl:=HS.o.below;have c0:wr.cell? ⟨p,0,none⟩ = some (.slice AK nk ck):=(hbl.cell (p:=⟨p,0,none⟩) HPL.o).trans HX1.o.1;have c1:wr.cell? ⟨p,1,none⟩ = some (.slice AN nn cn):=(hbl.cell (p:=⟨p,1,none⟩) HPL.o).trans HX1.o.2;clear hbl;by_cases hlt:k < m
  ·have h1:k < nk:=by have:=HMM.o; omega
   have h2:k < nn:=by have:=HMM.o; omega
   have h3:k < 10:=by have:=HMM.o; omega
   obtain ⟨ka,hka⟩:∃ ka,ks[k]? = some ka:=⟨_,ze7 (by rw [HNK.o]; exact h1)⟩
   obtain ⟨nb,hnb⟩:∃ nb,ns[k]? = some nb:=⟨_,ze7 (by rw [HNN.o]; exact h2)⟩
   have hg:=zbJ h3 hka hnb;have hka8:ka < 256:=H8.o ka (List.mem_of_getElem? hka);have hkw:wrap64 (ka:Int) = (ka:Int):=by unfold wrap64; omega
   obtain ⟨aK,hAK,hcK⟩:=HKS.o.at_ (i:=k) (z:=(ka:Int)) (by unfold jN; rw [zfl,hka]; rfl);obtain ⟨aN,hAN,hcN⟩:=HNS.o.at_ (i:=k) (z:=(nb:Int)) (by unfold jN; rw [zfl,hnb]; rfl);subst hAK hAN;have hbl:=HS.o.below;have c2:wr.cell? (aK.add k) = some (.int .u8 (ka:Int)):=(hbl.cell (zt hcK)).trans hcK;have c3:wr.cell? (aN.add k) = some (.int .u32 (nb:Int)):=(hbl.cell (zt hcN)).trans hcN;obtain ⟨val,HV⟩:=hY (if nb = 0 then (⟨#[]⟩:ByteArray) else WN nb);rw [<- HV.o] at hg;have HTK:=hI ((vn ks ns).take (k + 1) = (vn ks ns).take k ++ [((ka:Int),val)]) (za8 hg);have HCK:=Hi hcK;have HBK:=hI (∀ w6,Below w1.1.size w1 w6 -> w6.cell? (aK.add k) = some (.int .u8 (ka:Int)) /\ w6.cell? ⟨p,0,none⟩ = some (.slice (some aK) nk ck)) fun w6 h6=>⟨(h6.cell (zt HCK.o)).trans HCK.o,(h6.cell (p:=⟨p,0,none⟩) HPL.o).trans HX1.o.1⟩
   clear hg hcK hcN hka hnb hbl HCK;have HAF:=hI (((nb:Int) != 0) = !decide (nb = 0)) (by rw [Bool.eq_iff_iff]; simp)
   go_upto_if 31 with (fail)
   go_cut [7] from 8 to 37 (fun s7 wx=>s7 = .string val /\ Hid (BaS w1 ((vn ks ns).take k) u4 u5 wx))
   case first =>
    by_cases hz:nb = 0
    ·have hb0:((nb:Int) != 0) = false:=by simp [hz]
     have HVE:=hI (val = ⟨#[]⟩) (by rw [HV.o,if_pos hz]);rw [hb0];clear hz;go_wp2_with fail
     go_meet
     exact ⟨by rw [HVE.o],HS⟩
    ·have hb0:((nb:Int) != 0) = true:=by simp [hz]
     have HVE:=hI (val = WN nb) (by rw [HV.o,if_neg hz]);rw [hb0];clear hz;go_wp2_with fail;refine (zdn nb wr).mono ?_;rintro e w3 ⟨rfl,hb⟩;have HS3:=Hi (HS.o.carry hb);clear hb;go_wp2_with fail
     go_meet
     exact ⟨by rw [HVE.o],HS3⟩
   case rest =>
    obtain ⟨rfl,HSC⟩:=hcut;clear HS HAF c0 c1 c2 c3 HV;obtain ⟨os,HOS⟩:=hY ((vn ks ns).take k);rw [<- HOS.o] at HSC HTK;have HOL:=hI (os.length <= 10) (by rw [HOS.o,List.length_take]; omega);obtain ⟨⟨A8,c8,B8,d8,rfl,rfl,hoA,hoB,hap⟩,hbl⟩:=HSC.o;have HOA:=Hi hoA;have HOB:=Hi hoB;have HAP:=Hi hap;have HBL:=Hi hbl;clear hoA hoB hap hbl HSC HOS;obtain ⟨c2,c0⟩:=HBK.o wc HBL.o;go_wp2_with (with_reducible refine xD9 (some 48) ?_);obtain ⟨g6,HG6⟩:=hY (wc.1.size);obtain ⟨w6,HW6⟩:=hY (wc.alloc (.cells #[.int .i64 (ka:Int),.string val] 93));rw [<- HG6.o,<- HW6.o];have hb6:Below wc.1.size wc w6:=by rw [HW6.o]; exact bA
    have HBL6:=hI (Below w1.1.size w1 w6) (HBL.o.trans (hb6.mono HBL.o.size));have HOA6:=Hi (xR HOA.o hb6);have HOB6:=Hi (xR HOB.o hb6);have hn6:∀ (j:Nat) u,([.int .i64 (ka:Int),.string val]:List Value)[j]? = some u -> w6.cell? ((⟨g6,0,none⟩:Addr).add j) = some u:=by rw [HW6.o,HG6.o]; exact QT _ _ _
    clear HG6 HW6 hb6 HOA HOB HBL c0 c2;unfold wH;refine wpList_append_lies (P:=Tryz.prog) w6 rfl _ _ 72 rfl w1.1.size 93 iq _ 2 24 Tryz.underlying72 hj0 hj1 hj2 hj3 rfl (by decide) (.slice A8 os.length c8) os.length (yv os) rfl HOA6.o ⟨g6,0,none⟩ 1 1 [.int .i64 (ka:Int),.string val] rfl rfl hn6 (fun u hu=>by rcases List.mem_cons.1 hu with h | h; (rw [h]; rfl); (rw [List.mem_singleton.1 h]; rfl)) (by decide) (by have:=HOL.o; unfold maxLen; omega) (by have:=HOL.o; omega) HBL6.o.size _ rfl ?_;intro gg cap7 w7 hown hgrow hat _;have HOA7:=hI (w7.ownsRow w1.1.size 93 2 (.slice (some ⟨gg,0,none⟩) (os.length + 1) cap7) (os.length + 1) (yv (os ++ [((ka:Int),val)]))) (by rw [jm]; exact hown);have HOB7:=hI (w7.ownsRow w1.1.size 94 2 (.slice B8 os.length d8) os.length (yv os)) (HOB6.o.kept hgrow (by
     cases e:(Value.slice B8 os.length d8).ownBlock with
     | none=>exact .inl rfl
     | some g=>exact .inr fun e2=>HAP.o g e2.symm e))
    have HGG:=hI ((Value.slice B8 os.length d8).ownBlock ≠ some gg) (by
     rcases hat with h | h
     ·exact HAP.o gg h
     ·intro e; have:=(HOB6.o.lt gg e).2; omega)
    have HBL7:=hI (Below w1.1.size w1 w7) (HBL6.o.grown hgrow HBL6.o.size fun g hg=>(HOA6.o.lt g hg).1);clear hown hgrow hat hn6 HOA6 HOB6 HBL6 HAP;obtain ⟨c2,c0⟩:=HBK.o w7 HBL7.o;go_wp2_with (with_reducible refine xD9 (some 59) ?_);obtain ⟨g8,HG8⟩:=hY (w7.1.size);obtain ⟨w8,HW8⟩:=hY (w7.alloc (.cells #[.int .i64 (ka:Int),.string val] 94));rw [<- HG8.o,<- HW8.o];have hb8:Below w7.1.size w7 w8:=by rw [HW8.o]; exact bA
    have HBL8:=hI (Below w1.1.size w1 w8) (HBL7.o.trans (hb8.mono HBL7.o.size));have HOA8:=Hi (xR HOA7.o hb8);have HOB8:=Hi (xR HOB7.o hb8);have hn8:∀ (j:Nat) u,([.int .i64 (ka:Int),.string val]:List Value)[j]? = some u -> w8.cell? ((⟨g8,0,none⟩:Addr).add j) = some u:=by rw [HW8.o,HG8.o]; exact QT _ _ _
    clear HG8 HW8 hb8 HOA7 HOB7 HBL7 c0 c2;unfold wH;refine wpList_append_lies (P:=Tryz.prog) w8 rfl _ _ 71 rfl w1.1.size 94 ip _ 2 24 Tryz.underlying71 hi0 hi1 hi2 hi3 rfl (by decide) (.slice B8 os.length d8) os.length (yv os) rfl HOB8.o ⟨g8,0,none⟩ 1 1 [.int .i64 (ka:Int),.string val] rfl rfl hn8 (fun u hu=>by rcases List.mem_cons.1 hu with h | h; (rw [h]; rfl); (rw [List.mem_singleton.1 h]; rfl)) (by decide) (by have:=HOL.o; unfold maxLen; omega) (by have:=HOL.o; omega) HBL8.o.size _ rfl ?_;intro hh cap9 w9 hown hgrow hat _;have HS9:=hI (BaS w1 ((vn ks ns).take (k + 1)) (.slice (some ⟨gg,0,none⟩) (os.length + 1) cap7) (.slice (some ⟨hh,0,none⟩) (os.length + 1) cap9) w9) (by
     rw [HTK.o];have hl:(os ++ [((ka:Int),val)]).length = os.length + 1:=by rw [List.length_append,List.length_singleton]
     refine ⟨⟨some ⟨gg,0,none⟩,cap7,some ⟨hh,0,none⟩,cap9,by rw [hl],by rw [hl],by rw [hl]; exact HOA8.o.kept hgrow (.inr fun e=>HGG.o e.symm),by rw [hl,jm]; exact hown,fun g hg e=>?_⟩,HBL8.o.grown hgrow HBL8.o.size fun g hg=>(HOB8.o.lt g hg).1⟩;have h1:gg = g:=ze8.inj hg;have h2:hh = g:=ze8.inj e;rcases hat with h | h
     ·exact HGG.o (by rw [h,h2,h1])
     ·have:=(HOA8.o.lt gg rfl).2; omega)
    clear hown hgrow hat hn8 HOA8 HOB8 HBL8 HGG;go_wp2_with fail
    go_roundw
    case rel=>exact ⟨k + 1,by omega,by first | rfl | simp,HS9⟩
    case measure=>simp [intOf]; omega
  ·have hkm:k = m:=by omega
   subst hkm;have htk:(vn ks ns).take k = vn ks ns:=List.take_of_length_le (by rw [HM.o]; exact ze3 _);rw [htk] at HS;obtain ⟨⟨A8,c8,B8,d8,rfl,rfl,hoA,hoB,hap⟩,hbl⟩:=HS.o;have HOA:=Hi (Zr hoA HB1.o.size);have HOB:=Hi (Zr hoB HB1.o.size);have HBL:=Hi (HB1.o.trans (hbl.mono HB1.o.size));clear hoA hoB hap hbl HS htk;rcases Nat.lt_or_ge k nk with h1 | h1
   ·rcases Nat.lt_or_ge k nn with h2 | h2
    ·have h3:10 <= k:=by have:=HMM.o; omega
     go_wp2_with fail
     go_ret2
     exact ⟨A8,c8,B8,d8,rfl,HOA.o,HOB.o,HBL.o⟩
    ·go_wp2_with fail
     go_ret2
     exact ⟨A8,c8,B8,d8,rfl,HOA.o,HOB.o,HBL.o⟩
   ·go_wp2_with fail
    go_ret2
    exact ⟨A8,c8,B8,d8,rfl,HOA.o,HOB.o,HBL.o⟩
end
section
open Go.ChangeShapes Go.WideShapes Go.ChangeAt Go.RowKit
theorem VO {H:Type} {enc:TypeId × Value -> H} {P:Program} {W:World} {t e:TypeId} {k:IntKind} {fuel:Nat} {c:Value} {y:DataW H × List MemPlace} (ht:P.underlying t = some (.slice e)) (he:P.underlying e = some (.int k)) (hce:P.cellsOf e = 1)
  (h:DataW.trod enc P W 0 (fun _=>true) true fuel t [c] = some y):∃ (A:Option Addr) (cap:Nat) (zs:List Int),c = .slice A zs.length cap /\ Nums W k A zs /\ zs.length <= cap /\ cap <= maxLen /\ ∀ z ∈ zs,(Lit.int k z).wf = true:=by
 rcases open_ints ht he hce h with ⟨hcs,hx⟩ | ⟨a,len',cap',zs,hcs,_,hl,hm,hz,hx,hcell,hwf⟩
 ·simp at hcs;subst hcs;exact ⟨none,0,[],rfl,Nums.none_ _ _ _,ze3 _,by unfold maxLen; omega,by simp⟩
 ·simp at hcs;subst hcs;rw [if_pos rfl] at hz;have hlen:(zs.take len').length = len':=by rw [List.length_take]; omega
  refine ⟨some a,cap',zs.take len',by rw [hlen],fun hp=>⟨a,rfl,?_,fun i z hi=>?_⟩,by omega,hm,fun z hz'=>hwf z (List.mem_of_mem_take hz')⟩
  ·have:=zt (hcell 0 (by omega))
   rwa [yK] at this
  ·rw [List.getElem?_take] at hi;split at hi
   ·rw [hcell i (by omega)];simp [List.getD,hi]
   ·cases hi
theorem Vx {H:Type} {enc:TypeId × Value -> H} {P:Program} {w:World} {base:Nat} {sp:Nat -> Bool} {held:Bool} {fuel:Nat} {t:TypeId} {c:Value} {y:DataW H × List MemPlace}
  (ht:P.underlying t = some .bool) (h:DataW.trod enc P w base sp held fuel t [c] = some y):∃ b,c = .bool b:=by
 cases fuel with
 | zero=>simp [DataW.trod] at h
 | succ fuel =>
  cases c <;> simp [DataW.trod,ht] at h;exact ⟨_,rfl⟩
theorem Tryz.actStruct13:Tryz.prog.underlying 78 = some (.struct (Tryz.prog.fieldsOf 78)):=by kernel_rfl
theorem Tryz.cellsAct13:Tryz.prog.cellsOf 78 = 5:=by kernel_rfl
theorem Tryz.cellsU8s13:Tryz.prog.cellsOf 75 = 1:=by kernel_rfl
theorem Tryz.cellsU32s13:Tryz.prog.cellsOf 76 = 1:=by kernel_rfl
theorem Tryz.cellsU813:Tryz.prog.cellsOf 5 = 1:=by kernel_rfl
theorem Tryz.cellsU3213:Tryz.prog.cellsOf 23 = 1:=by kernel_rfl
theorem Tryz.cellsBool13:Tryz.prog.cellsOf 4 = 1:=by kernel_rfl
theorem Tryz.cellsInt13:Tryz.prog.cellsOf 3 = 1:=by kernel_rfl
theorem Tryz.act13Fields:(Tryz.prog.fieldsOf 78).size = 5:=by kernel_rfl
theorem Tryz.act13Field0:(Tryz.prog.fieldsOf 78)[0]? = some ⟨"Keys",75,0,false, "", "",0⟩:=by kernel_rfl
theorem Tryz.act13Field1:(Tryz.prog.fieldsOf 78)[1]? = some ⟨"Nums",76,1,false, "", "",24⟩:=by kernel_rfl
theorem Tryz.act13Field2:(Tryz.prog.fieldsOf 78)[2]? = some ⟨"Crash",4,2,false, "", "",48⟩:=by kernel_rfl
theorem Tryz.act13Field3:(Tryz.prog.fieldsOf 78)[3]? = some ⟨"Mask",23,3,false, "", "",52⟩:=by kernel_rfl
theorem Tryz.act13Field4:(Tryz.prog.fieldsOf 78)[4]? = some ⟨"Torn",3,4,false, "", "",56⟩:=by kernel_rfl
end
section
open Go.ChangeShapes Go.WideShapes Go.ChangeAt Go.RowKit Go.Deep
inductive ZQ
 | int (k:IntKind)
 | str
 | bool
def ZQ.ok:ZQ -> Value -> Prop
 | .int k,v=>∃ n,v = .int k n /\ (Lit.int k n).wf = true
 | .str,v=>∃ s,v = .string s
 | .bool,v=>∃ b,v = .bool b
def ZQ.is (P:Program):ZQ -> TypeId -> Prop
 | .int k,t=>P.underlying t = some (.int k)
 | .str,t=>P.underlying t = some .string
 | .bool,t=>P.underlying t = some .bool
def kx (w:World) (A:Option Addr) (k:Nat) (rows:List (List Value)):Prop:=0 < rows.length -> ∃ b o,A = some ⟨b,o,none⟩ /\ b < w.1.size /\ ∀ (i j:Nat) (r:List Value) (v:Value),rows[i]? = some r -> r[j]? = some v -> w.cell? ⟨b,o + i * k + j,none⟩ = some v
theorem kx.block {w w':World} {A:Option Addr} {k:Nat} {rows:List (List Value)} (h:kx w A k rows) (hs:w.1.size <= w'.1.size) (hb:∀ b,b < w.1.size -> w'.1[b]? = w.1[b]?):kx w' A k rows:=fun hp=>by
 obtain ⟨b,o,e,hlt,hc⟩:=h hp;exact ⟨b,o,e,Nat.lt_of_lt_of_le hlt hs,fun i j r v h1 h2=>(World.cell?_of_block (w:=w) (a:=⟨b,o + i * k + j,none⟩) (hb b hlt)).trans (hc i j r v h1 h2)⟩
theorem kx.below {w w':World} {A:Option Addr} {k:Nat} {rows:List (List Value)} (h:kx w A k rows) (hb:Below w.1.size w w'):kx w' A k rows:=h.block hb.size fun b hlt=>hb.block b hlt
theorem kx.at_ {w:World} {A:Option Addr} {k:Nat} {rows:List (List Value)} (h:kx w A k rows) {i:Nat} {r:List Value} (hi:rows[i]? = some r):∃ b o,A = some ⟨b,o,none⟩ /\ b < w.1.size /\ ∀ (j:Nat) (v:Value),r[j]? = some v -> w.cell? ⟨b,o + i * k + j,none⟩ = some v:=by
 obtain ⟨b,o,e,hlt,hc⟩:=h (by have:=(ze5.1 hi).1; omega);exact ⟨b,o,e,hlt,fun j v hv=>hc i j r v hi hv⟩
theorem zas {l:List Value} {j:Nat} (h:j < l.length):(l.drop j).take 1 = [l[j]]:=by
 rw [List.drop_eq_getElem_cons h]; rfl
end
section
open Go.ChangeShapes Go.WideShapes Go.ChangeAt Go.RowKit Go.Deep
inductive CKW
 | int (k:IntKind)
 | str
 | bool
 | nums (k:IntKind)
def CKW.ok (W:World):CKW -> Value -> Prop
 | .int k,v=>∃ n,v = .int k n /\ (Lit.int k n).wf = true
 | .str,v=>∃ s,v = .string s
 | .bool,v=>∃ b,v = .bool b
 | .nums k,v=>∃ A cap zs,v = .slice A zs.length cap /\ Nums W k A zs /\ ∀ z ∈ zs,(Lit.int k z).wf = true
def CKW.is (P:Program):CKW -> TypeId -> Prop
 | .int k,t=>P.underlying t = some (.int k)
 | .str,t=>P.underlying t = some .string
 | .bool,t=>P.underlying t = some .bool
 | .nums k,t=>∃ e,P.underlying t = some (.slice e) /\ P.underlying e = some (.int k) /\ P.cellsOf e = 1
theorem Kl {H:Type} {enc:TypeId × Value -> H} {P:Program} {W:World} {fuel:Nat} {t:TypeId} {kd:CKW} {c:Value} {y:DataW H × List MemPlace}
  (ht:kd.is P t) (h:DataW.trod enc P W 0 (fun _=>true) true fuel t [c] = some y):kd.ok W c:=by
 cases kd with
 | int k=>exact KJ ht h
 | str=>exact VW ht h
 | bool=>exact Vx ht h
 | nums k =>
  obtain ⟨e,h1,h2,h3⟩:=ht;obtain ⟨A,cap,zs,e1,e2,-,-,e3⟩:=VO h1 h2 h3 h;exact ⟨A,cap,zs,e1,e2,e3⟩
structure QI (P:Program) (T E:TypeId) (k:Nat) (kinds:List CKW):Prop where
 slice:P.underlying T = some (.slice E)
 struct:P.underlying E = some (.struct (P.fieldsOf E))
 cells:P.cellsOf E = k
 size:(P.fieldsOf E).size = k
 len:kinds.length = k
 fields:∀ (j:Nat) (kd:CKW),kinds[j]? = some kd -> ∃ f:Field,(P.fieldsOf E)[j]? = some f /\ f.offset = j /\ P.cellsOf f.type = 1 /\ kd.is P f.type
 pos:0 < k
theorem J9 {H:Type} {enc:TypeId × Value -> H} {P:Program} {W:World} {T E:TypeId} {k:Nat} {kinds:List CKW} (hT:QI P T E k kinds) {v:Value} {d:DataW H} {ps:List MemPlace} {r:Reach} {b0:Nat} (hval:Value.okWide P W r b0 T v)
  (h:DataW.Trod enc P W 0 (fun _=>true) true T v d ps):∃ (A:Option Addr) (cap:Nat) (rows:List (List Value)),v = .slice A rows.length cap /\ kx W A k rows /\ (∀ r ∈ rows,r.length = k /\ ∀ (j:Nat) (kd:CKW),kinds[j]? = some kd -> ∃ c,r[j]? = some c /\ kd.ok W c) /\ rows.length <= cap /\ cap <= maxLen:=by
 obtain ⟨A,len,cap,rfl⟩:=okWide_slice hT.slice hval;obtain ⟨fuel,hf⟩:=h;rcases open_slice hT.slice hf with ⟨hcs,_⟩ | ⟨a,len',cap',m,n,D,Pl,hcs,_,hl,hm,hmm,_,hi⟩
 ·simp [Value.cells] at hcs;obtain ⟨rfl,rfl,rfl⟩:=hcs;exact ⟨none,0,[],rfl,fun h=>absurd h (by simp),(fun r hr=>by cases hr),ze3 _,by unfold maxLen; omega⟩
 ·simp [Value.cells] at hcs;obtain ⟨rfl,rfl,rfl⟩:=hcs;rw [if_pos rfl] at hmm;subst hmm;have hk0:=hT.pos;have key:∀ i,i < len -> ∃ row:List Value,(∃ b o,a = ⟨b,o,none⟩ /\ b < W.1.size /\ ∀ (j:Nat) (v:Value),row[j]? = some v -> W.cell? ⟨b,o + i * k + j,none⟩ = some v) /\ row.length = k /\ ∀ (j:Nat) (kd:CKW),kinds[j]? = some kd -> ∃ c,row[j]? = some c /\ kd.ok W c:=by
   intro i hlt;obtain ⟨cs,hc,ht⟩:=hi i (by omega);rw [hT.cells] at hc;obtain ⟨_,hcl,hat⟩:=World.cells?_some hc;obtain ⟨xs,n',_,_,hlen,hxl,hfd⟩:=DataW.trod_struct hT.struct ht;have hxk:xs.length = k:=by rw [hxl,hT.size]
   have hsp0:a.spot = none:=by
    obtain ⟨cs0,hc0,_⟩:=hi 0 (by omega);rw [hT.cells] at hc0;obtain ⟨_,hcl0,hat0⟩:=World.cells?_some hc0;have h00:=hat0 0 (by omega);have hs0:(a.add (0 * k)).add 0 = a:=by simp [Addr.add]
    rw [hs0,ze7 (by omega)] at h00;exact World.cell?_spot h00
   obtain ⟨b,o,sp⟩:=a;have hsp:sp = none:=hsp0;subst hsp;have ha:∀ j,(Addr.add ⟨b,o,none⟩ (i * k)).add j = ⟨b,o + i * k + j,none⟩:=fun j=>by rw [Jy,Addr.add_mid,Nat.add_assoc]
   have hat':∀ j (hj:j < k),W.cell? ⟨b,o + i * k + j,none⟩ = some (cs[j]'(by omega)):=fun j hj=>by
    have:=hat j hj;rw [ha,ze7 (by omega)] at this;exact this
   refine ⟨cs,⟨b,o,rfl,zt (hat' 0 hk0),fun j v hv=>?_⟩,hcl,fun j kd hkd=>?_⟩
   ·have hj:j < k:=by have:=(ze5.1 hv).1; omega
    rw [ze7 (by omega)] at hv;rw [hat' j hj,hv]
   ·have hj:j < k:=by have:=(ze5.1 hkd).1; have:=hT.len; omega
    obtain ⟨f,hf1,hf2,hf3,hf4⟩:=hT.fields j kd hkd;have hg:=hfd j f hf1;rw [hf2,hf3,zas (by omega),ze7 (by omega)] at hg;exact ⟨_,ze7 (by omega),Kl hf4 hg⟩
  have hex:∃ f:Nat -> List Value,∀ i,i < len -> (∃ b o,a = ⟨b,o,none⟩ /\ b < W.1.size /\ ∀ (j:Nat) (v:Value),(f i)[j]? = some v -> W.cell? ⟨b,o + i * k + j,none⟩ = some v) /\ (f i).length = k /\ ∀ (j:Nat) (kd:CKW),kinds[j]? = some kd -> ∃ c,(f i)[j]? = some c /\ kd.ok W c :=
   ⟨fun i=>if h:i < len then Classical.choose (key i h) else [],fun i hi=>by simp only [dif_pos hi]; exact Classical.choose_spec (key i hi)⟩
  obtain ⟨f,hf'⟩:=hex;refine ⟨some a,m,(List.range len).map f,by simp,fun hp=>?_,fun r hr=>?_,by simpa using hl,hm⟩
  ·have h0:0 < len:=by simpa using hp
   obtain ⟨⟨b,o,rfl,hb,_⟩,_⟩:=hf' 0 h0;refine ⟨b,o,rfl,hb,fun i j r v h1 h2=>?_⟩;have hil:i < len:=by
    have:=(ze5.1 h1).1;simpa using this
   obtain ⟨⟨b',o',he,_,hc⟩,_⟩:=hf' i hil;injection he with he1 he2
   subst he1 he2;refine hc j v ?_;have e:r = f i:=by
    rw [zfl,List.getElem?_range hil] at h1;simpa using h1.symm
   rw [<- e];exact h2
  ·obtain ⟨i,hi2,rfl⟩:=List.mem_map.1 hr;exact (hf' i (List.mem_range.1 hi2)).2
structure Xd where
 AK:Option Addr
 ck:Nat
 ks:List Nat
 AN:Option Addr
 cn:Nat
 ns:List Nat
 cr:Bool
 mask:Nat
 torn:Int
def jv (a:Xd):List Value:=[.slice a.AK a.ks.length a.ck,.slice a.AN a.ns.length a.cn,.bool a.cr,.int .u32 (a.mask:Int),.int .i64 a.torn]
structure Xd.In (w:World) (a:Xd):Prop where
 keys:Nums w .u8 a.AK (jN a.ks)
 nums:Nums w .u32 a.AN (jN a.ns)
 key:∀ k ∈ a.ks,k < 256
 num:∀ k ∈ a.ns,k < 4294967296
 mask:a.mask < 4294967296
 torn:-9223372036854775808 <= a.torn /\ a.torn <= 9223372036854775807
structure jG (w:World) (A:Option Addr) (l:List Xd):Prop where
 rows:kx w A 5 (l.map jv)
 each:∀ a ∈ l,a.In w
theorem Xd.In.below {w w':World} {a:Xd} (h:a.In w) (hb:Below w.1.size w w'):a.In w':=⟨h.keys.carry hb,h.nums.carry hb,h.key,h.num,h.mask,h.torn⟩
theorem jG.below {w w':World} {A:Option Addr} {l:List Xd} (h:jG w A l) (hb:Below w.1.size w w'):jG w' A l:=⟨kx.below h.rows hb,fun a ha=>(h.each a ha).below hb⟩
theorem jG.at_ {w:World} {A:Option Addr} {l:List Xd} (h:jG w A l) {i:Nat} {a:Xd} (hi:l[i]? = some a):∃ b o,A = some ⟨b,o,none⟩ /\ b < w.1.size /\ ∀ (j:Nat) (v:Value),(jv a)[j]? = some v -> w.cell? ⟨b,o + i * 5 + j,none⟩ = some v :=
 kx.at_ h.rows (i:=i) (r:=jv a) (by rw [zfl,hi]; rfl)
theorem Tryz.lactTy:QI Tryz.prog 67 78 5 [.nums .u8,.nums .u32,.bool,.int .u32,.int .i64] :=
 ⟨Tryz.underlying67,Tryz.actStruct13,Tryz.cellsAct13,Tryz.act13Fields,rfl,fun j kd h=>by
  match j,h with
  | 0,h=>obtain rfl:=ze8.inj h; exact ⟨_,Tryz.act13Field0,rfl,Tryz.cellsU8s13,_,Tryz.underlying75,Tryz.underlying5,Tryz.cellsU813⟩
  | 1,h=>obtain rfl:=ze8.inj h; exact ⟨_,Tryz.act13Field1,rfl,Tryz.cellsU32s13,_,Tryz.underlying76,Tryz.underlying23,Tryz.cellsU3213⟩
  | 2,h=>obtain rfl:=ze8.inj h; exact ⟨_,Tryz.act13Field2,rfl,Tryz.cellsBool13,Tryz.underlying4⟩
  | 3,h=>obtain rfl:=ze8.inj h; exact ⟨_,Tryz.act13Field3,rfl,Tryz.cellsU3213,Tryz.underlying23⟩
  | 4,h=>obtain rfl:=ze8.inj h; exact ⟨_,Tryz.act13Field4,rfl,Tryz.cellsInt13,Tryz.underlying3⟩
  | j + 5,h=>simp at h,by decide⟩
theorem Yb {W:World}:∀ {rows:List (List Value)},(∀ r ∈ rows,r.length = 5 /\ ∀ (j:Nat) (kd:CKW),[CKW.nums .u8,.nums .u32,.bool,.int .u32,.int .i64][j]? = some kd -> ∃ c,r[j]? = some c /\ kd.ok W c) -> ∃ l:List Xd,rows = l.map jv /\ ∀ a ∈ l,a.In W
 | [],_=>⟨[],rfl,fun _ h=>by cases h⟩
 | r :: rest,h=>by
  obtain ⟨l,rfl,hl⟩:=Yb (rows:=rest) fun x hx=>h x (List.mem_cons_of_mem _ hx)
  obtain ⟨hlen,hc⟩:=h r List.mem_cons_self;obtain ⟨c0,e0,AK,ck,zk,rfl,nk,wk⟩:=hc 0 _ rfl;obtain ⟨c1,e1,AN,cn,zn,rfl,nn,wn⟩:=hc 1 _ rfl;obtain ⟨c2,e2,cr,rfl⟩:=hc 2 _ rfl;obtain ⟨c3,e3,m,rfl,wm⟩:=hc 3 _ rfl;obtain ⟨c4,e4,t,rfl,wt⟩:=hc 4 _ rfl;obtain ⟨ks,rfl,hk⟩:=VM (fun _ h=>KK h) zk wk;obtain ⟨ns,rfl,hn⟩:=VM (fun _ h=>Yg h) zn wn;obtain ⟨mask,rfl,hm⟩:=Yg wm
  match r,hlen with
  | [x,y,z,u,v],_ =>
   simp only [List.getElem?_cons_zero,List.getElem?_cons_succ,ze8.injEq] at e0 e1 e2 e3 e4;subst e0 e1 e2 e3 e4;exact ⟨⟨AK,ck,ks,AN,cn,ns,cr,mask,t⟩ :: l,by simp [jv,jN],fun a ha=>by
    rcases List.mem_cons.1 ha with rfl | ha
    ·exact ⟨nk,nn,hk,hn,hm,Xh wt⟩
    ·exact hl a ha⟩
theorem J8 {H:Type} {enc:TypeId × Value -> H} {W:World} {v:Value} {d:DataW H} {ps:List MemPlace} {r:Reach} {b0:Nat} (hval:Value.okWide Tryz.prog W r b0 67 v)
  (h:DataW.Trod enc Tryz.prog W 0 (fun _=>true) true 67 v d ps):∃ (A:Option Addr) (cap:Nat) (l:List Xd),v = .slice A l.length cap /\ jG W A l /\ l.length <= cap /\ cap <= maxLen:=by
 obtain ⟨A,cap,rows,rfl,h1,h2,h3,h4⟩:=J9 Tryz.lactTy hval h;obtain ⟨l,rfl,hl⟩:=Yb h2;rw [List.length_map] at h3 ⊢;exact ⟨A,cap,l,rfl,⟨h1,hl⟩,h3,h4⟩
end
