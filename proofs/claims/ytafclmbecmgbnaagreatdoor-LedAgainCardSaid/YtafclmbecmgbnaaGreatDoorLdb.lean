/-
  Ldb. Conditions: as said.
-/
import Derived.Test.YtafclmbecmgbnaaGreatDoorLda
import Derived.Test.YtafclmbecmgbnaaGreatDoorPgr
set_option maxRecDepth 100000
set_option maxHeartbeats 2000000
namespace Go.Proofs.YtafclmbecmgbnaaGreatDoor
open Go.RowKit
section
def AbD (O:zV):Prop:=∀ {B:Nat -> Prop} {w:World} {P D:Nat} {s:Pst},O B w P D s -> CallsD Tryz.prog 23 #[ptr P] .returning w fun e u' w'=>u' = .returning /\ e = .returned (.tuple #[]) /\ ∃ B',O B' w' P D s.abort /\ (∀ b,B' b -> B b \/ w.1.size <= b) /\ zh (fun b=>b < w.1.size /\ ¬ B b) w w'
theorem KO {O:zV} (HA:AbD O) {K:Nat -> Prop} {w:World} {P D n:Nat} {d:Dk} {s:Pst} (h:zW O K w P D n d s) :
  CallsD Tryz.prog 23 #[ptr P] .returning w fun e u' w'=>u' = .returning /\ e = .returned (.tuple #[]) /\ zW O K w' P D n d s.abort /\ zh K w w':=by
 obtain ⟨B,h1,h2,h3,h4⟩:=h;refine (HA h1).mono ?_;rintro e u' w' ⟨rfl,rfl,B',h5,h6,h7⟩;have h8:∀ b,K b -> b < w.1.size /\ ¬ B b:=fun b hb=>⟨h3 b hb,fun hb2=>h4 b hb2 hb⟩
 refine ⟨rfl,rfl,⟨B',h5,?_,fun k hk=>Nat.lt_of_lt_of_le (h3 k hk) h7.size,fun b hb hk=>?_⟩,⟨h7.os,h7.tape,h7.output,h7.size,fun k hk=>h7.block k (h8 k hk)⟩⟩
 ·refine h2.off (B:=B) (fun b hb=>.inr hb) h7 fun k hk=>?_
  rcases hk with hk | hk
  ·exact .inl (.inl hk)
  ·rcases h6 k hk with h | h
   ·exact .inl (.inr h)
   ·exact .inr h
 ·rcases h6 b hb with h | h
  ·exact h4 b h hk
  ·have:=h3 b hk;omega
def Zm (w:World) (K:Nat -> Prop) (A:Option Addr) (cs:List Pr):Prop:=0 < cs.length -> ∃ g o,A = some ⟨g,o,none⟩ /\ K g /\ g < w.1.size /\ ∀ i c,cs[i]? = some c -> w.cell? ⟨g,o + i * 2,none⟩ = some (.int .i64 c.1) /\ w.cell? ⟨g,o + i * 2 + 1,none⟩ = some (.string c.2)
theorem Zm.kept {w w':World} {K:Nat -> Prop} {A:Option Addr} {cs:List Pr} (h:Zm w K A cs) (hk:zh K w w'):Zm w' K A cs:=fun hp=>by
 obtain ⟨g,o,e,h1,h2,h3⟩:=h hp;exact ⟨g,o,e,h1,Nat.lt_of_lt_of_le h2 hk.size,fun i c hc=>⟨(hk.cell (p:=⟨g,o + i * 2,none⟩) h1).trans (h3 i c hc).1,(hk.cell (p:=⟨g,o + i * 2 + 1,none⟩) h1).trans (h3 i c hc).2⟩⟩
theorem qL (n:Nat):∀ (a b:List Pr) (S:TS) (root:Int),xQ n S root (a ++ b) = zdq (xQ n S root a) fun k S'=>xQ n S' k b
 | [],b,S,root=>rfl
 | c :: a,b,S,root=>by
  rw [List.cons_append,xQ,xQ];rcases h:Zj n S root c.1 c.2 with ⟨e | k,S'⟩
  ·rfl
  ·exact qL n a b S' k
theorem zaU {n:Nat} {S S':TS} {root r':Int} {cs:List Pr} (h:xQ n S root cs = (.ok r',S')) (j:Nat):∃ r S1,xQ n S root (cs.take j) = (.ok r,S1):=by
 have h1:=qL n (cs.take j) (cs.drop j) S root;rw [List.take_append_drop,h] at h1;rcases h2:xQ n S root (cs.take j) with ⟨e | k,S1⟩
 ·rw [h2] at h1;cases h1
 ·exact ⟨k,S1,rfl⟩
theorem YK {n:Nat} {S S1:TS} {root r:Int} {cs:List Pr} {j:Nat} {c:Pr} (h:xQ n S root (cs.take j) = (.ok r,S1)) (hc:cs[j]? = some c):xQ n S root (cs.take (j + 1)) = Zj n S1 r c.1 c.2:=by
 rw [List.take_add_one,hc];show xQ n S root (cs.take j ++ [c]) = _;rw [Va,h];rfl
theorem zP.keptB {O:zV} {w0:World} {K:Nat -> Prop} {w w':World} {P D n:Nat} {S:TS} {firm:Nat -> List UInt8} (h:zP O w0 K w P D n S firm) (hb:Below w.1.size w w'):zh K w w':=zh.of_below hb h.there
section
variable {O:zV} (H:ye O) (HA:AbD O)
include H HA
theorem Y5 {w0:World} {K:Nat -> Prop} {w:World} {b P D n:Nat} {S:TS} {firm:Nat -> List UInt8} (hl:zP O w0 K w P D n S firm) (hg:yC w0) (hd:yV w b P) (hKb:K b) {A:Option Addr} {cs:List Pr} {m cap:Nat} (hc:Zm w K A cs) (hm:cs.length = m)
  (hmay:∀ c ∈ cs,yI c.1 c.2.size) (hsoft:∀ j,j <= m -> (xQ n S S.s.sup.root (cs.take j)).2.d.soft.length <= 99900) {r':Int} {S':TS} (hrun:xQ n S S.s.sup.root cs = (.ok r',S')) (hro:rootOk S'.s r' = true) (hge:S'.s.sup.gen + 1 < 4294967296) (hm2:m <= 1000) :
  Calls Tryz.prog 41 #[ptr b,.slice A m cap] w fun e w'=>e = .returned .nilIface /\ zP O w0 K w' P D n (S'.commit r') S'.data /\ zh K w w':=by
 have HL:=Hi hl;have HD:=Hi hd;have HKB:=Hi hKb;have HC:=Hi hc;have HM:=Hi hm;have HMAY:=Hi hmay;have HSOFT:=Hi hsoft;have HRUN:=Hi hrun;have HRO:=Hi hro;have HGE:=Hi hge;have HG:=Hi hg;clear hl hg hd hKb hc hm hmay hsoft hrun hro hge
 go_enter_defers Tryz.func41,Tryz.ntmps41
 go_wp2_with fail
 go_loopw [17] (fun u wr=>∃ j:Nat,j <= m /\ u = .int .i64 (j:Int) /\ Below w.1.size w wr) (fun u _=>m - (intOf u).toNat)
 case atStart=>exact ⟨0,Nat.zero_le _,rfl,.refl _ _⟩
 case round =>
  obtain ⟨j,hj,rfl,hb⟩:=hrel;have HB:=Hi hb;clear hb;by_cases hjm:j < m
  ·have hjl:j < cs.length:=by rw [HM.o]; exact hjm
   obtain ⟨g,o,hA,hKg,hgl,hcc⟩:=HC.o (by omega);subst hA;obtain ⟨key,val,hcj⟩:∃ key val,cs[j]? = some (key,val):=⟨_,_,List.getElem?_eq_getElem hjl⟩
   have h1:=(hcc j _ hcj).1;have h2:=(hcc j _ hcj).2;have c0:wr.cell? ⟨g,o + j * 2,none⟩ = some (.int .i64 key):=(HB.o.cell (p:=⟨g,o + j * 2,none⟩) hgl).trans h1;have c1:wr.cell? ⟨g,o + j * 2 + 1,none⟩ = some (.string val):=(HB.o.cell (p:=⟨g,o + j * 2 + 1,none⟩) hgl).trans h2;have hmj:yI key val.size:=HMAY.o _ (List.mem_of_getElem? hcj);have HMJ:=hI (decide (yI key val.size) = true) (decide_eq_true hmj);have HCJ:=Hi hcj;clear h1 h2 hcc hmj hcj hKg hgl;go_wp2_with fail;refine (W3 key val _).mono ?_;rw [HMJ.o];rintro e w2 ⟨rfl,hb⟩;have HB2:=hI (Below w.1.size w w2) ((HB.o.alloc HB.o.size _).trans (hb.mono (by have:=HB.o.size; simp; omega)));clear hb HB c0 c1;have hjw:wrap64 ((j:Int) + 1) = (j:Int) + 1:=by unfold wrap64; omega
   go_wp2_with fail
   go_roundw
   case rel=>exact ⟨j + 1,hjm,by first | rfl | simp,HB2.o⟩
   case measure=>simp [intOf]; omega
  ·obtain rfl:j = m:=by omega
   have HL1:=Hi (HL.o.carry H HB.o);have HK1:=Hi (zP.keptB HL.o HB.o);have HD1:=Hi (HD.o.carry HB.o);have HC1:=Hi (HC.o.kept HK1.o);have c0:=HD1.o.cell;clear HL HB HD HC;go_wp2_with fail;refine (H.pgRoot HL1.o.pg).mono ?_;rintro e w2 ⟨rfl,hb⟩;have HL2:=Hi (HL1.o.carry H hb);have HK2:=Hi (HK1.o.trans (zP.keptB HL1.o hb));have HD2:=Hi (HD1.o.carry hb);have HC2:=Hi (HC1.o.kept (zP.keptB HL1.o hb));clear hb HL1 HK1 HD1 HC1 c0;obtain ⟨root,HROOT⟩:∃ root,Hid (S.s.sup.root = root):=⟨_,Hi (rfl)⟩
   rw [HROOT.o] at HRUN HSOFT ⊢;dsimp only;go_wp2_with fail
   go_loopw [7,37] (fun u7 u37 wr=>∃ (i:Nat) (r:Int) (S1:TS),i <= j /\ u7 = .int .i64 r /\ u37 = .int .i64 (i:Int) /\ xQ n S root (cs.take i) = (.ok r,S1) /\ zP O w0 K wr P D n S1 firm /\ zh K w wr /\ yV wr b P /\ Zm wr K A cs) (fun _ u37 _=>j - (intOf u37).toNat)
   case atStart=>exact ⟨0,root,S,Nat.zero_le _,rfl,rfl,rfl,HL2.o,HK2.o,HD2.o,HC2.o⟩
   case round =>
    clear HL2 HK2 HD2 HC2;obtain ⟨i,r,S1,hi,rfl,rfl,hri,hl,hk,hd,hc⟩:=hrel;have HI:=Hi hi;have HRI:=Hi hri;have HL:=Hi hl;have HK:=Hi hk;have HD:=Hi hd;have HC:=Hi hc;clear hi hri hl hk hd hc;by_cases him:i < j
    ·have hil:i < cs.length:=by rw [HM.o]; exact him
     obtain ⟨g,o,hA,hKg,hgl,hcc⟩:=HC.o (by omega);subst hA;obtain ⟨key,val,hci⟩:∃ key val,cs[i]? = some (key,val):=⟨_,_,List.getElem?_eq_getElem hil⟩
     have c0:=(hcc i _ hci).1;have c1:=(hcc i _ hci).2;have HMY:=hI (yI key val.size) (HMAY.o _ (List.mem_of_getElem? hci));obtain ⟨r2,S2,hr2⟩:=zaU HRUN.o (i + 1);have HR2:=Hi hr2;have HCH:=hI (Zj n S1 r key val = (.ok r2,S2)) (by rw [<- YK HRI.o hci]; exact hr2);have HSF:=hI (S1.d.soft.length <= 99900) (by have:=HSOFT.o i HI.o; rwa [HRI.o] at this);clear hcc hci hr2 hKg hgl;dsimp only at c0 c1;obtain ⟨w3,HW3⟩:=hY (wr.alloc (.cells #[.int .i64 key,.string val] 93));have HB3:=hI (Below wr.1.size wr w3) (by rw [HW3.o]; exact (Below.refl _ _).alloc (Nat.le_refl _) _);have HL3:=Hi (HL.o.carry H HB3.o);have HK3:=Hi (HK.o.trans (zP.keptB HL.o HB3.o));have HD3:=Hi (HD.o.carry HB3.o);have HC3:=Hi (HC.o.kept (zP.keptB HL.o HB3.o));clear HB3 HL HK HD HC;go_wp2_with fail;rw [<- HW3.o];clear c0 c1;refine (Zq H HL3.o HG.o HSF.o HD3.o HKB.o r ⟨HMY.o.1,HMY.o.2.1⟩ (by have:=HMY.o.2.2; omega)).mono ?_;rw [HCH.o];rintro e w4 ⟨hl,hk,rfl⟩;have HL4:=Hi hl;have HK4:=Hi (HK3.o.trans hk);have HD4:=Hi (HD3.o.kept hk HKB.o);have HC4:=Hi (HC3.o.kept hk);clear hl hk HL3 HK3 HD3 HC3 HW3;have hiw:wrap64 ((i:Int) + 1) = (i:Int) + 1:=by unfold wrap64; omega
     dsimp only;go_wp2_with fail
     go_roundw
     case rel=>exact ⟨i + 1,r2,S2,him,rfl,by first | rfl | simp,HR2.o,HL4.o,HK4.o,HD4.o,HC4.o⟩
     case measure=>simp [intOf]; omega
    ·have hij:i = j:=by have:=HI.o; omega
     subst hij;have he:xQ n S root (cs.take i) = (.ok r',S'):=by rw [List.take_of_length_le (by rw [HM.o]; exact Nat.le_refl _)]; exact HRUN.o
     rw [HRI.o] at he;injection he with e1 e2
     injection e1 with e1
     subst e1 e2;have c0:=HD.o.cell;go_wp2_with fail;refine (H.commitYes HL.o.pg HL.o.inv HL.o.up (HL.o.laidK HG.o) r HRO.o HGE.o).mono ?_;rintro e w7 ⟨rfl,hp,hkp⟩;have HL7:=hI (zP O w0 K w7 P D n (S1.commit r) S1.data) (HL.o.turned hp hkp (HL.o.inv.committed HGE.o HRO.o) HL.o.up);have HK7:=Hi (HK.o.trans hkp);clear hp hkp HL HK HD HC c0;dsimp only;go_wp2_with fail;refine (yi _ w7.1.size 0 .nilIface _ (zi.nil _ _) (Nat.le_refl _)).mono ?_;rintro e w8 ⟨v8,rfl,he8,hb8⟩;obtain rfl:=he8.zero;have HL8:=Hi (HL7.o.carry H hb8);have HK8:=Hi (HK7.o.trans (zP.keptB HL7.o hb8));clear he8 hb8 HL7 HK7;dsimp only;go_wp2_with fail;refine leaves_cons (f:=23) (args:=#[ptr P]) (by simp) (by simp [go_sem]) ?_;refine (KO (O:=O) HA HL8.o.pg).mono ?_;rintro e u' w9 ⟨rfl,rfl,hp,hk⟩;have h9:=HL8.o.turned hp hk HL8.o.inv.aborted HL8.o.up;exact ⟨_,results_tmp rfl _ _ _,rfl,h9,HK8.o.trans hk⟩
end
end
section
theorem Jx {w:World} {P D:Nat} {s:Pst} (h:yH w P D s):CallsD Tryz.prog 23 #[ptr P] .returning w fun e u' w'=>u' = .returning /\ e = .returned (.tuple #[]) /\ yH w' P D s.abort /\ wS P w w':=by
 have HF:=Hi (vI h);clear h
 go_enter_d Tryz.func23,Tryz.ntmps23
 go_wp2_with fail;refine HF.o.mono ?_;rintro e w' ⟨rfl,h1,h2⟩;have H1:=Hi h1;have H2:=Hi h2;clear h1 h2 HF;go_wp2_with fail;exact bodyPost_end (results_none rfl _ _ _) rfl ⟨rfl,H1.o,H2.o⟩
theorem abD:AbD Zi:=fun {B w P D s} h=>(Jx h.2).mono (by
 rintro e u' w' ⟨rfl,rfl,h1,h2⟩;exact ⟨rfl,rfl,B,⟨h.1,h1⟩,fun b hb=>.inl hb,h2.less fun k hk=>⟨hk.1,fun hh=>hk.2 ((h.1 k).2 hh)⟩⟩)
end
end Go.Proofs.YtafclmbecmgbnaaGreatDoor
set_option maxRecDepth 100000
set_option maxHeartbeats 2000000
namespace Go.Proofs.YtafclmbecmgbnaaGreatDoor
open Go.RowKit
theorem zaT {n:Nat} {S S1 S2:TS} {root r e:Int} {cs:List Pr} {j:Nat} {c:Pr} (h:xQ n S root (cs.take j) = (.ok r,S1)) (hc:cs[j]? = some c) (he:Zj n S1 r c.1 c.2 = (.error e,S2)):xQ n S root cs = (.error e,S2):=by
 have h1:=qL n (cs.take (j + 1)) (cs.drop (j + 1)) S root;rw [List.take_append_drop,YK h hc,he] at h1;exact h1
section
variable {O:zV} (H:ye O) (HA:AbD O)
include H HA
theorem VI {w0:World} {K:Nat -> Prop} {w:World} {b P D n:Nat} {S:TS} {firm:Nat -> List UInt8} (hl:zP O w0 K w P D n S firm) (hg:yC w0) (hd:yV w b P) (hKb:K b) {A:Option Addr} {cs:List Pr} {m cap:Nat} (hc:Zm w K A cs) (hm:cs.length = m)
  (hmay:∀ c ∈ cs,yI c.1 c.2.size) (hsoft:∀ j,j <= m -> (xQ n S S.s.sup.root (cs.take j)).2.d.soft.length <= 99900) {ec:Int} {S':TS} (hrun:xQ n S S.s.sup.root cs = (.error ec,S')) (hm2:m <= 1000) :
  Calls Tryz.prog 41 #[ptr b,.slice A m cap] w fun e w'=>(∃ t x,e = .returned (.iface t x)) /\ zP O w0 K w' P D n S'.abort firm /\ zh K w w':=by
 have HL:=Hi hl;have HD:=Hi hd;have HKB:=Hi hKb;have HC:=Hi hc;have HM:=Hi hm;have HMAY:=Hi hmay;have HSOFT:=Hi hsoft;have HRUN:=Hi hrun;have HG:=Hi hg;clear hl hg hd hKb hc hm hmay hsoft hrun
 go_enter_defers Tryz.func41,Tryz.ntmps41
 go_wp2_with fail
 go_loopw [17] (fun u wr=>∃ j:Nat,j <= m /\ u = .int .i64 (j:Int) /\ Below w.1.size w wr) (fun u _=>m - (intOf u).toNat)
 case atStart=>exact ⟨0,Nat.zero_le _,rfl,.refl _ _⟩
 case round =>
  obtain ⟨j,hj,rfl,hb⟩:=hrel;have HB:=Hi hb;clear hb;by_cases hjm:j < m
  ·have hjl:j < cs.length:=by rw [HM.o]; exact hjm
   obtain ⟨g,o,hA,hKg,hgl,hcc⟩:=HC.o (by omega);subst hA;obtain ⟨key,val,hcj⟩:∃ key val,cs[j]? = some (key,val):=⟨_,_,List.getElem?_eq_getElem hjl⟩
   have h1:=(hcc j _ hcj).1;have h2:=(hcc j _ hcj).2;have c0:wr.cell? ⟨g,o + j * 2,none⟩ = some (.int .i64 key):=(HB.o.cell (p:=⟨g,o + j * 2,none⟩) hgl).trans h1;have c1:wr.cell? ⟨g,o + j * 2 + 1,none⟩ = some (.string val):=(HB.o.cell (p:=⟨g,o + j * 2 + 1,none⟩) hgl).trans h2;have hmj:yI key val.size:=HMAY.o _ (List.mem_of_getElem? hcj);have HMJ:=hI (decide (yI key val.size) = true) (decide_eq_true hmj);have HCJ:=Hi hcj;clear h1 h2 hcc hmj hcj hKg hgl;go_wp2_with fail;refine (W3 key val _).mono ?_;rw [HMJ.o];rintro e w2 ⟨rfl,hb⟩;have HB2:=hI (Below w.1.size w w2) ((HB.o.alloc HB.o.size _).trans (hb.mono (by have:=HB.o.size; simp; omega)));clear hb HB c0 c1;have hjw:wrap64 ((j:Int) + 1) = (j:Int) + 1:=by unfold wrap64; omega
   go_wp2_with fail
   go_roundw
   case rel=>exact ⟨j + 1,hjm,by first | rfl | simp,HB2.o⟩
   case measure=>simp [intOf]; omega
  ·obtain rfl:j = m:=by omega
   have HL1:=Hi (HL.o.carry H HB.o);have HK1:=Hi (zP.keptB HL.o HB.o);have HD1:=Hi (HD.o.carry HB.o);have HC1:=Hi (HC.o.kept HK1.o);have c0:=HD1.o.cell;clear HL HB HD HC;go_wp2_with fail;refine (H.pgRoot HL1.o.pg).mono ?_;rintro e w2 ⟨rfl,hb⟩;have HL2:=Hi (HL1.o.carry H hb);have HK2:=Hi (HK1.o.trans (zP.keptB HL1.o hb));have HD2:=Hi (HD1.o.carry hb);have HC2:=Hi (HC1.o.kept (zP.keptB HL1.o hb));clear hb HL1 HK1 HD1 HC1 c0;obtain ⟨root,HROOT⟩:∃ root,Hid (S.s.sup.root = root):=⟨_,Hi (rfl)⟩
   rw [HROOT.o] at HRUN HSOFT ⊢;dsimp only;go_wp2_with fail
   go_loopw [7,37] (fun u7 u37 wr=>∃ (i:Nat) (r:Int) (S1:TS),i <= j /\ u7 = .int .i64 r /\ u37 = .int .i64 (i:Int) /\ xQ n S root (cs.take i) = (.ok r,S1) /\ zP O w0 K wr P D n S1 firm /\ zh K w wr /\ yV wr b P /\ Zm wr K A cs) (fun _ u37 _=>j - (intOf u37).toNat)
   case atStart=>exact ⟨0,root,S,Nat.zero_le _,rfl,rfl,rfl,HL2.o,HK2.o,HD2.o,HC2.o⟩
   case round =>
    clear HL2 HK2 HD2 HC2;obtain ⟨i,r,S1,hi,rfl,rfl,hri,hl,hk,hd,hc⟩:=hrel;have HI:=Hi hi;have HRI:=Hi hri;have HL:=Hi hl;have HK:=Hi hk;have HD:=Hi hd;have HC:=Hi hc;clear hi hri hl hk hd hc;by_cases him:i < j
    ·have hil:i < cs.length:=by rw [HM.o]; exact him
     obtain ⟨g,o,hA,hKg,hgl,hcc⟩:=HC.o (by omega);subst hA;obtain ⟨key,val,hci⟩:∃ key val,cs[i]? = some (key,val):=⟨_,_,List.getElem?_eq_getElem hil⟩
     have c0:=(hcc i _ hci).1;have c1:=(hcc i _ hci).2;have HMY:=hI (yI key val.size) (HMAY.o _ (List.mem_of_getElem? hci));obtain ⟨Q,HCH⟩:∃ Q,Hid (Zj n S1 r key val = Q):=⟨_,Hi (rfl)⟩
     have HSF:=hI (S1.d.soft.length <= 99900) (by have:=HSOFT.o i HI.o; rwa [HRI.o] at this);have HST:=hI (∀ e2 S2,Q = (.error e2,S2) -> S2 = S') fun e2 S2 e=>by
      have h1:=zaT HRI.o hci (HCH.o.trans e);rw [HRUN.o] at h1;injection h1 with _ h1
      exact h1.symm
     have HNX:=hI (∀ r2 S2,Q = (.ok r2,S2) -> xQ n S root (cs.take (i + 1)) = (.ok r2,S2)) fun r2 S2 e=>by
      rw [YK HRI.o hci];exact HCH.o.trans e
     clear hcc hci hKg hgl;dsimp only at c0 c1;obtain ⟨w3,HW3⟩:=hY (wr.alloc (.cells #[.int .i64 key,.string val] 93));have HB3:=hI (Below wr.1.size wr w3) (by rw [HW3.o]; exact (Below.refl _ _).alloc (Nat.le_refl _) _);have HL3:=Hi (HL.o.carry H HB3.o);have HK3:=Hi (HK.o.trans (zP.keptB HL.o HB3.o));have HD3:=Hi (HD.o.carry HB3.o);have HC3:=Hi (HC.o.kept (zP.keptB HL.o HB3.o));clear HB3 HL HK HD HC;go_wp2_with fail;rw [<- HW3.o];clear c0 c1;refine (Zq H HL3.o HG.o HSF.o HD3.o HKB.o r ⟨HMY.o.1,HMY.o.2.1⟩ (by have:=HMY.o.2.2; omega)).mono ?_;rw [HCH.o];obtain ⟨e2 | r2,S2⟩:=Q
     ·obtain rfl:=HST.o _ _ rfl;rintro e w4 ⟨hl,hk,hc0,k4,v4,rfl,he⟩;obtain ⟨t4,x4,rfl⟩:=he.some hc0;have HE4:=Hi he;have HS4:=hI (w3.1.size <= w4.1.size) hk.size;have HL4:=Hi hl;have HK4:=Hi (HK3.o.trans hk);have HC0:=Hi hc0;clear hl hk hc0 he HL3 HK3 HD3 HC3 HW3 HST HNX HCH HSF HMY HRI;dsimp only;go_wp2_with fail;refine (yi _ w3.1.size e2 _ _ HE4.o HS4.o).mono ?_;rintro e w8 ⟨v8,rfl,he8,hb8⟩;obtain ⟨t8,x8,rfl⟩:=he8.some HC0.o;have HL8:=Hi (HL4.o.carry H hb8);have HK8:=Hi (HK4.o.trans (zP.keptB HL4.o hb8));clear he8 hb8 HL4 HK4 HE4;dsimp only;go_wp2_with fail;refine leaves_cons (f:=23) (args:=#[ptr P]) (by simp) (by simp [go_sem]) ?_;refine (KO (O:=O) HA HL8.o.pg).mono ?_;rintro e u' w9 ⟨rfl,rfl,hp,hk⟩;have h9:=HL8.o.turned hp hk HL8.o.inv.aborted HL8.o.up;exact ⟨_,results_tmp rfl _ _ _,⟨t8,x8,rfl⟩,h9,HK8.o.trans hk⟩
     ·have HR2:=hI (xQ n S root (cs.take (i + 1)) = (.ok r2,S2)) (HNX.o _ _ rfl);clear HST HNX HCH;rintro e w4 ⟨hl,hk,rfl⟩;have HL4:=Hi hl;have HK4:=Hi (HK3.o.trans hk);have HD4:=Hi (HD3.o.kept hk HKB.o);have HC4:=Hi (HC3.o.kept hk);clear hl hk HL3 HK3 HD3 HC3 HW3;have hiw:wrap64 ((i:Int) + 1) = (i:Int) + 1:=by unfold wrap64; omega
      dsimp only;go_wp2_with fail
      go_roundw
      case rel=>exact ⟨i + 1,r2,S2,him,rfl,by first | rfl | simp,HR2.o,HL4.o,HK4.o,HD4.o,HC4.o⟩
      case measure=>simp [intOf]; omega
    ·have hij:i = j:=by have:=HI.o; omega
     subst hij;exfalso;have he:xQ n S root (cs.take i) = xQ n S root cs:=by rw [List.take_of_length_le (by rw [HM.o]; exact Nat.le_refl _)]
     rw [HRI.o,HRUN.o] at he;injection he with e1 _
     cases e1
end
