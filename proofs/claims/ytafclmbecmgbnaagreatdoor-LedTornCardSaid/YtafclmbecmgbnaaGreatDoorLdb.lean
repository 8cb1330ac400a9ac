/-
  Ldb. Conditions: as said.
-/
import Derived.Test.YtafclmbecmgbnaaGreatDoorLda
import Derived.Test.YtafclmbecmgbnaaGreatDoorPgr
set_option maxRecDepth 100000
set_option maxHeartbeats 2000000
namespace Go.Proofs.YtafclmbecmgbnaaGreatDoor
open Go.RowKit
section
def AbD (O:ye):Prop:=∀ {B:Nat -> Prop} {w:World} {P D:Nat} {s:Pst},O B w P D s -> CallsD Tryz.prog 23 #[ptr P] .returning w fun e u' w'=>u' = .returning /\ e = .returned (.tuple #[]) /\ ∃ B',O B' w' P D s.abort /\ (∀ b,B' b -> B b \/ w.1.size <= b) /\ zf (fun b=>b < w.1.size /\ ¬ B b) w w'
theorem zdn {O:ye} (HA:AbD O) {K:Nat -> Prop} {w:World} {P D n:Nat} {d:Dk} {s:Pst} (h:zZ O K w P D n d s) :
  CallsD Tryz.prog 23 #[ptr P] .returning w fun e u' w'=>u' = .returning /\ e = .returned (.tuple #[]) /\ zZ O K w' P D n d s.abort /\ zf K w w':=by
 obtain ⟨B,h1,h2,h3,h4⟩:=h;refine (HA h1).mono ?_;rintro e u' w' ⟨rfl,rfl,B',h5,h6,h7⟩;have h8:∀ b,K b -> b < w.1.size /\ ¬ B b:=fun b hb=>⟨h3 b hb,fun hb2=>h4 b hb2 hb⟩
 refine ⟨rfl,rfl,⟨B',h5,?_,fun k hk=>Nat.lt_of_lt_of_le (h3 k hk) h7.size,fun b hb hk=>?_⟩,⟨h7.os,h7.tape,h7.output,h7.size,fun k hk=>h7.block k (h8 k hk)⟩⟩
 ·refine h2.off (B:=B) (fun b hb=>.inr hb) h7 fun k hk=>?_
  rcases hk with hk | hk
  ·exact .inl (.inl hk)
  ·rcases h6 k hk with h | h
   ·exact .inl (.inr h)
   ·exact .inr h
 ·rcases h6 b hb with h | h
  ·exact h4 b h hk
  ·have:=h3 b hk;omega
def Xh (w:World) (K:Nat -> Prop) (A:Option Addr) (cs:List Pr):Prop:=0 < cs.length -> ∃ g o,A = some ⟨g,o,none⟩ /\ K g /\ g < w.1.size /\ ∀ i c,cs[i]? = some c -> w.cell? ⟨g,o + i * 2,none⟩ = some (.int .i64 c.1) /\ w.cell? ⟨g,o + i * 2 + 1,none⟩ = some (.string c.2)
theorem Xh.kept {w w':World} {K:Nat -> Prop} {A:Option Addr} {cs:List Pr} (h:Xh w K A cs) (hk:zf K w w'):Xh w' K A cs:=fun hp=>by
 obtain ⟨g,o,e,h1,h2,h3⟩:=h hp;exact ⟨g,o,e,h1,Nat.lt_of_lt_of_le h2 hk.size,fun i c hc=>⟨(hk.cell (p:=⟨g,o + i * 2,none⟩) h1).trans (h3 i c hc).1,(hk.cell (p:=⟨g,o + i * 2 + 1,none⟩) h1).trans (h3 i c hc).2⟩⟩
theorem XH (n:Nat):∀ (a b:List Pr) (S:TS) (root:Int),ki n S root (a ++ b) = zd9 (ki n S root a) fun k S'=>ki n S' k b
 | [],b,S,root=>rfl
 | c :: a,b,S,root=>by
  rw [List.cons_append,ki,ki];rcases h:YY n S root c.1 c.2 with ⟨e | k,S'⟩
  ·rfl
  ·exact XH n a b S' k
theorem zbF {n:Nat} {S S':TS} {root r':Int} {cs:List Pr} (h:ki n S root cs = (.ok r',S')) (j:Nat):∃ r S1,ki n S root (cs.take j) = (.ok r,S1):=by
 have h1:=XH n (cs.take j) (cs.drop j) S root;rw [List.take_append_drop,h] at h1;rcases h2:ki n S root (cs.take j) with ⟨e | k,S1⟩
 ·rw [h2] at h1;cases h1
 ·exact ⟨k,S1,rfl⟩
theorem zbE {n:Nat} {S S1:TS} {root r:Int} {cs:List Pr} {j:Nat} {c:Pr} (h:ki n S root (cs.take j) = (.ok r,S1)) (hc:cs[j]? = some c):ki n S root (cs.take (j + 1)) = YY n S1 r c.1 c.2:=by
 rw [List.take_add_one,hc];show ki n S root (cs.take j ++ [c]) = _;rw [VN,h];rfl
theorem zX.keptB {O:ye} {w0:World} {K:Nat -> Prop} {w w':World} {P D n:Nat} {S:TS} {firm:Nat -> List UInt8} (h:zX O w0 K w P D n S firm) (hb:Below w.1.size w w'):zf K w w':=zf.of_below hb h.there
section
variable {O:ye} (H:ym O) (HA:AbD O)
include H HA
theorem Xz {w0:World} {K:Nat -> Prop} {w:World} {b P D n:Nat} {S:TS} {firm:Nat -> List UInt8} (hl:zX O w0 K w P D n S firm) (hg:yL w0) (hd:xc w b P) (hKb:K b) {A:Option Addr} {cs:List Pr} {m cap:Nat} (hc:Xh w K A cs) (hm:cs.length = m)
  (hmay:∀ c ∈ cs,xa c.1 c.2.size) (hsoft:∀ j,j <= m -> (ki n S S.s.sup.root (cs.take j)).2.d.soft.length <= 99900) {r':Int} {S':TS} (hrun:ki n S S.s.sup.root cs = (.ok r',S')) (hro:rootOk S'.s r' = true) (hge:S'.s.sup.gen + 1 < 4294967296) (hm2:m <= 1000) :
  Calls Tryz.prog 41 #[ptr b,.slice A m cap] w fun e w'=>e = .returned .nilIface /\ zX O w0 K w' P D n (S'.commit r') S'.data /\ zf K w w':=by
 have HL:=Hi hl;have HD:=Hi hd;have HKB:=Hi hKb;have HC:=Hi hc;have HM:=Hi hm;have HMAY:=Hi hmay;have HSOFT:=Hi hsoft;have HRUN:=Hi hrun;have HRO:=Hi hro;have HGE:=Hi hge;have HG:=Hi hg;clear hl hg hd hKb hc hm hmay hsoft hrun hro hge
 go_enter_defers Tryz.func41,Tryz.ntmps41
 go_wp2_with fail
 go_loopw [17] (fun u wr=>∃ j:Nat,j <= m /\ u = .int .i64 (j:Int) /\ Below w.1.size w wr) (fun u _=>m - (intOf u).toNat)
 case atStart=>exact ⟨0,Nat.zero_le _,rfl,.refl _ _⟩
 case round =>
  obtain ⟨j,hj,rfl,hb⟩:=hrel;have HB:=Hi hb;clear hb;by_cases hjm:j < m
  ·have hjl:j < cs.length:=by rw [HM.o]; exact hjm
   obtain ⟨g,o,hA,hKg,hgl,hcc⟩:=HC.o (by omega);subst hA;obtain ⟨key,val,hcj⟩:∃ key val,cs[j]? = some (key,val):=⟨_,_,List.getElem?_eq_getElem hjl⟩
   have h1:=(hcc j _ hcj).1;have h2:=(hcc j _ hcj).2;have c0:wr.cell? ⟨g,o + j * 2,none⟩ = some (.int .i64 key):=(HB.o.cell (p:=⟨g,o + j * 2,none⟩) hgl).trans h1;have c1:wr.cell? ⟨g,o + j * 2 + 1,none⟩ = some (.string val):=(HB.o.cell (p:=⟨g,o + j * 2 + 1,none⟩) hgl).trans h2;have hmj:xa key val.size:=HMAY.o _ (List.mem_of_getElem? hcj);have HMJ:=hI (decide (xa key val.size) = true) (decide_eq_true hmj);have HCJ:=Hi hcj;clear h1 h2 hcc hmj hcj hKg hgl;go_wp2_with fail;refine (zbr key val _).mono ?_;rw [HMJ.o];rintro e w2 ⟨rfl,hb⟩;have HB2:=hI (Below w.1.size w w2) ((HB.o.alloc HB.o.size _).trans (hb.mono (by have:=HB.o.size; simp; omega)));clear hb HB c0 c1;have hjw:wrap64 ((j:Int) + 1) = (j:Int) + 1:=by unfold wrap64; omega
   go_wp2_with fail
   go_roundw
   case rel=>exact ⟨j + 1,hjm,by first | rfl | simp,HB2.o⟩
   case measure=>simp [intOf]; omega
  ·obtain rfl:j = m:=by omega
   have HL1:=Hi (HL.o.carry H HB.o);have HK1:=Hi (zX.keptB HL.o HB.o);have HD1:=Hi (HD.o.carry HB.o);have HC1:=Hi (HC.o.kept HK1.o);have c0:=HD1.o.cell;clear HL HB HD HC;go_wp2_with fail;refine (H.pgRoot HL1.o.pg).mono ?_;rintro e w2 ⟨rfl,hb⟩;have HL2:=Hi (HL1.o.carry H hb);have HK2:=Hi (HK1.o.trans (zX.keptB HL1.o hb));have HD2:=Hi (HD1.o.carry hb);have HC2:=Hi (HC1.o.kept (zX.keptB HL1.o hb));clear hb HL1 HK1 HD1 HC1 c0;obtain ⟨root,HROOT⟩:∃ root,Hid (S.s.sup.root = root):=⟨_,Hi (rfl)⟩
   rw [HROOT.o] at HRUN HSOFT ⊢;dsimp only;go_wp2_with fail
   go_loopw [7,37] (fun u7 u37 wr=>∃ (i:Nat) (r:Int) (S1:TS),i <= j /\ u7 = .int .i64 r /\ u37 = .int .i64 (i:Int) /\ ki n S root (cs.take i) = (.ok r,S1) /\ zX O w0 K wr P D n S1 firm /\ zf K w wr /\ xc wr b P /\ Xh wr K A cs) (fun _ u37 _=>j - (intOf u37).toNat)
   case atStart=>exact ⟨0,root,S,Nat.zero_le _,rfl,rfl,rfl,HL2.o,HK2.o,HD2.o,HC2.o⟩
   case round =>
    clear HL2 HK2 HD2 HC2;obtain ⟨i,r,S1,hi,rfl,rfl,hri,hl,hk,hd,hc⟩:=hrel;have HI:=Hi hi;have HRI:=Hi hri;have HL:=Hi hl;have HK:=Hi hk;have HD:=Hi hd;have HC:=Hi hc;clear hi hri hl hk hd hc;by_cases him:i < j
    ·have hil:i < cs.length:=by rw [HM.o]; exact him
     obtain ⟨g,o,hA,hKg,hgl,hcc⟩:=HC.o (by omega);subst hA;obtain ⟨key,val,hci⟩:∃ key val,cs[i]? = some (key,val):=⟨_,_,List.getElem?_eq_getElem hil⟩
     have c0:=(hcc i _ hci).1;have c1:=(hcc i _ hci).2;have HMY:=hI (xa key val.size) (HMAY.o _ (List.mem_of_getElem? hci));obtain ⟨r2,S2,hr2⟩:=zbF HRUN.o (i + 1);have HR2:=Hi hr2;have HCH:=hI (YY n S1 r key val = (.ok r2,S2)) (by rw [<- zbE HRI.o hci]; exact hr2);have HSF:=hI (S1.d.soft.length <= 99900) (by have:=HSOFT.o i HI.o; rwa [HRI.o] at this);clear hcc hci hr2 hKg hgl;dsimp only at c0 c1;obtain ⟨w3,HW3⟩:=hY (wr.alloc (.cells #[.int .i64 key,.string val] 93));have HB3:=hI (Below wr.1.size wr w3) (by rw [HW3.o]; exact (Below.refl _ _).alloc (Nat.le_refl _) _);have HL3:=Hi (HL.o.carry H HB3.o);have HK3:=Hi (HK.o.trans (zX.keptB HL.o HB3.o));have HD3:=Hi (HD.o.carry HB3.o);have HC3:=Hi (HC.o.kept (zX.keptB HL.o HB3.o));clear HB3 HL HK HD HC;go_wp2_with fail;rw [<- HW3.o];clear c0 c1;refine (Vc H HL3.o HG.o HSF.o HD3.o HKB.o r ⟨HMY.o.1,HMY.o.2.1⟩ (by have:=HMY.o.2.2; omega)).mono ?_;rw [HCH.o];rintro e w4 ⟨hl,hk,rfl⟩;have HL4:=Hi hl;have HK4:=Hi (HK3.o.trans hk);have HD4:=Hi (HD3.o.kept hk HKB.o);have HC4:=Hi (HC3.o.kept hk);clear hl hk HL3 HK3 HD3 HC3 HW3;have hiw:wrap64 ((i:Int) + 1) = (i:Int) + 1:=by unfold wrap64; omega
     dsimp only;go_wp2_with fail
     go_roundw
     case rel=>exact ⟨i + 1,r2,S2,him,rfl,by first | rfl | simp,HR2.o,HL4.o,HK4.o,HD4.o,HC4.o⟩
     case measure=>simp [intOf]; omega
    ·have hij:i = j:=by have:=HI.o; omega
     subst hij;have he:ki n S root (cs.take i) = (.ok r',S'):=by rw [List.take_of_length_le (by rw [HM.o]; exact Nat.le_refl _)]; exact HRUN.o
     rw [HRI.o] at he;injection he with e1 e2
     injection e1 with e1
     subst e1 e2;have c0:=HD.o.cell;go_wp2_with fail;refine (H.commitYes HL.o.pg HL.o.inv HL.o.up (HL.o.laidK HG.o) r HRO.o HGE.o).mono ?_;rintro e w7 ⟨rfl,hp,hkp⟩;have HL7:=hI (zX O w0 K w7 P D n (S1.commit r) S1.data) (HL.o.turned hp hkp (HL.o.inv.committed HGE.o HRO.o) HL.o.up);have HK7:=Hi (HK.o.trans hkp);clear hp hkp HL HK HD HC c0;dsimp only;go_wp2_with fail;refine (yv _ w7.1.size 0 .nilIface _ (zi.nil _ _) (Nat.le_refl _)).mono ?_;rintro e w8 ⟨v8,rfl,he8,hb8⟩;obtain rfl:=he8.zero;have HL8:=Hi (HL7.o.carry H hb8);have HK8:=Hi (HK7.o.trans (zX.keptB HL7.o hb8));clear he8 hb8 HL7 HK7;dsimp only;go_wp2_with fail;refine leaves_cons (f:=23) (args:=#[ptr P]) (by simp) (by simp [go_sem]) ?_;refine (zdn (O:=O) HA HL8.o.pg).mono ?_;rintro e u' w9 ⟨rfl,rfl,hp,hk⟩;have h9:=HL8.o.turned hp hk HL8.o.inv.aborted HL8.o.up;exact ⟨_,results_tmp rfl _ _ _,rfl,h9,HK8.o.trans hk⟩
end
end
section
theorem J8 {w:World} {P D:Nat} {s:Pst} (h:yN w P D s):CallsD Tryz.prog 23 #[ptr P] .returning w fun e u' w'=>u' = .returning /\ e = .returned (.tuple #[]) /\ yN w' P D s.abort /\ ve P w w':=by
 have HF:=Hi (vV h);clear h
 go_enter_d Tryz.func23,Tryz.ntmps23
 go_wp2_with fail;refine HF.o.mono ?_;rintro e w' ⟨rfl,h1,h2⟩;have H1:=Hi h1;have H2:=Hi h2;clear h1 h2 HF;go_wp2_with fail;exact bodyPost_end (results_none rfl _ _ _) rfl ⟨rfl,H1.o,H2.o⟩
theorem abD:AbD ZH:=fun {B w P D s} h=>(J8 h.2).mono (by
 rintro e u' w' ⟨rfl,rfl,h1,h2⟩;exact ⟨rfl,rfl,B,⟨h.1,h1⟩,fun b hb=>.inl hb,h2.less fun k hk=>⟨hk.1,fun hh=>hk.2 ((h.1 k).2 hh)⟩⟩)
end
