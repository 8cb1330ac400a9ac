/-
  Ta. Conditions: as said.
-/
import Derived.Test.YtafclmbecmgbnaaGreatDoorNds
import Derived.Test.YtafclmbecmgbnaaGreatDoorPgLaw
import Derived.Test.YtafclmbecmgbnaaGreatDoorTrModel
set_option maxRecDepth 100000
set_option maxHeartbeats 4000000
open Nat renaming le_refl -> zfI,le_trans -> zfH,zero_le -> zf6
open List renaming length_drop -> zf8,length_take -> zfZ,getD_eq_getElem?_getD -> zfL,getElem?_eq_getElem -> zfM,length_take_le' -> zgt,mem_of_mem_take -> zgu,mem_of_mem_drop -> zgv
namespace Go.Proofs.YtafclmbecmgbnaaGreatDoor
open Go.RowKit
section
theorem ya (w:World) (cs:Array Value) (t:TypeId) (j:Nat):(w.alloc (.cells cs t)).frozen? ⟨w.1.size,j,none⟩ = false:=by
 unfold World.frozen? World.alloc;simp
theorem zl {B:Nat} {w w':World} (hb:Below B w w') {p:Nat} (hp:p < B) (h:∀ j,w.frozen? ⟨p,j,none⟩ = false) (j:Nat):w'.frozen? ⟨p,j,none⟩ = false :=
 (World.frozen?_of_block (w:=w) (a:=⟨p,j,none⟩) (hb.block p hp)).trans (h j)
section
variable {P:Program} {ops:Array Oper} {md:Region.Mode} {Q:Exit -> Act -> World -> Prop} {S:World -> Prop}
theorem JI {i j:Nat} {oi oj:Oper} {fuel:Nat} {listed:Array Bool} {a:Act} {w:World} (hi:ops[i]? = some oi) (hj:ops[j]? = some oj) (hr:Region.ready md ops listed = [i,j])
  (h:∀ K:Act -> World -> Prop,Hid (∀ a w,S w -> wpAnyH P md ops Q S fuel (listed.setIfInBounds i true) a w -> K a w) -> if Region.wanted oi (yielded ops a.tmps) = true then Oper.wp P oi a w K Q else K (a.put oi.dst undef) w)
  (h2:∀ K:Act -> World -> Prop,Hid (∀ a w,S w -> wpAnyH P md ops Q S fuel (listed.setIfInBounds j true) a w -> K a w) -> if Region.wanted oj (yielded ops a.tmps) = true then Oper.wp P oj a w K Q else K (a.put oj.dst undef) w):wpAnyH P md ops Q S (fuel + 1) listed a w :=
 wpAnyH_ready hr (by simp) (AllReadyH.cons hi (fun K hK=>h K (fun a w h1 h2=>hK.out a w h1 fun _=>h2)) (AllReadyH.cons hj (fun K hK=>h2 K (fun a w h1 h2=>hK.out a w h1 fun _=>h2)) AllReadyH.nil))
end
def zC (w:World) (p:Nat) (l:zd) (x:Nd):World:=((w.setCell ⟨p,0,none⟩ (.slice l.A x.keys.length l.ca)).setCell ⟨p,1,none⟩ (.slice l.B x.vals.length l.cb)).setCell ⟨p,2,none⟩ (.slice l.C x.kids.length l.cc)
theorem zj {w:World} {p:Nat} {l:zd} {x:Nd} {i:Nat} (hi:i ≠ p):(zC w p l x).heap[i]? = w.1[i]?:=by
 unfold zC;rw [World.heap_setCell_far9 _ _ _ hi,World.heap_setCell_far9 _ _ _ hi,World.heap_setCell_far9 _ _ _ hi]
theorem zN (w:World) (p:Nat) (l:zd) (x:Nd):(zC w p l x).heap.size = w.1.size:=by unfold zC; simp
theorem zF {w:World} {p:Nat} {l:zd} {x:Nd} {l0:zd} {x0:Nd} (h:zb w p l0 x0):zb (zC w p l x) p l x:=zb.set3 h.c0 h.c1 h.c2
theorem xg {w0 w:World} {B p:Nat} {l:zd} {x:Nd} (h:Below B w0 w) (hp:B <= p):Below B w0 (zC w p l x):=((h.setCell hp _).setCell hp _).setCell hp _
theorem yV {w:World} {p lo:Nat} {l:zd} {x:Nd} {c:Int} {v:Value} (h:zi w lo c v) (hp:p < lo):zi (zC w p l x) lo c v :=
 h.carry (by rw [zN]; exact zfI _) fun i h1 _=>zj (by omega)
theorem vx {w:World} {p b:Nat} {l m:zd} {x y:Nd} (h:zo w b m y) (hp:¬ m.has p):zo (zC w p l x) b m y :=
 h.keep (by rw [zN]; exact zfI _) fun g hg=>zj (by rintro rfl; exact hp hg)
theorem zb.keep {w w':World} {b:Nat} {l:zd} {x:Nd} (h:zb w b l x) (hb:w'.1[b]? = w.1[b]?):zb w' b l x :=
 ⟨(World.cell?_of_block (w:=w) (a:=⟨b,0,none⟩) hb).trans h.c0,(World.cell?_of_block (w:=w) (a:=⟨b,1,none⟩) hb).trans h.c1,(World.cell?_of_block (w:=w) (a:=⟨b,2,none⟩) hb).trans h.c2⟩
theorem zd.has_none (g:Nat):¬ zd.none_.has g:=by
 rintro (⟨a,h,_⟩ | ⟨a,h,_⟩ | ⟨a,h,_⟩) <;> cases h
abbrev zw (M:Nat -> Prop) (w w':World):Prop:=zf (fun k=>k < w.1.size /\ ¬ M k) w w'
theorem zw.of_below {M:Nat -> Prop} {w w':World} (h:Below w.1.size w w'):zw M w w':=⟨h.os,h.tape,h.output,h.size,fun k hk=>h.block k hk.1⟩
theorem zw.more {M N:Nat -> Prop} {w w':World} (h:zw M w w') (hM:∀ k,k < w.1.size -> M k -> N k):zw N w w':=⟨h.os,h.tape,h.output,h.size,fun k hk=>h.block k ⟨hk.1,fun h2=>hk.2 (hM k hk.1 h2)⟩⟩
theorem zw.trans {M:Nat -> Prop} {a b c:World} (h:zw M a b) (k:zw (fun i=>M i \/ a.1.size <= i) b c):zw M a c :=
 ⟨k.os.trans h.os,k.tape.trans h.tape,k.output.trans h.output,zfH h.size k.size,fun i hi=>(k.block i ⟨Nat.lt_of_lt_of_le hi.1 h.size,fun h2=>h2.elim hi.2 (fun h3=>absurd hi.1 (by omega))⟩).trans (h.block i hi)⟩
theorem zw.below {M:Nat -> Prop} {B:Nat} {w w':World} (h:zw M w w') (hB:B <= w.1.size) (hM:∀ k,M k -> B <= k):Below B w w':=⟨h.os,h.tape,h.output,h.size,fun k hk=>h.block k ⟨Nat.lt_of_lt_of_le hk hB,fun h2=>absurd (hM k h2) (by omega)⟩⟩
section
variable {O:ye} {w0:World} {K:Nat -> Prop} {w w':World} {P D n:Nat} {d:Dk} {s:Pst} {data firm:Nat -> List UInt8}
variable (H:ym O)
include H
theorem kM.off {M L:Nat -> Prop} (h:kM O w0 K w P D n d s data firm) (ht:zw M w w') (hM:∀ k,M k -> K k /\ w0.1.size <= k) (hL:∀ k,L k -> K k \/ w.1.size <= k) (hLt:zR L w') (hlow:∀ k,k < w0.1.size -> L k):kM O w0 L w' P D n d s data firm:=by
 obtain ⟨B,h1,h2,h3,h4⟩:=h.pg;have hBlt:=H.lt h1;refine ⟨⟨B,H.carry h1 fun b hb=>ht.block b ⟨hBlt b hb,fun hm=>h4 b hb (hM b hm).1⟩,?_,hLt,fun b hb hl=>?_⟩,h.inv,h.up,?_,hlow⟩
 ·refine zB.off (B:=M) h2 (fun b hb=>.inl (hM b hb).1) ht fun k hk=>?_
  rcases hk with hk | hk
  ·exact (hL k hk).imp .inl id
  ·exact .inl (.inr hk)
 ·rcases hL b hl with h5 | h5
  ·exact h4 b hb h5
  ·have:=hBlt b hb;omega
 ·exact h.below.trans (ht.below h.below.size fun k hk=>(hM k hk).2)
theorem kM.less {L:Nat -> Prop} (h:kM O w0 K w P D n d s data firm) (hL:∀ k,L k -> K k) (hlow:∀ k,k < w0.1.size -> L k):kM O w0 L w P D n d s data firm :=
 h.off H (M:=fun _=>False) ⟨rfl,rfl,rfl,zfI _,fun _ _=>rfl⟩ (fun _ h=>h.elim) (fun k hk=>.inl (hL k hk)) (fun k hk=>h.there k (hL k hk)) hlow
end
end
section
theorem xX (n:Int) (hn:n ≠ 0) (w:World):Calls Tryz.prog 62 #[.int .i64 n] w (xb n w.1.size w):=by
 go_enter Tryz.func62,Tryz.ntmps62
 go_wp2_with fail;refine (yv _ w.1.size n _ w (.inr ⟨hn,.base⟩) (zfI _)).mono ?_;rintro e w' ⟨v,rfl,he,hb⟩;have HE:=Hi he;have HB:=Hi hb;clear he hb;go_wp2_with fail
 go_ret
 exact ⟨_,rfl,HE.o,HB.o⟩
abbrev zX (O:ye) (w0:World) (K:Nat -> Prop) (w:World) (P D n:Nat) (S:TS) (firm:Nat -> List UInt8):Prop:=kM O w0 K w P D n S.d S.s S.data firm
theorem Yw {s:List Nat} {i:Int} (h:vH s i = true):∃ k:Nat,i = (k:Int) /\ k < 240 /\ Bits.has s k = true:=by
 unfold vH at h;simp only [Bool.and_eq_true,decide_eq_true_eq] at h;exact ⟨i.toNat,by omega,by omega,h.2⟩
section
variable {O:ye} (H:ym O)
include H
theorem K7 {w0:World} {K:Nat -> Prop} {w:World} {P D n:Nat} {S:TS} {firm:Nat -> List UInt8} (hl:zX O w0 K w P D n S firm) (i:Int) :
  Calls Tryz.prog 66 #[ptr P,.int .i64 i] w fun e w'=>∃ v,e = .returned v /\ zi w' w.1.size (wH S i).1 v /\ zX O w0 K w' P D n (wH S i).2 firm /\ zf K w w':=by
 cases hu:vH S.s.used i with
 | false =>
  have HM:=hI (wH S i = (4,S)) (by unfold wH; rw [if_neg (by rw [hu]; decide)]);have HL:=Hi hl
  go_enter Tryz.func66,Tryz.ntmps66
  go_wp2_with fail;refine (H.dropNo hl.pg hl.inv i hu).mono ?_;rintro e w1 ⟨v,rfl,he,hb⟩;have HE:=Hi he;have HB:=Hi hb;clear he hb hl;go_wp2_with fail;refine (yv _ w.1.size 4 v w1 HE.o HB.o.size).mono ?_;rintro e w2 ⟨u,rfl,he,hb⟩;have HE2:=Hi he;have HB2:=Hi (HB.o.trans (hb.mono HB.o.size));clear he hb HE HB;go_wp2_with fail
  go_ret
  rw [HM.o];exact ⟨_,rfl,HE2.o,HL.o.carry H HB2.o,zf.of_below HB2.o HL.o.there⟩
 | true =>
  obtain ⟨k,rfl,hk,hh⟩:=Yw hu;have HM:=hI (wH S (k:Int) = (0,⟨S.d,S.s.drop k,S.data⟩)) (by unfold wH; rw [if_pos hu]; rfl);have HL:=Hi hl
  go_enter Tryz.func66,Tryz.ntmps66
  go_wp2_with fail;refine (H.dropYes hl.pg hl.inv k hk hh).mono ?_;rintro e w1 ⟨rfl,hp,hkk⟩;have HL1:=hI (zX O w0 K w1 P D n ⟨S.d,S.s.drop k,S.data⟩ firm) (HL.o.turned hp hkk (HL.o.inv.dropped hk hh) HL.o.up);have HK:=Hi hkk;clear hp hkk hl;go_wp2_with fail;refine (V4 _ _).mono ?_;rintro e w' ⟨rfl,rfl⟩;go_wp2_with fail
  go_ret
  rw [HM.o];exact ⟨_,rfl,.nil _ _,HL1.o,HK.o⟩
def KF (w:World) (o:Except Int Nd) (e:Ending) (w':World):Prop :=
 match o with
 | .error c=>c ≠ 0 /\ ∃ v,e = .returned (.tuple #[ndV zd.none_ Nd.empty,v]) /\ zi w' w.1.size c v /\ Below w.1.size w w'
 | .ok x=>zM x = true /\ ∃ l,e = .returned (.tuple #[ndV l x,.nilIface]) /\ zo w' w.1.size l x /\ Below w.1.size w w'
structure LdS (w:World) (p q:Nat) (l:zd) (x:Nd) (wr:World):Prop where
 a:zb wr p zd.none_ Nd.empty
 b:zb wr q l x
 fz:∀ j,wr.frozen? ⟨p,j,none⟩ = false
 pq:p < q
 below:Below w.1.size w wr
 lo:w.1.size <= p
omit H in
theorem LdS.carry {w wr w':World} {p q:Nat} {l:zd} {x:Nd} (h:LdS w p q l x wr) (hb:Below wr.1.size wr w'):LdS w p q l x w' :=
 ⟨h.a.carry hb h.a.lt,h.b.carry hb h.b.lt,fun j=>zl hb h.a.lt h.fz j,h.pq,h.below.trans (hb.mono h.below.size),h.lo⟩
theorem kI {w0:World} {K:Nat -> Prop} {w:World} {P D n:Nat} {S:TS} {firm:Nat -> List UInt8} (hl:zX O w0 K w P D n S firm) (hg:yL w0) (i level:Int) :
  Calls Tryz.prog 82 #[ptr P,.int .i64 i,.int .i64 level] w (KF w (yp S i level)):=by
 have hbn:=Tryz.nodeNone;have hz:=Tryz.zeroNode;obtain ⟨p,HPP⟩:=hY (w.1.size);obtain ⟨w1,HW1⟩:=hY (w.alloc (.cells #[.slice none 0 0,.slice none 0 0,.slice none 0 0] 48));have HB1:=hI (Below w.1.size w w1) (by rw [HW1.o]; exact bA);have HX1:=hI (zb w1 p zd.none_ Nd.empty) (by rw [HW1.o,HPP.o]; exact zb.new (l:=zd.none_) (x:=Nd.empty) _);have HFZ:=hI (∀ j,w1.frozen? ⟨p,j,none⟩ = false) (by rw [HW1.o,HPP.o]; exact ya _ _ _);have HPL:=hI (p < w1.1.size) (by rw [HW1.o,HPP.o]; simp);have HLP:=hI (w.1.size <= p) (by rw [HPP.o]; exact zfI _);have HL1:=Hi (hl.carry H HB1.o);have HLA:=Hi (HL1.o.laid hg);clear hl;by_cases h12:12 < level
 ·have HM:=hI (yp S i level = .error 2) (by unfold yp; rw [if_pos h12]);rw [HM.o]
  go_enter Tryz.func82,Tryz.ntmps82
  go_wp2_with fail;rw [<- HW1.o,<- HPP.o];clear HW1 HPP;refine (xX 2 (by decide) _).mono ?_;rintro e w2 ⟨v,rfl,he,hb⟩;have HE:=Hi he;have HB2:=Hi (HB1.o.trans (hb.mono HB1.o.size));have HX2:=Hi (HX1.o.carry hb HPL.o);have f0:=zl hb HPL.o HFZ.o 0;have f1:=zl hb HPL.o HFZ.o 1;have f2:=zl hb HPL.o HFZ.o 2;have d0:=HX2.o.c0;have d1:=HX2.o.c1;have d2:=HX2.o.c2;obtain ⟨w3,HWw3⟩:=hY (((w2.setCell ⟨p,0,none⟩ (.slice none 0 0)).setCell ⟨p,1,none⟩ (.slice none 0 0)).setCell ⟨p,2,none⟩ (.slice none 0 0));have HSw3:=hI (w3 = zC w2 p zd.none_ Nd.empty) HWw3.o;have HXw3:=hI (zb w3 p zd.none_ Nd.empty) (by rw [HSw3.o]; exact zF HX2.o);have HB3:=hI (Below w.1.size w w3) (by rw [HSw3.o]; exact xg HB2.o HLP.o);have HE3:=hI (zi w3 w.1.size 2 v) (by rw [HSw3.o]; exact (yV HE.o HPL.o).mono HB1.o.size);clear he hb HE HB2 HX2;go_wp2_with fail;rw [<- HWw3.o];exact bodyPost_ret (zr Tryz.ndProg rfl _ _ p zd.none_ Nd.empty v rfl rfl HXw3.o) rfl ⟨by decide,v,rfl,HE3.o,HB3.o⟩
 ·cases hin:ju S.s i with
  | false =>
   have HM:=hI (yp S i level = .error 4) (by unfold yp; rw [if_neg h12,show inZ S.s i = ju S.s i from rfl,hin,if_neg (by decide)]);rw [HM.o];have HLD:=Hi (H.load HL1.o.pg HL1.o.inv HL1.o.up HLA.o.crc i);rw [hin] at HLD
   go_enter Tryz.func82,Tryz.ntmps82
   go_wp2_with fail;rw [<- HW1.o,<- HPP.o];clear HW1 HPP;refine HLD.o.mono ?_;rintro e w2 ⟨v,rfl,he,hb⟩;rw [if_neg (by decide)] at he;obtain ⟨tt,xx,rfl⟩:=he.some (by decide);rw [if_neg (by decide)];obtain ⟨v1,HV1⟩:=hY (Value.iface tt xx);have HE1:=hI (zi w2 w1.1.size 4 v1) (by rw [HV1.o]; exact he);have HBA:=Hi hb;clear he hb HLD;go_wp2_with fail;rw [<- HV1.o];refine (yv _ w1.1.size 4 v1 w2 HE1.o HBA.o.size).mono ?_;rintro e w4 ⟨v,rfl,he,hb4⟩;have hb:=HBA.o.trans (hb4.mono HBA.o.size);clear hb4 HBA HE1 HV1;have HE:=Hi he;have HB2:=Hi (HB1.o.trans (hb.mono HB1.o.size));have HX2:=Hi (HX1.o.carry hb HPL.o);have f0:=zl hb HPL.o HFZ.o 0;have f1:=zl hb HPL.o HFZ.o 1;have f2:=zl hb HPL.o HFZ.o 2;have d0:=HX2.o.c0;have d1:=HX2.o.c1;have d2:=HX2.o.c2;obtain ⟨w3,HWw3⟩:=hY (((w4.setCell ⟨p,0,none⟩ (.slice none 0 0)).setCell ⟨p,1,none⟩ (.slice none 0 0)).setCell ⟨p,2,none⟩ (.slice none 0 0));have HSw3:=hI (w3 = zC w4 p zd.none_ Nd.empty) HWw3.o;have HXw3:=hI (zb w3 p zd.none_ Nd.empty) (by rw [HSw3.o]; exact zF HX2.o);have HB3:=hI (Below w.1.size w w3) (by rw [HSw3.o]; exact xg HB2.o HLP.o);have HE3:=hI (zi w3 w.1.size 4 v) (by rw [HSw3.o]; exact (yV HE.o HPL.o).mono HB1.o.size);clear he hb HE HB2 HX2;go_wp2_with fail;rw [<- HWw3.o];exact bodyPost_ret (zr Tryz.ndProg rfl _ _ p zd.none_ Nd.empty v rfl rfl HXw3.o) rfl ⟨by decide,v,rfl,HE3.o,HB3.o⟩
  | true =>
   obtain ⟨dt,HDT⟩:=hY (S.data i.toNat);have HM:=hI (yp S i level = match yk dt with | some x=>.ok x | none=>.error 2) (by unfold yp; rw [if_neg h12,show inZ S.s i = ju S.s i from rfl,hin,if_pos rfl,HDT.o]; cases yk (S.data i.toNat) <;> rfl);have HLD:=Hi (H.load HL1.o.pg HL1.o.inv HL1.o.up HLA.o.crc i);rw [hin,if_pos rfl,if_pos rfl,<- HDT.o] at HLD
   go_enter Tryz.func82,Tryz.ntmps82
   go_wp2_with fail;rw [<- HW1.o,<- HPP.o];clear HW1 HPP;refine HLD.o.mono ?_;rintro e w2 ⟨v,rfl,he,hb⟩;obtain rfl:=he.zero;have HB2:=Hi (HB1.o.trans (hb.mono HB1.o.size));have HX2:=Hi (HX1.o.carry hb HPL.o);have HF2:=hI (∀ j,w2.frozen? ⟨p,j,none⟩ = false) (zl hb HPL.o HFZ.o);clear he hb HLD HX1 HFZ HB1;obtain ⟨ss,HSS⟩:∃ ss:ByteArray,Hid (ss = ⟨dt.toArray⟩):=Hy;rw [show txt dt = Value.string ss by rw [HSS.o]; rfl];have HRD:=Hi (X8 w2 ss);rw [show ss.data.toList = dt by rw [HSS.o]] at HRD;go_wp2_with fail;refine HRD.o.mono ?_;rintro e w4 hrp;obtain ⟨l,x,v1,c,rfl,he,hwh,hb⟩:∃ l x v1 c,e = .returned (.tuple #[ndV l x,v1]) /\ zi w4 w2.1.size c v1 /\ ((c = 2 /\ yk dt = none /\ l = zd.none_ /\ x = Nd.empty) \/ (c = 0 /\ yk dt = some x /\ zo w4 w2.1.size l x)) /\ Below w2.1.size w2 w4:=by
    rcases hrp with ⟨hr,v,rfl,he,hb⟩ | ⟨x,l,hr,rfl,hn,hb⟩
    ·exact ⟨_,_,v,2,rfl,he,.inl ⟨rfl,hr,rfl,rfl⟩,hb⟩
    ·exact ⟨l,x,_,0,rfl,.nil _ _,.inr ⟨rfl,hr,hn⟩,hb⟩
   have HWH:=Hi hwh;have HNP:=hI (¬ l.has p) (by
    rcases hwh with ⟨_,_,rfl,_⟩ | ⟨_,_,hn⟩
    ·exact zd.has_none p
    ·intro h;have:=(hn.lt p h).1;have:=HX2.o.lt;omega)
   obtain ⟨q,HQQ⟩:=hY (w4.1.size);obtain ⟨w5,HW5⟩:=hY (w4.alloc (.cells #[.slice l.A x.keys.length l.ca,.slice l.B x.vals.length l.cb,.slice l.C x.kids.length l.cc] 48));have HB45:=hI (Below w4.1.size w4 w5) (by rw [HW5.o]; exact bA);have HE5:=hI (zi w5 w2.1.size c v1) (he.below HB45.o);have HS5:=hI (LdS w p q l x w5) (by
    have hb5:=hb.trans (HB45.o.mono hb.size);refine ⟨HX2.o.carry hb5 HX2.o.lt,?_,fun j=>zl hb5 HX2.o.lt HF2.o j,?_,HB2.o.trans (hb5.mono HB2.o.size),HLP.o⟩
    ·rw [HW5.o,HQQ.o]; exact zb.new (l:=l) (x:=x) _
    ·rw [HQQ.o]; exact Nat.lt_of_lt_of_le HX2.o.lt hb.size)
   have HP2:=hI (p < w2.1.size /\ w.1.size <= w2.1.size /\ w2.1.size <= w5.1.size) ⟨HX2.o.lt,HB2.o.size,zfH hb.size HB45.o.size⟩;have HN5:=hI (∀ w',Below w5.1.size w5 w' -> (c = 2 /\ yk dt = none /\ l = zd.none_ /\ x = Nd.empty) \/ (c = 0 /\ yk dt = some x /\ zo w' w2.1.size l x)) (fun w' hb'=>hwh.imp id fun h=>⟨h.1,h.2.1,(h.2.2.carry HB45.o).carry hb'⟩);clear he hb HRD HX2 HF2 HB2 HB45 hwh HWH hrp;go_upto_region 7 with (fail)
   rw [<- HW5.o,<- HQQ.o];clear HW5 HQQ;refine wp_region_held (S:=fun w9=>zb w9 q l x) (by kernel_rfl) ?_;change wpAnyH _ _ _ _ _ _ _ _ w5.drew;obtain ⟨wa,HWA⟩:=hY (w5.drew);rw [<- HWA.o];have hS:zb wa q l x:=by rw [HWA.o]; exact HS5.o.b.carry (Below.refl _ _).drew HS5.o.b.lt
   have HBA:=hI (Below w5.1.size w5 wa) (by rw [HWA.o]; exact (Below.refl _ _).drew);clear HWA;refine xG9 0 31 (ndV l x) rfl (yJ Tryz.ndProg (by rfl) _ rfl q rfl l x (fun _ h=>h)) hS ?_;refine xA9 1 32 (v1) hS ?_;refine xJ9 2 (some 33) (fun K hK=>?_);go_simp;refine (yv _ w2.1.size c v1 wa (HE5.o.below HBA.o) (zfH HP2.o.2.2 HBA.o.size)).mono ?_;rintro e wn ⟨vv,rfl,he,hb⟩;have hS2:=hS.carry hb hS.lt;have HEE:=Hi he;have HBN:=Hi (HBA.o.trans (hb.mono HBA.o.size));clear he hb hS;refine hK.out _ _ hS2 ?_;clear hK K;have hS:=hS2;clear hS2;refine xJ9 3 (none) (fun K hK=>?_);have HSS:=Hi (HS5.o.carry HBN.o);have HAA:=Hi HSS.o.a;have f0:=HSS.o.fz 0;have f1:=HSS.o.fz 1;have f2:=HSS.o.fz 2;have d0:=HAA.o.c0;have d1:=HAA.o.c1;have d2:=HAA.o.c2;obtain ⟨w6,HWw6⟩:=hY (((wn.setCell ⟨p,0,none⟩ (.slice l.A x.keys.length l.ca)).setCell ⟨p,1,none⟩ (.slice l.B x.vals.length l.cb)).setCell ⟨p,2,none⟩ (.slice l.C x.kids.length l.cc));have HSw6:=hI (w6 = zC wn p l x) HWw6.o;have HXw6:=hI (zb w6 p l x) (by rw [HSw6.o]; exact zF HAA.o);go_simp;rw [<- HWw6.o];have hS2:zb w6 q l x:=by
    rw [HSw6.o];exact hS.keep (zj (by have:=HSS.o.pq; omega))
   refine hK.out _ _ hS2 ?_;clear hK K hS;have hS:=hS2;clear hS2;refine xA9 4 7 (vv) hS ?_;refine wpAnyH_done (by kernel_rfl) ?_ _;have HB6:=hI (Below w.1.size w w6) (by rw [HSw6.o]; exact xg HSS.o.below HLP.o);have HE6:=hI (zi w6 w.1.size c vv) (by rw [HSw6.o]; exact (yV HEE.o HP2.o.1).mono HP2.o.2.1);go_wp2_with fail;rw [HM.o];refine bodyPost_ret (zr Tryz.ndProg rfl _ _ p l x vv rfl rfl HXw6.o) rfl ?_;rcases HN5.o _ HBN.o with ⟨rfl,hr,rfl,rfl⟩ | ⟨rfl,hr,hn⟩
   ·rw [hr];exact ⟨by decide,vv,rfl,HE6.o,HB6.o⟩
   ·obtain rfl:=HE6.o.zero;rw [hr];exact ⟨jz hr,l,rfl,by rw [HSw6.o]; exact (vx hn HNP.o).mono HP2.o.2.1,HB6.o⟩
end
end
section
structure xJ (w:World) (p:Nat) (l:zd) (x:Nd) (wr:World):Prop where
 b:zb wr p l x
 is:xF wr l x
 below:Below w.1.size w wr
 lo:w.1.size <= p
theorem xJ.carry {w wr w':World} {p:Nat} {l:zd} {x:Nd} (h:xJ w p l x wr) (hb:Below wr.1.size wr w'):xJ w p l x w' :=
 ⟨h.b.carry hb h.b.lt,h.is.carry hb,h.below.trans (hb.mono h.below.size),h.lo⟩
theorem xJ.new {w:World} {l:zd} {x:Nd} (h:xF w l x):xJ w w.1.size l x (w.alloc (.cells #[.slice l.A x.keys.length l.ca,.slice l.B x.vals.length l.cb,.slice l.C x.kids.length l.cc] 48)):=by
 have hb:Below w.1.size w (w.alloc (.cells #[.slice l.A x.keys.length l.ca,.slice l.B x.vals.length l.cb,.slice l.C x.kids.length l.cc] 48)):=(Below.refl _ _).alloc (zfI _) _;exact ⟨zb.new _,h.carry hb,hb,zfI _⟩
theorem zdu (x:Nd) (key:Int):(yA x key).1 <= 7:=by
 unfold yA;split
 ·rename_i h
  exact zfH (ZB _ _) (zm h).2.1
 ·exact zf6 _
theorem vG {w:World} {l:zd} {x:Nd} (h:xF w l x):Calls Tryz.prog 65 #[ndV l x] w fun e w'=>e = .returned (.int .i64 (x.kids.getD 0 0)) /\ Below w.1.size w w':=by
 obtain ⟨p,HPP⟩:=hY (w.1.size);obtain ⟨w1,HW1⟩:=hY (w.alloc (.cells #[.slice l.A x.keys.length l.ca,.slice l.B x.vals.length l.cb,.slice l.C x.kids.length l.cc] 48));have HS1:=hI (xJ w p l x w1) (by rw [HW1.o,HPP.o]; exact xJ.new h);have c2:=HS1.o.b.c2;by_cases h0:x.kids.length = 0
 ·have HR:=hI (x.kids.getD 0 0 = 0) (by rw [List.length_eq_zero_iff.1 h0]; rfl);clear h;rw [HR.o];have hz:((x.kids.length:Int) == 0) = true:=by rw [h0]; rfl
  clear h0
  go_enter Tryz.func65,Tryz.ntmps65
  go_upto_region 1 with (fail)
  rw [<- HW1.o,<- HPP.o];clear HW1 HPP;go_wp2_with fail
  go_ret
  exact ⟨rfl,HS1.o.below⟩
 ·obtain ⟨a,HA,hc⟩:=yj HS1.o.is.kids (i:=0) (by omega);have HR:=hI (x.kids.getD 0 0 = x.kids[0]'(by omega)) (by rw [zfL,zfM (by omega)]; rfl);rw [HR.o];obtain ⟨z,HZ⟩:=hY (x.kids[0]'(by omega));rw [<- HZ.o] at hc ⊢;clear h HR;rw [HA] at c2;clear HA;have hn:(0:Int) < (x.kids.length:Int):=by omega
  have hz:((x.kids.length:Int) == 0) = false:=by rw [beq_eq_false_iff_ne]; omega
  clear h0 HZ
  go_enter Tryz.func65,Tryz.ntmps65
  go_upto_region 1 with (fail)
  rw [<- HW1.o,<- HPP.o];clear HW1 HPP;have hc0:w1.cell? a = some (.int .i64 z):=by have:=hc; unfold Addr.add at this; simpa using this
  clear hc;go_wp2_with fail
  go_ret
  exact ⟨rfl,HS1.o.below⟩
theorem Y4 {w:World} {l:zd} {x:Nd} (h:xF w l x) (key:Int):Calls Tryz.prog 102 #[ndV l x,.int .i64 key] w fun e w'=>e = .returned (.int .i64 (yF x key:Int)) /\ Below w.1.size w w':=by
 obtain ⟨p,HPP⟩:=hY (w.1.size);obtain ⟨w1,HW1⟩:=hY (w.alloc (.cells #[.slice l.A x.keys.length l.ca,.slice l.B x.vals.length l.cb,.slice l.C x.kids.length l.cc] 48));have HS1:=hI (xJ w p l x w1) (by rw [HW1.o,HPP.o]; exact xJ.new h);have HLE:=Hi (zdu x key);obtain ⟨k,HKK⟩:=hY ((yA x key).1);obtain ⟨b,HBB⟩:=hY ((yA x key).2);have HR:=hI (yF x key = if b = true then k + 1 else k) (by rw [HKK.o,HBB.o]; rfl);have HSK:=Hi (Ym HS1.o.is key);rw [<- HKK.o,<- HBB.o] at HSK;rw [<- HKK.o] at HLE;rw [HR.o];clear h HR HKK HBB
 go_enter Tryz.func102,Tryz.ntmps102
 go_upto_region 1 with (fail)
 rw [<- HW1.o,<- HPP.o];clear HW1 HPP;go_wp2_with (with_reducible refine xD9 (some 8) ?_);refine zg Tryz.ndProg (by rfl) _ rfl p rfl l x HS1.o.b ?_;go_wp2_with fail;refine HSK.o.mono ?_;rintro e w2 ⟨rfl,hb⟩;have HB:=Hi (HS1.o.below.trans (hb.mono HS1.o.below.size));clear hb HSK;cases b with
 | true =>
  have hw:wrap64 ((k:Int) + 1) = ((k + 1:Nat):Int):=by have:=HLE.o; unfold wrap64; omega
  go_wp2_with fail
  go_ret
  exact ⟨rfl,HB.o⟩
 | false =>
  go_wp2_with fail
  go_ret
  exact ⟨rfl,HB.o⟩
theorem zah {w:World} {l:zd} {x:Nd} (h:xF w l x) (i:Nat) (hi:i <= x.keys.length) (a b:Int):Calls Tryz.prog 83 #[ndV l x,.int .i64 (i:Int),.int .i64 a,.int .i64 b] w
  fun e w'=>e = .returned (.tuple #[.int .i64 (jG x i a),.int .i64 (wI x i b)]) /\ Below w.1.size w w':=by
 obtain ⟨p,HPP⟩:=hY (w.1.size);obtain ⟨w1,HW1⟩:=hY (w.alloc (.cells #[.slice l.A x.keys.length l.ca,.slice l.B x.vals.length l.cb,.slice l.C x.kids.length l.cc] 48));have HS1:=hI (xJ w p l x w1) (by rw [HW1.o,HPP.o]; exact xJ.new h);have HKL:=Hi h.kl;have HII:=Hi hi;clear h hi;have c0:=HS1.o.b.c0;obtain ⟨kl,HKN⟩:=hY (x.keys.length);by_cases h0:0 < i
 ·have h0':(0:Int) < (i:Int):=by omega
  obtain ⟨A,HA,hc⟩:=yj HS1.o.is.keys (i:=i - 1) (by have:=HII.o; omega);have HR:=hI (jG x i a = max a (x.keys[i - 1]'(by have:=HII.o; omega))) (by unfold jG; rw [if_pos h0,zfL,zfM (by have:=HII.o; omega)]; rfl);rw [HR.o];obtain ⟨z,HZ⟩:=hY (x.keys[i - 1]'(by have:=HII.o; omega));rw [<- HZ.o] at hc ⊢;rw [HA] at c0;have HAA:=Hi HA;obtain ⟨j,HJ⟩:∃ j,Hid (i = j + 1):=⟨i - 1,Hi (by omega)⟩
  have hjw:wrap64 ((i:Int) - 1) = (j:Int):=by have:=HJ.o; have:=HII.o; have:=HKL.o; unfold maxLen at this; unfold wrap64; omega
  rw [show i - 1 = j by have:=HJ.o; omega] at hc;have hjl:(j:Int) < (x.keys.length:Int):=by have:=HJ.o; have:=HII.o; omega
  clear HA HR HZ h0;by_cases hl:i < x.keys.length
  ·have hl':(i:Int) < (x.keys.length:Int):=by omega
   obtain ⟨A2,HA2,hd⟩:=yj HS1.o.is.keys (i:=i) hl;obtain rfl:A = A2:=by rw [HAA.o] at HA2; exact Option.some.inj HA2
   have HR:=hI (wI x i b = min b (x.keys[i]'hl)) (by unfold wI; rw [if_pos hl,zfL,zfM hl]; rfl);rw [HR.o];obtain ⟨y,HY⟩:=hY (x.keys[i]'hl);rw [<- HY.o] at hd ⊢;clear HA2 HR HY hl HAA HJ
   go_enter Tryz.func83,Tryz.ntmps83
   go_upto_region 1 with (fail)
   rw [<- HW1.o,<- HPP.o];clear HW1 HPP;go_wp2_with fail
   all_goals (go_ret2; refine ⟨?_,HS1.o.below⟩; (first | rw [show max a z = a by omega] | rw [show max a z = z by omega]); (first | rw [show min b y = b by omega] | rw [show min b y = y by omega]); rfl)
  ·have hl':¬ (i:Int) < (x.keys.length:Int):=by omega
   have HR:=hI (wI x i b = b) (by unfold wI; rw [if_neg hl]);rw [HR.o];clear HR hl HAA HJ
   go_enter Tryz.func83,Tryz.ntmps83
   go_upto_region 1 with (fail)
   rw [<- HW1.o,<- HPP.o];clear HW1 HPP;go_wp2_with fail
   all_goals (go_ret2; refine ⟨?_,HS1.o.below⟩; (first | rw [show max a z = a by omega] | rw [show max a z = z by omega]); rfl)
 ·obtain rfl:i = 0:=by omega
  have HR:=hI (jG x 0 a = a) (by unfold jG; rw [if_neg (by decide)]);rw [HR.o];clear HR h0;by_cases hl:0 < x.keys.length
  ·have hl':(0:Int) < (x.keys.length:Int):=by omega
   obtain ⟨A,HA,hd⟩:=yj HS1.o.is.keys (i:=0) hl;have hd0:w1.cell? A = some (.int .i64 (x.keys[0]'hl)):=by have:=hd; unfold Addr.add at this; simpa using this
   rw [HA] at c0;have HR:=hI (wI x 0 b = min b (x.keys[0]'hl)) (by unfold wI; rw [if_pos hl,zfL,zfM hl]; rfl);rw [HR.o];obtain ⟨y,HY⟩:=hY (x.keys[0]'hl);rw [<- HY.o] at hd0 ⊢;clear HA HR HY hl hd
   go_enter Tryz.func83,Tryz.ntmps83
   go_upto_region 1 with (fail)
   rw [<- HW1.o,<- HPP.o];clear HW1 HPP;go_wp2_with fail
   all_goals (go_ret2; refine ⟨?_,HS1.o.below⟩; (first | rw [show min b y = b by omega] | rw [show min b y = y by omega]); rfl)
  ·have hl':¬ (0:Int) < (x.keys.length:Int):=by omega
   have HR:=hI (wI x 0 b = b) (by unfold wI; rw [if_neg hl]);rw [HR.o];clear HR hl
   go_enter Tryz.func83,Tryz.ntmps83
   go_upto_region 1 with (fail)
   rw [<- HW1.o,<- HPP.o];clear HW1 HPP;go_wp2_with fail
   all_goals (go_ret2; refine ⟨?_,HS1.o.below⟩; rfl)
end
section
structure xL (x:Nd):Prop where
 leaf:x.kids.length = 0 -> x.vals.length = x.keys.length
 inner:x.kids.length ≠ 0 -> x.vals.length = 0 /\ x.kids.length = x.keys.length + 1
 few:x.keys.length <= 100
theorem Strs.take {w:World} {A:Option Addr} {n:Nat} {ss:List ByteArray} (h:Strs w A n ss) {m:Nat} (hm:m <= n):Strs w A m (ss.take m):=by
 refine ⟨by rw [zfZ,h.1]; omega,fun hp=>?_⟩;obtain ⟨a,e,hlt,hc⟩:=h.2 (by omega);exact ⟨a,e,hlt,fun i s hs=>hc i s (by rw [List.getElem?_take] at hs; split at hs <;> simp_all)⟩
theorem Strs.drop {w:World} {g:Nat} {n:Nat} {ss:List ByteArray} (h:Strs w (some ⟨g,0,none⟩) n ss) {m:Nat} (hm:m <= n):Strs w (some ⟨g,m,none⟩) (n - m) (ss.drop m):=by
 refine ⟨by rw [zf8,h.1],fun hp=>?_⟩;obtain ⟨a,e,hlt,hc⟩:=h.2 (by omega);obtain rfl:=Option.some.inj e;refine ⟨_,rfl,hlt,fun i s hs=>?_⟩;have:=hc (m + i) s (by rw [<- hs,List.getElem?_drop]);rw [Addr.add_mid] at this ⊢;simpa using this
theorem jV {w:World} {k:IntKind} {g:Nat} {zs:List Int} (h:Nums w k (some ⟨g,0,none⟩) zs) (m:Nat):Nums w k (some ⟨g,m,none⟩) (zs.drop m):=fun hp=>by
 rw [zf8] at hp;obtain ⟨a,e,hlt,hc⟩:=h (by omega);obtain rfl:=Option.some.inj e;refine ⟨_,rfl,hlt,fun i s hs=>?_⟩;have:=hc (m + i) s (by rw [<- hs,List.getElem?_drop]);rw [Addr.add_mid] at this ⊢;simpa using this
theorem yu {w:World} {b:Nat} {e:TypeId} {A:Option Addr} {n c:Nat} {xs:List Value} (h:w.ownsRow b e 1 (.slice A n c) n xs) (hn:0 < n):∃ g,A = some ⟨g,0,none⟩ /\ n <= c /\ c <= maxLen /\ b <= g /\ g < w.1.size:=by
 rcases h.2 with ⟨_,h2⟩ | ⟨g,cap,cur,e1,e2,e3,e4,e5,_⟩
 ·omega
 ·simp only [Value.slice.injEq] at e1;obtain ⟨rfl,_,rfl⟩:=e1;exact ⟨g,rfl,e4,e5,e2,(Array.getElem?_eq_some_iff.1 e3).1⟩
def KG (w:World) (q:Nat) (ns:List Nd) (M:Nat -> Prop):Prop:=∀ i (h:i < ns.length),∃ l,xF w l ns[i] /\ w.rangeAt q (3 * i) (jw l ns[i]) /\ ∀ g,l.has g -> M g
structure PS (w:World) (p q1 q2 b:Nat) (l:zd) (x:Nd) (u0 u1 u2 v0 v1 v2:Value) (wr:World):Prop where
 cp:xJ w p l x wr
 mi:zo wr b l x
 lw:∀ g,l.has g -> g < w.1.size
 p1:p < q1
 p2:p < q2
 ne:q1 ≠ q2
 a0:wr.cell? ⟨q1,0,none⟩ = some u0
 a1:wr.cell? ⟨q1,1,none⟩ = some u1
 a2:wr.cell? ⟨q1,2,none⟩ = some u2
 b0:wr.cell? ⟨q2,0,none⟩ = some v0
 b1:wr.cell? ⟨q2,1,none⟩ = some v1
 b2:wr.cell? ⟨q2,2,none⟩ = some v2
 f1:∀ j,wr.frozen? ⟨q1,j,none⟩ = false
 f2:∀ j,wr.frozen? ⟨q2,j,none⟩ = false
section
variable {w wr w':World} {p q1 q2 b:Nat} {l:zd} {x:Nd} {u0 u1 u2 v0 v1 v2:Value}
theorem PS.carry (h:PS w p q1 q2 b l x u0 u1 u2 v0 v1 v2 wr) (hb:Below wr.1.size wr w'):PS w p q1 q2 b l x u0 u1 u2 v0 v1 v2 w':=by
 have h1:=zp h.a0;have h2:=zp h.b0;exact ⟨h.cp.carry hb,h.mi.carry hb,h.lw,h.p1,h.p2,h.ne,(hb.cell (p:=⟨q1,0,none⟩) h1).trans h.a0,(hb.cell (p:=⟨q1,1,none⟩) h1).trans h.a1,(hb.cell (p:=⟨q1,2,none⟩) h1).trans h.a2,(hb.cell (p:=⟨q2,0,none⟩) h2).trans h.b0,(hb.cell (p:=⟨q2,1,none⟩) h2).trans h.b1,(hb.cell (p:=⟨q2,2,none⟩) h2).trans h.b2,zl hb h1 h.f1,zl hb h2 h.f2⟩
theorem PS.far (h:PS w p q1 q2 b l x u0 u1 u2 v0 v1 v2 wr) {q:Nat} (hq:p < q) (j:Nat) (u:Value):xJ w p l x (wr.setCell ⟨q,j,none⟩ u) /\ zo (wr.setCell ⟨q,j,none⟩ u) b l x:=by
 have hn:¬ l.has q:=fun hh=>by have:=h.lw q hh; have:=h.cp.lo; omega
 have hm:=h.mi.setCell (p:=q) hn j u;exact ⟨⟨h.cp.b.keep (World.heap_setCell_far9 _ _ _ (by show p ≠ q; omega)),hm.is,h.cp.below.setCell (p:=⟨q,j,none⟩) (by have:=h.cp.lo; show w.1.size <= q; omega) _,h.cp.lo⟩,hm⟩
theorem kW (wr:World) {q r:Nat} (h:q ≠ r) (i j:Nat) (u:Value):(wr.setCell ⟨q,j,none⟩ u).cell? ⟨r,i,none⟩ = wr.cell? ⟨r,i,none⟩:=World.cell?_of_block (World.heap_setCell_far9 _ _ _ (Ne.symm h))
theorem vX (wr:World) {q i j:Nat} {u v:Value} (hi:wr.cell? ⟨q,i,none⟩ = some v):(wr.setCell ⟨q,j,none⟩ u).cell? ⟨q,i,none⟩ = some (if i = j then u else v):=by
 by_cases e:i = j
 ·subst e;rw [if_pos rfl];exact World.cell?_setCell_same _ _ _ hi
 ·rw [if_neg e,World.cell?_setCell_other _ _ _ _ (by rintro h; cases h; exact e rfl)];exact hi
theorem js (wr:World) (q j:Nat) (u:Value) (r i:Nat):(wr.setCell ⟨q,j,none⟩ u).frozen? ⟨r,i,none⟩ = wr.frozen? ⟨r,i,none⟩:=by simp
theorem PS.put1 (h:PS w p q1 q2 b l x u0 u1 u2 v0 v1 v2 wr) (j:Nat) (u:Value):PS w p q1 q2 b l x (if 0 = j then u else u0) (if 1 = j then u else u1) (if 2 = j then u else u2) v0 v1 v2 (wr.setCell ⟨q1,j,none⟩ u):=by
 obtain ⟨hc,hm⟩:=h.far h.p1 j u;exact ⟨hc,hm,h.lw,h.p1,h.p2,h.ne,vX _ h.a0,vX _ h.a1,vX _ h.a2,(kW _ h.ne _ _ _).trans h.b0,(kW _ h.ne _ _ _).trans h.b1,(kW _ h.ne _ _ _).trans h.b2,fun i=>(js _ _ _ _ _ _).trans (h.f1 i),fun i=>(js _ _ _ _ _ _).trans (h.f2 i)⟩
theorem PS.put2 (h:PS w p q1 q2 b l x u0 u1 u2 v0 v1 v2 wr) (j:Nat) (u:Value):PS w p q1 q2 b l x u0 u1 u2 (if 0 = j then u else v0) (if 1 = j then u else v1) (if 2 = j then u else v2) (wr.setCell ⟨q2,j,none⟩ u):=by
 obtain ⟨hc,hm⟩:=h.far h.p2 j u;exact ⟨hc,hm,h.lw,h.p1,h.p2,h.ne,(kW _ (Ne.symm h.ne) _ _ _).trans h.a0,(kW _ (Ne.symm h.ne) _ _ _).trans h.a1,(kW _ (Ne.symm h.ne) _ _ _).trans h.a2,vX _ h.b0,vX _ h.b1,vX _ h.b2,fun i=>(js _ _ _ _ _ _).trans (h.f1 i),fun i=>(js _ _ _ _ _ _).trans (h.f2 i)⟩
theorem PS.new (hc:xJ w p l x wr) (hm:zo wr b l x) (hl:∀ g,l.has g -> g < w.1.size) (hq:(q1 = wr.1.size /\ q2 = wr.1.size + 1) \/ (q2 = wr.1.size /\ q1 = wr.1.size + 1)) (T:TypeId) :
  PS w p q1 q2 b l x (.slice none 0 0) (.slice none 0 0) (.slice none 0 0) (.slice none 0 0) (.slice none 0 0) (.slice none 0 0) ((wr.alloc (.cells #[.slice none 0 0,.slice none 0 0,.slice none 0 0] T)).alloc (.cells #[.slice none 0 0,.slice none 0 0,.slice none 0 0] T)):=by
 have hb1:=(Below.refl wr.1.size wr).alloc (zfI _) (.cells #[.slice none 0 0,.slice none 0 0,.slice none 0 0] T);have hb2:=hb1.alloc (by simp) (.cells #[.slice none 0 0,.slice none 0 0,.slice none 0 0] T);have hp:=hc.b.lt;have e1:=zb.new (w:=wr) (l:=zd.none_) (x:=Nd.empty) T;have e1':=e1.carry ((Below.refl (wr.alloc (.cells #[.slice none 0 0,.slice none 0 0,.slice none 0 0] T)).1.size _).alloc (zfI _) (.cells #[.slice none 0 0,.slice none 0 0,.slice none 0 0] T)) e1.lt;have e2:=zb.new (w:=wr.alloc (.cells #[.slice none 0 0,.slice none 0 0,.slice none 0 0] T)) (l:=zd.none_) (x:=Nd.empty) T;have f1:∀ j,((wr.alloc (.cells #[.slice none 0 0,.slice none 0 0,.slice none 0 0] T)).alloc (.cells #[.slice none 0 0,.slice none 0 0,.slice none 0 0] T)).frozen? ⟨wr.1.size,j,none⟩ = false :=
  zl ((Below.refl (wr.alloc (.cells #[.slice none 0 0,.slice none 0 0,.slice none 0 0] T)).1.size _).alloc (zfI _) _) e1.lt (ya wr _ T)
 have f2:=ya (wr.alloc (.cells #[.slice none 0 0,.slice none 0 0,.slice none 0 0] T)) #[.slice none 0 0,.slice none 0 0,.slice none 0 0] T;rw [show (wr.alloc (.cells #[.slice none 0 0,.slice none 0 0,.slice none 0 0] T)).1.size = wr.1.size + 1 by simp] at e2 f2;rcases hq with ⟨rfl,rfl⟩ | ⟨rfl,rfl⟩
 ·exact ⟨hc.carry hb2,hm.carry hb2,hl,hp,by omega,by omega,e1'.c0,e1'.c1,e1'.c2,e2.c0,e2.c1,e2.c2,f1,f2⟩
 ·exact ⟨hc.carry hb2,hm.carry hb2,hl,by omega,hp,by omega,e2.c0,e2.c1,e2.c2,e1'.c0,e1'.c1,e1'.c2,f2,f1⟩
end
def Zu (w:World) (l:zd) (x:Nd) (e:Ending) (w':World):Prop :=
 ∃ q B bc,e = .returned (.tuple #[.slice (some ⟨q,0,none⟩) (yw x).1.length (yw x).1.length,.slice B (yw x).2.length bc]) /\ KG w' q (yw x).1 l.has /\ Nums w' .i64 B (yw x).2 /\ w.1.size <= q /\ q < w'.1.size /\ Below w.1.size w w' /\ (∀ a,B = some a -> (∃ c,l.A = some c /\ c.block = a.block) /\ ∃ g o,a = ⟨g,o,none⟩) /\ ((yw x).2 = [] -> B = none /\ bc = 0)
theorem zby {w:World} {b:Nat} {l:zd} {x:Nd} (h:zo w b l x) (hs:xL x):Calls Tryz.prog 105 #[ndV l x] w (Zu w l x):=by
 obtain ⟨p,HPP⟩:=hY (w.1.size);obtain ⟨w1,HW1⟩:=hY (w.alloc (.cells #[.slice l.A x.keys.length l.ca,.slice l.B x.vals.length l.cb,.slice l.C x.kids.length l.cc] 48));have HS1:=hI (xJ w p l x w1) (by rw [HW1.o,HPP.o]; exact xJ.new h.is);have HMI:=hI (zo w1 b l x) (h.carry HS1.o.below);have HSH:=Hi hs;have HLW:=hI (∀ g,l.has g -> g < w.1.size) fun g hg=>(h.lt g hg).2
 have c0:=HS1.o.b.c0;have c1:=HS1.o.b.c1;have c2:=HS1.o.b.c2;clear h hs;by_cases h7:x.keys.length <= 7
 ·have HM:=hI (yw x = ([x],[])) (by unfold yw; rw [if_pos h7]);unfold Zu;rw [HM.o];have h7':(x.keys.length:Int) <= 7:=by omega
  clear h7
  go_enter Tryz.func105,Tryz.ntmps105
  go_upto_region 1 with (fail)
  rw [<- HW1.o,<- HPP.o];clear HW1 HPP;go_wp2_with (with_reducible refine xD9 (some 11) ?_);refine zg Tryz.ndProg (by rfl) _ rfl p rfl l x HS1.o.b ?_;go_wp2_with fail
  go_ret2
  have hbb:=(Below.refl w1.1.size w1).alloc (zfI _) (.cells #[.slice l.A x.keys.length l.ca,.slice l.B x.vals.length l.cb,.slice l.C x.kids.length l.cc] 48);refine ⟨w1.1.size,none,0,rfl,fun i hi=>?_,Nums.none_ _ _ _,HS1.o.below.size,by simp,HS1.o.below.trans (hbb.mono HS1.o.below.size),fun _ h=>(by cases h),fun _=>⟨rfl,rfl⟩⟩;obtain rfl:i = 0:=by simpa using hi
  refine ⟨l,HMI.o.is.carry hbb,?_,fun _ h=>h⟩;exact zb.range (zb.new (w:=w1) (l:=l) (x:=x) _)
 ·have HK7:=Hi h7;have HN100:=Hi HSH.o.few;obtain ⟨g,HG,hkc,hkm,_,_⟩:=yu HMI.o.k (by omega);obtain ⟨k,HKK⟩:=hY (x.keys.length);obtain ⟨h,HHH⟩:=hY (k / 2);have HR:=hI (7 < k /\ k <= 100 /\ k <= l.ca /\ l.ca <= maxLen /\ 2 * h <= k /\ k <= 2 * h + 1) (by have:=HHH.o; have:=HKK.o; have:=HN100.o; have:=HK7.o; omega);rw [HG] at c0;rw [<- HKK.o] at c0;have hquo:(k:Int).tdiv 2 = (h:Int):=by rw [HHH.o,Int.tdiv_eq_ediv_of_nonneg (by omega)]; omega
  have hwh:wrap64 (h:Int) = (h:Int):=by have:=HR.o; unfold wrap64; omega
  have h7':¬ (k:Int) <= 7:=by have:=HR.o; omega
  have HGG:=Hi HG;clear h7 hkc hkm HG;have hr1:(h:Int) <= (l.ca:Int):=by have:=HR.o; omega
  have hr2:(h:Int) <= (k:Int):=by have:=HR.o; omega
  have hr3:(0:Int) <= (h:Int):=by omega
  have hca:¬ l.ca = h:=by have:=HR.o; omega
  obtain ⟨i,HII⟩:=hY (h + 1);have hwi:wrap64 ((h:Int) + 1) = (i:Int):=by have:=HR.o; have:=HII.o; unfold wrap64; omega
  have hwi2:IntKind.i64.wrap ((h:Int) + 1) = (i:Int):=by have:=HR.o; have:=HII.o; rw [IntKind.wrap_i64]; omega
  have hr4:(0:Int) <= (i:Int):=by omega
  have hr5:(i:Int) <= (k:Int):=by have:=HR.o; have:=HII.o; omega
  have hr8:(i:Int) <= (l.ca:Int):=by have:=HR.o; have:=HII.o; omega
  have hr9:(h:Int) <= (i:Int):=by have:=HII.o; omega
  have hca2:¬ l.ca = i:=by have:=HR.o; have:=HII.o; omega
  go_enter Tryz.func105,Tryz.ntmps105
  go_upto_region 1 with (fail)
  rw [<- HW1.o,<- HPP.o];clear HW1 HPP;go_upto_region 4 with (fail)
  refine wp_region_held (S:=fun w9=>w9.cell? ⟨p,0,none⟩ = some (.slice (some ⟨g,0,none⟩) k l.ca)) (by kernel_rfl) ?_;change wpAnyH _ _ _ _ _ _ _ _ w1.drew;obtain ⟨wa,HWA⟩:=hY (w1.drew);rw [<- HWA.o];have hS:wa.cell? ⟨p,0,none⟩ = some (.slice (some ⟨g,0,none⟩) k l.ca):=by rw [HWA.o]; exact c0
  have HSA:=hI (xJ w p l x wa) (by rw [HWA.o]; exact HS1.o.carry (Below.refl _ _).drew);have HMA:=hI (zo wa b l x) (by rw [HWA.o]; exact HMI.o.carry (Below.refl _ _).drew);clear HWA HS1 HMI c0 c1 c2;refine xA9 0 17 (.pointer (some ⟨p,0,none⟩)) hS ?_;refine xG9 1 18 (.slice (some ⟨g,0,none⟩) k l.ca) rfl (.inl ⟨by rfl,fun _ h=>by have c0:=h; go_simp⟩) hS ?_;refine xA9 2 19 (.int .i64 (h:Int)) hS ?_;refine xA9 3 20 (.slice (some ⟨g,0,none⟩) h l.ca) hS ?_;refine xA9 4 21 (.agg #[.slice (some ⟨g,0,none⟩) h l.ca,.slice none 0 0,.slice none 0 0]) hS ?_;refine xA9 5 22 (.pointer (some ⟨p,0,none⟩)) hS ?_;refine xG9 6 23 (.slice (some ⟨g,0,none⟩) k l.ca) rfl (.inl ⟨by rfl,fun _ h=>by have c0:=h; go_simp⟩) hS ?_;refine xA9 7 24 (.int .i64 (h:Int)) hS ?_;refine xA9 8 25 (.slice (some ⟨g,h,none⟩) (k - h) (l.ca - h)) hS ?_;refine xA9 9 26 (.agg #[.slice (some ⟨g,h,none⟩) (k - h) (l.ca - h),.slice none 0 0,.slice none 0 0]) hS ?_;refine JI (i:=10) (j:=11) (oi:=⟨some 5,_,_,_,_,_⟩) (oj:=⟨some 6,_,_,_,_,_⟩) rfl rfl (by kernel_rfl) (fun K hK=>?_) (fun K hK=>?_)
  case' refine_1 =>
   go_simp;refine hK.out _ _ (by have h9:=(Below.refl wa.1.size wa).alloc (zfI _) (.cells #[.slice none 0 0,.slice none 0 0,.slice none 0 0] 48); exact (h9.cell (p:=⟨p,0,none⟩) HSA.o.b.lt).trans hS) ?_;clear hK K;refine xJ9 11 (some 6) (fun K hK=>?_);go_simp;obtain ⟨q1,HQ1⟩:=hY (wa.1.size);obtain ⟨q2,HQ2⟩:=hY (wa.1.size + 1);have HQQ:=hI ((q1 = wa.1.size /\ q2 = wa.1.size + 1) \/ (q2 = wa.1.size /\ q1 = wa.1.size + 1)) (.inl ⟨HQ1.o,HQ2.o⟩);rw [<- HQ2.o,<- HQ1.o]
  case' refine_2 =>
   go_simp;refine hK.out _ _ (by have h9:=(Below.refl wa.1.size wa).alloc (zfI _) (.cells #[.slice none 0 0,.slice none 0 0,.slice none 0 0] 48); exact (h9.cell (p:=⟨p,0,none⟩) HSA.o.b.lt).trans hS) ?_;clear hK K;refine xJ9 10 (some 5) (fun K hK=>?_);go_simp;obtain ⟨q1,HQ1⟩:=hY (wa.1.size + 1);obtain ⟨q2,HQ2⟩:=hY (wa.1.size);have HQQ:=hI ((q1 = wa.1.size /\ q2 = wa.1.size + 1) \/ (q2 = wa.1.size /\ q1 = wa.1.size + 1)) (.inr ⟨HQ2.o,HQ1.o⟩);rw [<- HQ1.o,<- HQ2.o]
  all_goals
   obtain ⟨wb,HWB⟩:=hY ((wa.alloc (.cells #[.slice none 0 0,.slice none 0 0,.slice none 0 0] 48)).alloc (.cells #[.slice none 0 0,.slice none 0 0,.slice none 0 0] 48));have HPB:=hI (PS w p q1 q2 b l x (.slice none 0 0) (.slice none 0 0) (.slice none 0 0) (.slice none 0 0) (.slice none 0 0) (.slice none 0 0) wb) (by rw [HWB.o]; exact PS.new HSA.o HMA.o HLW.o HQQ.o _);rw [<- HWB.o];clear HWB HQQ HQ1 HQ2 hS;have hS:wb.cell? ⟨p,0,none⟩ = some (.slice (some ⟨g,0,none⟩) k l.ca):=by have:=HPB.o.cp.b.c0; rw [HGG.o,<- HKK.o] at this; exact this
   refine hK.out _ _ hS ?_;clear hK K;refine xJ9 12 (none) (fun K hK=>?_);have d0:=HPB.o.a0;have d1:=HPB.o.a1;have d2:=HPB.o.a2;have f0:=HPB.o.f1 0;have f1:=HPB.o.f1 1;have f2:=HPB.o.f1 2;go_simp;obtain ⟨wc,HWC⟩:=hY (((wb.setCell ⟨q1,0,none⟩ (.slice (some ⟨g,0,none⟩) h l.ca)).setCell ⟨q1,1,none⟩ (.slice none 0 0)).setCell ⟨q1,2,none⟩ (.slice none 0 0));have HPC:=hI (PS w p q1 q2 b l x (.slice (some ⟨g,0,none⟩) h l.ca) (.slice none 0 0) (.slice none 0 0) (.slice none 0 0) (.slice none 0 0) (.slice none 0 0) wc) (by rw [HWC.o]; exact ((HPB.o.put1 0 _).put1 1 _).put1 2 _);rw [<- HWC.o];clear HWC HPB hS d0 d1 d2 f0 f1 f2;have hS:wc.cell? ⟨p,0,none⟩ = some (.slice (some ⟨g,0,none⟩) k l.ca):=by have:=HPC.o.cp.b.c0; rw [HGG.o,<- HKK.o] at this; exact this
   refine hK.out _ _ hS ?_;clear hK K;refine xJ9 13 (none) (fun K hK=>?_);have d0:=HPC.o.b0;have d1:=HPC.o.b1;have d2:=HPC.o.b2;have f0:=HPC.o.f2 0;have f1:=HPC.o.f2 1;have f2:=HPC.o.f2 2;go_simp;obtain ⟨wd,HWD⟩:=hY (((wc.setCell ⟨q2,0,none⟩ (.slice (some ⟨g,h,none⟩) (k - h) (l.ca - h))).setCell ⟨q2,1,none⟩ (.slice none 0 0)).setCell ⟨q2,2,none⟩ (.slice none 0 0));have HPD:=hI (PS w p q1 q2 b l x (.slice (some ⟨g,0,none⟩) h l.ca) (.slice none 0 0) (.slice none 0 0) (.slice (some ⟨g,h,none⟩) (k - h) (l.ca - h)) (.slice none 0 0) (.slice none 0 0) wd) (by rw [HWD.o]; exact ((HPC.o.put2 0 _).put2 1 _).put2 2 _);rw [<- HWD.o];clear HWD HPC hS d0 d1 d2 f0 f1 f2;have hS:wd.cell? ⟨p,0,none⟩ = some (.slice (some ⟨g,0,none⟩) k l.ca):=by have:=HPD.o.cp.b.c0; rw [HGG.o,<- HKK.o] at this; exact this
   refine hK.out _ _ hS ?_;clear hK K hS;refine wpAnyH_done (by kernel_rfl) ?_ _;go_wp2_with (with_reducible refine xD9 (some 27) ?_);refine zg Tryz.ndProg (by rfl) _ rfl p rfl l x HPD.o.cp.b ?_;go_wp2_with fail;refine (va x).mono ?_;rintro e we ⟨rfl,hb⟩;have HPE:=Hi (HPD.o.carry hb);clear hb HPD;by_cases hlf:x.kids.length = 0
   case' pos =>
    rw [decide_eq_true hlf];have HLF:=Hi hlf;obtain ⟨gv,HGV,hvc,hvm,_,_⟩:=yu HPE.o.mi.v (by have:=HSH.o.leaf hlf; have:=HR.o; have:=HKK.o; omega);have HVL:=hI (x.vals.length = k) (by rw [HSH.o.leaf hlf,HKK.o]);have hr1:(h:Int) <= (l.cb:Int):=by have:=HR.o; have:=HVL.o; omega
    have hr2:(h:Int) <= (k:Int):=by have:=HR.o; omega
    have hcb:¬ l.cb = h:=by have:=HR.o; have:=HVL.o; omega
    have HCB:=hI (k <= l.cb) (by rw [<- HVL.o]; exact hvc);have HGVV:=Hi HGV;clear hlf hvc hvm HGV;go_upto_region 6 with (fail)
    refine wp_region_held (S:=fun w9=>w9.cell? ⟨p,1,none⟩ = some (.slice (some ⟨gv,0,none⟩) k l.cb)) (by kernel_rfl) ?_;change wpAnyH _ _ _ _ _ _ _ _ we.drew;obtain ⟨wf,HWF⟩:=hY (we.drew);rw [<- HWF.o];have HPF:=Hi (HPE.o.carry (w':=wf) (by rw [HWF.o]; exact (Below.refl _ _).drew));have hS:wf.cell? ⟨p,1,none⟩ = some (.slice (some ⟨gv,0,none⟩) k l.cb):=by have:=HPF.o.cp.b.c1; rw [HGVV.o,HVL.o] at this; exact this
    clear HWF HPE;refine xA9 0 29 (.pointer (some ⟨p,1,none⟩)) hS ?_;refine xG9 1 30 (.slice (some ⟨gv,0,none⟩) k l.cb) rfl (.inl ⟨by rfl,fun _ h=>by have c0:=h; go_simp⟩) hS ?_;refine xA9 2 31 (.int .i64 (h:Int)) hS ?_;refine xA9 3 32 (.slice (some ⟨gv,0,none⟩) h l.cb) hS ?_;refine xA9 4 33 (.pointer (some ⟨p,1,none⟩)) hS ?_;refine xG9 5 34 (.slice (some ⟨gv,0,none⟩) k l.cb) rfl (.inl ⟨by rfl,fun _ h=>by have c0:=h; go_simp⟩) hS ?_;refine xA9 6 35 (.int .i64 (h:Int)) hS ?_;refine xA9 7 36 (.slice (some ⟨gv,h,none⟩) (k - h) (l.cb - h)) hS ?_;refine xA9 8 37 (.pointer (some ⟨q1,1,none⟩)) hS ?_;refine xJ9 9 (none) (fun K hK=>?_);have d0:=HPF.o.a1;have f0:=HPF.o.f1 1;go_simp;obtain ⟨wg,HWwg⟩:=hY (wf.setCell ⟨q1,1,none⟩ (.slice (some ⟨gv,0,none⟩) h l.cb));have HPG:=hI (PS w p q1 q2 b l x (.slice (some ⟨g,0,none⟩) h l.ca) (.slice (some ⟨gv,0,none⟩) h l.cb) (.slice none 0 0) (.slice (some ⟨g,h,none⟩) (k - h) (l.ca - h)) (.slice none 0 0) (.slice none 0 0) wg) (by rw [HWwg.o]; exact HPF.o.put1 1 _);rw [<- HWwg.o];clear HWwg HPF hS d0 f0;have hS:wg.cell? ⟨p,1,none⟩ = some (.slice (some ⟨gv,0,none⟩) k l.cb):=by have:=HPG.o.cp.b.c1; rw [HGVV.o,HVL.o] at this; exact this
    refine hK.out _ _ hS ?_;clear hK K;refine xA9 10 38 (.pointer (some ⟨q2,1,none⟩)) hS ?_;refine xJ9 11 (none) (fun K hK=>?_);have d0:=HPG.o.b1;have f0:=HPG.o.f2 1;go_simp;obtain ⟨wh,HWwh⟩:=hY (wg.setCell ⟨q2,1,none⟩ (.slice (some ⟨gv,h,none⟩) (k - h) (l.cb - h)));have HPH:=hI (PS w p q1 q2 b l x (.slice (some ⟨g,0,none⟩) h l.ca) (.slice (some ⟨gv,0,none⟩) h l.cb) (.slice none 0 0) (.slice (some ⟨g,h,none⟩) (k - h) (l.ca - h)) (.slice (some ⟨gv,h,none⟩) (k - h) (l.cb - h)) (.slice none 0 0) wh) (by rw [HWwh.o]; exact HPG.o.put2 1 _);rw [<- HWwh.o];clear HWwh HPG hS d0 f0;have hS:wh.cell? ⟨p,1,none⟩ = some (.slice (some ⟨gv,0,none⟩) k l.cb):=by have:=HPH.o.cp.b.c1; rw [HGVV.o,HVL.o] at this; exact this
    refine hK.out _ _ hS ?_;clear hK K;refine wpAnyH_done (by kernel_rfl) ?_ _;clear hS;obtain ⟨L1,HL1⟩:∃ L1:zd,Hid (L1 = ⟨some ⟨g,0,none⟩,some ⟨gv,0,none⟩,none,l.ca,l.cb,0⟩):=Hy;obtain ⟨L2,HL2⟩:∃ L2:zd,Hid (L2 = ⟨some ⟨g,h,none⟩,some ⟨gv,h,none⟩,none,l.ca - h,l.cb - h,0⟩):=Hy;obtain ⟨x1,HX1⟩:∃ x1:Nd,Hid (x1 = ⟨x.keys.take h,x.vals.take h,[]⟩):=Hy;obtain ⟨x2,HX2⟩:∃ x2:Nd,Hid (x2 = ⟨x.keys.drop h,x.vals.drop h,[]⟩):=Hy;have HB1:=hI (zb wh q1 L1 x1) (by
     rw [HL1.o,HX1.o];refine ⟨?_,?_,HPH.o.a2⟩
     ·show wh.cell? ⟨q1,0,none⟩ = some (.slice (some ⟨g,0,none⟩) (x.keys.take h).length l.ca);rw [zfZ,<- HKK.o,show min h k = h by have:=HR.o; omega]; exact HPH.o.a0
     ·show wh.cell? ⟨q1,1,none⟩ = some (.slice (some ⟨gv,0,none⟩) (x.vals.take h).length l.cb);rw [zfZ,HVL.o,show min h k = h by have:=HR.o; omega]; exact HPH.o.a1)
    have HB2:=hI (zb wh q2 L2 x2) (by
     rw [HL2.o,HX2.o];refine ⟨?_,?_,HPH.o.b2⟩
     ·show wh.cell? ⟨q2,0,none⟩ = some (.slice (some ⟨g,h,none⟩) (x.keys.drop h).length (l.ca - h));rw [zf8,<- HKK.o]; exact HPH.o.b0
     ·show wh.cell? ⟨q2,1,none⟩ = some (.slice (some ⟨gv,h,none⟩) (x.vals.drop h).length (l.cb - h));rw [zf8,HVL.o]; exact HPH.o.b1)
    have HN1:=hI (xF wh L1 x1) (by
     have hi:=HPH.o.mi.is;have hkk:=hi.keys;have hvv:=hi.vals;rw [HGG.o] at hkk;rw [HGVV.o] at hvv;rw [HL1.o,HX1.o];refine ⟨hkk.take h,?_,Nums.none_ _ _ _,zfH (zgt _ _) hi.kl,zfH (zgt _ _) hi.vl,zf6 _,fun z hz=>hi.kw z (zgu hz),fun z hz=>hi.vw z (zgu hz),fun z hz=>(by cases hz)⟩;show Strs wh (some ⟨gv,0,none⟩) (x.vals.take h).length (x.vals.take h);rw [zfZ,HVL.o,show min h k = h by have:=HR.o; omega];exact hvv.take (by rw [HVL.o]; have:=HR.o; omega))
    have HN2:=hI (xF wh L2 x2) (by
     have hi:=HPH.o.mi.is;have hkk:=hi.keys;have hvv:=hi.vals;rw [HGG.o] at hkk;rw [HGVV.o] at hvv;rw [HL2.o,HX2.o];refine ⟨jV hkk h,?_,Nums.none_ _ _ _,?_,?_,zf6 _,fun z hz=>hi.kw z (zgv hz),fun z hz=>hi.vw z (zgv hz),fun z hz=>(by cases hz)⟩
     ·show Strs wh (some ⟨gv,h,none⟩) (x.vals.drop h).length (x.vals.drop h);rw [zf8];exact hvv.drop (by rw [HVL.o]; have:=HR.o; omega)
     ·show (x.keys.drop h).length <= maxLen;rw [zf8]; have:=hi.kl; omega
     ·show (x.vals.drop h).length <= maxLen;rw [zf8]; have:=hi.vl; omega)
    have HMP:=hI (yw x = ([x1,x2],(x.keys.drop h).take 1)) (by
     unfold yw;rw [if_neg HK7.o,if_pos HLF.o,HX1.o,HX2.o,<- HKK.o,<- HHH.o])
    have HLL:=hI ((∀ u,L1.has u -> l.has u) /\ ∀ u,L2.has u -> l.has u) (by
     rw [HL1.o,HL2.o];refine ⟨fun u hu=>?_,fun u hu=>?_⟩ <;> rcases hu with ⟨a,ha,rfl⟩ | ⟨a,ha,rfl⟩ | ⟨a,ha,rfl⟩ <;> cases ha
     ·exact .inl ⟨_,HGG.o,rfl⟩
     ·exact .inr (.inl ⟨_,HGVV.o,rfl⟩)
     ·exact .inl ⟨_,HGG.o,rfl⟩
     ·exact .inr (.inl ⟨_,HGVV.o,rfl⟩))
   case' neg =>
    rw [decide_eq_false hlf];have HLF:=Hi hlf;obtain ⟨gc,HGC,hcc,hcm,_,_⟩:=yu HPE.o.mi.c (by have:=HSH.o.inner hlf; omega);have HCL:=hI (x.kids.length = k + 1) (by rw [(HSH.o.inner hlf).2,HKK.o]);have HV0:=hI (x.vals = []) (List.length_eq_zero_iff.1 (HSH.o.inner hlf).1);have hr6:(i:Int) <= (l.cc:Int):=by have:=HR.o; have:=HCL.o; have:=HII.o; omega
    have hr7:(i:Int) <= (k:Int) + 1:=by have:=HR.o; have:=HII.o; omega
    have hcc2:¬ l.cc = i:=by have:=HR.o; have:=HCL.o; have:=HII.o; omega
    have HCC:=hI (k + 1 <= l.cc) (by rw [<- HCL.o]; exact hcc);have HGCC:=Hi HGC;clear hlf hcc hcm HGC;have c0:=HPE.o.cp.b.c0;rw [HGG.o,<- HKK.o] at c0;have d0:=HPE.o.b0;have f0:=HPE.o.f2 0;go_upto_region 8 with (fail)
    obtain ⟨wm,HWM⟩:=hY (we.setCell ⟨q2,0,none⟩ (.slice (some ⟨g,i,none⟩) (k - i) (l.ca - i)));have HPM:=hI (PS w p q1 q2 b l x (.slice (some ⟨g,0,none⟩) h l.ca) (.slice none 0 0) (.slice none 0 0) (.slice (some ⟨g,i,none⟩) (k - i) (l.ca - i)) (.slice none 0 0) (.slice none 0 0) wm) (by rw [HWM.o]; exact HPE.o.put2 0 _);rw [<- HWM.o];clear HWM c0 d0 f0 HPE;refine wp_region_held (S:=fun w9=>w9.cell? ⟨p,2,none⟩ = some (.slice (some ⟨gc,0,none⟩) (k + 1) l.cc)) (by kernel_rfl) ?_;change wpAnyH _ _ _ _ _ _ _ _ wm.drew;obtain ⟨wf,HWF⟩:=hY (wm.drew);rw [<- HWF.o];have HPF:=Hi (HPM.o.carry (w':=wf) (by rw [HWF.o]; exact (Below.refl _ _).drew));have hS:wf.cell? ⟨p,2,none⟩ = some (.slice (some ⟨gc,0,none⟩) (k + 1) l.cc):=by have:=HPF.o.cp.b.c2; rw [HGCC.o,HCL.o] at this; exact this
    clear HWF HPM;refine xA9 0 45 (.pointer (some ⟨p,2,none⟩)) hS ?_;refine xG9 1 46 (.slice (some ⟨gc,0,none⟩) (k + 1) l.cc) rfl (.inl ⟨by rfl,fun _ h=>by have c0:=h; go_simp⟩) hS ?_;refine xA9 2 47 (.int .i64 (h:Int)) hS ?_;refine xA9 3 48 (.int .i64 (i:Int)) hS ?_;refine xA9 4 49 (.slice (some ⟨gc,0,none⟩) i l.cc) hS ?_;refine xA9 5 50 (.pointer (some ⟨p,2,none⟩)) hS ?_;refine xG9 6 51 (.slice (some ⟨gc,0,none⟩) (k + 1) l.cc) rfl (.inl ⟨by rfl,fun _ h=>by have c0:=h; go_simp⟩) hS ?_;refine xA9 7 52 (.int .i64 (h:Int)) hS ?_;refine xA9 8 53 (.int .i64 (i:Int)) hS ?_;refine xA9 9 54 (.slice (some ⟨gc,i,none⟩) (k + 1 - i) (l.cc - i)) hS ?_;refine xA9 10 55 (.pointer (some ⟨q1,2,none⟩)) hS ?_;refine xJ9 11 (none) (fun K hK=>?_);have d0:=HPF.o.a2;have f0:=HPF.o.f1 2;go_simp;obtain ⟨wg,HWwg⟩:=hY (wf.setCell ⟨q1,2,none⟩ (.slice (some ⟨gc,0,none⟩) i l.cc));have HPG:=hI (PS w p q1 q2 b l x (.slice (some ⟨g,0,none⟩) h l.ca) (.slice none 0 0) (.slice (some ⟨gc,0,none⟩) i l.cc) (.slice (some ⟨g,i,none⟩) (k - i) (l.ca - i)) (.slice none 0 0) (.slice none 0 0) wg) (by rw [HWwg.o]; exact HPF.o.put1 2 _);rw [<- HWwg.o];clear HWwg HPF hS d0 f0;have hS:wg.cell? ⟨p,2,none⟩ = some (.slice (some ⟨gc,0,none⟩) (k + 1) l.cc):=by have:=HPG.o.cp.b.c2; rw [HGCC.o,HCL.o] at this; exact this
    refine hK.out _ _ hS ?_;clear hK K;refine xA9 12 56 (.pointer (some ⟨q2,2,none⟩)) hS ?_;refine xJ9 13 (none) (fun K hK=>?_);have d0:=HPG.o.b2;have f0:=HPG.o.f2 2;go_simp;obtain ⟨wh,HWwh⟩:=hY (wg.setCell ⟨q2,2,none⟩ (.slice (some ⟨gc,i,none⟩) (k + 1 - i) (l.cc - i)));have HPH:=hI (PS w p q1 q2 b l x (.slice (some ⟨g,0,none⟩) h l.ca) (.slice none 0 0) (.slice (some ⟨gc,0,none⟩) i l.cc) (.slice (some ⟨g,i,none⟩) (k - i) (l.ca - i)) (.slice none 0 0) (.slice (some ⟨gc,i,none⟩) (k + 1 - i) (l.cc - i)) wh) (by rw [HWwh.o]; exact HPG.o.put2 2 _);rw [<- HWwh.o];clear HWwh HPG hS d0 f0;have hS:wh.cell? ⟨p,2,none⟩ = some (.slice (some ⟨gc,0,none⟩) (k + 1) l.cc):=by have:=HPH.o.cp.b.c2; rw [HGCC.o,HCL.o] at this; exact this
    refine hK.out _ _ hS ?_;clear hK K;refine wpAnyH_done (by kernel_rfl) ?_ _;clear hS;obtain ⟨L1,HL1⟩:∃ L1:zd,Hid (L1 = ⟨some ⟨g,0,none⟩,none,some ⟨gc,0,none⟩,l.ca,0,l.cc⟩):=Hy;obtain ⟨L2,HL2⟩:∃ L2:zd,Hid (L2 = ⟨some ⟨g,i,none⟩,none,some ⟨gc,i,none⟩,l.ca - i,0,l.cc - i⟩):=Hy;obtain ⟨x1,HX1⟩:∃ x1:Nd,Hid (x1 = ⟨x.keys.take h,[],x.kids.take i⟩):=Hy;obtain ⟨x2,HX2⟩:∃ x2:Nd,Hid (x2 = ⟨x.keys.drop i,[],x.kids.drop i⟩):=Hy;have HB1:=hI (zb wh q1 L1 x1) (by
     rw [HL1.o,HX1.o];refine ⟨?_,HPH.o.a1,?_⟩
     ·show wh.cell? ⟨q1,0,none⟩ = some (.slice (some ⟨g,0,none⟩) (x.keys.take h).length l.ca);rw [zfZ,<- HKK.o,show min h k = h by have:=HR.o; omega]; exact HPH.o.a0
     ·show wh.cell? ⟨q1,2,none⟩ = some (.slice (some ⟨gc,0,none⟩) (x.kids.take i).length l.cc);rw [zfZ,HCL.o,show min i (k + 1) = i by have:=HR.o; have:=HII.o; omega]; exact HPH.o.a2)
    have HB2:=hI (zb wh q2 L2 x2) (by
     rw [HL2.o,HX2.o];refine ⟨?_,HPH.o.b1,?_⟩
     ·show wh.cell? ⟨q2,0,none⟩ = some (.slice (some ⟨g,i,none⟩) (x.keys.drop i).length (l.ca - i));rw [zf8,<- HKK.o]; exact HPH.o.b0
     ·show wh.cell? ⟨q2,2,none⟩ = some (.slice (some ⟨gc,i,none⟩) (x.kids.drop i).length (l.cc - i));rw [zf8,HCL.o]; exact HPH.o.b2)
    have HN1:=hI (xF wh L1 x1) (by
     have hi:=HPH.o.mi.is;have hkk:=hi.keys;have hcc:=hi.kids;rw [HGG.o] at hkk;rw [HGCC.o] at hcc;rw [HL1.o,HX1.o];exact ⟨hkk.take h,Strs.none_ _ _,hcc.take i,zfH (zgt _ _) hi.kl,zf6 _,zfH (zgt _ _) hi.cl,fun z hz=>hi.kw z (zgu hz),fun z hz=>(by cases hz),fun z hz=>hi.cw z (zgu hz)⟩)
    have HN2:=hI (xF wh L2 x2) (by
     have hi:=HPH.o.mi.is;have hkk:=hi.keys;have hcc:=hi.kids;rw [HGG.o] at hkk;rw [HGCC.o] at hcc;rw [HL2.o,HX2.o];refine ⟨jV hkk i,Strs.none_ _ _,jV hcc i,?_,zf6 _,?_,fun z hz=>hi.kw z (zgv hz),fun z hz=>(by cases hz),fun z hz=>hi.cw z (zgv hz)⟩
     ·show (x.keys.drop i).length <= maxLen;rw [zf8]; have:=hi.kl; omega
     ·show (x.kids.drop i).length <= maxLen;rw [zf8]; have:=hi.cl; omega)
    have HMP:=hI (yw x = ([x1,x2],(x.keys.drop h).take 1)) (by
     unfold yw;rw [if_neg HK7.o,if_neg HLF.o,HX1.o,HX2.o,<- HKK.o,<- HHH.o,<- HII.o])
    have HLL:=hI ((∀ u,L1.has u -> l.has u) /\ ∀ u,L2.has u -> l.has u) (by
     rw [HL1.o,HL2.o];refine ⟨fun u hu=>?_,fun u hu=>?_⟩ <;> rcases hu with ⟨a,ha,rfl⟩ | ⟨a,ha,rfl⟩ | ⟨a,ha,rfl⟩ <;> cases ha
     ·exact .inl ⟨_,HGG.o,rfl⟩
     ·exact .inr (.inr ⟨_,HGCC.o,rfl⟩)
     ·exact .inl ⟨_,HGG.o,rfl⟩
     ·exact .inr (.inr ⟨_,HGCC.o,rfl⟩))
   all_goals
    clear HL1 HL2 HX1 HX2;have HCP:=Hi HPH.o.cp;have c0:=HCP.o.b.c0;rw [HGG.o,<- HKK.o] at c0;go_upto_region 9 with (fail)
    refine wp_region_held (S:=fun w9=>w9.cell? ⟨p,0,none⟩ = some (.slice (some ⟨g,0,none⟩) k l.ca) /\ zb w9 q1 L1 x1 /\ zb w9 q2 L2 x2) (by kernel_rfl) ?_;change wpAnyH _ _ _ _ _ _ _ _ wh.drew;obtain ⟨wi,HWI⟩:=hY (wh.drew);rw [<- HWI.o];have hdr:Below wh.1.size wh wi:=by rw [HWI.o]; exact (Below.refl _ _).drew
    have hS:wi.cell? ⟨p,0,none⟩ = some (.slice (some ⟨g,0,none⟩) k l.ca) /\ zb wi q1 L1 x1 /\ zb wi q2 L2 x2:=⟨(hdr.cell (p:=⟨p,0,none⟩) HCP.o.b.lt).trans c0,HB1.o.carry hdr HB1.o.lt,HB2.o.carry hdr HB2.o.lt⟩
    have HNI:=hI (xF wi L1 x1 /\ xF wi L2 x2 /\ xJ w p l x wi) ⟨HN1.o.carry hdr,HN2.o.carry hdr,HCP.o.carry hdr⟩;clear hdr HWI HB1 HB2 HN1 HN2 HCP HPH c0;refine xG9 0 57 (ndV L1 x1) rfl (yJ Tryz.ndProg (by rfl) _ rfl q1 rfl L1 x1 (fun _ h=>h.2.1)) hS ?_;refine xG9 1 58 (ndV L2 x2) rfl (yJ Tryz.ndProg (by rfl) _ rfl q2 rfl L2 x2 (fun _ h=>h.2.2)) hS ?_;refine xA9 3 60 (.pointer (some ⟨p,0,none⟩)) hS ?_;refine xG9 4 61 (.slice (some ⟨g,0,none⟩) k l.ca) rfl (.inl ⟨by rfl,fun _ h=>by have c0:=h.1; go_simp⟩) hS ?_;refine xA9 5 62 (.int .i64 (h:Int)) hS ?_;refine xA9 6 63 (.int .i64 (h:Int)) hS ?_;refine xA9 7 64 (.int .i64 (i:Int)) hS ?_;refine xA9 8 65 (.slice (some ⟨g,h,none⟩) (i - h) (l.ca - h)) hS ?_;refine xJ9 2 (some 59) (fun K hK=>?_);go_simp;obtain ⟨q3,HQ3⟩:=hY (wi.1.size);obtain ⟨wj,HWJ⟩:=hY (wi.alloc (.cells #[.slice L1.A x1.keys.length L1.ca,.slice L1.B x1.vals.length L1.cb,.slice L1.C x1.kids.length L1.cc,.slice L2.A x2.keys.length L2.ca,.slice L2.B x2.vals.length L2.cb,.slice L2.C x2.kids.length L2.cc] 48));rw [<- HWJ.o,<- HQ3.o];have HBJ:=hI (Below wi.1.size wi wj) (by rw [HWJ.o]; exact bA);have hS2:wj.cell? ⟨p,0,none⟩ = some (.slice (some ⟨g,0,none⟩) k l.ca) /\ zb wj q1 L1 x1 /\ zb wj q2 L2 x2:=⟨(HBJ.o.cell (p:=⟨p,0,none⟩) HNI.o.2.2.b.lt).trans hS.1,hS.2.1.carry HBJ.o hS.2.1.lt,hS.2.2.carry HBJ.o hS.2.2.lt⟩
    refine hK.out _ _ hS2 ?_;clear hK K hS;have hS:=hS2;clear hS2;refine xA9 9 2 (.slice (some ⟨q3,0,none⟩) 2 2) hS ?_;refine xA9 10 3 (.slice (some ⟨g,h,none⟩) (i - h) (l.ca - h)) hS ?_;refine wpAnyH_done (by kernel_rfl) ?_ _;go_wp2_with fail
    go_ret2
    have hrow:wj.rangeAt q3 0 [.slice L1.A x1.keys.length L1.ca,.slice L1.B x1.vals.length L1.cb,.slice L1.C x1.kids.length L1.cc,.slice L2.A x2.keys.length L2.ca,.slice L2.B x2.vals.length L2.cb,.slice L2.C x2.kids.length L2.cc]:=by
     rw [HWJ.o,HQ3.o];intro j v hv;simp only [Nat.zero_add]
     match j,hv with
     | 0,hv=>cases hv; simp
     | 1,hv=>cases hv; simp
     | 2,hv=>cases hv; simp
     | 3,hv=>cases hv; simp
     | 4,hv=>cases hv; simp
     | 5,hv=>cases hv; simp
    unfold Zu;rw [HMP.o];refine ⟨q3,some ⟨g,h,none⟩,l.ca - h,?_,?_,?_,?_,?_,?_,fun a ha=>⟨⟨⟨g,0,none⟩,HGG.o,by cases ha; rfl⟩,g,h,by cases ha; rfl⟩,fun h9=>?_⟩
    ·have:((x.keys.drop h).take 1).length = i - h:=by rw [zfZ,zf8,<- HKK.o]; have:=HR.o; have:=HII.o; omega
     rw [this]; rfl
    ·intro m hm
     match m,hm with
     | 0,_=>exact ⟨L1,HNI.o.1.carry HBJ.o,fun j v hv=>by
       have:=hrow j v (by
        match j,hv with
        | 0,hv=>exact hv
        | 1,hv=>exact hv
        | 2,hv=>exact hv)
       simpa using this,HLL.o.1⟩
     | 1,_=>exact ⟨L2,HNI.o.2.1.carry HBJ.o,fun j v hv=>by
       have:=hrow (3 + j) v (by
        match j,hv with
        | 0,hv=>exact hv
        | 1,hv=>exact hv
        | 2,hv=>exact hv)
       simpa using this,HLL.o.2⟩
    ·have hkk:=(HNI.o.2.2.carry HBJ.o).is.keys;rw [HGG.o] at hkk;exact (jV hkk h).take 1
    ·rw [HQ3.o]; exact HNI.o.2.2.below.size
    ·rw [HQ3.o,HWJ.o]; simp
    ·exact HNI.o.2.2.below.trans (HBJ.o.mono HNI.o.2.2.below.size)
    ·have h8:=congrArg List.length h9;rw [zfZ,zf8,<- HKK.o,List.length_nil] at h8;have:=HR.o;omega
end
section
theorem xB {S:TS} {i level:Int} {x:Nd} (h:yp S i level = .ok x):zM x = true:=by
 unfold yp at h;split at h
 ·cases h
 ·split at h
  ·split at h
   ·rename_i y hy
    cases h;exact jz hy
   ·cases h
  ·cases h
theorem yh {x:Nd} (h:zM x = true):xL x:=by
 obtain ⟨_,h2,h3⟩:=zm h;refine ⟨fun hk=>?_,fun hk=>?_,by omega⟩
 ·rcases h3 with ⟨_,_,h6⟩ | ⟨_,_,_,_,h8⟩
  ·exact h6
  ·omega
 ·rcases h3 with ⟨h4,_⟩ | ⟨_,_,h6,_,h8⟩
  ·rw [h4] at hk; exact absurd rfl hk
  ·exact ⟨by rw [h6]; rfl,h8⟩
theorem kY {x:Nd} (h:zM x = true) (hk:x.kids.length ≠ 0) (key:Int):yF x key < x.kids.length:=by
 have h1:=(yh h).inner hk;unfold yF yA;rw [if_pos h];have h2:=ZB x.keys key;simp only;split
 ·rename_i h3
  have h4:=(List.getElem?_eq_some_iff.1 (of_decide_eq_true h3)).1;omega
 ·omega
def km (w:World) (o:Except Int ByteArray) (e:Ending) (w':World):Prop :=
 match o with
 | .error c=>c ≠ 0 /\ ∃ v,e = .returned (.tuple #[.string ⟨#[]⟩,v]) /\ zi w' w.1.size c v /\ Below w.1.size w w'
 | .ok s=>e = .returned (.tuple #[.string s,.nilIface]) /\ Below w.1.size w w'
theorem km.from_ {w w1 w2:World} {o:Except Int ByteArray} {e:Ending} (h:km w1 o e w2) (hb:Below w.1.size w w1):km w o e w2:=by
 unfold km at *;cases o with
 | error c =>
  obtain ⟨h1,v,h2,h3,h4⟩:=h;exact ⟨h1,v,h2,h3.mono hb.size,hb.trans (h4.mono hb.size)⟩
 | ok s=>exact ⟨h.1,hb.trans (h.2.mono hb.size)⟩
section
variable {O:ye} (H:ym O)
include H
theorem zek {w0:World} {P D n:Nat} {S:TS} {firm:Nat -> List UInt8} (hg:yL w0) (f:Nat) (hf:f <= 12) {K:Nat -> Prop} {w:World} (hl:zX O w0 K w P D n S firm) (i key:Int) :
  Calls Tryz.prog 108 #[ptr P,.int .i64 i,.int .i64 (13 - (f:Int)),.int .i64 key] w (km w (ql f S i key)):=by
 induction f generalizing w K i with
 | zero =>
  have HLD:=Hi (kI H hl hg i 13);have HM:=hI (yp S i 13 = .error 2) (by unfold yp; rw [if_pos (by decide)]);have HG0:=hI (ql 0 S i key = .error 2) rfl;rw [HM.o] at HLD;rw [show (13:Int) - ((0:Nat):Int) = 13 from rfl];clear hl
  go_enter Tryz.func108,Tryz.ntmps108
  go_wp2_with fail;refine HLD.o.mono ?_;rintro e w1 ⟨hc,v,rfl,he,hb⟩;obtain ⟨tt,xx,rfl⟩:=he.some hc;have HE:=Hi he;have HB:=Hi hb;have HC:=Hi hc;clear he hb HLD hc;go_wp2_with fail
  go_ret2
  have hb2:=(Below.refl w1.1.size w1).alloc (zfI _) (.cells #[.slice zd.none_.A Nd.empty.keys.length zd.none_.ca,.slice zd.none_.B Nd.empty.vals.length zd.none_.cb,.slice zd.none_.C Nd.empty.kids.length zd.none_.cc] 48);rw [HG0.o];exact ⟨HC.o,_,rfl,HE.o.below hb2,HB.o.trans (hb2.mono HB.o.size)⟩
 | succ f ih =>
  obtain ⟨lv,HLV⟩:∃ lv:Int,Hid (lv = 12 - (f:Int)):=Hy;have HLW:=hI (wrap64 (lv + 1) = 13 - (f:Int)) (by rw [HLV.o]; unfold wrap64; omega);have HLW2:=hI (IntKind.i64.wrap (lv + 1) = 13 - (f:Int)) (by rw [IntKind.wrap_i64,HLV.o]; omega);rw [show (13:Int) - ((f + 1:Nat):Int) = lv by rw [HLV.o]; omega];have HLD:=Hi (kI H hl hg i lv);have HL:=Hi hl;have HIH:Hid (∀ {K:Nat -> Prop} {w:World},zX O w0 K w P D n S firm -> ∀ i:Int,Calls Tryz.prog 108 #[ptr P,.int .i64 i,.int .i64 (13 - (f:Int)),.int .i64 key] w (km w (ql f S i key))):=Hi fun h i=>ih (by omega) h i
  clear hl ih hf;cases hlm:yp S i lv with
  | error c =>
   have HG0:=hI (ql (f + 1) S i key = .error c) (by unfold ql; rw [<- HLV.o,hlm]);rw [hlm] at HLD;clear hlm
   go_enter Tryz.func108,Tryz.ntmps108
   go_wp2_with fail;refine HLD.o.mono ?_;rintro e w1 ⟨hc,v,rfl,he,hb⟩;obtain ⟨tt,xx,rfl⟩:=he.some hc;have HE:=Hi he;have HB:=Hi hb;have HC:=Hi hc;clear he hb HLD hc;go_wp2_with fail
   go_ret2
   have hb2:=(Below.refl w1.1.size w1).alloc (zfI _) (.cells #[.slice zd.none_.A Nd.empty.keys.length zd.none_.ca,.slice zd.none_.B Nd.empty.vals.length zd.none_.cb,.slice zd.none_.C Nd.empty.kids.length zd.none_.cc] 48);rw [HG0.o];exact ⟨HC.o,_,rfl,HE.o.below hb2,HB.o.trans (hb2.mono HB.o.size)⟩
  | ok x =>
   have HR:=Hi (xB hlm);have HG0:=hI (ql (f + 1) S i key = if x.kids.length = 0 then (if (yA x key).2 = true then .ok (x.vals.getD (yA x key).1 ⟨#[]⟩) else .error 4) else ql f S (x.kids.getD (yF x key) 0) key) (by
    show (match yp S i (12 - f:Int) with | .error c=>Except.error c | .ok x=>_) = _;rw [<- HLV.o,hlm])
   rw [hlm] at HLD;clear hlm
   go_enter Tryz.func108,Tryz.ntmps108
   go_wp2_with fail;refine HLD.o.mono ?_;rintro e w1 ⟨_,l,rfl,hn,hb⟩;obtain ⟨q,HQ⟩:=hY (w1.1.size);obtain ⟨w2,HW2⟩:=hY (w1.alloc (.cells #[.slice l.A x.keys.length l.ca,.slice l.B x.vals.length l.cb,.slice l.C x.kids.length l.cc] 48));have HS2:=hI (xJ w q l x w2) (by
    have h:=xJ.new hn.is;rw [<- HW2.o,<- HQ.o] at h;exact ⟨h.b,h.is,hb.trans (h.below.mono hb.size),by rw [HQ.o]; exact hb.size⟩)
   clear hn hb HLD;go_upto_region 4 with (fail)
   rw [<- HW2.o,<- HQ.o];clear HW2 HQ;go_wp2_with (with_reducible refine xD9 (some 24) ?_);refine zg Tryz.ndProg (by rfl) _ rfl q rfl l x HS2.o.b ?_;go_wp2_with fail;refine (va x).mono ?_;rintro e w3 ⟨rfl,hb⟩;have HS3:=Hi (HS2.o.carry hb);clear hb HS2;by_cases hlf:x.kids.length = 0
   ·rw [decide_eq_true hlf];have HLF:=Hi hlf;have HG1:=hI (ql (f + 1) S i key = if (yA x key).2 = true then .ok (x.vals.getD (yA x key).1 ⟨#[]⟩) else .error 4) (by rw [HG0.o,if_pos hlf]);have HSK:=Hi (Ym HS3.o.is key);obtain ⟨a,HAA⟩:=hY ((yA x key).1);obtain ⟨fd,HFD⟩:=hY ((yA x key).2);rw [<- HAA.o,<- HFD.o] at HSK HG1;clear hlf HG0;go_wp2_with (with_reducible refine xD9 (some 42) ?_);refine zg Tryz.ndProg (by rfl) _ rfl q rfl l x HS3.o.b ?_;go_wp2_with fail;refine HSK.o.mono ?_;rintro e w4 ⟨rfl,hb⟩;have HS4:=Hi (HS3.o.carry hb);clear hb HS3 HSK;cases fd with
    | false =>
     go_wp2_with fail;refine (xX 4 (by decide) _).mono ?_;rintro e w5 ⟨v,rfl,he,hb⟩;have HE:=Hi (he.mono HS4.o.below.size);have HB:=Hi (HS4.o.below.trans (hb.mono HS4.o.below.size));clear he hb;go_wp2_with fail
     go_ret2
     rw [HG1.o];exact ⟨by decide,v,rfl,HE.o,HB.o⟩
    | true =>
     have HAV:=hI (a < x.vals.length) (by
      have h:=HFD.o;rw [(yh HR.o).leaf HLF.o,HAA.o];unfold yA at h ⊢;rw [if_pos HR.o] at h ⊢;exact (List.getElem?_eq_some_iff.1 (of_decide_eq_true h.symm)).1)
     obtain ⟨B,HB0,hc⟩:=ZE HS4.o.is.vals (i:=a) HAV.o;have c1:=HS4.o.b.c1;rw [HB0] at c1;have hal:(a:Int) < (x.vals.length:Int):=by have:=HAV.o; omega
     obtain ⟨s,HSS⟩:=hY (x.vals[a]'HAV.out);rw [<- HSS.o] at hc;have HG2:=hI (ql (f + 1) S i key = .ok s) (by rw [HG1.o,if_pos rfl,HSS.o,zfL,zfM HAV.o]; rfl);clear HB0 HG1;go_wp2_with fail
     go_ret2
     rw [HG2.o];exact ⟨rfl,HS4.o.below⟩
   ·rw [decide_eq_false hlf];have HNE:=Hi hlf;have HG1:=hI (ql (f + 1) S i key = ql f S (x.kids.getD (yF x key) 0) key) (by rw [HG0.o,if_neg hlf]);have HKL:=Hi (kY HR.o hlf key);obtain ⟨k,HK⟩:=hY (yF x key);have HKA:=hI (∀ w',xF w' l x -> Calls Tryz.prog 102 #[ndV l x,.int .i64 key] w' fun e w''=>e = .returned (.int .i64 (k:Int)) /\ Below w'.1.size w' w'') fun w' h=>by rw [HK.o]; exact Y4 h key
    rw [<- HK.o] at HG1 HKL;obtain ⟨C,HC0,hc⟩:=yj HS3.o.is.kids (i:=k) HKL.o;obtain ⟨z,HZ⟩:=hY (x.kids.getD k 0);rw [show x.kids[k]'HKL.out = z by rw [HZ.o,zfL,zfM HKL.o]; rfl] at hc;rw [<- HZ.o] at HG1;have hkl:(k:Int) < (x.kids.length:Int):=by have:=HKL.o; omega
    have HCC:=Hi HC0;have HCL:=Hi hc;have hlw:=HLW2.o;have hlw2:=HLW.o;clear hlf HG0 HC0 hc;go_upto_region 5 with (fail)
    refine wp_region_held (S:=fun w9=>xJ w q l x w9) (by kernel_rfl) ?_;change wpAnyH _ _ _ _ _ _ _ _ w3.drew;obtain ⟨wa,HWA⟩:=hY (w3.drew);rw [<- HWA.o];have hS:xJ w q l x wa:=by rw [HWA.o]; exact HS3.o.carry (Below.refl _ _).drew
    have HCW:=hI (∀ w',xJ w q l x w' -> w'.cell? ⟨q,2,none⟩ = some (.slice (some C) x.kids.length l.cc) /\ w'.cell? (C.add k) = some (.int .i64 z)) fun w' h=>by
     refine ⟨by have:=h.b.c2; rw [HCC.o] at this; exact this,?_⟩;obtain ⟨C',h1,h2⟩:=yj h.is.kids (i:=k) HKL.o;rw [HCC.o] at h1;obtain rfl:=Option.some.inj h1;rw [h2,HZ.o,zfL,zfM HKL.o];rfl
    clear HWA HS3 HCL;refine xA9 0 27 (ptr P) hS ?_;refine xA9 1 28 (.pointer (some ⟨q,2,none⟩)) hS ?_;refine xG9 2 29 (.slice (some C) x.kids.length l.cc) rfl (.inl ⟨by rfl,fun _ h=>by have c0:=(HCW.o _ h).1; go_simp⟩) hS ?_;refine xG9 3 30 (ndV l x) rfl (yJ Tryz.ndProg (by rfl) _ rfl q rfl l x (fun _ h=>h.b)) hS ?_;refine xA9 4 31 (.int .i64 key) hS ?_;refine xA9 8 35 (.int .i64 lv) hS ?_;refine xA9 9 36 (.int .i64 (13 - (f:Int))) hS ?_;refine xA9 10 37 (.int .i64 key) hS ?_;refine xJ9 5 (some 32) (fun K hK=>?_);go_simp;refine (HKA.o _ hS.is).mono ?_;rintro e wa2 ⟨rfl,hb⟩;have hS2:=hS.carry hb;clear hb hS;refine hK.out _ _ hS2 ?_;clear hK K;have hS:=hS2;clear hS2;refine xA9 6 33 (.pointer (some (C.add k))) hS ?_;refine xG9 7 34 (.int .i64 z) rfl (.inl ⟨by rfl,fun _ h=>by have c0:=(HCW.o _ h).2; go_simp⟩) hS ?_;refine xJ9 11 (some 38) (fun K hK=>?_);go_simp;refine (HIH.o (HL.o.carry H hS.below) z).mono ?_;rintro e wn hgp;obtain ⟨s,v,rfl,hb⟩:∃ s v,e = .returned (.tuple #[.string s,v]) /\ Below wa2.1.size wa2 wn:=by
     unfold km at hgp;cases hgg:ql f S z key with
     | error c=>rw [hgg] at hgp; obtain ⟨_,v,h1,_,h2⟩:=hgp; exact ⟨_,v,h1,h2⟩
     | ok s=>rw [hgg] at hgp; exact ⟨s,_,hgp.1,hgp.2⟩
    have HGP:=Hi (hgp.from_ hS.below);have hS2:=hS.carry hb;clear hb hS hgp;refine hK.out _ _ hS2 ?_;clear hK K;have hS:=hS2;clear hS2;refine xA9 12 39 (.string s) hS ?_;refine xA9 13 40 (v) hS ?_;refine xA9 14 8 (.string s) hS ?_;refine xA9 15 9 (v) hS ?_;refine wpAnyH_done (by kernel_rfl) ?_ _;go_wp2_with fail
    go_ret2
    rw [HG1.o];exact HGP.o
theorem VX {w0:World} {P D n:Nat} {S:TS} {firm:Nat -> List UInt8} (hg:yL w0) {K:Nat -> Prop} {w:World} (hl:zX O w0 K w P D n S firm) (root key:Int) :
  Calls Tryz.prog 69 #[ptr P,.int .i64 root,.int .i64 key] w (km w (xR S root key)):=by
 by_cases h0:root = 0
 ·subst h0;have HM:=hI (xR S 0 key = .error 4) rfl;clear hl
  go_enter Tryz.func69,Tryz.ntmps69
  go_wp2_with fail;refine (xX 4 (by decide) _).mono ?_;rintro e w5 ⟨v,rfl,he,hb⟩;have HE:=Hi he;have HB:=Hi hb;clear he hb;go_wp2_with fail
  go_ret2
  rw [HM.o];exact ⟨by decide,v,rfl,HE.o,HB.o⟩
 ·have HG:=Hi (zek H hg 12 (zfI _) hl root key);have HM:=hI (xR S root key = ql 12 S root key) (by unfold xR; rw [if_neg h0]);rw [show (13:Int) - ((12:Nat):Int) = 1 from rfl] at HG;clear hl
  go_enter Tryz.func69,Tryz.ntmps69
  go_wp2_with fail;refine HG.o.mono ?_;rintro e w2 hgp;obtain ⟨s,v,rfl⟩:∃ s v,e = .returned (.tuple #[.string s,v]):=by
   unfold km at hgp;cases hgg:ql 12 S root key with
   | error c=>rw [hgg] at hgp; obtain ⟨_,v,h1,_⟩:=hgp; exact ⟨_,v,h1⟩
   | ok s=>rw [hgg] at hgp; exact ⟨s,_,hgp.1⟩
  have HGP:=Hi hgp;clear hgp HG;go_wp2_with fail
  go_ret2
  rw [HM.o];exact HGP.o
end
end
section
theorem VE {x:Nd} (h:zM x = true):(ke x).length <= 120:=by
 have h1:=Ze h;have h2:=(zm h).2.1;unfold WR at h1;split at h1 <;> omega
def Yb (O:ye) (w0:World) (K:Nat -> Prop) (w:World) (P D n:Nat) (firm:Nat -> List UInt8) (r:Except Int Int × TS) (e:Ending) (w':World):Prop :=
 zX O w0 K w' P D n r.2 firm /\ zf K w w' /\ match r.1 with
 | .error c=>c ≠ 0 /\ ∃ v,e = .returned (.tuple #[.int .i64 0,v]) /\ zi w' w.1.size c v
 | .ok k=>e = .returned (.tuple #[.int .i64 k,.nilIface])
section
variable {O:ye} (H:ym O)
include H
theorem V7 {w0:World} {K:Nat -> Prop} {w:World} {P D n:Nat} {S:TS} {firm:Nat -> List UInt8} (hl:zX O w0 K w P D n S firm) (hg:yL w0) (hs:S.d.soft.length <= 100000) {l:zd} {x:Nd} (hx:xF w l x) :
  Calls Tryz.prog 67 #[ptr P,ndV l x] w (Yb O w0 K w P D n firm (xK n S x)):=by
 obtain ⟨p,HPP⟩:=hY (w.1.size);obtain ⟨w1,HW1⟩:=hY (w.alloc (.cells #[.slice l.A x.keys.length l.ca,.slice l.B x.vals.length l.cb,.slice l.C x.kids.length l.cc] 48));have HS1:=hI (xJ w p l x w1) (by rw [HW1.o,HPP.o]; exact xJ.new hx);have HL:=Hi hl;cases hr:zM x with
 | false =>
  have HM:=hI (xK n S x = (.error 2,S)) (by unfold xK; rw [if_pos hr]);have HLY:=Hi (zeW HS1.o.is hr);rw [HM.o];clear hl hx hr
  go_enter Tryz.func67,Tryz.ntmps67
  go_upto_region 1 with (fail)
  rw [<- HW1.o,<- HPP.o];clear HW1 HPP;go_wp2_with (with_reducible refine xD9 (some 10) ?_);refine zg Tryz.ndProg (by rfl) _ rfl p rfl l x HS1.o.b ?_;go_wp2_with fail;refine HLY.o.mono ?_;rintro e w2 ⟨v,rfl,he,hb⟩;obtain ⟨tt,xx,rfl⟩:=he.some (by decide);have HB:=Hi (HS1.o.below.trans (hb.mono HS1.o.below.size));clear he hb HLY;go_wp2_with fail;refine (xX 2 (by decide) _).mono ?_;rintro e w3 ⟨v,rfl,he,hb⟩;have HB3:=Hi (HB.o.trans (hb.mono HB.o.size));have HE3:=Hi (he.mono HB.o.size);clear he hb;go_wp2_with fail
  go_ret2
  exact ⟨HL.o.carry H HB3.o,zf.of_below HB3.o HL.o.there,by decide,_,rfl,HE3.o⟩
 | true =>
  have HLY:=Hi (zdZ HS1.o.is hr);obtain ⟨t,HT⟩:∃ t:ByteArray,Hid (t = ⟨(ke x).toArray⟩):=Hy;have HTL:=hI (t.data.toList = ke x) (by rw [HT.o]);have HTS:=hI (t.size <= 120) (by rw [HT.o]; show (ke x).toArray.size <= 120; simpa using VE hr);rw [<- HT.o] at HLY;cases hf:S.s.first n with
  | none =>
   have HM:=hI (xK n S x = (.error 6,S)) (by unfold xK; rw [if_neg (by rw [hr]; decide),hf]);rw [HM.o];have HF:=Hi hf;clear hl hx hr hf
   go_enter Tryz.func67,Tryz.ntmps67
   go_upto_region 1 with (fail)
   rw [<- HW1.o,<- HPP.o];clear HW1 HPP;go_wp2_with (with_reducible refine xD9 (some 10) ?_);refine zg Tryz.ndProg (by rfl) _ rfl p rfl l x HS1.o.b ?_;go_wp2_with fail;refine HLY.o.mono ?_;rintro e w2 ⟨rfl,hb⟩;have HB:=Hi (HS1.o.below.trans (hb.mono HS1.o.below.size));have HL2:=Hi (HL.o.carry H HB.o);clear hb HLY;go_wp2_with fail;refine (H.newFull HL2.o.pg HL2.o.inv HL2.o.up (HL2.o.laid hg).crc t HTS.o HF.o).mono ?_;rintro e w3 ⟨v,rfl,he,hb⟩;have HE3:=Hi he;have HB3:=Hi hb;clear he hb;go_wp2_with fail;refine (yv _ w2.1.size 6 v w3 HE3.o HB3.o.size).mono ?_;rintro e w4 ⟨u,rfl,he,hb⟩;have HB4:=Hi (HB.o.trans ((HB3.o.trans (hb.mono HB3.o.size)).mono HB.o.size));have HE4:=Hi (he.mono HB.o.size);clear he hb HE3 HB3;go_wp2_with fail
   go_ret2
   exact ⟨HL.o.carry H HB4.o,zf.of_below HB4.o HL.o.there,by decide,_,rfl,HE4.o⟩
  | some k =>
   have HM:=hI (xK n S x = (.ok (k:Int),⟨S.d.write k (pgB (wL (ke x))),S.s.at_ k,upd S.data k (ke x)⟩)) (by unfold xK; rw [if_neg (by rw [hr]; decide),hf]);rw [HM.o];have HF:=Hi hf;have HIN:=hI (yH n (S.d.write k (pgB (wL (ke x)))) (S.s.at_ k) (upd S.data k (ke x)) firm) (hl.inv.laid hf (VE hr));clear hl hx hr hf
   go_enter Tryz.func67,Tryz.ntmps67
   go_upto_region 1 with (fail)
   rw [<- HW1.o,<- HPP.o];clear HW1 HPP;go_wp2_with (with_reducible refine xD9 (some 10) ?_);refine zg Tryz.ndProg (by rfl) _ rfl p rfl l x HS1.o.b ?_;go_wp2_with fail;refine HLY.o.mono ?_;rintro e w2 ⟨rfl,hb⟩;have HB:=Hi (HS1.o.below.trans (hb.mono HS1.o.below.size));have HL2:=Hi (HL.o.carry H HB.o);clear hb HLY;go_wp2_with fail;refine (H.newYes HL2.o.pg HL2.o.inv HL2.o.up (HL2.o.laidK hg) hs t HTS.o k HF.o).mono ?_;rw [HTL.o];rintro e w3 ⟨rfl,hp,hk⟩;have HL3:=hI (zX O w0 K w3 P D n ⟨S.d.write k (pgB (wL (ke x))),S.s.at_ k,upd S.data k (ke x)⟩ firm) (HL2.o.turned hp hk HIN.o HL2.o.up);have HK3:=Hi ((zf.of_below HB.o HL.o.there).trans hk);clear hp hk;go_wp2_with fail;refine (V4 _ _).mono ?_;rintro e w' ⟨rfl,rfl⟩;go_wp2_with fail
   go_ret2
   exact ⟨HL3.o,HK3.o,rfl⟩
end
end
