/-
  Tw. Conditions: as said.
-/
import Derived.Test.YtafclmbecmgbnaaGreatDoorTz
import Derived.Test.YtafclmbecmgbnaaGreatDoorTy
set_option maxRecDepth 100000
set_option maxHeartbeats 4000000
open Nat renaming lt_of_lt_of_le -> ze1,le_trans -> ze2,le_refl -> ze3
open List renaming mem_append -> zfy,mem_of_mem_drop -> zfP,mem_of_mem_take -> zfO
namespace Go.Proofs.YtafclmbecmgbnaaGreatDoor
open Go.RowKit
section
theorem zcu {w:World} {k:IntKind} {g:Nat} {zs:List Int} (h:Nums w k (some ⟨g,0,none⟩) zs) (i m:Nat):Nums w k (some ⟨g,i,none⟩) ((zs.drop i).take m):=(jx h i).take m
theorem Qi {w:World} {b:Nat} {l:zd} {x:Nd} {A B:Option Addr} {bc:Nat} {ys:List Int} (hx:zo w b l x) (hn:0 < x.keys.length) (hB:∀ a,B = some a -> ∃ c,l.A = some c /\ c.block = a.block) (hB0:ys = [] -> B = none /\ bc = 0) (hy:Nums w .i64 B ys) (hne:∀ a c,A = some a -> l.A = some c -> a.block ≠ c.block) (hmid:∀ a,B = some a -> ∃ g o,a = ⟨g,o,none⟩):QH w A B bc ys:=by
 refine ⟨fun h=>hB0 h,fun h=>?_⟩;obtain ⟨a,ha,hlt,hc⟩:=hy (List.length_pos_iff.2 h);obtain ⟨g,lv,e1,e2,e3⟩:=KN hx.k hn;obtain ⟨c,e4,e5⟩:=hB a ha;obtain ⟨vb,o,rfl⟩:=hmid a ha;have e6:c = ⟨g,0,none⟩:=Option.some.inj (e4.symm.trans e1);have e7:g = vb:=by rw [e6] at e5; exact e5
 subst e7;refine ⟨g,o,_,lv,ha,e2,fun k v hv=>?_,fun d hd=>?_⟩
 ·rw [List.getElem?_map] at hv;cases hz:ys[k]? with
  | none=>rw [hz] at hv; cases hv
  | some z =>
   rw [hz] at hv;cases hv;have h9:=hc k z hz;rw [Addr.add_mid] at h9;rw [<- e2.cell];exact h9
 ·have:=hne d _ hd e1;exact this
end
section
theorem Wy {n:Nat} {firm:Nat -> List UInt8} (l:List Nd):∀ {S S1:TS} {ks:List Int},OkT n S firm -> zT n S l = (.ok ks,S1) -> ∀ z ∈ ks,0 <= z /\ z < 240:=by
 induction l with
 | nil=>intro S S1 ks _ h; simp only [zT,Prod.mk.injEq,Except.ok.injEq] at h; rw [<- h.1]; intro z hz; cases hz
 | cons y l ih =>
  intro S S1 ks ho h;unfold zT at h;cases ha:xA n S y with
  | mk o S2 =>
   rw [ha] at h;cases o with
   | error c=>simp only [Prod.mk.injEq] at h; cases h.1
   | ok k =>
    obtain ⟨_,ho2,_,hu,_⟩:=Xm ho ha;simp only at h;cases hb:zT n S2 l with
    | mk o2 S3 =>
     rw [hb] at h;cases o2 with
     | error c=>simp only [Prod.mk.injEq] at h; cases h.1
     | ok ks2 =>
      simp only [Prod.mk.injEq,Except.ok.injEq] at h;rw [<- h.1];intro z hz;rcases List.mem_cons.1 hz with rfl | hz
      ·obtain ⟨j,rfl,hj,_⟩:=wW hu;omega
      ·exact ih ho2 hb z hz
theorem jj {n:Nat} {firm:Nat -> List UInt8} {S S1:TS} {x:Nd} {old bk ks:List Int} (ho:OkT n S firm) (h:yo n S x old = (.ok (bk,ks),S1)):∀ z ∈ ks,0 <= z /\ z < 240:=by
 unfold yo at h;cases ha:zT n S (yq x).1 with
 | mk o S2 =>
  rw [ha] at h;cases o with
  | error c=>simp only [Prod.mk.injEq] at h; cases h.1
  | ok ks2 =>
   simp only at h;cases hb:yj S2 old with
   | mk c S3 =>
    rw [hb] at h;simp only at h;split at h
    ·simp only [Prod.mk.injEq,Except.ok.injEq] at h;obtain ⟨⟨rfl,rfl⟩,_⟩:=h;exact Wy _ ho ha
    ·simp only [Prod.mk.injEq] at h; cases h.1
theorem ZG {x:Nd} {z:Int} (h:z ∈ (yq x).2):z ∈ x.keys:=by
 unfold yq at h;split at h
 ·cases h
 ·split at h <;> exact zfP (zfO h)
theorem KW (n:Nat) (S:TS) (x:Nd) (a m:Nat) (kid:Nd) {R:Except Int (List Int × List Int) × TS} (h:R = yo n S kid ((x.kids.drop a).take m)):zQ n S x a m kid = match (generalizing:=false) R with
  | (.error c,S1)=>(.error c,S1)
  | (.ok (bk,ks),S1)=>(.ok ⟨x.keys.take a ++ bk ++ x.keys.drop (a + m - 1),[],x.kids.take a ++ ks ++ x.kids.drop (a + m)⟩,S1):=by
 subst h; rfl
end
section
theorem YJ {x:Nd} (h:zJ x = true) (hk:x.kids.length ≠ 0):0 < x.keys.length:=by
 rcases (zm h).2.2 with ⟨h1,_⟩ | h1
 ·rw [h1] at hk; exact absurd rfl hk
 ·exact h1.2.2.2.1
def XF (O:zV) (w0:World) (K:Nat -> Prop) (w:World) (P D n:Nat) (firm:Nat -> List UInt8) (b:Nat) (l:zd) (R:Except Int Nd × TS) (e:Ending) (w':World):Prop :=
 zh (fun g=>K g /\ ¬ l.has g) w w' /\ match R.1 with
 | .error c=>zP O w0 K w' P D n R.2 firm /\ c ≠ 0 /\ ∃ v,e = .returned (.tuple #[ndV zd.none_ Nd.empty,v]) /\ zi w' w.1.size c v
 | .ok x=>∃ l',zP O w0 (fun g=>K g \/ l'.has g) w' P D n R.2 firm /\ e = .returned (.tuple #[ndV l' x,.nilIface]) /\ zo w' b l' x /\ ∀ g,l'.has g -> l.has g \/ w.1.size <= g
def ZX (O:zV) (w0:World) (L:Nat -> Prop) (lo:Nat) (P D n:Nat) (firm:Nat -> List UInt8) (l2:zd) (R:Except Int (List Int × List Int) × TS) (lr:zd) (xr:Nd) (v:Value) (wr:World):Prop :=
 zP O w0 (fun g=>L g \/ lr.has g) wr P D n R.2 firm /\ ((∃ cd,R.1 = .error cd /\ cd ≠ 0 /\ lr = zd.none_ /\ xr = Nd.empty /\ zi wr lo cd v) \/
  (∃ bk ks,R.1 = .ok (bk,ks) /\ v = .nilIface /\ xr = ⟨bk,[],ks⟩ /\ Nums wr .i64 lr.A bk /\ lr.B = none /\ wr.ownsRow lo 3 1 (.slice lr.C ks.length lr.cc) ks.length (ks.map (Value.int .i64)) /\ (∀ a,lr.A = some a -> (∃ c,l2.A = some c /\ c.block = a.block) /\ ∃ g o,a = ⟨g,o,none⟩) /\ (bk = [] -> lr.A = none /\ lr.ca = 0)))
structure ReS (O:zV) (w0:World) (K:Nat -> Prop) (w:World) (P D n:Nat) (firm:Nat -> List UInt8) (p r c b:Nat) (l l2:zd) (x:Nd) (R:Except Int (List Int × List Int) × TS) (lr:zd) (xr:Nd) (v:Value) (wr:World):Prop where
 bp:zb wr p l x
 bc:zb wr c lr xr
 br:zb wr r zd.none_ Nd.empty
 fr:∀ j,wr.frozen? ⟨r,j,none⟩ = false
 mi:zo wr b l x
 kept:zh K w wr
 out:∃ lo,r < lo /\ w.1.size <= lo /\ ZX O w0 (fun g=>K g \/ g = p \/ g = r \/ g = c) lo P D n firm l2 R lr xr v wr
 wp:w.1.size <= p
 wr_:w.1.size <= r
 wc:w.1.size <= c
 pr:p ≠ r
 cr:c ≠ r
 pc:p ≠ c
 hK:zZ K w
structure ReT (p c:Nat) (l:zd) (x:Nd) (lr:zd) (xr:Nd) (wr:World):Prop where
 bp:zb wr p l x
 bc:zb wr c lr xr
section
variable {O:zV} (H:ye O)
include H
theorem Zz {w0:World} {L:Nat -> Prop} {w1 w2:World} {P D n:Nat} {firm:Nat -> List UInt8} {l2:zd} {R:Except Int (List Int × List Int) × TS} {e:Ending} (h:xW O w0 L w1 P D n firm l2 R e w2) (hlow:∀ k,k < w0.1.size -> L k) :
  ∃ lr xr v,e = .returned (.tuple #[ndV lr xr,v]) /\ zh L w1 w2 /\ ZX O w0 L w1.1.size P D n firm l2 R lr xr v w2:=by
 obtain ⟨R1,R2⟩:=R;obtain ⟨h1,h2⟩:=h;cases R1 with
 | error cd =>
  obtain ⟨h3,h4,v,h5,h6⟩:=h2;exact ⟨_,_,_,h5,h1,h3.less H (fun k hk=>hk.elim id fun h=>absurd h (zd.has_none k)) (fun k hk=>.inl (hlow k hk)),.inl ⟨cd,rfl,h4,rfl,rfl,h6⟩⟩
 | ok r =>
  obtain ⟨bk,ks⟩:=r;obtain ⟨l',h3,h4,h5,h6,h7,h8,h9⟩:=h2;exact ⟨_,_,_,h4,h1,h3,.inr ⟨bk,ks,rfl,rfl,rfl,h5,h6,h7,h8,h9⟩⟩
theorem ZX.turn {w0:World} {L:Nat -> Prop} {lo:Nat} {P D n:Nat} {firm:Nat -> List UInt8} {l2:zd} {R:Except Int (List Int × List Int) × TS} {lr:zd} {xr:Nd} {v:Value} {wr w':World} {M L':Nat -> Prop} (h:ZX O w0 L lo P D n firm l2 R lr xr v wr) (ht:zr M wr w')
  (hM:∀ k,M k -> k < wr.1.size -> L k /\ w0.1.size <= k /\ ¬ l2.has k /\ k < lo) (hL:∀ k,L' k -> L k \/ wr.1.size <= k) (hLt:zZ L' w') (hlow:∀ k,k < w0.1.size -> L' k) {lo':Nat} (hlo:lo' <= lo):ZX O w0 L' lo' P D n firm l2 R lr xr v w':=by
 obtain ⟨h1,h2⟩:=h;have hth:=h1.there;have ht2:zr (fun k=>M k /\ k < wr.1.size) wr w':=⟨ht.os,ht.tape,ht.output,ht.size,fun k hk=>ht.block k ⟨hk.1,fun hm=>hk.2 ⟨hm,hk.1⟩⟩⟩
 refine ⟨h1.off H ht2 (fun k hk=>⟨.inl (hM k hk.1 hk.2).1,(hM k hk.1 hk.2).2.1⟩) (fun k hk=>?_) (fun k hk=>?_) (fun k hk=>.inl (hlow k hk)),?_⟩
 ·rcases hk with hk | hk
  ·exact (hL k hk).imp .inl id
  ·exact .inl (.inr hk)
 ·rcases hk with hk | hk
  ·exact hLt k hk
  ·exact ze1 (hth k (.inr hk)) ht.size
 ·rcases h2 with ⟨cd,e1,e2,e3,e4,e5⟩ | ⟨bk,ks,e1,e2,e3,e4,e5,e6,e7,e8⟩
  ·exact .inl ⟨cd,e1,e2,e3,e4,(e5.carry ht.size fun i h3 h4=>ht.block i ⟨h4,fun hm=>by have:=(hM i hm h4).2.2.2; omega⟩).mono hlo⟩
  ·refine .inr ⟨bk,ks,e1,e2,e3,vQ e4 ht.size fun a ha=>ht.block _ ⟨hth _ (.inr (.inl ⟨a,ha,rfl⟩)),fun hm=>?_⟩,e5,yM (zB e6 fun g hg=>ht.block g ⟨(e6.lt g hg).2,fun hm=>?_⟩) hlo,e7,e8⟩
   ·obtain ⟨⟨c,h3,h4⟩,_⟩:=e7 a ha;exact (hM _ hm (hth _ (.inr (.inl ⟨a,ha,rfl⟩)))).2.2.1 (.inl ⟨c,h3,h4⟩)
   ·have:=(hM g hm (e6.lt g hg).2).2.2.2;have:=(e6.lt g hg).1;omega
theorem ReS.make {w0:World} {K L:Nat -> Prop} {w wn wz:World} {P D n:Nat} {firm:Nat -> List UInt8} {p r c b lo:Nat} {l l2:zd} {x:Nd} {R:Except Int (List Int × List Int) × TS} {lr:zd} {xr:Nd} {v:Value} (hbp:zb wn p l x) (hbr:zb wn r zd.none_ Nd.empty) (hfr:∀ j,wn.frozen? ⟨r,j,none⟩ = false)
  (hmi:zo wn b l x) (hkn:zh K w wn) (ho:ZX O w0 L lo P D n firm l2 R lr xr v wn) (ht:zr (fun k=>k = c) wn wz) (hbc:zb wz c lr xr) (hc:c < wn.1.size -> L c /\ c < lo) (hL:∀ k,K k \/ k = p \/ k = r -> L k) (hpc:p ≠ c) (hrc:r ≠ c) (hpr:p ≠ r)
  (hwp:w.1.size <= p) (hwr:w.1.size <= r) (hwc:w.1.size <= c) (hlo:w.1.size <= lo) (hrl:r < lo) (hK:zZ K w) (hl2:∀ g,l2.has g -> K g) (hlK:∀ g,l.has g -> K g) (hw0:w0.1.size <= w.1.size) (hlow:∀ k,k < w0.1.size -> K k) :
  ReS O w0 K w P D n firm p r c b l l2 x R lr xr v wz:=by
 have bp:=ht.block p ⟨hbp.lt,hpc⟩;have br:=ht.block r ⟨hbr.lt,hrc⟩;have hkz:zh K wn wz:=⟨ht.os,ht.tape,ht.output,ht.size,fun k hk=>ht.block k ⟨ze1 (hK k hk) hkn.size,fun e=>by have:=hK k hk; omega⟩⟩
 refine ⟨hbp.keep bp,hbc,hbr.keep br,fun j=>(World.frozen?_of_block (w:=wn) (a:=⟨r,j,none⟩) br).trans (hfr j),hmi.keep ht.size fun g hg=>hkz.block g (hlK g hg),hkn.trans hkz,⟨lo,hrl,hlo,?_⟩,hwp,hwr,hwc,hpr,Ne.symm hrc,hpc,hK⟩;refine ho.turn H ht (fun k hk hlt=>?_) (fun k hk=>?_) (fun k hk=>?_) (fun k hk=>.inl (hlow k hk)) (ze3 _)
 ·have hk':k = c:=hk;subst hk';exact ⟨(hc hlt).1,by omega,fun h=>by have:=hK k (hl2 k h); omega,(hc hlt).2⟩
 ·rcases hk with hk | hk | hk | hk
  ·exact .inl (hL k (.inl hk))
  ·exact .inl (hL k (.inr (.inl hk)))
  ·exact .inl (hL k (.inr (.inr hk)))
  ·rcases Nat.lt_or_ge k wn.1.size with h | h
   ·rw [hk] at h ⊢; exact .inl (hc h).1
   ·exact .inr h
 ·rcases hk with hk | hk | hk | hk
  ·exact ze1 (hK k hk) (ze2 hkn.size ht.size)
  ·rw [hk]; exact ze1 hbp.lt ht.size
  ·rw [hk]; exact ze1 hbr.lt ht.size
  ·rw [hk]; exact hbc.lt
structure ReU (O:zV) (w0:World) (K:Nat -> Prop) (P D n:Nat) (firm:Nat -> List UInt8) (p r c:Nat) (l:zd) (x:Nd) (S2:TS) (lr:zd) (xr:Nd) (wz:World) (E:Nat -> Prop) (wr:World):Prop where
 t:ReT p c l x lr xr wr
 br:zb wr r zd.none_ Nd.empty
 fr:∀ j,wr.frozen? ⟨r,j,none⟩ = false
 law:zP O w0 (fun g=>K g \/ g = p \/ g = r \/ g = c \/ lr.has g \/ E g) wr P D n S2 firm
 turn:zr l.has wz wr
 np:¬ l.has p
 nr:¬ l.has r
 nc:¬ l.has c
 lK:∀ g,l.has g -> K g /\ w0.1.size <= g
 klow:∀ k,k < w0.1.size -> K k
theorem ReU.step {w0:World} {K:Nat -> Prop} {P D n:Nat} {firm:Nat -> List UInt8} {p r c:Nat} {l:zd} {x:Nd} {S2:TS} {lr:zd} {xr:Nd} {wz wr w':World} {E E' M:Nat -> Prop} (h:ReU O w0 K P D n firm p r c l x S2 lr xr wz E wr) (ht:zr M wr w') (hM:∀ k,M k -> l.has k) (hE:∀ k,E' k -> E k \/ l.has k \/ wr.1.size <= k) (hE2:zZ E' w'):ReU O w0 K P D n firm p r c l x S2 lr xr wz E' w':=by
 have hp:=ht.block p ⟨h.t.bp.lt,fun e=>h.np (hM p e)⟩;have hr:=ht.block r ⟨h.br.lt,fun e=>h.nr (hM r e)⟩;have hc:=ht.block c ⟨h.t.bc.lt,fun e=>h.nc (hM c e)⟩;have hth:=h.law.there;refine ⟨⟨h.t.bp.keep hp,h.t.bc.keep hc⟩,h.br.keep hr,fun j=>(World.frozen?_of_block (w:=wr) (a:=⟨r,j,none⟩) hr).trans (h.fr j),?_,h.turn.trans (ht.more fun k _ hk=>.inl (hM k hk)),h.np,h.nr,h.nc,h.lK,h.klow⟩;refine h.law.off H ht (fun k hk=>⟨.inl (h.lK k (hM k hk)).1,(h.lK k (hM k hk)).2⟩) (fun k hk=>?_) (fun k hk=>?_) fun k hk=>?_
 ·rcases hk with hk | hk | hk | hk | hk | hk
  ·exact .inl (.inl hk)
  ·exact .inl (.inr (.inl hk))
  ·exact .inl (.inr (.inr (.inl hk)))
  ·exact .inl (.inr (.inr (.inr (.inl hk))))
  ·exact .inl (.inr (.inr (.inr (.inr (.inl hk)))))
  ·rcases hE k hk with h2 | h2 | h2
   ·exact .inl (.inr (.inr (.inr (.inr (.inr h2)))))
   ·exact .inl (.inl (h.lK k h2).1)
   ·exact .inr h2
 ·have hs:=ht.size;rcases hk with hk | hk | hk | hk | hk | hk
  ·exact ze1 (hth k (.inl hk)) hs
  ·exact ze1 (hth k (.inr (.inl hk))) hs
  ·exact ze1 (hth k (.inr (.inr (.inl hk)))) hs
  ·exact ze1 (hth k (.inr (.inr (.inr (.inl hk))))) hs
  ·exact ze1 (hth k (.inr (.inr (.inr (.inr (.inl hk)))))) hs
  ·exact hE2 k hk
 ·exact .inl (h.klow k hk)
theorem jf {w0:World} {K:Nat -> Prop} {w:World} {P D n:Nat} {S:TS} {firm:Nat -> List UInt8} (hl:zP O w0 K w P D n S firm) (hg:yC w0) (hs:S.d.soft.length <= 99990) {b b2:Nat} {l l2:zd} {x y:Nd}
  (hx:zo w b l x) (hxK:∀ g,l.has g -> K g) (hr:zJ x = true) (hki:x.kids.length ≠ 0) (hy:zo w b2 l2 y) (hyK:∀ g,l2.has g -> K g) (hys:xB y) (hdis:∀ g,l.has g -> ¬ l2.has g) (hbw:b <= w.1.size) (hw0:w0.1.size <= b)
  {at_ many:Nat} (hm1:1 <= many) (hm2:many <= 2) (hat:at_ + many <= x.kids.length) :
  Calls Tryz.prog 104 #[ptr P,ndV l x,.int .i64 (at_:Int),.int .i64 (many:Int),ndV l2 y] w (XF O w0 K w P D n firm b l (zQ n S x at_ many y)):=by
 have hbn:=Tryz.nodeNone;have hz:=Tryz.zeroNode;obtain ⟨R,HRS⟩:=hY (yo n S y ((x.kids.drop at_).take many));have HRE:=Hi (KW n S x at_ many y HRS.o);obtain ⟨hi,HHI⟩:=hY (at_ + many);obtain ⟨j,HJ⟩:=hY (at_ + many - 1);have h7:=(zm hr).2.1;have hin:=(yc hr).inner hki;have HSZ:=hI (x.keys.length <= 7 /\ x.kids.length = x.keys.length + 1 /\ x.vals.length = 0 /\ 0 < x.keys.length) ⟨h7,hin.2,hin.1,YJ hr hki⟩;have HMANY:=hI (1 <= many /\ many <= 2 /\ at_ + many <= x.kids.length) ⟨hm1,hm2,hat⟩;obtain ⟨gC,HC0,hcc,hcm,_,_⟩:=yp hx.c (by omega);have HCC:=Hi HC0;obtain ⟨vO,HVO⟩:=hY (sliced (some ⟨gC,0,none⟩) at_ hi l.cc 1);have HVV:=hI (vO = .slice (some ⟨gC,at_,none⟩) ((x.kids.drop at_).take many).length (l.cc - at_)) (by
  rw [HVO.o,HHI.o];unfold sliced;rw [if_neg (by omega)];simp only [Option.map_some,Addr.add_mid,Nat.mul_one,Nat.zero_add,Value.slice.injEq,and_true,true_and];rw [List.length_take,List.length_drop]; omega)
 have HW8:=hI (IntKind.i64.wrap ((at_:Int) + (many:Int)) = (hi:Int)) (by rw [IntKind.wrap_i64,HHI.o]; omega);have HW9:=hI (IntKind.i64.wrap ((hi:Int) - 1) = (j:Int)) (by rw [IntKind.wrap_i64,HHI.o,HJ.o]; omega);have HIC:=hI (at_ <= hi /\ hi <= l.cc) (by rw [HHI.o]; omega);obtain ⟨p,HPP⟩:=hY (w.1.size);obtain ⟨q,HQQ⟩:=hY (p + 1);obtain ⟨r,HRR⟩:=hY (q + 1);obtain ⟨w1,HW1⟩:=hY (((w.alloc (.cells #[.slice l.A x.keys.length l.ca,.slice l.B x.vals.length l.cb,.slice l.C x.kids.length l.cc] 48)).alloc (.cells #[.slice l2.A y.keys.length l2.ca,.slice l2.B y.vals.length l2.cb,.slice l2.C y.kids.length l2.cc] 48)).alloc (.cells #[.slice none 0 0,.slice none 0 0,.slice none 0 0] 48));have HB1:=hI (Below w.1.size w w1 /\ w1.1.size = w.1.size + 3) (by rw [HW1.o]; exact ⟨(((Below.refl _ _).alloc (ze3 _) _).alloc (by simp) _).alloc (by simp; omega) _,by simp⟩);have HX1:=hI (zb w1 p l x /\ zb w1 q l2 y /\ zb w1 r zd.none_ Nd.empty /\ ∀ j,w1.frozen? ⟨r,j,none⟩ = false) (by
  have e1:=zb.new (w:=w) (l:=l) (x:=x) 48;rw [HW1.o];obtain ⟨wa,hwa⟩:∃ wa,wa = w.alloc (.cells #[.slice l.A x.keys.length l.ca,.slice l.B x.vals.length l.cb,.slice l.C x.kids.length l.cc] 48):=⟨_,rfl⟩
  rw [<- hwa] at e1 ⊢;have hsa:wa.1.size = w.1.size + 1:=by rw [hwa]; simp
  have e2:=zb.new (w:=wa) (l:=l2) (x:=y) 48;obtain ⟨wb,hwb⟩:∃ wb,wb = wa.alloc (.cells #[.slice l2.A y.keys.length l2.ca,.slice l2.B y.vals.length l2.cb,.slice l2.C y.kids.length l2.cc] 48):=⟨_,rfl⟩
  rw [<- hwb] at e2 ⊢;have hsb:wb.1.size = wa.1.size + 1:=by rw [hwb]; simp
  have hab:Below wa.1.size wa wb:=by rw [hwb]; exact bA
  have e3:=zb.new (w:=wb) (l:=zd.none_) (x:=Nd.empty) 48;have f3:=zU wb #[.slice none 0 0,.slice none 0 0,.slice none 0 0] 48;have hbc:Below wb.1.size wb (wb.alloc (.cells #[.slice none 0 0,.slice none 0 0,.slice none 0 0] 48)):=(Below.refl _ _).alloc (ze3 _) _;rw [hsb,hsa] at e3 f3;rw [hsa] at e2;rw [HRR.o,HQQ.o,HPP.o];exact ⟨(e1.carry hab e1.lt).carry hbc (e1.carry hab e1.lt).lt,e2.carry hbc e2.lt,e3,f3⟩)
 have HL:=Hi hl;have HM:=Hi hx;have HY:=Hi hy;have HXK:=Hi hxK;have HYK:=Hi hyK;have HDIS:=Hi hdis;have HBW:=Hi (And.intro hw0 hbw);have HTH:=hI (zZ K w) hl.there;have HCH:=hI (∀ wr,Below w.1.size w wr -> Calls Tryz.prog 64 #[ptr P,ndV l2 y,vO] wr fun e w2=>∃ lr xr v,e = .returned (.tuple #[ndV lr xr,v]) /\ zh (fun k=>K k \/ (w.1.size <= k /\ k < wr.1.size)) wr w2 /\ ZX O w0 (fun k=>K k \/ (w.1.size <= k /\ k < wr.1.size)) wr.1.size P D n firm l2 R lr xr v w2) fun wr hb=>by
  have h1:=HL.o.grow H hb;have hnum:Nums wr .i64 (some ⟨gC,at_,none⟩) ((x.kids.drop at_).take many):=by
   have h2:=(HM.o.carry hb).is.kids;rw [HCC.o] at h2;exact zcu h2 at_ many
  have:=Zy H h1 hg hs (HY.o.carry hb) (fun g hg=>.inl (HYK.o g hg)) hys hnum (oc:=l.cc - at_) (fun a ha _=>.inl (by cases ha; exact HXK.o _ (.inr (.inr ⟨_,HCC.o,rfl⟩)))) (by rw [List.length_take]; have:=HMANY.o; omega);rw [<- HVV.o,<- HRS.o] at this;exact this.mono fun e w2 h=>Zz H h h1.low
 have HCV:=hI (∀ bk ks S1,R = (.ok (bk,ks),S1) -> ∀ z ∈ ks,0 <= z /\ z < 240) (fun bk ks S1 h=>jj hl.inv (HRS.o.symm.trans h));have hw8:=HW8.o;have hw9:=HW9.o;have hic:=HIC.o;clear hl hx hxK hr hki hy hyK hys hdis hbw hw0 hm1 hm2 hat h7 hin HC0 hcc hcm hs
 go_enter Tryz.func104,Tryz.ntmps104
 go_upto_region 1 with (fail)
 rw [<- HW1.o,<- HPP.o,<- HQQ.o,<- HRR.o];clear HW1;refine wp_region_held (S:=fun w9=>zb w9 p l x /\ zb w9 q l2 y) (by kernel_rfl) ?_;change wpAnyH _ _ _ _ _ _ _ _ w1.drew;obtain ⟨wa,HWA⟩:=hY (w1.drew);rw [<- HWA.o];have hdr:Below w1.1.size w1 wa:=by rw [HWA.o]; exact (Below.refl _ _).drew
 have HBA:=hI (Below w.1.size w wa /\ wa.1.size = w.1.size + 3) ⟨HB1.o.1.trans (hdr.mono HB1.o.1.size),by rw [HWA.o]; exact HB1.o.2⟩;have HXA:=hI (zb wa p l x /\ zb wa q l2 y /\ zb wa r zd.none_ Nd.empty /\ ∀ j,wa.frozen? ⟨r,j,none⟩ = false) ⟨HX1.o.1.carry hdr HX1.o.1.lt,HX1.o.2.1.carry hdr HX1.o.2.1.lt,HX1.o.2.2.1.carry hdr HX1.o.2.2.1.lt,zl hdr HX1.o.2.2.1.lt HX1.o.2.2.2⟩;have hS:zb wa p l x /\ zb wa q l2 y:=⟨HXA.o.1,HXA.o.2.1⟩
 clear HWA hdr HB1 HX1;refine xA9 0 15 (ptr P) hS ?_;refine xG9 1 16 (ndV l2 y) rfl (yE Tryz.ndProg (by rfl) _ rfl q rfl l2 y (fun _ h=>h.2)) hS ?_;refine xA9 2 17 (.pointer (some ⟨p,2,none⟩)) hS ?_;refine xG9 3 18 (.slice (some ⟨gC,0,none⟩) x.kids.length l.cc) rfl (.inl ⟨by rfl,fun _ h=>by have c2:=h.1.c2; rw [HCC.o] at c2; go_simp⟩) hS ?_;refine xA9 4 19 (.int .i64 (at_:Int)) hS ?_;refine xA9 5 20 (.int .i64 (at_:Int)) hS ?_;refine xA9 6 21 (.int .i64 (many:Int)) hS ?_;refine xA9 7 22 (.int .i64 (hi:Int)) hS ?_;refine xG9 8 23 (vO) rfl (.inl ⟨by rfl,fun _ _=>by rw [HVO.o]; go_simp⟩) hS ?_;refine K8 (i:=9) (j:=13) (oi:=⟨some 24,_,_,_,_,_⟩) (oj:=⟨some 12,_,_,_,_,_⟩) rfl rfl (by kernel_rfl) (fun K0 hK=>?_) (fun K0 hK=>?_)
 case' refine_1 =>
  go_simp;refine (HCH.o wa HBA.o.1).mono ?_;rintro e wn ⟨lr,xr,v,rfl,hk,ho⟩;have hpl:w.1.size <= p /\ p < wa.1.size /\ w.1.size <= q /\ q < wa.1.size /\ w.1.size <= r /\ r < wa.1.size /\ p ≠ r:=by rw [HRR.o,HQQ.o,HPP.o,HBA.o.2]; omega
  have hbp:=hk.block p (.inr ⟨hpl.1,hpl.2.1⟩);have hbq:=hk.block q (.inr ⟨hpl.2.2.1,hpl.2.2.2.1⟩);have hbr:=hk.block r (.inr ⟨hpl.2.2.2.2.1,hpl.2.2.2.2.2.1⟩);have HKN:=Hi hk;have HON:=Hi ho;have HXN:=hI (zb wn p l x /\ zb wn r zd.none_ Nd.empty /\ ∀ j,wn.frozen? ⟨r,j,none⟩ = false) ⟨HXA.o.1.keep hbp,HXA.o.2.2.1.keep hbr,fun j=>(World.frozen?_of_block (w:=wa) (a:=⟨r,j,none⟩) hbr).trans (HXA.o.2.2.2 j)⟩;have hS2:zb wn p l x /\ zb wn q l2 y:=⟨hS.1.keep hbp,hS.2.keep hbq⟩
  clear hk ho hbp hbq hbr hpl hS;refine hK.out _ _ hS2 ?_;clear hK K0;have hS:=hS2;clear hS2;refine xA9 10 14 (.tuple #[ndV lr xr,v]) hS ?_;refine xA9 11 25 (ndV lr xr) hS ?_;refine xA9 12 26 (v) hS ?_;refine xJ9 13 (some 12) (fun K0 hK=>?_);go_simp;obtain ⟨c,HCB⟩:=hY (wn.1.size);obtain ⟨wc,HWwc⟩:=hY (wn.alloc (.cells #[.slice none 0 0,.slice none 0 0,.slice none 0 0] 48));rw [<- HWwc.o,<- HCB.o];have HBB:=hI (Below wn.1.size wn wc /\ wc.1.size = wn.1.size + 1) (by rw [HWwc.o]; exact ⟨(Below.refl _ _).alloc (ze3 _) _,by simp⟩);have HXC:=hI (zb wc c zd.none_ Nd.empty /\ ∀ j,wc.frozen? ⟨c,j,none⟩ = false) (by rw [HWwc.o,HCB.o]; exact ⟨zb.new (l:=zd.none_) (x:=Nd.empty) _,zU _ _ _⟩);clear HWwc;have hS2:zb wc p l x /\ zb wc q l2 y:=⟨hS.1.carry HBB.o.1 hS.1.lt,hS.2.carry HBB.o.1 hS.2.lt⟩
  clear hS;refine hK.out _ _ hS2 ?_;clear hK K0;have hS:=hS2;clear hS2;refine xJ9 14 (none) (fun K0 hK=>?_);have HBC:=Hi HXC.o.1;have f0:=HXC.o.2 0;have f1:=HXC.o.2 1;have f2:=HXC.o.2 2;have d0:=HBC.o.c0;have d1:=HBC.o.c1;have d2:=HBC.o.c2;obtain ⟨wz,HWY⟩:=hY (((wc.setCell ⟨c,0,none⟩ (.slice lr.A xr.keys.length lr.ca)).setCell ⟨c,1,none⟩ (.slice lr.B xr.vals.length lr.cb)).setCell ⟨c,2,none⟩ (.slice lr.C xr.kids.length lr.cc));have HWZ:=hI (wz = zx wc c lr xr) HWY.o;go_simp;rw [<- HWY.o];clear d0 d1 d2 f0 f1 f2;have HSC:=hI (ReS O w0 K w P D n firm p r c b l l2 x R lr xr v wz) (by
   have hpl:w.1.size <= p /\ p < wa.1.size /\ w.1.size <= q /\ q < wa.1.size /\ w.1.size <= r /\ r < wa.1.size /\ p ≠ r:=by rw [HRR.o,HQQ.o,HPP.o,HBA.o.2]; omega
   have hsz:=HKN.o.size;have hsb:=HBB.o.2;have hcb:=HCB.o;have hba:=HBA.o.1.size;have hmn:zo wn b l x:=(HM.o.carry HBA.o.1).keep HKN.o.size fun g hg=>HKN.o.block g (.inl (HXK.o g hg))
   have hkn:zh K w wn:=(zh.of_below HBA.o.1 HTH.o).trans (HKN.o.less8 fun k hk=>.inl hk);refine ReS.make H HXN.o.1 HXN.o.2.1 HXN.o.2.2 hmn hkn HON.o ⟨by rw [HWZ.o]; exact HBB.o.1.os,by rw [HWZ.o]; exact HBB.o.1.tape,by rw [HWZ.o]; exact HBB.o.1.output,by rw [HWZ.o,zK]; exact HBB.o.1.size,fun k hk=>by rw [HWZ.o,zj hk.2]; exact HBB.o.1.block k hk.1⟩ (by rw [HWZ.o]; exact zC HXC.o.1) (fun h=>by omega) (fun k hk=>?_) (by omega) (by omega) hpl.2.2.2.2.2.2 hpl.1 hpl.2.2.2.2.1 (by omega) (by omega) (by omega) HTH.o HYK.o HXK.o (ze2 HBW.o.1 HBW.o.2) HL.o.low;rcases hk with hk | hk | hk
   ·exact .inl hk
   ·exact .inr ⟨by omega,by omega⟩
   ·exact .inr ⟨by omega,by omega⟩)
  have hS2:zb wz p l x /\ zb wz q l2 y:=⟨HSC.o.bp,hS.2.keep (by rw [HWZ.o]; exact zj (by have:=hS.2.lt; have:=HBB.o.2; have:=HKN.o.size; have:=HCB.o; have:=HQQ.o; have:=HPP.o; have:=HBA.o.2; omega))⟩
  clear hS;refine hK.out _ _ hS2 ?_;clear hK K0;have hS:=hS2;clear hS2;refine xA9 15 13 (v) hS ?_;refine wpAnyH_done (by kernel_rfl) ?_ _
 case' refine_2 =>
  go_simp;obtain ⟨c,HCB⟩:=hY (wa.1.size);obtain ⟨wb,HWwb⟩:=hY (wa.alloc (.cells #[.slice none 0 0,.slice none 0 0,.slice none 0 0] 48));rw [<- HWwb.o,<- HCB.o];have HBB:=hI (Below wa.1.size wa wb /\ wb.1.size = wa.1.size + 1) (by rw [HWwb.o]; exact ⟨(Below.refl _ _).alloc (ze3 _) _,by simp⟩);have HXC:=hI (zb wb c zd.none_ Nd.empty /\ ∀ j,wb.frozen? ⟨c,j,none⟩ = false) (by rw [HWwb.o,HCB.o]; exact ⟨zb.new (l:=zd.none_) (x:=Nd.empty) _,zU _ _ _⟩);clear HWwb;have HBB2:=hI (Below w.1.size w wb) (HBA.o.1.trans (HBB.o.1.mono HBA.o.1.size));have HXB:=hI (zb wb p l x /\ zb wb r zd.none_ Nd.empty /\ ∀ j,wb.frozen? ⟨r,j,none⟩ = false) ⟨HXA.o.1.carry HBB.o.1 HXA.o.1.lt,HXA.o.2.2.1.carry HBB.o.1 HXA.o.2.2.1.lt,zl HBB.o.1 HXA.o.2.2.1.lt HXA.o.2.2.2⟩;have hS2:zb wb p l x /\ zb wb q l2 y:=⟨hS.1.carry HBB.o.1 hS.1.lt,hS.2.carry HBB.o.1 hS.2.lt⟩
  clear hS;refine hK.out _ _ hS2 ?_;clear hK K0;have hS:=hS2;clear hS2;refine xJ9 9 (some 24) (fun K0 hK=>?_);go_simp;refine (HCH.o wb HBB2.o).mono ?_;rintro e wn ⟨lr,xr,v,rfl,hk,ho⟩;have hpl:w.1.size <= p /\ p < wa.1.size /\ w.1.size <= q /\ q < wa.1.size /\ w.1.size <= r /\ r < wa.1.size /\ p ≠ r:=by rw [HRR.o,HQQ.o,HPP.o,HBA.o.2]; omega
  have hsb:=HBB.o.2;have hcb:=HCB.o;have hba:=HBA.o.1.size;have hbp:=hk.block p (.inr ⟨hpl.1,by omega⟩);have hbq:=hk.block q (.inr ⟨hpl.2.2.1,by omega⟩);have hbr:=hk.block r (.inr ⟨hpl.2.2.2.2.1,by omega⟩);have hbc:=hk.block c (.inr ⟨by omega,by omega⟩);have HKN:=Hi hk;have HON:=Hi ho;have HXN:=hI (zb wn p l x /\ zb wn r zd.none_ Nd.empty /\ ∀ j,wn.frozen? ⟨r,j,none⟩ = false) ⟨HXB.o.1.keep hbp,HXB.o.2.1.keep hbr,fun j=>(World.frozen?_of_block (w:=wb) (a:=⟨r,j,none⟩) hbr).trans (HXB.o.2.2 j)⟩;have HXC:=hI (zb wn c zd.none_ Nd.empty /\ ∀ j,wn.frozen? ⟨c,j,none⟩ = false) ⟨HXC.o.1.keep hbc,fun j=>(World.frozen?_of_block (w:=wb) (a:=⟨c,j,none⟩) hbc).trans (HXC.o.2 j)⟩;have hS2:zb wn p l x /\ zb wn q l2 y:=⟨hS.1.keep hbp,hS.2.keep hbq⟩
  clear hk ho hbp hbq hbr hbc hpl hS hsb hcb hba;refine hK.out _ _ hS2 ?_;clear hK K0;have hS:=hS2;clear hS2;refine xA9 10 14 (.tuple #[ndV lr xr,v]) hS ?_;refine xA9 11 25 (ndV lr xr) hS ?_;refine xA9 12 26 (v) hS ?_;refine xJ9 14 (none) (fun K0 hK=>?_);have HBC:=Hi HXC.o.1;have f0:=HXC.o.2 0;have f1:=HXC.o.2 1;have f2:=HXC.o.2 2;have d0:=HBC.o.c0;have d1:=HBC.o.c1;have d2:=HBC.o.c2;obtain ⟨wz,HWY⟩:=hY (((wn.setCell ⟨c,0,none⟩ (.slice lr.A xr.keys.length lr.ca)).setCell ⟨c,1,none⟩ (.slice lr.B xr.vals.length lr.cb)).setCell ⟨c,2,none⟩ (.slice lr.C xr.kids.length lr.cc));have HWZ:=hI (wz = zx wn c lr xr) HWY.o;go_simp;rw [<- HWY.o];clear d0 d1 d2 f0 f1 f2;have HSC:=hI (ReS O w0 K w P D n firm p r c b l l2 x R lr xr v wz) (by
   have hpl:w.1.size <= p /\ p < wa.1.size /\ w.1.size <= q /\ q < wa.1.size /\ w.1.size <= r /\ r < wa.1.size /\ p ≠ r:=by rw [HRR.o,HQQ.o,HPP.o,HBA.o.2]; omega
   have hsz:=HKN.o.size;have hsb:=HBB.o.2;have hcb:=HCB.o;have hba:=HBA.o.1.size;have hmn:zo wn b l x:=(HM.o.carry HBB2.o).keep HKN.o.size fun g hg=>HKN.o.block g (.inl (HXK.o g hg))
   have hkn:zh K w wn:=(zh.of_below HBB2.o HTH.o).trans (HKN.o.less8 fun k hk=>.inl hk);refine ReS.make H HXN.o.1 HXN.o.2.1 HXN.o.2.2 hmn hkn HON.o ⟨by rw [HWZ.o]; rfl,by rw [HWZ.o]; rfl,by rw [HWZ.o]; rfl,by rw [HWZ.o,zK]; exact ze3 _,fun k hk=>by rw [HWZ.o]; exact zj hk.2⟩ (by rw [HWZ.o]; exact zC HXC.o.1) (fun h=>⟨.inr ⟨by omega,by omega⟩,by omega⟩) (fun k hk=>?_) (by omega) (by omega) hpl.2.2.2.2.2.2 hpl.1 hpl.2.2.2.2.1 (by omega) (by omega) (by omega) HTH.o HYK.o HXK.o (ze2 HBW.o.1 HBW.o.2) HL.o.low;rcases hk with hk | hk | hk
   ·exact .inl hk
   ·exact .inr ⟨by omega,by omega⟩
   ·exact .inr ⟨by omega,by omega⟩)
  have hS2:zb wz p l x /\ zb wz q l2 y:=⟨HSC.o.bp,hS.2.keep (by rw [HWZ.o]; exact zj (by have:=hS.2.lt; have:=HBB.o.2; have:=HKN.o.size; have:=HCB.o; have:=HQQ.o; have:=HPP.o; have:=HBA.o.2; omega))⟩
  clear hS;refine hK.out _ _ hS2 ?_;clear hK K0;have hS:=hS2;clear hS2;refine xA9 15 13 (v) hS ?_;refine wpAnyH_done (by kernel_rfl) ?_ _
 all_goals
  clear HXN HKN HON HXC HCB HBB HXA HBA HCH HWZ HWY;obtain ⟨lo,hrl,hwl,hlaw,hcase⟩:=HSC.o.out;have HLO:=Hi (And.intro hrl hwl);obtain ⟨R1,S2⟩:=R;have HLW:=Hi hlaw;rcases hcase with ⟨cd,e1,e2,rfl,rfl,e5⟩ | ⟨bk,ks,e1,rfl,rfl,e4,e5,e6,e7,e8⟩
  ·obtain rfl:R1 = .error cd:=e1;obtain ⟨tt,xx,rfl⟩:=e5.some e2;have HE:=Hi e5;have HC0:=Hi e2;clear e2 e5 hrl hwl hlaw hS;have f0:=HSC.o.fr 0;have f1:=HSC.o.fr 1;have f2:=HSC.o.fr 2;have d0:=HSC.o.br.c0;have d1:=HSC.o.br.c1;have d2:=HSC.o.br.c2;obtain ⟨w6,HW6⟩:=hY (((wz.setCell ⟨r,0,none⟩ (.slice none 0 0)).setCell ⟨r,1,none⟩ (.slice none 0 0)).setCell ⟨r,2,none⟩ (.slice none 0 0));have HS6:=hI (w6 = zx wz r zd.none_ Nd.empty) HW6.o;have HX6:=hI (zb w6 r zd.none_ Nd.empty) (by rw [HS6.o]; exact zC HSC.o.br);have HT6:=hI (zr (fun k=>k = r) wz w6) ⟨by rw [HS6.o]; rfl,by rw [HS6.o]; rfl,by rw [HS6.o]; rfl,by rw [HS6.o,zK]; exact ze3 _,fun k hk=>by rw [HS6.o]; exact zj hk.2⟩;go_wp2_with fail;rw [<- HW6.o,HRE.o];refine bodyPost_ret (zq Tryz.ndProg rfl _ _ r zd.none_ Nd.empty (.iface tt xx) rfl rfl HX6.o) rfl ?_;have hwr:=HSC.o.wr_;have hbw:=HBW.o;refine ⟨?_,?_,HC0.o,_,rfl,?_⟩
   ·exact (HSC.o.kept.less8 fun k hk=>hk.1).trans ⟨HT6.o.os,HT6.o.tape,HT6.o.output,HT6.o.size,fun k hk=>HT6.o.block k ⟨by have:=HTH.o k hk.1; have:=HSC.o.kept.size; omega,fun e=>by have:=HTH.o k hk.1; omega⟩⟩
   ·refine HLW.o.off H HT6.o (fun k hk=>⟨.inl (.inr (.inr (.inl hk))),by have hk':k = r:=hk; omega⟩) (fun k hk=>.inl (.inl (.inl hk))) (fun k hk=>?_) HL.o.low;have:=HTH.o k hk;have:=HSC.o.kept.size;have:=HT6.o.size;omega
   ·rw [HS6.o];exact (yR HE.o HLO.o.1).mono HLO.o.2
  ·obtain rfl:R1 = .ok (bk,ks):=e1;have HE4:=Hi e4;have HE5:=Hi e5;have HE6:=Hi e6;have HE7:=Hi e7;have HE8:=Hi e8;have HKS:=Hi (HCV.o bk ks S2 rfl);obtain ⟨HBK,HKL⟩:Hid (bk = (yq y).2) /\ Hid (ks.length = bk.length + 1):=⟨Hi (kh HRS.o.symm).1,Hi (kh HRS.o.symm).2⟩
   have HBL:=hI (bk.length <= 1) (by rw [HBK.o]; exact wV y);clear e4 e5 e6 e7 e8 hrl hwl hlaw hS HCV;have HNH:=hI (∀ g,w.1.size <= g -> ¬ l.has g) fun g hg h=>by have:=HTH.o g (HXK.o g h); omega
   obtain ⟨ko,HKO⟩:=hY (x.keys.take at_ ++ bk ++ x.keys.drop j);obtain ⟨co,HCO⟩:=hY (x.kids.take at_ ++ ks ++ x.kids.drop hi);go_upto_region 4 with (fail)
   refine wp_region_held (S:=fun w9=>ReT p c l x lr ⟨bk,[],ks⟩ w9) (by kernel_rfl) ?_;change wpAnyH _ _ _ _ _ _ _ _ wz.drew;obtain ⟨wd,HWD⟩:=hY (wz.drew);rw [<- HWD.o];have hdr:Below wz.1.size wz wd:=by rw [HWD.o]; exact (Below.refl _ _).drew
   have HU:=hI (ReU O w0 K P D n firm p r c l x S2 lr ⟨bk,[],ks⟩ wz (fun _=>False) wd) (by
    have h1:=HSC.o.bp.lt;have h2:=HSC.o.br.lt;have h3:=HSC.o.bc.lt;refine ⟨⟨HSC.o.bp.carry hdr h1,HSC.o.bc.carry hdr h3⟩,HSC.o.br.carry hdr h2,zl hdr h2 HSC.o.fr,?_,zr.of_below hdr,HNH.o p HSC.o.wp,HNH.o r HSC.o.wr_,HNH.o c HSC.o.wc,fun g hg=>⟨HXK.o g hg,?_⟩,HL.o.low⟩
    ·refine (HLW.o.carry H hdr).less H (fun k hk=>?_) fun k hk=>.inl (HL.o.low k hk)
     rcases hk with hk | hk | hk | hk | hk | hk
     ·exact .inl (.inl hk)
     ·exact .inl (.inr (.inl hk))
     ·exact .inl (.inr (.inr (.inl hk)))
     ·exact .inl (.inr (.inr (.inr hk)))
     ·exact .inr hk
     ·exact hk.elim
    ·have:=HSC.o.mi.lt g hg;have:=HBW.o;omega)
   have HMX:=hI (zo wd b l x) (HSC.o.mi.carry hdr);have HMY:=hI (zo wd b2 l2 y) ((HY.o.keep HSC.o.kept.size fun g hg=>HSC.o.kept.block g (HYK.o g hg)).carry hdr);have HRN:=hI (Nums wd .i64 lr.A bk) (HE4.o.carry hdr);have HRK:=hI (wd.ownsRow lo 3 1 (.slice lr.C ks.length lr.cc) ks.length (ks.map (Value.int .i64))) (zu HE6.o (zr.of_below (M:=fun _=>False) hdr) fun _ _ h=>h);have HSZE:=hI (wz.1.size <= wd.1.size) hdr.size;have HSZD:=hI (w.1.size <= wd.1.size) (ze2 HSC.o.kept.size hdr.size);have hS:=HU.o.t;clear HWD hdr HE4 HE6 HLW;refine xA9 0 31 (.pointer (some ⟨p,0,none⟩)) hS ?_;refine xG9 1 32 (.slice l.A x.keys.length l.ca) rfl (.inl ⟨by rfl,fun _ h=>by have c0:_ = some (Value.slice l.A x.keys.length l.ca):=h.bp.c0; go_simp⟩) hS ?_;refine xA9 2 33 (.int .i64 (at_:Int)) hS ?_;refine xA9 3 34 (.int .i64 (at_:Int)) hS ?_;refine xA9 4 35 (.int .i64 (many:Int)) hS ?_;refine xA9 5 36 (.int .i64 (hi:Int)) hS ?_;refine xA9 6 37 (.int .i64 (j:Int)) hS ?_;refine xA9 7 38 (.pointer (some ⟨c,0,none⟩)) hS ?_;refine xG9 8 39 (.slice lr.A bk.length lr.ca) rfl (.inl ⟨by rfl,fun _ h=>by have c0:_ = some (Value.slice lr.A bk.length lr.ca):=h.bc.c0; go_simp⟩) hS ?_;refine xA9 10 41 (.pointer (some ⟨p,2,none⟩)) hS ?_;refine xG9 11 42 (.slice l.C x.kids.length l.cc) rfl (.inl ⟨by rfl,fun _ h=>by have c0:_ = some (Value.slice l.C x.kids.length l.cc):=h.bp.c2; go_simp⟩) hS ?_;refine xA9 12 43 (.int .i64 (at_:Int)) hS ?_;refine xA9 13 44 (.int .i64 (at_:Int)) hS ?_;refine xA9 14 45 (.int .i64 (many:Int)) hS ?_;refine xA9 15 46 (.int .i64 (hi:Int)) hS ?_;refine xA9 16 47 (.pointer (some ⟨c,2,none⟩)) hS ?_;refine xG9 17 48 (.slice lr.C ks.length lr.cc) rfl (.inl ⟨by rfl,fun _ h=>by have c0:_ = some (Value.slice lr.C ks.length lr.cc):=h.bc.c2; go_simp⟩) hS ?_;refine xJ9 9 (some 40) (fun K0 hK=>?_);go_simp;have hrk:QH wd l.A lr.A lr.ca bk:=by
    by_cases hbk:bk = []
    ·exact ⟨fun _=>HE8.o hbk,fun h=>absurd hbk h⟩
    ·refine Qi HMY.o ?_ (fun a ha=>(HE7.o a ha).1) HE8.o HRN.o (fun a cc ha hc e=>HDIS.o a.block (.inl ⟨a,ha,rfl⟩) (.inl ⟨cc,hc,e.symm⟩)) (fun a ha=>(HE7.o a ha).2);rcases Nat.eq_zero_or_pos y.keys.length with h | h
     ·refine absurd ?_ hbk;rw [HBK.o];unfold yq;rw [if_pos (by omega)]
     ·exact h
   have hsz:=HSZ.o;have hmn:=HMANY.o;refine (KU HMX.o.k hsz.2.2.2 (i:=at_) (j:=j) (by rw [HJ.o]; omega) (by rw [HJ.o]; omega) hrk (by have:=HBL.o; omega) (ze2 HBW.o.2 HSZD.o)).mono ?_;rw [<- HKO.o];rintro e w5 ⟨A2,cA,rfl,hown,hbl,ht⟩;have hAl:∀ k,(∃ a,l.A = some a /\ a.block = k) -> l.has k:=fun k h=>.inl h
   have HU5:=hI (ReU O w0 K P D n firm p r c l x S2 lr ⟨bk,[],ks⟩ wz (fun k=>∃ a,A2 = some a /\ a.block = k) w5) (HU.o.step H ht hAl (fun k ⟨a,ha,hk⟩=>by
     rcases hbl a ha with h | h
     ·exact .inr (.inl (.inl ⟨a,h,hk⟩))
     ·exact .inr (.inr (by omega))) fun k ⟨a,ha,hk⟩=>by
     have:=(hown.lt a.block (by rw [ha]; rfl)).2;omega)
   have HK5:=Hi hown;have HC5:=hI (w5.ownsRow b 3 1 (.slice l.C x.kids.length l.cc) x.kids.length (x.kids.map (Value.int .i64))) (zu HMX.o.c ht fun g hg ⟨a,e1,e2⟩=>by
    cases hC:l.C with
    | none=>rw [hC] at hg; cases hg
    | some cc=>rw [hC] at hg; cases hg; exact HMX.o.akc a cc e1 hC e2)
   have HR5:=hI (w5.ownsRow lo 3 1 (.slice lr.C ks.length lr.cc) ks.length (ks.map (Value.int .i64))) (zu HRK.o ht fun g hg ⟨a,e1,e2⟩=>by
    have h1:=(HRK.o.lt g hg).1;have h2:=HTH.o _ (HXK.o _ (hAl _ ⟨a,e1,e2⟩));have h3:=HLO.o;omega)
   have HA5:=hI (∀ a,A2 = some a -> (l.A = some a \/ wd.1.size <= a.block) /\ a.block < w5.1.size) fun a ha=>⟨hbl a ha,(hown.lt a.block (by rw [ha]; rfl)).2⟩
   have HSZ5:=hI (wd.1.size <= w5.1.size) ht.size;refine hK.out _ _ HU5.o.t ?_;clear hK K0 hS hown hbl ht hrk HU hsz hmn HRK HRN HMY;have hS:=HU5.o.t;refine xJ9 18 (some 49) (fun K0 hK=>?_);go_simp;have hrk:QH w5 l.C lr.C lr.cc ks:=by
    have hkp:0 < ks.length:=by have:=HKL.o; omega
    refine ⟨fun h=>by rw [h] at hkp; exact absurd hkp (by decide),fun _=>?_⟩;obtain ⟨g,lv,e1,e2,e3⟩:=KN HR5.o hkp;refine ⟨g,0,_,lv,e1,e2,fun k v hv=>?_,fun a ha e=>?_⟩
    ·rw [<- e3,List.getElem?_take] at hv;rw [Nat.zero_add];split at hv
     ·exact hv
     ·cases hv
    ·have h1:=(HR5.o.lt g (by rw [e1]; rfl)).1;have h2:=HTH.o _ (HXK.o _ (.inr (.inr ⟨a,ha,rfl⟩)));have h3:=HLO.o;omega
   have hsz:=HSZ.o;have hmn:=HMANY.o;refine (KU HC5.o (by omega) (i:=at_) (j:=hi) (by rw [HHI.o]; omega) (by rw [HHI.o]; omega) hrk (by have:=HBL.o; have:=HKL.o; omega) (ze2 HBW.o.2 (ze2 HSZD.o HSZ5.o))).mono ?_;rw [<- HCO.o];rintro e w6 ⟨C2,cC,rfl,hown,hbl,ht⟩;have hCl:∀ k,(∃ a,l.C = some a /\ a.block = k) -> l.has k:=fun k h=>.inr (.inr h)
   have HU6:=hI (ReU O w0 K P D n firm p r c l x S2 lr ⟨bk,[],ks⟩ wz (fun k=>(∃ a,A2 = some a /\ a.block = k) \/ ∃ a,C2 = some a /\ a.block = k) w6) (HU5.o.step H ht hCl (fun k hk=>by
     rcases hk with hk | ⟨a,ha,hk⟩
     ·exact .inl hk
     ·rcases hbl a ha with h | h
      ·exact .inr (.inl (.inr (.inr ⟨a,h,hk⟩)))
      ·exact .inr (.inr (by omega))) fun k hk=>by
     rcases hk with ⟨a,ha,hk⟩ | ⟨a,ha,hk⟩
     ·have:=(HA5.o a ha).2;have:=ht.size;omega
     ·have:=(hown.lt a.block (by rw [ha]; rfl)).2;omega)
   have HC6:=Hi hown;have HAC:=hI (∀ a cc,A2 = some a -> C2 = some cc -> a.block ≠ cc.block) fun a cc ha hc e=>by
    rcases hbl cc hc with h1 | h1
    ·rcases (HA5.o a ha).1 with h2 | h2
     ·exact HMX.o.akc a cc h2 h1 e
     ·have h3:=HTH.o _ (HXK.o _ (hCl _ ⟨cc,h1,rfl⟩));have:=HSZD.o;omega
    ·have:=(HA5.o a ha).2;omega
   have HK6:=hI (w6.ownsRow b 3 1 (.slice A2 ko.length cA) ko.length (ko.map (Value.int .i64))) (zu HK5.o ht fun g hg ⟨cc,e1,e2⟩=>by
    cases hA:A2 with
    | none=>rw [hA] at hg; cases hg
    | some a =>
     rw [hA] at hg; cases hg;rcases (HA5.o a hA).1 with h2 | h2
     ·exact HMX.o.akc a cc h2 e1 e2.symm
     ·have h3:=HTH.o _ (HXK.o _ (hCl _ ⟨cc,e1,rfl⟩));have:=HSZD.o;omega)
   have HCB6:=hI (∀ a,C2 = some a -> l.C = some a \/ wd.1.size <= a.block) fun a ha=>(hbl a ha).imp id fun h=>ze2 HSZ5.o h
   refine hK.out _ _ HU6.o.t ?_;clear hK K0 hS hown hbl ht hrk HU5 hsz hmn HC5 HR5 HK5;have hS:=HU6.o.t;refine xA9 19 50 (.agg #[.slice A2 ko.length cA,.slice none 0 0,.slice C2 co.length cC]) hS ?_;refine xJ9 20 (none) (fun K0 hK=>?_);have f0:=HU6.o.fr 0;have f1:=HU6.o.fr 1;have f2:=HU6.o.fr 2;have d0:=HU6.o.br.c0;have d1:=HU6.o.br.c1;have d2:=HU6.o.br.c2;obtain ⟨xo,HXO⟩:∃ xo:Nd,Hid (xo = ⟨ko,[],co⟩):=Hy;obtain ⟨w7,HW7⟩:=hY (((w6.setCell ⟨r,0,none⟩ (.slice A2 ko.length cA)).setCell ⟨r,1,none⟩ (.slice none 0 0)).setCell ⟨r,2,none⟩ (.slice C2 co.length cC));have HS7:=hI (w7 = zx w6 r ⟨A2,none,C2,cA,0,cC⟩ xo) (by rw [HXO.o]; exact HW7.o);have HX7:=hI (zb w7 r ⟨A2,none,C2,cA,0,cC⟩ xo) (by rw [HS7.o]; exact zC HU6.o.br);have HT7:=hI (zr (fun k=>k = r) w6 w7) ⟨by rw [HS7.o]; rfl,by rw [HS7.o]; rfl,by rw [HS7.o]; rfl,by rw [HS7.o,zK]; exact ze3 _,fun k hk=>by rw [HS7.o]; exact zj hk.2⟩;go_simp;rw [<- HW7.o];have hS2:ReT p c l x lr ⟨bk,[],ks⟩ w7:=⟨hS.bp.keep (HT7.o.block p ⟨hS.bp.lt,HSC.o.pr⟩),hS.bc.keep (HT7.o.block c ⟨hS.bc.lt,HSC.o.cr⟩)⟩
   refine hK.out _ _ hS2 ?_;clear hK K0 hS d0 d1 d2 f0 f1 f2;have hS:=hS2;clear hS2;refine xA9 21 11 (.nilIface) hS ?_;refine wpAnyH_done (by kernel_rfl) ?_ _;go_wp2_with fail;rw [HRE.o];refine bodyPost_ret (zq Tryz.ndProg rfl _ _ r ⟨A2,none,C2,cA,0,cC⟩ xo .nilIface rfl rfl HX7.o) rfl ?_;have hwr:=HSC.o.wr_;have hbw:=HBW.o;have hnA:∀ a,A2 = some a -> a.block ≠ r:=fun a ha e=>by
    rcases (HA5.o a ha).1 with h | h
    ·have:=HTH.o _ (HXK.o _ (.inl ⟨a,h,rfl⟩)); omega
    ·have:=HSC.o.br.lt; have:=HSZE.o; omega
   have hnC:∀ a,C2 = some a -> a.block ≠ r:=fun a ha e=>by
    rcases HCB6.o a ha with h | h
    ·have:=HTH.o _ (HXK.o _ (.inr (.inr ⟨a,h,rfl⟩))); omega
    ·have:=HSC.o.br.lt; have:=HSZE.o; omega
   have hxo:xo = ⟨x.keys.take at_ ++ bk ++ x.keys.drop (at_ + many - 1),[],x.kids.take at_ ++ ks ++ x.kids.drop (at_ + many)⟩:=by rw [HXO.o,HKO.o,HCO.o,HJ.o,HHI.o]
   rw [<- hxo];refine ⟨?_,⟨A2,none,C2,cA,0,cC⟩,?_,rfl,?_,?_⟩
   ·have h1:=HSC.o.kept.less8 (K:=fun g=>K g /\ ¬ l.has g) fun k hk=>hk.1
    have h2:=HU6.o.turn;have h3:=HT7.o;refine h1.trans ⟨h3.os.trans h2.os,h3.tape.trans h2.tape,h3.output.trans h2.output,ze2 h2.size h3.size,fun k hk=>?_⟩;have h4:=HTH.o k hk.1;have h5:=HSC.o.kept.size;exact (h3.block k ⟨by have:=h2.size; omega,fun e=>by have e':k = r:=e; omega⟩).trans (h2.block k ⟨by omega,hk.2⟩)
   ·refine HU6.o.law.off H HT7.o (fun k hk=>⟨.inr (.inr (.inl hk)),by have hk':k = r:=hk; omega⟩) (fun k hk=>?_) (fun k hk=>?_) fun k hk=>.inl (HL.o.low k hk)
    ·rcases hk with hk | ⟨a,ha,hk⟩ | ⟨a,ha,hk⟩ | ⟨a,ha,hk⟩
     ·exact .inl (.inl hk)
     ·exact .inl (.inr (.inr (.inr (.inr (.inr (.inl ⟨a,ha,hk⟩))))))
     ·cases ha
     ·exact .inl (.inr (.inr (.inr (.inr (.inr (.inr ⟨a,ha,hk⟩))))))
    ·have h7:=HT7.o.size;have h8:=HU6.o.law.there;rcases hk with hk | ⟨a,ha,hk⟩ | ⟨a,ha,hk⟩ | ⟨a,ha,hk⟩
     ·exact ze1 (h8 k (.inl hk)) h7
     ·exact ze1 (h8 k (.inr (.inr (.inr (.inr (.inr (.inl ⟨a,ha,hk⟩))))))) h7
     ·cases ha
     ·exact ze1 (h8 k (.inr (.inr (.inr (.inr (.inr (.inr ⟨a,ha,hk⟩))))))) h7
   ·rw [HXO.o];refine zo.of_own (zu HK6.o HT7.o ?_) (World.ownsRow_nil _ _ _ _) (zu HC6.o HT7.o ?_) (fun _ _ _ h=>(by cases h)) HAC.o (fun _ _ h _=>(by cases h)) ?_ (Nat.zero_le _) ?_ ?_ (fun z hz=>(by cases hz)) ?_
    ·intro g hg e;cases hA:A2 with
     | none=>rw [hA] at hg; cases hg
     | some a=>rw [hA] at hg; cases hg; exact hnA a hA e
    ·intro g hg e;cases hA:C2 with
     | none=>rw [hA] at hg; cases hg
     | some a=>rw [hA] at hg; cases hg; exact hnC a hA e
    ·show ko.length <= 100;rw [HKO.o]; have:=HSZ.o; have:=HBL.o; simp; omega
    ·show co.length <= 101;rw [HCO.o]; have:=HSZ.o; have:=HBL.o; have:=HKL.o; simp; omega
    ·intro z hz;have hz2:z ∈ x.keys.take at_ ++ bk ++ x.keys.drop j:=by rw [<- HKO.o]; exact hz
     rcases zfy.1 hz2 with h | h
     ·rcases zfy.1 h with h | h
      ·exact HMX.o.is.kw z (zfO h)
      ·rw [HBK.o] at h;exact HY.o.is.kw z (ZG h)
     ·exact HMX.o.is.kw z (zfP h)
    ·intro z hz;have hz2:z ∈ x.kids.take at_ ++ ks ++ x.kids.drop hi:=by rw [<- HCO.o]; exact hz
     rcases zfy.1 hz2 with h | h
     ·rcases zfy.1 h with h | h
      ·exact HMX.o.is.cw z (zfO h)
      ·have:=HKS.o z h;omega
     ·exact HMX.o.is.cw z (zfP h)
   ·rintro g (⟨a,e,rfl⟩ | ⟨a,e,rfl⟩ | ⟨a,e,rfl⟩)
    ·exact (HA5.o a e).1.imp (fun h=>.inl ⟨a,h,rfl⟩) fun h=>ze2 HSZD.o h
    ·cases e
    ·exact (HCB6.o a e).imp (fun h=>.inr (.inr ⟨a,h,rfl⟩)) fun h=>ze2 HSZD.o h
end
end
