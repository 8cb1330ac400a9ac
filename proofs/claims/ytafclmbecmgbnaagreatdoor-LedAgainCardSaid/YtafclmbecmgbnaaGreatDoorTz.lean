/-
  Tz. Conditions: as said.
-/
import Derived.Test.YtafclmbecmgbnaaGreatDoorTx
set_option maxRecDepth 100000
set_option maxHeartbeats 1000000
open Prod renaming mk -> zgi
open Nat renaming le_refl -> ze3
open List renaming cons_append -> zf3
namespace Go.Proofs.YtafclmbecmgbnaaGreatDoor
open Go.RowKit
section
theorem Z1 (n:Nat) (l:List Nd):∀ {S S1:TS} {ks:List Int} (x:Nd),zT n S l = (.ok ks,S1) -> zT n S (l ++ [x]) = match xA n S1 x with
  | (.error c,S2)=>(.error c,S2)
  | (.ok k,S2)=>(.ok (ks ++ [k]),S2):=by
 induction l with
 | nil =>
  intro S S1 ks x h;simp only [zT,zgi.injEq,Except.ok.injEq] at h;obtain ⟨rfl,rfl⟩:=h;simp only [List.nil_append,zT];cases xA n S x with
  | mk o S2=>cases o <;> rfl
 | cons y l ih =>
  intro S S1 ks x h;unfold zT at h;rw [zf3];unfold zT;cases ha:xA n S y with
  | mk o S2 =>
   rw [ha] at h;cases o with
   | error c=>simp only [zgi.injEq] at h; cases h.1
   | ok k =>
    simp only at h ⊢;cases hb:zT n S2 l with
    | mk o2 S3 =>
     rw [hb] at h;cases o2 with
     | error c=>simp only [zgi.injEq] at h; cases h.1
     | ok ks2 =>
      simp only [zgi.injEq,Except.ok.injEq] at h;obtain ⟨rfl,rfl⟩:=h;rw [ih x hb];cases xA n S3 x with
      | mk o3 S4=>cases o3 <;> rfl
theorem Vt (n:Nat) (l:List Nd):∀ {S S1:TS} {c:Int} (r:List Nd),zT n S l = (.error c,S1) -> zT n S (l ++ r) = (.error c,S1):=by
 induction l with
 | nil=>intro S S1 c r h; simp [zT] at h
 | cons y l ih =>
  intro S S1 c r h;unfold zT at h;rw [zf3];unfold zT;cases ha:xA n S y with
  | mk o S2 =>
   rw [ha] at h;cases o with
   | error c2=>exact h
   | ok k =>
    simp only at h ⊢;cases hb:zT n S2 l with
    | mk o2 S3 =>
     rw [hb] at h;cases o2 with
     | error c2 =>
      simp only [zgi.injEq,Except.error.injEq] at h;obtain ⟨rfl,rfl⟩:=h;rw [ih r hb]
     | ok ks2=>simp only [zgi.injEq] at h; cases h.1
theorem zad {n:Nat} {S S1:TS} {x:Nd} {r:Except Int Int} (h:xA n S x = (r,S1)):S1.d.soft.length <= S.d.soft.length + 1:=by
 unfold xA at h;split at h
 ·simp only [zgi.injEq] at h; rw [<- h.2]; omega
 ·split at h
  ·simp only [zgi.injEq] at h; rw [<- h.2]; omega
  ·simp only [zgi.injEq] at h; rw [<- h.2]; show (S.d.soft ++ [_]).length <= _; simp
def ChL (K:Nat -> Prop) (w:World) (N:Nat) (C:Option Addr) (g:Nat):Prop:=K g \/ (w.1.size <= g /\ g < N) \/ ∃ a,C = some a /\ a.block = g
structure ChS (O:zV) (w0:World) (K:Nat -> Prop) (w:World) (P D n:Nat) (firm:Nat -> List UInt8) (q r c N:Nat) (B:Option Addr) (bc:Nat) (bt:List Int) (ns:List Nd) (M:Nat -> Prop) (C:Option Addr) (cc:Nat) (ks:List Int) (S':TS) (wr:World):Prop where
 law:zP O w0 (ChL K w N C) wr P D n S' firm
 kept:zh K w wr
 row:V5 wr q ns M
 res:zb wr r zd.none_ Nd.empty
 fr:∀ j,wr.frozen? ⟨r,j,none⟩ = false
 c0:wr.cell? ⟨c,0,none⟩ = some (.slice B bt.length bc)
 c1:wr.cell? ⟨c,1,none⟩ = some (.slice none 0 0)
 c2:wr.cell? ⟨c,2,none⟩ = some (.slice C ks.length cc)
 fc:∀ j,wr.frozen? ⟨c,j,none⟩ = false
 nb:Nums wr .i64 B bt
 own:wr.ownsRow N 3 1 (.slice C ks.length cc) ks.length (ks.map (Value.int .i64))
 hq:w.1.size <= q
 qN:q < N
 qc:q ≠ c
 hr:w.1.size <= r
 rc:r < c
 hc:c < N
 sz:N <= wr.1.size
 hM:∀ g,M g -> K g
 hB:∀ a,B = some a -> K a.block
 hw:w0.1.size <= w.1.size
 hK:zZ K w
section
variable {O:zV} {w0:World} {K:Nat -> Prop} {w:World} {P D n:Nat} {firm:Nat -> List UInt8} {q r c N:Nat} {B:Option Addr} {bc:Nat} {bt:List Int} {ns:List Nd} {M:Nat -> Prop} {C:Option Addr} {cc:Nat} {ks:List Int} {S1 S2:TS} {wr w':World}
theorem V5.keep {w w':World} {q:Nat} {ns:List Nd} {M:Nat -> Prop} (h:V5 w q ns M) (hs:w.1.size <= w'.1.size) (hq:w'.1[q]? = w.1[q]?) (hM:∀ g,M g -> w'.1[g]? = w.1[g]?):V5 w' q ns M:=fun i hi=>by
 obtain ⟨l,h1,h2,h3⟩:=h i hi;exact ⟨l,h1.keep hs fun g hg=>hM g (h3 g hg),fun j v hv=>(World.cell?_of_block (by exact hq)).trans (h2 j v hv),h3⟩
theorem ChS.blocks (h:ChS O w0 K w P D n firm q r c N B bc bt ns M C cc ks S1 wr) (hl:zP O w0 (ChL K w N C) w' P D n S2 firm) (hk:zh (ChL K w N C) wr w'):ChS O w0 K w P D n firm q r c N B bc bt ns M C cc ks S2 w':=by
 have hwq:=h.hq;have hwr:=h.hr;have hrc:=h.rc;have hcN:=h.hc;have bq:=hk.block q (.inr (.inl ⟨h.hq,h.qN⟩));have br:=hk.block r (.inr (.inl ⟨h.hr,by omega⟩));have bc':=hk.block c (.inr (.inl ⟨by omega,by omega⟩));exact ⟨hl,h.kept.trans (hk.less8 fun g hg=>.inl hg),h.row.keep hk.size bq fun g hg=>hk.block g (.inl (h.hM g hg)),h.res.keep br,fun j=>(World.frozen?_of_block (w:=wr) (a:=⟨r,j,none⟩) br).trans (h.fr j),
  (World.cell?_of_block (w:=wr) (a:=⟨c,0,none⟩) bc').trans h.c0,(World.cell?_of_block (w:=wr) (a:=⟨c,1,none⟩) bc').trans h.c1,(World.cell?_of_block (w:=wr) (a:=⟨c,2,none⟩) bc').trans h.c2,fun j=>(World.frozen?_of_block (w:=wr) (a:=⟨c,j,none⟩) bc').trans (h.fc j),
  vQ h.nb hk.size fun a ha=>hk.block _ (.inl (h.hB a ha)),
  zB h.own fun g hg=>hk.block g (.inr (.inr (by cases hC:C with | none=>(rw [hC] at hg; cases hg) | some a=>(rw [hC] at hg; cases hg; exact ⟨a,rfl,rfl⟩)))),
  h.hq,h.qN,h.qc,h.hr,h.rc,h.hc,Nat.le_trans h.sz hk.size,h.hM,h.hB,h.hw,h.hK⟩
theorem ChS.carry (H:ye O) (h:ChS O w0 K w P D n firm q r c N B bc bt ns M C cc ks S1 wr) (hb:Below wr.1.size wr w'):ChS O w0 K w P D n firm q r c N B bc bt ns M C cc ks S1 w':=by
 have hth:=h.law.there;refine h.blocks (h.law.off H (M:=fun _=>False) (zr.of_below hb) (fun _ h=>h.elim) (fun k hk=>.inl hk) (hth.below hb) h.law.low) (zh.of_below hb hth)
theorem ChS.push (H:ye O) {gg cap:Nat} {z:Int} {w3:World} (h:ChS O w0 K w P D n firm q r c N B bc bt ns M C cc ks S1 wr) (hg:wr.grownBy w3 (Value.slice C ks.length cc).ownBlock)
  (hown:w3.ownsRow N 3 1 (.slice (some ⟨gg,0,none⟩) (ks.length + 1) cap) (ks.length + 1) (ks.map (Value.int .i64) ++ [.int .i64 z])) (hat:(Value.slice C ks.length cc).ownBlock = some gg \/ gg = wr.1.size) :
  ChS O w0 K w P D n firm q r c N B bc bt ns M (some ⟨gg,0,none⟩) cap (ks ++ [z]) S1 (w3.setCell ⟨c,2,none⟩ (.slice (some ⟨gg,0,none⟩) (ks ++ [z]).length cap)):=by
 have hwq:=h.hq;have hqN:=h.qN;have hqc:=h.qc;have hwr:=h.hr;have hrc:=h.rc;have hcN:=h.hc;have hsz:=h.sz;have hww:=h.hw;have hth:=h.law.there;have hCN:∀ g,(Value.slice C ks.length cc).ownBlock = some g -> N <= g /\ g < wr.1.size:=fun g hg=>h.own.lt g hg
 have hCL:∀ g,(Value.slice C ks.length cc).ownBlock = some g -> ∃ a,C = some a /\ a.block = g:=fun g hg=>by
  cases hC:C with
  | none=>rw [hC] at hg; cases hg
  | some a=>rw [hC] at hg; cases hg; exact ⟨a,rfl,rfl⟩
 have hCM:∀ g,(∃ a,C = some a /\ a.block = g) -> N <= g /\ g < wr.1.size:=fun g ⟨a,ha,hb⟩=>hCN g (by rw [ha,<- hb]; rfl)
 obtain ⟨v,hv⟩:∃ v,v = Value.slice (some ⟨gg,0,none⟩) (ks ++ [z]).length cap:=⟨_,rfl⟩
 rw [<- hv];have hs2:(w3.setCell ⟨c,2,none⟩ v).heap.size = w3.1.size:=World.heap_setCell_size9 _ _ _;have blk:∀ i,i < wr.1.size -> i ≠ c -> (Value.slice C ks.length cc).ownBlock ≠ some i -> (w3.setCell ⟨c,2,none⟩ v).heap[i]? = wr.1[i]?:=fun i hi hn hm=>(World.heap_setCell_far9 _ _ _ (by exact hn)).trans (hg.block i hi (Ne.symm hm))
 have low:∀ i,i < N -> (Value.slice C ks.length cc).ownBlock ≠ some i:=fun i hi e=>by have:=(hCN i e).1; omega
 have hgg:N <= gg /\ gg < w3.1.size:=⟨by
  rcases hat with e | e
  ·exact (hCN gg e).1
  ·omega,(hown.lt gg rfl).2⟩
 have ht:zr (fun i=>i = c \/ ∃ a,C = some a /\ a.block = i) wr (w3.setCell ⟨c,2,none⟩ v):=by
  refine ⟨?_,?_,?_,by rw [hs2]; exact hg.size,fun k hk=>blk k hk.1 (fun e=>hk.2 (.inl e)) fun e=>hk.2 (.inr (hCL k e))⟩
  ·exact hg.os
  ·exact hg.tape
  ·exact hg.output
 have bw3:∀ i,i < N -> w3.1[i]? = wr.1[i]?:=fun i hi=>hg.block i (by omega) (Ne.symm (low i hi))
 have bw4:∀ i,i < N -> i ≠ c -> (w3.setCell ⟨c,2,none⟩ v).heap[i]? = wr.1[i]?:=fun i hi hn=>blk i (by omega) hn (low i hi)
 have hKN:∀ g,K g -> g < w.1.size:=h.hK;have hkk:zh K wr (w3.setCell ⟨c,2,none⟩ v):=⟨ht.os,ht.tape,ht.output,ht.size,fun k hk=>bw4 k (by have:=hKN k hk; omega) (by have:=hKN k hk; omega)⟩
 have bc0:=bw3 c hcN;refine ⟨h.law.off H (M:=fun i=>i = c \/ ∃ a,C = some a /\ a.block = i) ht ?_ ?_ ?_ ?_,h.kept.trans hkk,h.row.keep ht.size (bw4 q hqN hqc) fun g hg=>hkk.block g (h.hM g hg),h.res.keep (bw4 r (by omega) (by omega)),
  fun j=>(World.frozen?_of_block (w:=wr) (a:=⟨r,j,none⟩) (bw4 r (by omega) (by omega))).trans (h.fr j),
  (World.cell?_setCell_other _ _ _ _ (by simp)).trans ((World.cell?_of_block (w:=wr) (a:=⟨c,0,none⟩) bc0).trans h.c0),
  (World.cell?_setCell_other _ _ _ _ (by simp)).trans ((World.cell?_of_block (w:=wr) (a:=⟨c,1,none⟩) bc0).trans h.c1),
  (World.cell?_setCell_same _ _ _ ((World.cell?_of_block (w:=wr) (a:=⟨c,2,none⟩) bc0).trans h.c2)).trans (by rw [hv]),
  fun j=>by rw [World.frozen?_setCell]; exact (World.frozen?_of_block (w:=wr) (a:=⟨c,j,none⟩) bc0).trans (h.fc j),
  vQ h.nb ht.size fun a ha=>hkk.block _ (h.hB a ha),?_,
  h.hq,h.qN,h.qc,h.hr,h.rc,h.hc,Nat.le_trans h.sz ht.size,h.hM,h.hB,h.hw,h.hK⟩
 ·rintro k (rfl | hk)
  ·exact ⟨.inr (.inl ⟨by omega,hcN⟩),by omega⟩
  ·exact ⟨.inr (.inr hk),by have:=hCM k hk; omega⟩
 ·rintro k (hk | hk | ⟨a,ha,rfl⟩)
  ·exact .inl (.inl hk)
  ·exact .inl (.inr (.inl hk))
  ·cases ha;rcases hat with e | e
   ·exact .inl (.inr (.inr (hCL gg e)))
   ·exact .inr (by show wr.1.size <= gg; omega)
 ·rintro k (hk | hk | ⟨a,ha,rfl⟩)
  ·have:=hKN k hk; have:=ht.size; omega
  ·have:=hk.2; have:=ht.size; omega
  ·cases ha; rw [hs2]; exact hgg.2
 ·intro k hk;rcases h.law.low k hk with h1 | h1 | h1
  ·exact .inl h1
  ·exact .inr (.inl h1)
  ·have:=hCM k h1; omega
 ·rw [List.map_append,List.length_append,List.length_singleton];exact ownsRow_setCell_below hown (by exact hcN) _
theorem ChS.out (H:ye O) (h:ChS O w0 K w P D n firm q r c N B bc bt ns M C cc ks S1 wr) (l:zd) (x:Nd) {L:Nat -> Prop} (hL:∀ k,L k -> ChL K w N C k) (hlow:∀ k,k < w0.1.size -> L k) :
  zP O w0 L (zx wr r l x) P D n S1 firm /\ zh K w (zx wr r l x) /\ zb (zx wr r l x) r l x:=by
 have hwr:=h.hr;have hrc:=h.rc;have hcN:=h.hc;have hww:=h.hw;have ht:zr (fun i=>i = r) wr (zx wr r l x):=⟨by unfold zx; rfl,by unfold zx; rfl,by unfold zx; rfl,by rw [zK]; exact ze3 _,fun k hk=>zj hk.2⟩
 have hkk:zh K wr (zx wr r l x):=⟨ht.os,ht.tape,ht.output,ht.size,fun k hk=>zj (by have:=h.hK k hk; omega)⟩
 refine ⟨h.law.off H ht ?_ (fun k hk=>.inl (hL k hk)) ?_ hlow,h.kept.trans hkk,zC h.res⟩
 ·rintro k rfl;exact ⟨.inr (.inl ⟨h.hr,by omega⟩),by omega⟩
 ·intro k hk;have:=h.law.there k (hL k hk);rw [zK];exact this
end
end
section
theorem Ys {T:TypeId} (hT:Zw T) {ops:Array Oper} {rest:List Oper} {op:Oper} {a:Act} {w:World} {Q:Exit -> Act -> World -> Prop} (hw:Region.wanted op (yielded ops a.tmps) = true) (y:Operand) (ho:op.op = .load T y)
  (b j:Nat) (hx:a.eval y = .pointer (some ⟨b,j,none⟩)) (l:zd) (x:Nd) (hc:w.rangeAt b j (jd l x))
  (h:wpList Tryz.prog ops Q rest (a.put op.dst (ndV l x)) w):wpList Tryz.prog ops Q (op :: rest) a w :=
 wpList_step fun _ hK=>by
  obtain ⟨d,hu,hd⟩:=hT.und;rw [if_pos hw];exact wp_load_mid T y ho b j hx (jd l x) _ hc hu hd hT.size (hK _ _ h)
theorem zcA {w:World} {b b':Nat} {e:TypeId} {v:Value} {n:Nat} {xs:List Value} (h:w.ownsRow b e 1 v n xs) (hb:b' <= b):w.ownsRow b' e 1 v n xs :=
 ⟨h.1,h.2.imp id fun ⟨g,cap,cur,e1,e2,r⟩=>⟨g,cap,cur,e1,Nat.le_trans hb e2,r⟩⟩
structure ChR (O:zV) (w0:World) (K:Nat -> Prop) (w:World) (P D n:Nat) (firm:Nat -> List UInt8) (q r c N:Nat) (B:Option Addr) (bc:Nat) (bt:List Int) (ns:List Nd) (M:Nat -> Prop) (S:TS) (i:Value) (wr:World):Prop where
 ex:∃ k ks S1 C cc,k <= ns.length /\ i = .int .i64 (k:Int) /\ zT n S (ns.take k) = (.ok ks,S1) /\ ks.length = k /\ S1.d.soft.length <= S.d.soft.length + k /\ ChS O w0 K w P D n firm q r c N B bc bt ns M C cc ks S1 wr
structure ChQ (O:zV) (w0:World) (K:Nat -> Prop) (w:World) (P D n:Nat) (firm:Nat -> List UInt8) (q r c N:Nat) (B:Option Addr) (bc:Nat) (bt:List Int) (ns:List Nd) (M:Nat -> Prop) (C:Option Addr) (cc:Nat) (ks:List Int) (S1:TS) (old:List Int) (i:Value) (wr:World):Prop where
 ex:∃ j S2,j <= old.length /\ i = .int .i64 (j:Int) /\ yj S1 (old.take j) = (0,S2) /\ ChS O w0 K w P D n firm q r c N B bc bt ns M C cc ks S2 wr
theorem Zp (l:List Int):∀ {S S1:TS} (x:Int),yj S l = (0,S1) -> yj S (l ++ [x]) = xY S1 x:=by
 induction l with
 | nil =>
  intro S S1 x h;simp only [yj,zgi.injEq,true_and] at h;subst h;simp only [List.nil_append,yj];split
  ·next h=>exact Prod.ext h.symm rfl
  ·rfl
 | cons y l ih =>
  intro S S1 x h;simp only [yj,zf3] at h ⊢;split at h
  ·next h2=>rw [if_pos h2]; exact ih x h
  ·next h2=>exact absurd (congrArg Prod.fst h) h2
theorem WB (l:List Int):∀ {S S1:TS} {c:Int} (r:List Int),c ≠ 0 -> yj S l = (c,S1) -> yj S (l ++ r) = (c,S1):=by
 induction l with
 | nil =>
  intro S S1 c r hc h;simp only [yj,zgi.injEq] at h;exact absurd h.1.symm hc
 | cons y l ih =>
  intro S S1 c r hc h;simp only [yj,zf3] at h ⊢;split at h
  ·next h2=>rw [if_pos h2]; exact ih r hc h
  ·next h2=>rw [if_neg h2]; exact h
def xW (O:zV) (w0:World) (K:Nat -> Prop) (w:World) (P D n:Nat) (firm:Nat -> List UInt8) (l:zd) (R:Except Int (List Int × List Int) × TS) (e:Ending) (w':World):Prop :=
 zh K w w' /\ match R.1 with
 | .error c=>zP O w0 K w' P D n R.2 firm /\ c ≠ 0 /\ ∃ v,e = .returned (.tuple #[ndV zd.none_ Nd.empty,v]) /\ zi w' w.1.size c v
 | .ok (bk,ks)=>∃ l',zP O w0 (fun g=>K g \/ l'.has g) w' P D n R.2 firm /\ e = .returned (.tuple #[ndV l' ⟨bk,[],ks⟩,.nilIface]) /\ Nums w' .i64 l'.A bk /\ l'.B = none /\ w'.ownsRow w.1.size 3 1 (.slice l'.C ks.length l'.cc) ks.length (ks.map (Value.int .i64)) /\ (∀ a,l'.A = some a -> (∃ c,l.A = some c /\ c.block = a.block) /\ ∃ g o,a = ⟨g,o,none⟩) /\ (bk = [] -> l'.A = none /\ l'.ca = 0)
section
variable {O:zV} (H:ye O)
include H
theorem Zy {w0:World} {K:Nat -> Prop} {w:World} {P D n:Nat} {S:TS} {firm:Nat -> List UInt8} (hl:zP O w0 K w P D n S firm) (hg:yC w0) (hs:S.d.soft.length <= 99990) {b:Nat} {l:zd} {x:Nd} (hx:zo w b l x) (hxK:∀ g,l.has g -> K g) (hsh:xB x)
  {oA:Option Addr} {oc:Nat} {old:List Int} (ho:Nums w .i64 oA old) (hoK:∀ a,oA = some a -> 0 < old.length -> K a.block) (hol:old.length <= 2) :
  Calls Tryz.prog 64 #[ptr P,ndV l x,.slice oA old.length oc] w (xW O w0 K w P D n firm l (yo n S x old)):=by
 have hbn:=Tryz.nodeNone;have hz:=Tryz.zeroNode;obtain ⟨ii,hi0,hi1,hi2,hi3⟩:=info_parts Tryz.infoInt9;obtain ⟨p,HPP⟩:=hY (w.1.size);obtain ⟨r,HRR⟩:=hY (p + 1);obtain ⟨w1,HW1⟩:=hY ((w.alloc (.cells #[.slice l.A x.keys.length l.ca,.slice l.B x.vals.length l.cb,.slice l.C x.kids.length l.cc] 48)).alloc (.cells #[.slice none 0 0,.slice none 0 0,.slice none 0 0] 48));have HB1:=hI (Below w.1.size w w1) (by rw [HW1.o]; exact ((Below.refl _ _).alloc (ze3 _) _).alloc (by simp) _);have HX1:=hI (zb w1 p l x) (by
  rw [HW1.o,HPP.o];exact (zb.new (l:=l) (x:=x) _).carry ((Below.refl _ _).alloc (ze3 _) _) (zb.new (l:=l) (x:=x) _).lt)
 have HR1:=hI (zb w1 r zd.none_ Nd.empty /\ ∀ j,w1.frozen? ⟨r,j,none⟩ = false) (by
  rw [HW1.o,HRR.o,HPP.o];have h:=zb.new (w:=w.alloc (.cells #[.slice l.A x.keys.length l.ca,.slice l.B x.vals.length l.cb,.slice l.C x.kids.length l.cc] 48)) (l:=zd.none_) (x:=Nd.empty) 48;have h2:=zU (w.alloc (.cells #[.slice l.A x.keys.length l.ca,.slice l.B x.vals.length l.cb,.slice l.C x.kids.length l.cc] 48)) #[.slice none 0 0,.slice none 0 0,.slice none 0 0] 48;rw [show (w.alloc (.cells #[.slice l.A x.keys.length l.ca,.slice l.B x.vals.length l.cb,.slice l.C x.kids.length l.cc] 48)).1.size = w.1.size + 1 by simp] at h h2;exact ⟨h,h2⟩)
 have HM1:=hI (zo w1 b l x) (hx.carry HB1.o);have HPA:=Hi (zaN HM1.o hsh);have HO:=Hi ho;have HL:=Hi hl;obtain ⟨ns,HNS⟩:=hY ((yq x).1);obtain ⟨bt,HBT⟩:=hY ((yq x).2);unfold qW at HPA;rw [<- HNS.o,<- HBT.o] at HPA;have HNL:=hI (ns.length <= 2) (by rw [HNS.o]; exact ZF x);obtain ⟨R,HRS⟩:=hY (yo n S x old);rw [<- HRS.o];unfold yo at HRS;rw [<- HNS.o,<- HBT.o] at HRS;have HXK:=Hi hxK;have HOK:=Hi hoK;have HOL:=Hi hol;have HSS:=Hi hs;clear hx hxK hsh ho hoK hol hl hs
 go_enter Tryz.func64,Tryz.ntmps64
 go_upto_region 1 with (fail)
 rw [<- HW1.o,<- HPP.o,<- HRR.o];clear HW1;go_wp2_with (with_reducible refine xD9 (some 19) ?_);refine zf Tryz.ndProg (by rfl) _ rfl p rfl l x HX1.o ?_;go_wp2_with fail;refine HPA.o.mono ?_;rintro e w2 ⟨q,B,bc,rfl,hrow,hnb,hq1,hq2,hb,hB,hB0⟩;obtain ⟨c,HCC⟩:=hY (w2.1.size);obtain ⟨N,HNN⟩:=hY (c + 1);obtain ⟨w3,HW3⟩:=hY (w2.alloc (.cells #[.slice B bt.length bc,.slice none 0 0,.slice none 0 0] 48));have HS3:=hI (ChS O w0 K w P D n firm q r c N B bc bt ns l.has none 0 [] S w3) (by
  have h23:Below w2.1.size w2 w3:=by rw [HW3.o]; exact bA
  have hw2:=HB1.o.trans (hb.mono HB1.o.size);have hw3:=hw2.trans (h23.mono hw2.size);have hth:=HL.o.there;have hs3:w3.1.size = N:=by rw [HW3.o,HNN.o,HCC.o]; simp
  have hr2:r < w2.1.size:=Nat.lt_of_lt_of_le HR1.o.1.lt hb.size;have hbx:=(HR1.o.1.carry hb HR1.o.1.lt).carry h23 (HR1.o.1.carry hb HR1.o.1.lt).lt;have hc3:=zb.new (w:=w2) (l:=⟨B,none,none,bc,0,0⟩) (x:=⟨bt,[],[]⟩) 48;have hc4:=zU w2 #[.slice B bt.length bc,.slice none 0 0,.slice none 0 0] 48;have e3:w3 = w2.alloc (.cells #[.slice B bt.length bc,.slice none 0 0,.slice none 0 0] 48):=HW3.o;have eh:∀ a,B = some a -> K a.block:=fun a ha=>by
   obtain ⟨⟨c',h1,h2⟩,_⟩:=hB a ha;exact HXK.o _ (.inl ⟨c',h1,h2⟩)
  have hw1s:=HB1.o.size;have hw2s:=hb.size;refine ⟨HL.o.off H (M:=fun _=>False) (zr.of_below hw3) (fun _ h=>h.elim) ?_ ?_ (fun k hk=>.inl (HL.o.low k hk)),zh.of_below hw3 hth,hrow.keep h23.size (h23.block q hq2) (fun g hg=>h23.block g ?_),hbx,zl h23 hr2 (zl hb HR1.o.1.lt HR1.o.2),?_,?_,?_,?_,hnb.carry h23,World.ownsRow_nil _ _ _ _,by omega,by rw [HNN.o,HCC.o]; omega,by rw [HCC.o]; omega,by rw [HRR.o,HPP.o]; omega,by rw [HCC.o]; exact hr2,by rw [HNN.o]; omega,by rw [hs3]; exact ze3 _,HXK.o,eh,HL.o.below.size,hth⟩
  ·rintro k (hk | hk | ⟨a,ha,_⟩)
   ·exact .inl hk
   ·exact .inr hk.1
   ·cases ha
  ·rintro k (hk | hk | ⟨a,ha,_⟩)
   ·have:=hth k hk; have:=hw3.size; omega
   ·rw [hs3]; exact hk.2
   ·cases ha
  ·have:=hth g (HXK.o g hg); have:=hw2.size; omega
  ·rw [e3,HCC.o]; exact hc3.c0
  ·rw [e3,HCC.o]; exact hc3.c1
  ·rw [e3,HCC.o]; exact hc3.c2
  ·intro j; rw [e3,HCC.o]; exact hc4 j)
 have HBA:=Hi hB;have HB0:=Hi hB0;clear hrow hnb hq1 hq2 hb hB hB0 HPA HX1 HR1 HM1;go_upto_region 3 with (fail)
 rw [<- HW3.o,<- HCC.o];clear HW3;go_wp2_with fail
 go_loopw [27] (fun i wr=>ChR O w0 K w P D n firm q r c N B bc bt ns l.has S i wr) (fun i _=>ns.length - (intOf i).toNat)
 case atStart=>exact ⟨0,[],S,none,0,Nat.zero_le _,rfl,by rw [List.take_zero]; rfl,rfl,by omega,HS3.o⟩
 case round =>
  clear HS3;obtain ⟨k,ks,S1,C,cc,hk,rfl,hadd,hkl,hsf,hst⟩:=hrel.ex;have HADD:=Hi hadd;have HKL:=Hi hkl;have HSF:=Hi hsf;have HST:=Hi hst;clear hrel hadd hkl hsf hst;by_cases hlt:k < ns.length
  ·obtain ⟨ln,hn1,hn2,hn3⟩:=HST.o.row k hlt;obtain ⟨y,HY⟩:=hY (ns[k]);rw [<- HY.o] at hn1 hn2;have HN1:=Hi hn1;have HN2:=Hi hn2;have HN3:=Hi hn3;clear hn1 hn2 hn3;go_wp2_with (with_reducible refine xD9 (some 30) ?_);refine Ys Tryz.ndProg (by rfl) _ rfl q (k * 3) rfl ln y (by rw [Nat.mul_comm]; exact HN2.o) ?_;obtain ⟨v,HVV⟩:=hY (wr.1.size);obtain ⟨w4,HW4⟩:=hY (wr.alloc (.cells #[.slice ln.A y.keys.length ln.ca,.slice ln.B y.vals.length ln.cb,.slice ln.C y.kids.length ln.cc] 48));have hb4:Below wr.1.size wr w4:=by rw [HW4.o]; exact bA
   have HS4:=Hi (HST.o.carry H hb4);have HX4:=hI (zb w4 v ln y) (by rw [HW4.o,HVV.o]; exact zb.new _);have HAD:=Hi (Vu H HS4.o.law hg (by have:=HSF.o; have:=HSS.o; have:=HNL.o; omega) (HN1.o.carry hb4));obtain ⟨RA,HRA⟩:=hY (xA n S1 y);rw [<- HRA.o] at HAD;have HSZ:=hI (w.1.size <= w4.1.size) HS4.o.kept.size;have HRL:=hI (r < w4.1.size) (by have:=HS4.o.rc; have:=HS4.o.hc; have:=HS4.o.sz; omega);clear hb4 HST;go_upto_region 6 with (fail)
   rw [<- HW4.o,<- HVV.o];clear HW4 HVV;go_wp2_with (with_reducible refine xD9 (some 33) ?_);refine zf Tryz.ndProg (by rfl) _ rfl v rfl ln y HX4.o ?_;go_wp2_with fail;refine HAD.o.mono ?_;rintro e w5 ⟨hlaw,hkept,hm⟩;clear HAD HX4;obtain ⟨o,S2⟩:=RA;have HS5:=Hi (HS4.o.blocks hlaw hkept);clear hlaw hkept HS4;cases o with
   | error cd =>
    obtain ⟨hc,v,rfl,he⟩:=hm;obtain ⟨tt,xx,rfl⟩:=he.some hc;have HE:=Hi he;have HC0:=Hi hc;clear he hc;have HR2:=hI (R = (.error cd,S2)) (by
     have h:=Z1 n (ns.take k) y HADD.o;rw [<- HRA.o] at h;have h2:=Vt n (ns.take k ++ [y]) (ns.drop (k + 1)) h;rw [show ns.take k ++ [y] ++ ns.drop (k + 1) = ns by rw [HY.o,List.append_assoc,List.singleton_append,List.getElem_cons_drop,List.take_append_drop]] at h2;have h3:=HRS.o;rw [h2] at h3;exact h3)
    have d0:=HS5.o.res.c0;have d1:=HS5.o.res.c1;have d2:=HS5.o.res.c2;have f0:=HS5.o.fr 0;have f1:=HS5.o.fr 1;have f2:=HS5.o.fr 2;go_wp2_with fail;obtain ⟨w6,HW6⟩:=hY (((w5.setCell ⟨r,0,none⟩ (.slice none 0 0)).setCell ⟨r,1,none⟩ (.slice none 0 0)).setCell ⟨r,2,none⟩ (.slice none 0 0));rw [<- HW6.o];have HF6:=hI (zP O w0 K w6 P D n S2 firm /\ zh K w w6 /\ zb w6 r zd.none_ Nd.empty /\ zi w6 w.1.size cd (.iface tt xx)) (by
     have e:w6 = zx w5 r zd.none_ Nd.empty:=by rw [HW6.o]; unfold zx; rfl
     obtain ⟨h1,h2,h3⟩:=HS5.o.out H zd.none_ Nd.empty (L:=K) (fun _ hk=>.inl hk) HL.o.low;rw [e];exact ⟨h1,h2,h3,(yR HE.o HRL.o).mono HSZ.o⟩)
    have HCP:=hI (xW O w0 K w P D n firm l R (.returned (.tuple #[ndV zd.none_ Nd.empty,.iface tt xx])) w6) (by
     unfold xW;rw [HR2.o];exact ⟨HF6.o.2.1,HF6.o.1,HC0.o,_,rfl,HF6.o.2.2.2⟩)
    exact bodyPost_ret (zq Tryz.ndProg rfl _ _ r zd.none_ Nd.empty (.iface tt xx) rfl rfl HF6.o.2.2.1) rfl HCP.o
   | ok kk =>
    obtain rfl:=hm;have HR2:=hI (zT n S (ns.take (k + 1)) = (.ok (ks ++ [kk]),S2)) (by
     have h:=Z1 n (ns.take k) y HADD.o;rw [<- HRA.o] at h;rw [show ns.take k ++ [y] = ns.take (k + 1) by rw [HY.o,List.take_append_getElem]] at h;exact h)
    have HSF2:=hI (S2.d.soft.length <= S.d.soft.length + (k + 1)) (by
     have:=zad HRA.o.symm;have:=HSF.o;omega)
    clear HRA;have c2:=HS5.o.c2;have fc2:=HS5.o.fc 2;go_wp2_with (with_reducible refine xD9 (some 45) ?_);obtain ⟨g6,HG6⟩:=hY (w5.1.size);obtain ⟨w6,HW6⟩:=hY (w5.alloc (.cells #[.int .i64 kk] 3));rw [<- HG6.o,<- HW6.o];have HS6:=Hi (HS5.o.carry H (w':=w6) (by rw [HW6.o]; exact bA));have hn6:∀ (j:Nat) u,([.int .i64 kk]:List Value)[j]? = some u -> w6.cell? ((⟨g6,0,none⟩:Addr).add j) = some u:=by rw [HW6.o,HG6.o]; exact World.news_of_block (cs:=#[.int .i64 kk]) (heap_alloc_last w5 _)
    clear HG6 HW6 HS5 c2 fc2;refine wpList_append_lies (P:=Tryz.prog) w6 rfl _ _ 45 rfl N 3 ii _ 1 8 Tryz.underlying45 hi0 hi1 hi2 hi3 rfl (by decide) (.slice C ks.length cc) ks.length (ks.map (Value.int .i64)) rfl HS6.o.own ⟨g6,0,none⟩ 1 1 [.int .i64 kk] rfl rfl hn6 (fun u hu=>by rw [List.mem_singleton.1 hu]; rfl) (by decide) (by have:=HKL.o; have:=HNL.o; unfold maxLen; omega) (by have:=HKL.o; have:=HNL.o; omega) HS6.o.sz w6.1.size rfl ?_;intro gg cap w7 hown hgrow hat _;have HP7:=Hi (HS6.o.push H hgrow hown hat);have c2:w7.cell? ⟨c,2,none⟩ = some (.slice C ks.length cc):=(hgrow.cell_far _ (by have:=HS6.o.hc; have:=HS6.o.sz; show c < _; omega) (fun e=>by have:=(HS6.o.own.lt c e.symm).1; have:=HS6.o.hc; omega)).trans HS6.o.c2;have fc2:w7.frozen? ⟨c,2,none⟩ = false:=(hgrow.frozen_far _ (by have:=HS6.o.hc; have:=HS6.o.sz; show c < _; omega) (fun e=>by have:=(HS6.o.own.lt c e.symm).1; have:=HS6.o.hc; omega)).trans (HS6.o.fc 2);rw [List.length_append,List.length_singleton] at HP7;have HWK:=hI (wrap64 ((k:Int) + 1) = ((k + 1:Nat):Int)) (by have:=HNL.o; unfold wrap64; omega);clear hown hgrow hat hn6 HS6;go_wp2_with fail
    go_roundw
    case rel =>
     refine ⟨k + 1,ks ++ [kk],S2,some ⟨gg,0,none⟩,cap,hlt,by rw [HWK.o],HR2.o,by rw [List.length_append,HKL.o]; rfl,HSF2.o,?_⟩;exact HP7.o
    case measure=>rw [HWK.o]; simp only [intOf,Int.toNat_natCast]; omega
  ·have HAL:=hI (zT n S ns = (.ok ks,S1)) (by have:=HADD.o; rwa [List.take_of_length_le (by omega)] at this);have HR3:=hI (R = if (yj S1 old).1 = 0 then (Except.ok (bt,ks),(yj S1 old).2) else (Except.error (yj S1 old).1,(yj S1 old).2)) (by
    have h:=HRS.o;rw [HAL.o] at h;exact h)
   clear HRS HADD;go_wp2_with fail
   go_loopw [50] (fun i wr=>ChQ O w0 K w P D n firm q r c N B bc bt ns l.has C cc ks S1 old i wr) (fun i _=>old.length - (intOf i).toNat)
   case atStart=>exact ⟨0,S1,Nat.zero_le _,rfl,by rw [List.take_zero]; rfl,HST.o⟩
   case round =>
    clear HST;obtain ⟨j,S2,hj,rfl,hdr,hst⟩:=hrel.ex;have HDR:=Hi hdr;have HST:=Hi hst;clear hrel hdr hst;by_cases hlj:j < old.length
    ·obtain ⟨a,ha,halt,hcell⟩:=(vQ HO.o HST.o.kept.size fun a ha=>HST.o.kept.block _ (HOK.o a ha (by omega))) (by omega)
     have c3:=hcell j old[j] (by simp [hlj]);obtain ⟨z,HZ⟩:=hY (old[j]);rw [<- HZ.o] at c3;subst ha;have HDP:=Hi (Kt H HST.o.law z);obtain ⟨RD,HRD⟩:=hY (xY S2 z);rw [<- HRD.o] at HDP;obtain ⟨cd,S3⟩:=RD;have HRL:=hI (r < wr.1.size) (by have:=HST.o.rc; have:=HST.o.hc; have:=HST.o.sz; omega);have HSZ:=hI (w.1.size <= wr.1.size) HST.o.kept.size;clear hcell halt;go_wp2_with fail;refine HDP.o.mono ?_;rintro e w5 ⟨v,rfl,he,hlaw,hkept⟩;have HS5:=Hi (HST.o.blocks hlaw hkept);clear hlaw hkept HST HDP;by_cases hc:cd = 0
     ·obtain rfl:v = .nilIface:=by
       rcases he with ⟨_,h⟩ | ⟨h,_⟩
       ·exact h
       ·exact absurd hc h
      have HDR2:=hI (yj S1 (old.take (j + 1)) = (0,S3)) (by
       have h:=Zp (old.take j) z HDR.o;rw [<- HRD.o,hc] at h
       rwa [show old.take j ++ [z] = old.take (j + 1) by rw [HZ.o,List.take_append_getElem]] at h)
      have HWJ:=hI (wrap64 ((j:Int) + 1) = ((j + 1:Nat):Int)) (by have:=HOL.o; unfold wrap64; omega);clear he c3 hc HRD;go_wp2_with fail
      go_roundw
      case rel=>exact ⟨j + 1,S3,hlj,by rw [HWJ.o],HDR2.o,HS5.o⟩
      case measure=>rw [HWJ.o]; simp only [intOf,Int.toNat_natCast]; omega
     ·obtain ⟨tt,xx,rfl⟩:=he.some hc;have HE:=Hi he;have HC0:=Hi hc;have HR2:=hI (R = (.error cd,S3)) (by
       have h:=Zp (old.take j) z HDR.o;rw [<- HRD.o] at h;have h2:=WB (old.take j ++ [z]) (old.drop (j + 1)) hc h;rw [show old.take j ++ [z] ++ old.drop (j + 1) = old by rw [HZ.o,List.append_assoc,List.singleton_append,List.getElem_cons_drop,List.take_append_drop]] at h2;have h3:=HR3.o;rw [h2] at h3;rw [h3];exact if_neg hc)
      clear he hc c3;have d0:=HS5.o.res.c0;have d1:=HS5.o.res.c1;have d2:=HS5.o.res.c2;have f0:=HS5.o.fr 0;have f1:=HS5.o.fr 1;have f2:=HS5.o.fr 2;go_wp2_with fail;obtain ⟨w6,HW6⟩:=hY (((w5.setCell ⟨r,0,none⟩ (.slice none 0 0)).setCell ⟨r,1,none⟩ (.slice none 0 0)).setCell ⟨r,2,none⟩ (.slice none 0 0));rw [<- HW6.o];have HF6:=hI (zP O w0 K w6 P D n S3 firm /\ zh K w w6 /\ zb w6 r zd.none_ Nd.empty /\ zi w6 w.1.size cd (.iface tt xx)) (by
       have e:w6 = zx w5 r zd.none_ Nd.empty:=by rw [HW6.o]; unfold zx; rfl
       obtain ⟨h1,h2,h3⟩:=HS5.o.out H zd.none_ Nd.empty (L:=K) (fun _ hk=>.inl hk) HL.o.low;rw [e];exact ⟨h1,h2,h3,(yR HE.o HRL.o).mono HSZ.o⟩)
      have HCP:=hI (xW O w0 K w P D n firm l R (.returned (.tuple #[ndV zd.none_ Nd.empty,.iface tt xx])) w6) (by
       unfold xW;rw [HR2.o];exact ⟨HF6.o.2.1,HF6.o.1,HC0.o,_,rfl,HF6.o.2.2.2⟩)
      exact bodyPost_ret (zq Tryz.ndProg rfl _ _ r zd.none_ Nd.empty (.iface tt xx) rfl rfl HF6.o.2.2.1) rfl HCP.o
    ·have HR2:=hI (R = (.ok (bt,ks),S2)) (by
      have h:=HDR.o;rw [List.take_of_length_le (by omega)] at h;have h3:=HR3.o;rw [h] at h3;exact h3)
     obtain ⟨lr,HLR⟩:∃ lr:zd,Hid (lr = ⟨B,none,C,bc,0,cc⟩):=Hy;obtain ⟨xr,HXR⟩:∃ xr:Nd,Hid (xr = ⟨bt,[],ks⟩):=Hy;have HBX:=hI (zb wr c lr xr) (by rw [HLR.o,HXR.o]; exact ⟨HST.o.c0,HST.o.c1,HST.o.c2⟩);have d0:=HST.o.res.c0;have d1:=HST.o.res.c1;have d2:=HST.o.res.c2;have f0:=HST.o.fr 0;have f1:=HST.o.fr 1;have f2:=HST.o.fr 2;go_wp2_with (with_reducible refine xD9 (some 62) ?_);refine zf Tryz.ndProg (by rfl) _ rfl c rfl lr xr HBX.o ?_;go_wp2_with fail;obtain ⟨w6,HW6⟩:=hY (zx wr r lr xr);unfold zx at HW6;rw [<- HW6.o];have HF6:=hI (zP O w0 (fun g=>K g \/ lr.has g) w6 P D n S2 firm /\ zh K w w6 /\ zb w6 r lr xr /\ Nums w6 .i64 lr.A bt /\ w6.ownsRow w.1.size 3 1 (.slice lr.C ks.length lr.cc) ks.length (ks.map (Value.int .i64))) (by
      have e:w6 = zx wr r lr xr:=by unfold zx; exact HW6.o
      have hwr:=HST.o.hr;have hrN:=HST.o.rc;have hcN:=HST.o.hc;have hwq:=HST.o.hq;obtain ⟨h1,h2,h3⟩:=HST.o.out H lr xr (L:=fun g=>K g \/ lr.has g) (fun k hk=>by
       rcases hk with hk | hk
       ·exact .inl hk
       ·rw [HLR.o] at hk;rcases hk with ⟨a,ha,rfl⟩ | ⟨a,ha,rfl⟩ | ⟨a,ha,rfl⟩
        ·exact .inl (HST.o.hB a ha)
        ·cases ha
        ·exact .inr (.inr ⟨a,ha,rfl⟩)) (fun k hk=>.inl (HL.o.low k hk))
      rw [e];refine ⟨h1,h2,h3,?_,?_⟩
      ·rw [HLR.o];refine vQ HST.o.nb (by rw [zK]; exact ze3 _) fun a ha=>zj ?_
       have:=HST.o.hK _ (HST.o.hB a ha);omega
      ·rw [show lr.C = C by rw [HLR.o],show lr.cc = cc by rw [HLR.o]];refine zB (zcA HST.o.own (by omega)) fun g hg=>zj ?_
       have:=(HST.o.own.lt g hg).1;omega)
     have HCP:=hI (xW O w0 K w P D n firm l R (.returned (.tuple #[ndV lr xr,.nilIface])) w6) (by
      unfold xW;rw [HR2.o,HXR.o];exact ⟨HF6.o.2.1,lr,HF6.o.1,rfl,HF6.o.2.2.2.1,by rw [HLR.o],HF6.o.2.2.2.2,fun a ha=>HBA.o a (by rw [HLR.o] at ha; exact ha),fun h9=>by rw [HLR.o]; exact HB0.o h9⟩)
     exact bodyPost_ret (zq Tryz.ndProg rfl _ _ r lr xr .nilIface rfl rfl HF6.o.2.2.1) rfl HCP.o
end
end
