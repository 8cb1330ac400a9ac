/-
 TrDelMath. Conditions: as each theorem says.
-/
import Derived.Test.YtafclmbecmgbnaaGreatDoorTrCutMath
import Derived.Test.YtafclmbecmgbnaaGreatDoorTd
open List renaming mem_singleton -> zft,mem_cons_self -> zgd,nodup_cons -> zfZ,mem_cons_of_mem -> zfV
namespace Go.Proofs.YtafclmbecmgbnaaGreatDoor
theorem Mid.top {n:Nat} {firm:Nat -> List UInt8} {S S':TS} {r:Int} {ps:List Pr} {A C:List Int} (h:Mid n firm S S' A C) (ht:Rt (Dm S') r ps C):XE n firm S S' r ps A C:=⟨h.ok,ht,h.nodup,h.used,h.new,h.page,h.only⟩
theorem zar {n:Nat} {S:TS} {firm:Nat -> List UInt8} (h:OkT n S firm) {root key:Int} (hk:0 <= key /\ key <= 4294967295) {ps:List Pr} {qs:List Int} (ht:Rt (Dm S) root ps qs) (hu:∀ q ∈ qs,usd S q) (hnd:qs.Nodup) (hps:ps.length <= 500) :
  ((∀ p ∈ ps,p.1 ≠ key) /\ xL n S root key = (.error 4,S)) \/ ((∃ p ∈ ps,p.1 = key) /\ ((∃ S',xL n S root key = (.error 6,S') /\ vJ n S 26) \/ ∃ r S' qs',xL n S root key = (.ok r,S') /\ XE n firm S S' r (qh ps key) qs qs')):=by
 rcases ht with ⟨rfl,rfl,rfl⟩ | ⟨hh,ht⟩
 ·exact .inl ⟨(fun _ h=>by cases h),by unfold xL; rw [if_pos rfl]⟩
 ·obtain ⟨x0,qt,hx0,hqs⟩:=ht.head;have hr2:=(vY h hx0).1;have hr0:¬ root = 0:=by omega
  have hh8:hh <= 8:=by
   rcases Nat.eq_zero_or_pos hh with h0 | h0
   ·omega
   ·exact qB (ht.high (.inr h0)) hps
  have hst:=kH 12 h root key;rcases zek hh (f:=12) h ht hu hnd hk.1 (by omega) (Int.le_refl _) (Int.le_refl _) (by omega) (Nat.le_refl _) with ⟨e1,e2⟩ | ⟨e1,e2⟩
  ·exact .inl ⟨e1,by unfold xL; rw [if_neg hr0,e2]⟩
  refine .inr ⟨e1,?_⟩;rcases e2 with ⟨S1,e2,e3⟩ | ⟨x,S1,qy,e2,hy⟩
  ·exact .inl ⟨S1,by unfold xL; rw [if_neg hr0,e2],e3.more (by decide)⟩
  rw [e2] at hst;subst hqs;have m1:=hy.at_ h (hu root zgd) (zfZ.1 hnd).1;have hrq:=(zfZ.1 m1.nodup).1;by_cases hx:0 < x.keys.length
  ·rcases vM (mn:=1) m1.ok hy.nv (fun q hq=>m1.used q (zfV _ hq)) (zfZ.1 m1.nodup).2 (by have:=hy.few; omega) ⟨hx,by decide⟩ hx (Int.le_refl _) (Int.le_refl _) (os:=[root])
     (fun o ho=>by rw [zft.1 ho]; exact m1.used root zgd) (by simp) (fun o ho=>by rw [zft.1 ho]; exact hrq) with ⟨S2,hc,hnr⟩ | ⟨bk,ks,S2,qn,hc,hfo,hb1,hb7,hb8,hch⟩
   ·refine .inl ⟨S2,?_,(hnr.stay hst).more (by decide)⟩;unfold xL;rw [if_neg hr0,e2];simp only [if_pos hx,hc]
   ·obtain rfl:=hb7 hy.few;obtain ⟨k',rfl,tk⟩:=hfo;refine .inr ⟨k',S2,qn,?_,(Mid.trans h m1 hch.mid).top (.inr ⟨hh,tk⟩)⟩;unfold xL;rw [if_neg hr0,e2];simp only [if_pos hx,hc];rfl
  ·obtain ⟨S2,hd,hok2,hpg,hon,hkp⟩:=ZA [root] m1.ok (fun o ho=>by rw [zft.1 ho]; exact m1.used root zgd) (by simp);have hd1:xY S1 root = (0,S2):=by
    unfold yj at hd;cases hdm:xY S1 root with
    | mk c S3 =>
     rw [hdm] at hd;simp only at hd;by_cases hc:c = 0
     ·rw [if_pos hc] at hd;simp only [yj,Prod.mk.injEq,true_and] at hd;rw [hc,hd]
     ·rw [if_neg hc] at hd;simp only [Prod.mk.injEq] at hd;exact absurd hd.1 hc
   have hne:∀ q ∈ qy,q ∉ [root]:=fun q hq hm=>hrq (by rw [<- zft.1 hm]; exact hq)
   have m2:Mid n firm S1 S2 (root :: qy) qy:=⟨hok2,(zfZ.1 m1.nodup).2,fun q hq=>(hpg q (m1.used q (zfV _ hq)) (hne q hq)).1,fun q hq=>.inl (zfV _ hq),
    fun j hj hn=>hpg j hj fun hm=>hn (by rw [zft.1 hm]; exact zgd),
    fun j hj=>by
     obtain ⟨h1,h2⟩:=hon j hj;by_cases hq:j ∈ qy
     ·exact .inr hq
     ·refine .inl ⟨h1,fun hm=>?_⟩;rcases List.mem_cons.1 hm with e | hm
      ·exact h2 (zft.2 e)
      ·exact hq hm,
    fun j hj hn=>hkp j hj fun hm=>hn (by rw [zft.1 hm]; exact zgd)⟩
   have hk0:x.keys = []:=List.length_eq_zero_iff.1 (by omega);refine .inr ⟨x.kids.getD 0 0,S2,qy,?_,(Mid.trans h m1 m2).top ?_⟩
   ·unfold xL;rw [if_neg hr0,e2];simp only [if_neg hx,hd1,if_true]
   ·cases hh with
    | zero =>
     obtain ⟨a1,a2,a3,a4,a5,a6,a7⟩:=hy.nv;rw [a1];exact .inl ⟨rfl,by rw [a6,hk0]; rfl,a7⟩
    | succ hh =>
     obtain ⟨a1,a2⟩:=hy.nv;rw [hk0] at a2;obtain ⟨k',hkk,tk⟩:=a2;rw [hkk];refine .inr ⟨hh,?_⟩;have t2:=tk.imp (D':=Dm S2) fun q hq=>(hpg q (m1.used q (zfV _ hq)) (hne q hq)).2
     exact t2.less (by decide)
structure WhM (n:Nat) (S:TS) (firm:Nat -> List UInt8) (ps:List Pr) (qs:List Int) (k:Nat):Prop where
 ok:OkT n S firm
 new:S.s.new = wU
 gone:S.s.gone = wU
 com:Q2 S.s.sup firm S.s.sup.root ps qs
 all:∀ j,vD S.s.sup.used j = true -> j ∈ qs
 few:ps.length <= k
 gen:S.s.sup.gen <= k + 1
 soft:S.d.soft.length <= 27 * k
theorem zba {n:Nat} {S:TS} {firm:Nat -> List UInt8} (h:OkT n S firm) (hn:S.s.new = wU) {j:Int} (hu:usd S j):vD S.s.sup.used j = true:=by
 obtain ⟨k,rfl,hk,hh⟩:=wW hu;rw [h.has_used hk] at hh;unfold Pst.isIn at hh;rw [hn,xP,Bool.or_false] at hh;have:=(Bool.and_eq_true_iff.1 hh).1;unfold vD;rw [decide_eq_true (by omega),Bool.true_and,Int.toNat_natCast];exact this
theorem WhM.used {n:Nat} {S:TS} {firm:Nat -> List UInt8} {ps:List Pr} {qs:List Int} {k:Nat} (h:WhM n S firm ps qs k):(∀ q ∈ qs,usd S q) /\ ∀ j,usd S j -> j ∈ qs :=
 ⟨fun q hq=>Qy h.ok h.gone (h.com.used q hq),fun j hj=>h.all j (zba h.ok h.new hj)⟩
theorem WhM.rt {n:Nat} {S:TS} {firm:Nat -> List UInt8} {ps:List Pr} {qs:List Int} {k:Nat} (h:WhM n S firm ps qs k):Rt (Dm S) S.s.sup.root ps qs:=h.com.here h.ok
theorem WhM.more {n:Nat} {S:TS} {firm:Nat -> List UInt8} {ps:List Pr} {qs:List Int} {k k':Nat} (h:WhM n S firm ps qs k) (hk:k <= k'):WhM n S firm ps qs k' :=
 ⟨h.ok,h.new,h.gone,h.com,h.all,by have:=h.few; omega,by have:=h.gen; omega,by have:=h.soft; omega⟩
theorem WhM.commit {n:Nat} {S S':TS} {firm:Nat -> List UInt8} {ps ps':List Pr} {qs qs':List Int} {k m:Nat} {r:Int} (h:WhM n S firm ps qs k) (hs:xD n firm S S' m) (hp:XE n firm S S' r ps' qs qs') (hps:ps'.length <= k + 1) (hg:k + 2 < 4294967296) :
  rootOk S'.s r = true /\ S'.s.sup.gen + 1 < 4294967296 /\ WhM n (S'.commit r) S'.data ps' qs' (k + 1):=by
 have hr:=hp.rt.rootOk hp.used;have hgen:S'.s.sup.gen + 1 < 4294967296:=by rw [hs.sup]; have:=h.gen; omega
 refine ⟨hr,hgen,hp.ok.committed hgen hr,rfl,rfl,YZ hp.rt hp.used hp.nodup hp.ok,fun j hj=>?_,hps,?_,Nat.zero_le _⟩
 ·rcases hp.only j hj with ⟨h1,h2⟩ | h1
  ·exact absurd (h.used.2 j h1) h2
  ·exact h1
 ·show S'.s.sup.gen + 1 <= _;rw [hs.sup];have:=h.gen;omega
theorem WhM.start {n:Nat} (h3:3 <= n) (hn:n <= 240):WhM n ⟨xC (Dk.new n) (Sb.bare 1),Pst.opened (Sb.bare 1),fun _=>[]⟩ (fun _=>[]) [] [] 0 :=
 ⟨yP.start h3 hn _,rfl,rfl,zaq _ _,(fun j hj=>by
  obtain ⟨k,rfl,hk,hh⟩:=Z8 hj;have h2:Bits.has (Sb.bare 1).used k = true:=hh;rw [show Bits.has (Sb.bare 1).used k = false from has_none k] at h2;cases h2),Nat.le_refl _,Nat.le_refl _,Nat.zero_le _⟩
end Go.Proofs.YtafclmbecmgbnaaGreatDoor
namespace Go.Proofs.YtafclmbecmgbnaaGreatDoor
open Go.RowKit Bits
structure BtM (n:Nat) (S:TS) (firm:Nat -> List UInt8) (X:Sb) (ps0:List Pr) (qs0:List Int) (r:Int) (ps:List Pr) (qs:List Int) (m:Nat):Prop where
 ok:OkT n S firm
 sup:S.s.sup = X
 com:Q2 X firm X.root ps0 qs0
 all:∀ j,vD X.used j = true -> j ∈ qs0
 rt:Rt (Dm S) r ps qs
 nodup:qs.Nodup
 used:∀ q ∈ qs,usd S q
 only:∀ j,usd S j -> j ∈ qs
 soft:S.d.soft.length <= 27 * m
section
variable {n:Nat} {S S':TS} {firm:Nat -> List UInt8} {X:Sb} {ps0 ps ps':List Pr} {qs0 qs qs':List Int} {r r':Int} {m k:Nat}
theorem WhM.begin (h:WhM n S firm ps qs k):BtM n S firm S.s.sup ps qs S.s.sup.root ps qs k :=
 ⟨h.ok,rfl,h.com,h.all,h.rt,h.com.nodup,h.used.1,h.used.2,h.soft⟩
theorem BtM.made (h:BtM n S firm X ps0 qs0 r ps qs m) (hs:xD n firm S S' 27) (hp:XE n firm S S' r' ps' qs qs'):BtM n S' firm X ps0 qs0 r' ps' qs' (m + 1) :=
 ⟨hp.ok,hs.sup.trans h.sup,h.com,h.all,hp.rt,hp.nodup,hp.used,fun j hj=>by
  rcases hp.only j hj with ⟨h1,h2⟩ | h1
  ·exact absurd (h.only j h1) h2
  ·exact h1,by have:=hs.soft; have:=h.soft; omega⟩
theorem BtM.commit (h:BtM n S firm X ps0 qs0 r ps qs m) {k:Nat} (hps:ps.length <= k + 1) (hg:X.gen <= k + 1) (hg2:k + 2 < 4294967296):rootOk S.s r = true /\ S.s.sup.gen + 1 < 4294967296 /\ WhM n (S.commit r) S.data ps qs (k + 1):=by
 have hr:=h.rt.rootOk h.used;have hgen:S.s.sup.gen + 1 < 4294967296:=by rw [h.sup]; omega
 refine ⟨hr,hgen,h.ok.committed hgen hr,rfl,rfl,YZ h.rt h.used h.nodup h.ok,h.only,hps,?_,Nat.zero_le _⟩;show S.s.sup.gen + 1 <= _;rw [h.sup];omega
end
