/-
 TrDelMath. Conditions: as each theorem says.
-/
import Derived.Test.YtafclmbecmgbnaaGreatDoorTrCutMath
import Derived.Test.YtafclmbecmgbnaaGreatDoorTd
open List renaming mem_singleton -> zga,mem_cons_self -> zgU,nodup_cons -> zgF,mem_cons_of_mem -> zgB
namespace Go.Proofs.YtafclmbecmgbnaaGreatDoor
theorem Mid.top {n:Nat} {firm:Nat -> List UInt8} {S S':TS} {r:Int} {ps:List Pr} {A C:List Int} (h:Mid n firm S S' A C) (ht:Rt (Dm S') r ps C):Wb n firm S S' r ps A C:=⟨h.ok,ht,h.nodup,h.used,h.new,h.page,h.only⟩
theorem za9 {n:Nat} {S:TS} {firm:Nat -> List UInt8} (h:OkT n S firm) {root key:Int} (hk:0 <= key /\ key <= 4294967295) {ps:List Pr} {qs:List Int} (ht:Rt (Dm S) root ps qs) (hu:∀ q ∈ qs,usd S q) (hnd:qs.Nodup) (hps:ps.length <= 500) :
  ((∀ p ∈ ps,p.1 ≠ key) /\ wB n S root key = (.error 4,S)) \/ ((∃ p ∈ ps,p.1 = key) /\ ((∃ S',wB n S root key = (.error 6,S') /\ vC n S 26) \/ ∃ r S' qs',wB n S root key = (.ok r,S') /\ Wb n firm S S' r (vh ps key) qs qs')):=by
 rcases ht with ⟨rfl,rfl,rfl⟩ | ⟨hh,ht⟩
 ·exact .inl ⟨(fun _ h=>by cases h),by unfold wB; rw [if_pos rfl]⟩
 ·obtain ⟨x0,qt,hx0,hqs⟩:=ht.head;have hr2:=(ky h hx0).1;have hr0:¬ root = 0:=by omega
  have hh8:hh <= 8:=by
   rcases Nat.eq_zero_or_pos hh with h0 | h0
   ·omega
   ·exact Zb (ht.high (.inr h0)) hps
  have hst:=kX 12 h root key;rcases zeZ hh (f:=12) h ht hu hnd hk.1 (by omega) (Int.le_refl _) (Int.le_refl _) (by omega) (Nat.le_refl _) with ⟨e1,e2⟩ | ⟨e1,e2⟩
  ·exact .inl ⟨e1,by unfold wB; rw [if_neg hr0,e2]⟩
  refine .inr ⟨e1,?_⟩;rcases e2 with ⟨S1,e2,e3⟩ | ⟨x,S1,qy,e2,hy⟩
  ·exact .inl ⟨S1,by unfold wB; rw [if_neg hr0,e2],e3.more (by decide)⟩
  rw [e2] at hst;subst hqs;have m1:=hy.at_ h (hu root zgU) (zgF.1 hnd).1;have hrq:=(zgF.1 m1.nodup).1;by_cases hx:0 < x.keys.length
  ·rcases vY (mn:=1) m1.ok hy.nv (fun q hq=>m1.used q (zgB _ hq)) (zgF.1 m1.nodup).2 (by have:=hy.few; omega) ⟨hx,by decide⟩ hx (Int.le_refl _) (Int.le_refl _) (os:=[root])
     (fun o ho=>by rw [zga.1 ho]; exact m1.used root zgU) (by simp) (fun o ho=>by rw [zga.1 ho]; exact hrq) with ⟨S2,hc,hnr⟩ | ⟨bk,ks,S2,qn,hc,hfo,hb1,hb7,hb8,hch⟩
   ·refine .inl ⟨S2,?_,(hnr.stay hst).more (by decide)⟩;unfold wB;rw [if_neg hr0,e2];simp only [if_pos hx,hc]
   ·obtain rfl:=hb7 hy.few;obtain ⟨k',rfl,tk⟩:=hfo;refine .inr ⟨k',S2,qn,?_,(Mid.trans h m1 hch.mid).top (.inr ⟨hh,tk⟩)⟩;unfold wB;rw [if_neg hr0,e2];simp only [if_pos hx,hc];rfl
  ·obtain ⟨S2,hd,hok2,hpg,hon,hkp⟩:=ZX [root] m1.ok (fun o ho=>by rw [zga.1 ho]; exact m1.used root zgU) (by simp);have hd1:wH S1 root = (0,S2):=by
    unfold yo at hd;cases hdm:wH S1 root with
    | mk c S3 =>
     rw [hdm] at hd;simp only at hd;by_cases hc:c = 0
     ·rw [if_pos hc] at hd;simp only [yo,Prod.mk.injEq,true_and] at hd;rw [hc,hd]
     ·rw [if_neg hc] at hd;simp only [Prod.mk.injEq] at hd;exact absurd hd.1 hc
   have hne:∀ q ∈ qy,q ∉ [root]:=fun q hq hm=>hrq (by rw [<- zga.1 hm]; exact hq)
   have m2:Mid n firm S1 S2 (root :: qy) qy:=⟨hok2,(zgF.1 m1.nodup).2,fun q hq=>(hpg q (m1.used q (zgB _ hq)) (hne q hq)).1,fun q hq=>.inl (zgB _ hq),
    fun j hj hn=>hpg j hj fun hm=>hn (by rw [zga.1 hm]; exact zgU),
    fun j hj=>by
     obtain ⟨h1,h2⟩:=hon j hj;by_cases hq:j ∈ qy
     ·exact .inr hq
     ·refine .inl ⟨h1,fun hm=>?_⟩;rcases List.mem_cons.1 hm with e | hm
      ·exact h2 (zga.2 e)
      ·exact hq hm,
    fun j hj hn=>hkp j hj fun hm=>hn (by rw [zga.1 hm]; exact zgU)⟩
   have hk0:x.keys = []:=List.length_eq_zero_iff.1 (by omega);refine .inr ⟨x.kids.getD 0 0,S2,qy,?_,(Mid.trans h m1 m2).top ?_⟩
   ·unfold wB;rw [if_neg hr0,e2];simp only [if_neg hx,hd1,if_true]
   ·cases hh with
    | zero =>
     obtain ⟨a1,a2,a3,a4,a5,a6,a7⟩:=hy.nv;rw [a1];exact .inl ⟨rfl,by rw [a6,hk0]; rfl,a7⟩
    | succ hh =>
     obtain ⟨a1,a2⟩:=hy.nv;rw [hk0] at a2;obtain ⟨k',hkk,tk⟩:=a2;rw [hkk];refine .inr ⟨hh,?_⟩;have t2:=tk.imp (D':=Dm S2) fun q hq=>(hpg q (m1.used q (zgB _ hq)) (hne q hq)).2
     exact t2.less (by decide)
structure WhM (n:Nat) (S:TS) (firm:Nat -> List UInt8) (ps:List Pr) (qs:List Int) (k:Nat):Prop where
 ok:OkT n S firm
 new:S.s.new = vq
 gone:S.s.gone = vq
 com:zaG S.s.sup firm S.s.sup.root ps qs
 all:∀ j,vH S.s.sup.used j = true -> j ∈ qs
 few:ps.length <= k
 gen:S.s.sup.gen <= k + 1
 soft:S.d.soft.length <= 27 * k
theorem zbU {n:Nat} {S:TS} {firm:Nat -> List UInt8} (h:OkT n S firm) (hn:S.s.new = vq) {j:Int} (hu:usd S j):vH S.s.sup.used j = true:=by
 obtain ⟨k,rfl,hk,hh⟩:=vk hu;rw [h.has_used hk] at hh;unfold Pst.isIn at hh;rw [hn,xn,Bool.or_false] at hh;have:=(Bool.and_eq_true_iff.1 hh).1;unfold vH;rw [decide_eq_true (by omega),Bool.true_and,Int.toNat_natCast];exact this
theorem WhM.used {n:Nat} {S:TS} {firm:Nat -> List UInt8} {ps:List Pr} {qs:List Int} {k:Nat} (h:WhM n S firm ps qs k):(∀ q ∈ qs,usd S q) /\ ∀ j,usd S j -> j ∈ qs :=
 ⟨fun q hq=>zad h.ok h.gone (h.com.used q hq),fun j hj=>h.all j (zbU h.ok h.new hj)⟩
theorem WhM.rt {n:Nat} {S:TS} {firm:Nat -> List UInt8} {ps:List Pr} {qs:List Int} {k:Nat} (h:WhM n S firm ps qs k):Rt (Dm S) S.s.sup.root ps qs:=h.com.here h.ok
theorem WhM.commit {n:Nat} {S S':TS} {firm:Nat -> List UInt8} {ps ps':List Pr} {qs qs':List Int} {k m:Nat} {r:Int} (h:WhM n S firm ps qs k) (hs:ww n firm S S' m) (hp:Wb n firm S S' r ps' qs qs') (hps:ps'.length <= k + 1) (hg:k + 2 < 4294967296) :
  rootOk S'.s r = true /\ S'.s.sup.gen + 1 < 4294967296 /\ WhM n (S'.commit r) S'.data ps' qs' (k + 1):=by
 have hr:=hp.rt.rootOk hp.used;have hgen:S'.s.sup.gen + 1 < 4294967296:=by rw [hs.sup]; have:=h.gen; omega
 refine ⟨hr,hgen,hp.ok.committed hgen hr,rfl,rfl,Xq hp.rt hp.used hp.nodup hp.ok,fun j hj=>?_,hps,?_,Nat.zero_le _⟩
 ·rcases hp.only j hj with ⟨h1,h2⟩ | h1
  ·exact absurd (h.used.2 j h1) h2
  ·exact h1
 ·show S'.s.sup.gen + 1 <= _;rw [hs.sup];have:=h.gen;omega
theorem WhM.start {n:Nat} (h3:3 <= n) (hn:n <= 240):WhM n ⟨xM (Dk.new n) (Sb.bare 1),Pst.opened (Sb.bare 1),fun _=>[]⟩ (fun _=>[]) [] [] 0 :=
 ⟨yH.start h3 hn _,rfl,rfl,za6 _ _,(fun j hj=>by
  obtain ⟨k,rfl,hk,hh⟩:=Yw hj;have h2:Bits.has (Sb.bare 1).used k = true:=hh;rw [show Bits.has (Sb.bare 1).used k = false from has_none k] at h2;cases h2),Nat.le_refl _,Nat.le_refl _,Nat.zero_le _⟩
end Go.Proofs.YtafclmbecmgbnaaGreatDoor
open List renaming mem_append_left -> zfF
namespace Go.Proofs.YtafclmbecmgbnaaGreatDoor
open Go.RowKit Bits
structure BtM (n:Nat) (S:TS) (firm:Nat -> List UInt8) (X:Sb) (ps0:List Pr) (qs0:List Int) (r:Int) (ps:List Pr) (qs:List Int) (m:Nat):Prop where
 ok:OkT n S firm
 sup:S.s.sup = X
 com:zaG X firm X.root ps0 qs0
 all:∀ j,vH X.used j = true -> j ∈ qs0
 rt:Rt (Dm S) r ps qs
 nodup:qs.Nodup
 used:∀ q ∈ qs,usd S q
 only:∀ j,usd S j -> j ∈ qs
 soft:S.d.soft.length <= 27 * m
section
variable {n:Nat} {S S':TS} {firm:Nat -> List UInt8} {X:Sb} {ps0 ps ps':List Pr} {qs0 qs qs':List Int} {r r':Int} {m k:Nat}
theorem WhM.begin (h:WhM n S firm ps qs k):BtM n S firm S.s.sup ps qs S.s.sup.root ps qs k :=
 ⟨h.ok,rfl,h.com,h.all,h.rt,h.com.nodup,h.used.1,h.used.2,h.soft⟩
theorem BtM.made (h:BtM n S firm X ps0 qs0 r ps qs m) (hs:ww n firm S S' 27) (hp:Wb n firm S S' r' ps' qs qs'):BtM n S' firm X ps0 qs0 r' ps' qs' (m + 1) :=
 ⟨hp.ok,hs.sup.trans h.sup,h.com,h.all,hp.rt,hp.nodup,hp.used,fun j hj=>by
  rcases hp.only j hj with ⟨h1,h2⟩ | h1
  ·exact absurd (h.only j h1) h2
  ·exact h1,by have:=hs.soft; have:=h.soft; omega⟩
theorem BtM.inz (h:BtM n S firm X ps0 qs0 r ps qs m) {j:Int} (hj:inZ S.s j = true):j ∈ qs0 \/ j ∈ qs:=by
 obtain ⟨k,rfl,hk,hin⟩:=Zy hj;by_cases hs:Bits.has S.s.sup.used k = true
 ·refine .inl (h.all _ ?_);rw [<- h.sup];unfold vH;rw [decide_eq_true (by omega),Bool.true_and,Int.toNat_natCast];exact hs
 ·refine .inr (h.only _ ?_);rw [kV hk,h.ok.has_used hk,hin];cases hg:Bits.has S.s.gone k with
  | false=>rfl
  | true=>exact absurd (h.ok.goes k hk hg) hs
theorem BtM.room (h:BtM n S firm X ps0 qs0 r ps qs m) {e:Nat} (hn:ps0.length + ps.length + e + 2 < n):¬ vC n S e:=by
 rintro ⟨E,hE1,hE2⟩;have hl:=zbw (l:=(List.range (n - 2)).map fun k=>((k + 2:Nat):Int)) (m:=qs0 ++ qs ++ E) (by
  refine List.Pairwise.map _ (fun x y hxy=>?_) (List.nodup_range (n:=n - 2));intro e;exact hxy (by have e':((x + 2:Nat):Int) = ((y + 2:Nat):Int):=e; omega)) (fun x hx=>by
  obtain ⟨k,hk2,rfl⟩:=List.mem_map.1 hx;have hk3:=List.mem_range.1 hk2;rcases hE2 (k + 2) (by omega) (by omega) with h1 | h1
  ·rcases h.inz h1 with h2 | h2
   ·exact zfF _ (zfF _ h2)
   ·exact zfF _ (List.mem_append_right _ h2)
  ·exact List.mem_append_right _ h1)
 rw [List.length_map,List.length_range,List.length_append,List.length_append] at hl;have:=h.com.rt.count;have:=h.rt.count;omega
theorem BtM.put (h:BtM n S firm X ps0 qs0 r ps qs m) (hn:ps0.length + ps.length + 29 < n) (hps:ps.length <= 500) {key:Int} (hk:0 <= key /\ key <= 4294967295) {val:ByteArray} (hv:val.size = 12) :
  ∃ r' S' qs',xf n S r key val = (.ok r',S') /\ BtM n S' firm X ps0 qs0 r' (xH ps key val) qs' (m + 1):=by
 have hst:=XD h.ok r key val;rcases VG h.ok hv hk h.rt h.used h.nodup hps with ⟨S',he,hnr⟩ | ⟨r',S',qs',he,hp⟩
 ·exact absurd hnr (h.room (by omega))
 ·rw [he] at hst;exact ⟨r',S',qs',he,h.made hst hp⟩
theorem BtM.del (h:BtM n S firm X ps0 qs0 r ps qs m) (hn:ps0.length + ps.length + 28 < n) (hps:ps.length <= 500) {key:Int} (hk:0 <= key /\ key <= 4294967295) (hin:∃ p ∈ ps,p.1 = key) :
  ∃ r' S' qs',wB n S r key = (.ok r',S') /\ BtM n S' firm X ps0 qs0 r' (vh ps key) qs' (m + 1):=by
 have hst:=(K5 h.ok r key).more (m':=27) (by decide);rcases za9 h.ok hk h.rt h.used h.nodup hps with ⟨h1,_⟩ | ⟨_,⟨S',he,hnr⟩ | ⟨r',S',qs',he,hp⟩⟩
 ·obtain ⟨p,hp,e⟩:=hin;exact absurd e (h1 p hp)
 ·exact absurd hnr (h.room (by omega))
 ·rw [he] at hst;exact ⟨r',S',qs',he,h.made hst hp⟩
theorem BtM.commit (h:BtM n S firm X ps0 qs0 r ps qs m) {k:Nat} (hps:ps.length <= k + 1) (hg:X.gen <= k + 1) (hg2:k + 2 < 4294967296):rootOk S.s r = true /\ S.s.sup.gen + 1 < 4294967296 /\ WhM n (S.commit r) S.data ps qs (k + 1):=by
 have hr:=h.rt.rootOk h.used;have hgen:S.s.sup.gen + 1 < 4294967296:=by rw [h.sup]; omega
 refine ⟨hr,hgen,h.ok.committed hgen hr,rfl,rfl,Xq h.rt h.used h.nodup h.ok,h.only,hps,?_,Nat.zero_le _⟩;show S.s.sup.gen + 1 <= _;rw [h.sup];omega
end
