/-
 TrCutMath. Conditions: as each theorem says.
-/
import Derived.Test.YtafclmbecmgbnaaGreatDoorTrDelModel
open List renaming mem_append -> zfy,mem_append_right -> zfT,mem_append_left -> zfS,mem_cons_of_mem -> zfV,nodup_cons -> zfZ,nodup_append -> zfY,mem_cons_self -> zgd,mem_iff_getElem -> zfX,length_take -> zfj,getElem?_eq_getElem -> ze7,mem_singleton -> zft,mem_cons -> zfU,getD_eq_getElem?_getD -> ze6,not_mem_nil -> zge,length_drop -> zfr,append_assoc -> zfA,append_nil -> zgf,cons_append -> zf3,getElem_take -> zgg,getElem_drop -> zf1,drop_eq_getElem_cons -> zga,length_eq_zero_iff -> zfF,mem_of_mem_take -> zfO,mem_of_mem_drop -> zfP,take_append_drop -> zf0
namespace Go.Proofs.YtafclmbecmgbnaaGreatDoor
theorem Fo.seg {R:Int -> Int -> Int -> List Pr -> List Int -> Prop} {a:List Int}:∀ {lo hi:Int} {b c d mid sg:List Int} {ps:List Pr} {qs:List Int},c.length = a.length -> sg.length = mid.length + 1 -> Fo R lo hi (a ++ (mid ++ b)) (c ++ (sg ++ d)) ps qs ->
  ∃ lo' hi' p0 p1 p2 q0 q1 q2,ps = p0 ++ p1 ++ p2 /\ qs = q0 ++ q1 ++ q2 /\ Fo R lo' hi' mid sg p1 q1 /\ lo' = (lo :: a).getLast (by simp) /\ hi' = (b ++ [hi]).head (by simp) /\
   (∀ p ∈ p0,∃ lo2 hi2 k2 ps2 qs2,R lo2 hi2 k2 ps2 qs2 /\ p ∈ ps2 /\ hi2 ∈ a) /\ (∀ p ∈ p2,∃ lo2 hi2 k2 ps2 qs2,R lo2 hi2 k2 ps2 qs2 /\ p ∈ ps2 /\ lo2 ∈ b) /\
   ∀ (R':Int -> Int -> Int -> List Pr -> List Int -> Prop) (ks cs:List Int) (p1':List Pr) (q1':List Int),(∀ lo hi k ps' qs',R lo hi k ps' qs' -> (∀ q ∈ qs',q ∈ q0 \/ q ∈ q2) -> R' lo hi k ps' qs') ->
    Fo R' lo' hi' ks cs p1' q1' -> Fo R' lo hi (a ++ ks ++ b) (c ++ cs ++ d) (p0 ++ p1' ++ p2) (q0 ++ q1' ++ q2):=by
 induction a with
 | nil =>
  intro lo hi b c d mid sg ps qs hl hs h;obtain rfl:=zfF.1 hl;simp only [List.nil_append] at h;cases b with
  | nil =>
   have h1:d = []:=by
    have:=h.len;simp only [zgf,List.length_append] at this;exact zfF.1 (by omega)
   subst h1;simp only [zgf] at h;refine ⟨lo,hi,[],ps,[],[],qs,[],by simp,by simp,h,rfl,rfl,(fun _ h=>by cases h),(fun _ h=>by cases h),fun R' ks cs p1' q1' _ hf=>?_⟩;simpa using hf
  | cons m b =>
   obtain ⟨p1,p2,q1,q2,rfl,rfl,h4,h5⟩:=Fo.unapp hs h;refine ⟨lo,m,[],p1,p2,[],q1,q2,by simp,by simp,h4,rfl,rfl,(fun _ h=>by cases h),?_,fun R' ks cs p1' q1' hR hf=>?_⟩
   ·intro p hp;obtain ⟨lo2,hi2,k2,ps2,qs2,h6,h7,h8,_⟩:=h5.of_mem p hp;exact ⟨lo2,hi2,k2,ps2,qs2,h6,h7,h8⟩
   ·have:=hf.app (h5.imp fun lo hi k ps' qs' h hq=>hR lo hi k ps' qs' h fun q hq2=>.inr (hq q hq2));simpa using this
 | cons m a ih =>
  intro lo hi b c d mid sg ps qs hl hs h;cases c with
  | nil=>cases hl
  | cons k0 c =>
   obtain ⟨k',kids',p1,q1,p2,q2,h1,h2,h3,h4,h5⟩:=h;simp only [zf3,List.cons.injEq] at h1;obtain ⟨rfl,rfl⟩:=h1;obtain ⟨lo',hi',p3,p4,p5,q3,q4,q5,e1,e2,e3,e4,e5,e6,e7,e8⟩:=ih (by simpa using hl) hs h5;refine ⟨lo',hi',p1 ++ p3,p4,p5,q1 ++ q3,q4,q5,by rw [h2,e1]; simp,by rw [h3,e2]; simp,e3,by rw [e4]; simp,e5,?_,e7,fun R' ks cs p1' q1' hR hf=>?_⟩
   ·intro p hp;rcases zfy.1 hp with hp | hp
    ·exact ⟨lo,m,k0,p1,q1,h4,hp,by simp⟩
    ·obtain ⟨lo2,hi2,k2,ps2,qs2,h6,h7,h8⟩:=e6 p hp;exact ⟨lo2,hi2,k2,ps2,qs2,h6,h7,zfV _ h8⟩
   ·have h9:=e8 R' ks cs p1' q1' (fun lo hi k ps' qs' h hq=>hR lo hi k ps' qs' h fun q hq2=>by
     rcases hq q hq2 with h | h
     ·exact .inl (zfT _ h)
     ·exact .inr h) hf
    refine ⟨k0,c ++ cs ++ d,p1,q1,p3 ++ p1' ++ p5,q3 ++ q1' ++ q5,by simp,by simp,by simp,hR _ _ _ _ _ h4 fun q hq=>.inl (zfS _ hq),by simpa using h9⟩
def qh (ps:List Pr) (key:Int):List Pr:=ps.filter fun p=>decide (p.1 ≠ key)
theorem qz (p q:List Pr) (key:Int):qh (p ++ q) key = qh p key ++ qh q key:=by simp [qh]
theorem vN {ps:List Pr} {key:Int} (h:∀ p ∈ ps,p.1 ≠ key):qh ps key = ps:=List.filter_eq_self.2 fun p hp=>decide_eq_true (h p hp)
theorem Nv.without {D:Int -> Option Nd} {lo hi:Int} {x:Nd} {ps:List Pr} {qs:List Int} (hn:Nv D 0 lo hi x ps qs) (hr:zJ x = true) (key:Int) :
  ((∀ p ∈ ps,p.1 ≠ key) /\ wF x key = .error 4) \/ ((∃ p ∈ ps,p.1 = key) /\ ∃ y,wF x key = .ok y /\ Nv D 0 lo hi y (qh ps key) [] /\ x.keys.length = y.keys.length + 1):=by
 obtain ⟨h1,h2,h3,h4,h5,h6,h7⟩:=hn;obtain ⟨keys,vals,kids⟩:=x;simp only at h1 h2 h3 h4 h5 h6;subst h1;have hs:yw ⟨keys,vals,[]⟩ key = (less keys key,decide (keys[less keys key]? = some key)):=by unfold yw; rw [if_pos hr]
 obtain ⟨a,ha⟩:∃ a,a = less keys key:=⟨_,rfl⟩
 have hat:∀ i (hi:i < keys.length),keys[i] < key ↔ i < a:=fun i hi=>by rw [ha]; exact Yd h3 key hi
 rw [<- ha] at hs;unfold wF;rw [hs];by_cases hf:keys[a]? = some key
 ·refine .inr ?_;obtain ⟨hal,hae⟩:=List.getElem?_eq_some_iff.1 hf;simp only [hf,decide_true,if_true];have hlt:∀ z ∈ keys.take a,z < key:=fun z hz=>by
   obtain ⟨i,hi,rfl⟩:=zfX.1 hz;rw [zgg];rw [zfj] at hi;exact (hat i (by omega)).2 (by omega)
  have hgt:∀ z ∈ keys.drop (a + 1),key < z:=fun z hz=>by
   obtain ⟨i,hi,rfl⟩:=zfX.1 hz;rw [zf1];rw [zfr] at hi;have:=List.pairwise_iff_getElem.1 h3 a (a + 1 + i) hal (by omega) (by omega);omega
  have hl:(keys.take a).length = (vals.take a).length:=by rw [zfj,zfj,h2]
  have e1:keys = keys.take a ++ key :: keys.drop (a + 1):=by rw [<- hae]; simp
  have e2:vals = vals.take a ++ vals[a]'(by omega) :: vals.drop (a + 1):=by simp
  have e4:keys.zip vals = (keys.take a).zip (vals.take a) ++ (key,vals[a]'(by omega)) :: (keys.drop (a + 1)).zip (vals.drop (a + 1)):=by
   conv=>lhs; rw [e1,e2]
   rw [List.zip_append hl];rfl
  refine ⟨⟨(key,vals[a]'(by omega)),by rw [h6,e4]; simp,rfl⟩,_,rfl,⟨rfl,by simp; omega,?_,fun z hz=>?_,fun v hv=>?_,?_,rfl⟩,by simp; omega⟩
  ·refine List.pairwise_append.2 ⟨h3.sublist (List.take_sublist _ _),h3.sublist (List.drop_sublist _ _),fun x hx y hy=>?_⟩;have:=hlt x hx;have:=hgt y hy;omega
  ·rcases zfy.1 hz with h | h
   ·exact h4 z (zfO h)
   ·exact h4 z (zfP h)
  ·rcases zfy.1 hv with h | h
   ·exact h5 v (zfO h)
   ·exact h5 v (zfP h)
  ·show qh ps key = (keys.take a ++ keys.drop (a + 1)).zip (vals.take a ++ vals.drop (a + 1));rw [h6,e4,qz,List.zip_append hl];congr 1
   ·refine vN fun p hp=>?_
    have:=hlt _ (List.of_mem_zip hp).1;omega
   ·rw [show (key,vals[a]'(by omega)) :: (keys.drop (a + 1)).zip (vals.drop (a + 1)) = [(key,vals[a]'(by omega))] ++ (keys.drop (a + 1)).zip (vals.drop (a + 1)) from rfl,qz,vN (ps:=(keys.drop (a + 1)).zip _) fun p hp=>?_]
    ·simp [qh]
    ·have:=hgt _ (List.of_mem_zip hp).1;omega
 ·refine .inl ⟨fun p hp e=>?_,?_⟩
  ·rw [h6] at hp;have hk:key ∈ keys:=by rw [<- e]; exact (List.of_mem_zip hp).1
   obtain ⟨i,hi,hie⟩:=zfX.1 hk;have h8:less keys key = i:=VK h3 key (by omega) (fun b hb=>by rw [<- hie]; exact List.pairwise_iff_getElem.1 h3 b i (by omega) (by omega) hb) (fun hb=>by rw [hie]; omega);rw [ha,h8,ze7 hi,hie] at hf;exact hf rfl
  ·simp only [hf,decide_false,Bool.false_eq_true,if_false]
theorem Nv.join {D:Int -> Option Nd} {h:Nat} {lo m hi:Int} {x y:Nd} {p1 p2:List Pr} {q1 q2:List Int} (hx:Nv D h lo m x p1 q1) (hy:Nv D h m hi y p2 q2) (h1:lo <= m) (h2:m <= hi) (hb:0 < h -> x.kids.length = x.keys.length + 1) :
  Nv D h lo hi (vr x m y) (p1 ++ p2) (q1 ++ q2) /\ (vr x m y).keys.length = x.keys.length + y.keys.length + (if h = 0 then 0 else 1):=by
 cases h with
 | zero =>
  obtain ⟨a1,a2,a3,a4,a5,a6,a7⟩:=hx;obtain ⟨b1,b2,b3,b4,b5,b6,b7⟩:=hy;unfold vr;rw [if_pos (by rw [a1]; rfl)];refine ⟨⟨by simp [a1,b1],by simp [a2,b2],List.pairwise_append.2 ⟨a3,b3,fun a ha b hb=>?_⟩,fun z hz=>?_,fun v hv=>?_,?_,by rw [a7,b7]; rfl⟩,by simp⟩
  ·have:=a4 a ha;have:=b4 b hb;omega
  ·rcases zfy.1 hz with hz | hz
   ·have:=a4 z hz; omega
   ·have:=b4 z hz; omega
  ·rcases zfy.1 hv with hv | hv
   ·exact a5 v hv
   ·exact b5 v hv
  ·show p1 ++ p2 = (x.keys ++ y.keys).zip (x.vals ++ y.vals);rw [List.zip_append a2.symm,a6,b6]
 | succ h =>
  obtain ⟨a1,a2⟩:=hx;obtain ⟨b1,b2⟩:=hy;have:=hb (by omega);unfold vr;rw [if_neg (by omega)];refine ⟨⟨by simp [a1,b1],?_⟩,by simp; omega⟩;show Fo (Tr D h 3) lo hi (x.keys ++ [m] ++ y.keys) (x.kids ++ y.kids) _ _;rw [zfA];exact a2.app b2
theorem Tr.node {S:TS} {h mn:Nat} {lo hi k:Int} {ps:List Pr} {qs:List Int} (ht:Tr (Dm S) h mn lo hi k ps qs):∃ x qs',Dm S k = some x /\ qs = k :: qs' /\ Nv (Dm S) h lo hi x ps qs' /\ mn <= x.keys.length /\ (x.kids.length = 0 ↔ h = 0) /\ (0 < h -> x.kids.length = x.keys.length + 1 /\ x.keys ≠ []) /\ x.keys.length <= 7:=by
 cases h with
 | zero =>
  obtain ⟨keys,vals,h1,h2,h3,h4,h5,h6,h7⟩:=ht;have hr:=(vk h1).2;have h12:∀ v ∈ vals,v.size = 12:=fun v hv2=>by
   rcases (zm hr).2.2 with ⟨_,h6,_⟩ | ⟨h6,_⟩
   ·exact of_decide_eq_true (List.all_eq_true.1 h6 v hv2)
   ·exact absurd rfl h6
  exact ⟨_,[],h1,h7,⟨rfl,h2,h4,h5,h12,h6,rfl⟩,h3,by simp,(fun h=>by omega),(zm hr).2.1⟩
 | succ h =>
  obtain ⟨keys,kids,qs',h1,h2,h3,h4⟩:=ht;have hr:=(vk h1).2;have hl:=h3.len;exact ⟨_,qs',h1,h4,⟨rfl,h3⟩,h2.2,by simp only; omega,fun _=>⟨hl,h2.1⟩,(zm hr).2.1⟩
structure Mid (n:Nat) (firm:Nat -> List UInt8) (S S':TS) (A C:List Int):Prop where
 ok:OkT n S' firm
 nodup:C.Nodup
 used:∀ q ∈ C,usd S' q
 new:∀ q ∈ C,q ∈ A \/ inZ S.s q = false
 page:∀ j,usd S j -> j ∉ A -> usd S' j /\ Dm S' j = Dm S j
 only:∀ j,usd S' j -> (usd S j /\ j ∉ A) \/ j ∈ C
 keep:∀ j,inZ S.s j = true -> j ∉ A -> inZ S'.s j = true
section
variable {n:Nat} {firm:Nat -> List UInt8} {S S1 S2:TS} {A B C:List Int}
theorem Mid.refl (h:OkT n S firm):Mid n firm S S [] []:=⟨h,List.nodup_nil,(fun _ h=>by cases h),(fun _ h=>by cases h),fun j hj _=>⟨hj,rfl⟩,fun j hj=>.inl ⟨hj,by simp⟩,fun j hj _=>hj⟩
theorem Mid.trans (h:OkT n S firm) (h1:Mid n firm S S1 A B) (h2:Mid n firm S1 S2 B C):Mid n firm S S2 A C:=by
 have hB:∀ j,inZ S.s j = true -> j ∉ A -> j ∉ B:=fun j hj hn hb=>by
  rcases h1.new j hb with h | h
  ·exact hn h
  ·rw [hj] at h; cases h
 refine ⟨h2.ok,h2.nodup,h2.used,fun q hq=>?_,fun j hj hn=>?_,fun j hj=>?_,fun j hj hn=>h2.keep j (h1.keep j hj hn) (hB j hj hn)⟩
 ·rcases h2.new q hq with h3 | h3
  ·exact h1.new q h3
  ·by_cases hA:q ∈ A
   ·exact .inl hA
   ·cases h4:inZ S.s q with
    | false=>exact .inr rfl
    | true=>have:=h1.keep q h4 hA; rw [h3] at this; cases this
 ·obtain ⟨a1,a2⟩:=h1.page j hj hn;obtain ⟨b1,b2⟩:=h2.page j a1 (hB j (ve h hj) hn);exact ⟨b1,b2.trans a2⟩
 ·rcases h2.only j hj with ⟨h3,h4⟩ | h3
  ·rcases h1.only j h3 with h5 | h5
   ·exact .inl h5
   ·exact absurd h5 h4
  ·exact .inr h3
theorem Mid.frame (h:OkT n S firm) (h1:Mid n firm S S2 A C) {F:List Int} (hu:∀ q ∈ F,usd S q) (hn:F.Nodup) (hd:∀ q ∈ F,q ∉ A):Mid n firm S S2 (F ++ A) (F ++ C):=by
 refine ⟨h1.ok,zfY.2 ⟨hn,h1.nodup,fun a ha b hb e=>?_⟩,fun q hq=>?_,fun q hq=>?_,fun j hj hne=>?_,fun j hj=>?_,fun j hj hne=>?_⟩
 ·subst e;rcases h1.new a hb with h2 | h2
  ·exact hd a ha h2
  ·have:=ve h (hu a ha); rw [h2] at this; cases this
 ·rcases zfy.1 hq with hq | hq
  ·exact (h1.page q (hu q hq) (hd q hq)).1
  ·exact h1.used q hq
 ·rcases zfy.1 hq with hq | hq
  ·exact .inl (zfS _ hq)
  ·exact (h1.new q hq).imp (zfT _) id
 ·exact h1.page j hj fun hm=>hne (zfT _ hm)
 ·by_cases hf:j ∈ F
  ·exact .inr (zfS _ hf)
  ·rcases h1.only j hj with ⟨h2,h3⟩ | h2
   ·exact .inl ⟨h2,fun hm=>by rcases zfy.1 hm with hm | hm; exact hf hm; exact h3 hm⟩
   ·exact .inr (zfT _ h2)
 ·exact h1.keep j hj fun hm=>hne (zfT _ hm)
theorem Mid.perm (h1:Mid n firm S S2 A C) {A' C':List Int} (hA:∀ q,q ∈ A ↔ q ∈ A') (hC:C.Perm C'):Mid n firm S S2 A' C' :=
 ⟨h1.ok,hC.nodup_iff.1 h1.nodup,fun q hq=>h1.used q (hC.mem_iff.2 hq),fun q hq=>(h1.new q (hC.mem_iff.2 hq)).imp (hA q).1 id,fun j hj hn=>h1.page j hj fun hm=>hn ((hA j).1 hm),
  fun j hj=>(h1.only j hj).imp (fun h=>⟨h.1,fun hm=>h.2 ((hA j).2 hm)⟩) hC.mem_iff.1,fun j hj hn=>h1.keep j hj fun hm=>hn ((hA j).1 hm)⟩
theorem zbl.mid {os qs qn:List Int} (h:zbl n firm S S1 os qs qn):Mid n firm S S1 (os ++ qs) qn :=
 ⟨h.ok,h.nodup,h.used,fun q hq=>(h.new q hq).imp (zfT _) id,fun j hj hn=>h.page j hj fun hm=>hn (zfS _ hm),
  fun j hj=>by
  by_cases hq:j ∈ qs
  ·exact .inr (h.sub j hq)
  ·rcases h.only j hj with ⟨h1,h2⟩ | h1
   ·exact .inl ⟨h1,fun hm=>by rcases zfy.1 hm with hm | hm; exact h2 hm; exact hq hm⟩
   ·exact .inr h1,
  fun j hj hn=>h.keep j hj fun hm=>hn (zfS _ hm)⟩
end
structure QE (n:Nat) (firm:Nat -> List UInt8) (S S':TS) (hh mn:Nat) (lo hi i:Int) (x:Nd) (ps:List Pr) (qs qs':List Int):Prop where
 nv:Nv (Dm S') hh lo hi x ps qs'
 few:x.keys.length <= 7
 least:mn <= x.keys.length + 1
 kids:0 < hh -> x.kids.length = x.keys.length + 1
 mid:Mid n firm S S' qs.tail qs'
theorem QE.at_ {n:Nat} {firm:Nat -> List UInt8} {S S':TS} {hh mn:Nat} {lo hi i:Int} {x:Nd} {ps:List Pr} {qt qs':List Int} (h:OkT n S firm) (hc:QE n firm S S' hh mn lo hi i x ps (i :: qt) qs') (hu:usd S i) (hi0:i ∉ qt):Mid n firm S S' (i :: qt) (i :: qs') :=
 Mid.frame h hc.mid (F:=[i]) (fun q hq=>by rw [zft.1 hq]; exact hu) (by simp) (fun q hq=>by rw [zft.1 hq]; exact hi0)
theorem Xq {n:Nat} {firm:Nat -> List UInt8} {S S2:TS} (h:OkT n S firm) {hh mn:Nat} {lo hi lo' hi' i:Int} {a b c d:List Int} {p0 p2 pm:List Pr} {q0 qm q2 qn:List Int} (hnd:(i :: (q0 ++ qm ++ q2)).Nodup) (hu:∀ q ∈ q0 ++ qm ++ q2,usd S q) (hm:Mid n firm S S2 qm qn)
  (ctx:∀ (R':Int -> Int -> Int -> List Pr -> List Int -> Prop) (ks cs:List Int) (p1':List Pr) (q1':List Int),(∀ lo hi k ps' qs',Tr (Dm S) hh 3 lo hi k ps' qs' -> (∀ q ∈ qs',q ∈ q0 \/ q ∈ q2) -> R' lo hi k ps' qs') ->
    Fo R' lo' hi' ks cs p1' q1' -> Fo R' lo hi (a ++ ks ++ b) (c ++ cs ++ d) (p0 ++ p1' ++ p2) (q0 ++ q1' ++ q2))
  {ks cs:List Int} (hf:Fo (Tr (Dm S2) hh 3) lo' hi' ks cs pm qn) (l1:mn <= (a ++ ks ++ b).length + 1) (l2:(a ++ ks ++ b).length <= 7) :
  QE n firm S S2 (hh + 1) mn lo hi i ⟨a ++ ks ++ b,[],c ++ cs ++ d⟩ (p0 ++ pm ++ p2) (i :: (q0 ++ qm ++ q2)) (q0 ++ qn ++ q2):=by
 obtain ⟨n0,n1⟩:=zfZ.1 hnd;obtain ⟨n2,n3,n4⟩:=zfY.1 n1;obtain ⟨n5,n6,n7⟩:=zfY.1 n2;have hF:(q0 ++ q2).Nodup:=zfY.2 ⟨n5,n3,fun x hx y hy=>n4 x (zfS _ hx) y hy⟩;have hmid:Mid n firm S S2 ((q0 ++ q2) ++ qm) ((q0 ++ q2) ++ qn):=by
  refine Mid.frame h hm (fun q hq=>hu q ?_) hF fun q hq hq2=>?_
  ·rcases zfy.1 hq with hq | hq
   ·exact zfS _ (zfS _ hq)
   ·exact zfT _ hq
  ·rcases zfy.1 hq with hq | hq
   ·exact n7 q hq q hq2 rfl
   ·exact n4 q (zfT _ hq2) q hq rfl
 have hfo:=ctx (Tr (Dm S2) hh 3) ks cs pm qn (fun lo hi k ps' qs' ht hq=>ht.imp fun q hq2=>by
  have hq3:=hq q hq2;have hq4:q ∈ q0 ++ q2:=by rcases hq3 with h | h; exact zfS _ h; exact zfT _ h
  refine (hm.page q (hu q ?_) fun hq5=>?_).2
  ·rcases hq3 with hq | hq
   ·exact zfS _ (zfS _ hq)
   ·exact zfT _ hq
  ·rcases hq3 with hq | hq
   ·exact n7 q hq q hq5 rfl
   ·exact n4 q (zfT _ hq5) q hq rfl) hf
 refine ⟨⟨rfl,hfo⟩,l2,l1,fun _=>hfo.len,hmid.perm (fun q=>?_) ?_⟩
 ·show q ∈ q0 ++ q2 ++ qm ↔ q ∈ q0 ++ qm ++ q2;simp only [zfy];constructor
  ·rintro ((h | h) | h)
   ·exact .inl (.inl h)
   ·exact .inr h
   ·exact .inl (.inr h)
  ·rintro ((h | h) | h)
   ·exact .inl (.inl h)
   ·exact .inr h
   ·exact .inl (.inr h)
 ·rw [zfA,zfA];exact List.Perm.append_left _ List.perm_append_comm
theorem zek {n:Nat} {firm:Nat -> List UInt8} {key:Int} (hh:Nat):∀ {S:TS} {mn f:Nat} {lo hi i:Int} {ps:List Pr} {qs:List Int},OkT n S firm -> Tr (Dm S) hh mn lo hi i ps qs -> (∀ q ∈ qs,usd S q) -> qs.Nodup ->
  lo <= key -> key < hi -> 0 <= lo -> hi <= 4294967296 -> hh + 1 <= f -> f <= 12 ->
  ((∀ p ∈ ps,p.1 ≠ key) /\ ky n f S i key = (.error 4,S)) \/ ((∃ p ∈ ps,p.1 = key) /\ ((∃ S',ky n f S i key = (.error 6,S') /\ vJ n S (2 * f)) \/ ∃ x S' qs',ky n f S i key = (.ok x,S') /\ QE n firm S S' hh mn lo hi i x (qh ps key) qs qs')):=by
 induction hh with
 | zero =>
  intro S mn f lo hi i ps qs h ht hu hnd hk1 hk2 hlo hhi hf hf2;obtain ⟨f,rfl⟩:∃ g,f = g + 1:=⟨f - 1,by omega⟩
  obtain ⟨x,qt,h1,rfl,hn,hmn,hk0,_,h7⟩:=ht.node;have hr:=(vk h1).2;have hld:=wy h1 (level:=12 - (f:Int)) (by omega);have hcut:ky n (f + 1) S i key = (wF x key,S):=by
   unfold ky;rw [hld];simp only;rw [if_pos (hk0.2 rfl)]
  obtain rfl:qt = []:=hn.2.2.2.2.2.2;rcases hn.without hr key with ⟨e1,e2⟩ | ⟨e1,y,e2,e3,e4⟩
  ·exact .inl ⟨e1,by rw [hcut,e2]⟩
  ·exact .inr ⟨e1,.inr ⟨y,S,[],by rw [hcut,e2],e3,by omega,by omega,(fun h=>by omega),Mid.refl h⟩⟩
 | succ hh ih =>
  intro S mn f lo hi i ps qs h ht hu hnd hk1 hk2 hlo hhi hf hf2;obtain ⟨f,rfl⟩:∃ g,f = g + 1:=⟨f - 1,by omega⟩
  obtain ⟨keys,kids,qt,h1,h2,h3,rfl⟩:=ht;have hr:=(vk h1).2;have hk7:keys.length <= 7:=(zm hr).2.1;have hld:=wy h1 (level:=12 - (f:Int)) (by omega);obtain ⟨s1,s2,s3⟩:=qD hr key;obtain ⟨k,hk⟩:∃ k,k = yB ⟨keys,[],kids⟩ key:=⟨_,rfl⟩
  rw [<- hk] at s1 s2 s3;simp only at s1 s2 s3;have hl:=h3.len;have hkl:k < kids.length:=by omega
  have hk0:0 < keys.length:=Nat.pos_of_ne_zero fun e=>h2.1 (zfF.1 e)
  obtain ⟨kc1,kc2,kc3,kc4,kc5⟩:=h3.kids;have hi0:=zfZ.1 hnd;have hcut:ky n (f + 1) S i key = (match ky n f S (kids.getD k 0) key with
    | (.error c,S1)=>(.error c,S1)
    | (.ok y,S1)=>if y.keys.length < 3 then kq n S1 ⟨keys,[],kids⟩ k (13 - f:Int) y else zQ n S1 ⟨keys,[],kids⟩ k 1 y):=by
   show (match yk S i (12 - (f:Int)) with | .error c=>(Except.error c,S) | .ok x=>_) = _;rw [hld];simp only;rw [if_neg (by omega),<- hk];cases ky n f S (kids.getD k 0) key with
   | mk o S1=>cases o <;> rfl
  obtain ⟨j,hj⟩:∃ j,j = if k = keys.length then k - 1 else k:=⟨_,rfl⟩
  have hjl:j < keys.length:=by rw [hj]; split <;> omega
  obtain ⟨u,hu0⟩:∃ u,u = kids[j]'(by omega):=⟨_,rfl⟩
  obtain ⟨v,hv0⟩:∃ v,v = kids[j + 1]'(by omega):=⟨_,rfl⟩
  obtain ⟨m,hm0⟩:∃ m,m = keys[j]:=⟨_,rfl⟩
  have ekk:keys = keys.take j ++ ([m] ++ keys.drop (j + 1)):=by rw [hm0]; simp
  have edr:kids.drop j = u :: v :: kids.drop (j + 2):=by rw [zga (by omega),zga (by omega),hu0,hv0]
  have ek:kids = kids.take j ++ ([u,v] ++ kids.drop (j + 2)):=by
   conv=>lhs; rw [<- zf0 j kids,edr]
   rfl
  have h3':Fo (Tr (Dm S) hh 3) lo hi (keys.take j ++ ([m] ++ keys.drop (j + 1))) (kids.take j ++ ([u,v] ++ kids.drop (j + 2))) ps qt:=by rw [<- ek,<- ekk]; exact h3
  have la:(keys.take j).length = j:=by rw [zfj]; omega
  have lb:(keys.drop (j + 1)).length = keys.length - (j + 1):=by rw [zfr]
  obtain ⟨lo',hi',p0,pm,p2,q0,qm,q2,rfl,rfl,t1,e4,e5,e6,e7,ctx⟩:=Fo.seg (by rw [zfj,la]; omega) rfl h3';obtain ⟨_,_,pu,qu,pv,qv,hcc,rfl,rfl,tu,w,hww,tv⟩:=t1;simp only [List.cons.injEq] at hcc;obtain ⟨rfl,rfl⟩:=hcc;simp only [List.cons.injEq,and_true] at hww;subst hww;have hlo':lo' = lo \/ lo' ∈ keys.take j:=by
   have:=List.getLast_mem (l:=lo :: keys.take j) (by simp);rw [<- e4] at this;exact zfU.1 this
  have hhi':hi' ∈ keys.drop (j + 1) \/ hi' = hi:=by
   have:=List.head_mem (l:=keys.drop (j + 1) ++ [hi]) (by simp);rw [<- e5] at this;rcases zfy.1 this with h | h
   ·exact .inl h
   ·exact .inr (zft.1 h)
  have hjk:j <= k:=by rw [hj]; split <;> omega
  have ta:∀ z ∈ keys.take j,z <= key:=fun z hz=>s1 z (by
   obtain ⟨i2,hi2,rfl⟩:=zfX.1 hz;rw [zfj] at hi2;rw [zgg];exact zfX.2 ⟨i2,by rw [zfj]; omega,by rw [zgg]⟩)
  have tb:∀ z ∈ keys.drop (j + 1),key < z:=fun z hz=>s2 z (by
   obtain ⟨i2,hi2,rfl⟩:=zfX.1 hz;rw [zfr] at hi2;rw [zf1];have hne:k ≠ keys.length:=fun e=>by rw [if_pos e] at hj; omega
   rw [if_neg hne] at hj;exact zfX.2 ⟨1 + i2,by rw [zfr]; omega,by rw [zf1]; congr 1; omega⟩)
  have c1:lo' <= key:=by
   rcases hlo' with rfl | h
   ·exact hk1
   ·exact ta _ h
  have c2:key < hi':=by
   rcases hhi' with h | rfl
   ·exact tb _ h
   ·exact hk2
  have c3:0 <= lo':=by
   rcases hlo' with rfl | h
   ·exact hlo
   ·have:=(kc4 _ (zfO h)).1; omega
  have c4:hi' <= 4294967296:=by
   rcases hhi' with h | rfl
   ·have:=(kc4 _ (zfP h)).2; omega
   ·exact hhi
  have bu:=tu.bounds (.inl (by decide));have bv:=tv.bounds (.inl (by decide));have d0:∀ p ∈ p0,p.1 ≠ key:=fun p hp2=>by
   obtain ⟨_,_,_,_,_,g1,g2,g3⟩:=e6 p hp2;have:=(g1.bounds (.inl (by decide))).2 p g2;have:=ta _ g3;omega
  have d2:∀ p ∈ p2,p.1 ≠ key:=fun p hp2=>by
   obtain ⟨_,_,_,_,_,g1,g2,g3⟩:=e7 p hp2;have:=(g1.bounds (.inl (by decide))).2 p g2;have:=tb _ g3;omega
  obtain ⟨n1,n2,n3⟩:=zfY.1 hi0.2;obtain ⟨n4,n5,n6⟩:=zfY.1 n1;obtain ⟨n7,n8,n9⟩:=zfY.1 n5;have uu:∀ q ∈ q0 ++ (qu ++ qv) ++ q2,usd S q:=fun q hq=>hu q (zfV _ hq)
  have uqu:∀ q ∈ qu,usd S q:=fun q hq=>uu q (zfS _ (zfT _ (zfS _ hq)))
  have uqv:∀ q ∈ qv,usd S q:=fun q hq=>uu q (zfS _ (zfT _ (zfT _ hq)))
  have hd:∀ pm':List Pr,qh (p0 ++ (pu ++ pv) ++ p2) key = p0 ++ (qh pu key ++ qh pv key) ++ p2:=fun _=>by
   rw [qz,qz,qz,vN d0,vN d2]
  rw [hd []];have hlen:∀ ks:List Int,(keys.take j ++ ks ++ keys.drop (j + 1)).length = keys.length - 1 + ks.length:=fun ks=>by
   rw [List.length_append,List.length_append,la,lb]; omega
  by_cases hlast:k = keys.length
  ·-- the last child: its neighbour is the one ahead
   rw [if_pos hlast] at hj;have hkm:m <= key:=by
    refine s1 m ?_;rw [hm0];exact zfX.2 ⟨j,by rw [zfj]; omega,by rw [zgg]⟩
   have du:∀ p ∈ pu,p.1 ≠ key:=fun p hp=>by have:=(bu.2 p hp).2; omega
   have hkd:kids.getD k 0 = v:=by rw [ze6,show k = j + 1 by omega,ze7 (by omega),<- hv0]; rfl
   rw [vN du];rw [hkd] at hcut;have hst:=kH f h v key;rcases ih (f:=f) h tv uqv n8 hkm c2 (by omega) c4 (by omega) (by omega) with ⟨e1,e2⟩ | ⟨e1,e2⟩
   ·refine .inl ⟨fun p hp=>?_,by rw [hcut,e2]⟩;rcases zfy.1 hp with hp | hp
    ·rcases zfy.1 hp with hp | hp
     ·exact d0 p hp
     ·rcases zfy.1 hp with hp | hp
      ·exact du p hp
      ·exact e1 p hp
    ·exact d2 p hp
   refine .inr ⟨?_,?_⟩
   ·obtain ⟨p,hp,e⟩:=e1;exact ⟨p,zfS _ (zfT _ (zfT _ hp)),e⟩
   rcases e2 with ⟨S1,e2,e3⟩ | ⟨y,S1,qy,e2,hy⟩
   ·exact .inl ⟨S1,by rw [hcut,e2],e3.more (by omega)⟩
   rw [e2] at hst;obtain ⟨xv,qtv,hxv,rfl⟩:=tv.head;obtain ⟨z,qtu,hz,rfl,nz,hz3,hzk,hzl,hz7⟩:=tu.node;have m1:=hy.at_ h (uqv v zgd) (zfZ.1 n8).1;have m2:=Mid.frame h m1 uqu n7 fun q hq hq2=>n9 q hq q hq2 rfl
   have hzS1:Dm S1 u = some z:=(m1.page u (uqu u zgd) (fun hm=>n9 u zgd u hm rfl)).2.trans hz;have nz1:Nv (Dm S1) hh lo' m z pu qtu:=nz.imp fun q hq=>(m1.page q (uqu q (zfV _ hq)) fun hm=>n9 q (zfV _ hq) q hm rfl).2
   by_cases hy3:y.keys.length < 3
   ·obtain ⟨nj,lj⟩:=nz1.join hy.nv (Int.le_of_lt bu.1) (Int.le_of_lt bv.1) (fun h0=>(hzl h0).1);have hy2:=hy.least;have hnd2:(qtu ++ qy).Nodup:=by
     have:=m2.nodup;rw [zf3] at this;have h5:=(zfZ.1 this).2;obtain ⟨g1,g2,g3⟩:=zfY.1 h5;exact zfY.2 ⟨g1,(zfZ.1 g2).2,fun a ha b hb=>g3 a ha b (zfV _ hb)⟩
    have hvq:v ∉ qtu ++ qy /\ u ∉ qtu ++ qy /\ u ≠ v:=by
     have:=m2.nodup;rw [zf3] at this;obtain ⟨g0,h5⟩:=zfZ.1 this;obtain ⟨g1,g2,g3⟩:=zfY.1 h5;refine ⟨fun hm=>?_,fun hm=>g0 ?_,fun e=>g0 (by rw [e]; simp)⟩
     ·rcases zfy.1 hm with hm | hm
      ·exact g3 v hm v zgd rfl
      ·exact (zfZ.1 g2).1 hm
     ·rcases zfy.1 hm with hm | hm
      ·exact zfS _ hm
      ·exact zfT _ (zfV _ hm)
    have hmend:kq n S1 ⟨keys,[],kids⟩ k (13 - f:Int) y = zQ n S1 ⟨keys,[],kids⟩ (k - 1) 2 (vr z m y):=by
     unfold kq;have ho:jl ⟨keys,[],kids⟩ k = j:=by unfold jl; rw [if_pos hlast]; omega
     have ho2:kids.getD j 0 = u:=by rw [ze6,ze7 (by omega),<- hu0]; rfl
     have ho3:keys.getD (k - 1) 0 = m:=by rw [<- hj,ze6,ze7 (by omega),<- hm0]; rfl
     simp only [ho,ho2,wy hzS1 (level:=13 - (f:Int)) (by omega),ho3];have hleaf:decide (z.kids.length = 0) = decide (y.kids.length = 0):=by
      rcases Nat.eq_zero_or_pos hh with h0 | h0
      ·subst h0;rw [decide_eq_true (hzk.2 rfl),decide_eq_true (by rw [hy.nv.1]; rfl)]
      ·rw [decide_eq_false (by have:=(hzl h0).1; omega),decide_eq_false (by have:=hy.kids h0; omega)]
     rw [if_neg (by rw [hleaf]; exact fun h=>h rfl),if_pos hlast]
    have hold:((⟨keys,[],kids⟩:Nd).kids.drop (k - 1)).take 2 = [u,v]:=by
     show (kids.drop (k - 1)).take 2 = [u,v]
     rw [<- hj,edr]; rfl
    rcases vM (mn:=3) m2.ok nj (fun q hq=>m2.used q (by
      rcases zfy.1 hq with hq | hq
      ·exact zfS _ (zfV _ hq)
      ·exact zfT _ (zfV _ hq))) hnd2 (by split at lj <;> omega) (by split at lj <;> omega) (by split at lj <;> omega) c3 c4 (os:=[u,v])
      (fun o ho=>m2.used o (by simp only [zfU,zge,or_false] at ho; rcases ho with rfl | rfl <;> simp)) (by simpa using hvq.2.2) (fun o ho=>by simp only [zfU,zge,or_false] at ho; rcases ho with rfl | rfl; exact hvq.2.1; exact hvq.1) with ⟨S2,hc,hnr⟩ | ⟨bk,ks,S2,qn,hc,hfo,hb1,hb7,hb8,hch⟩
    ·refine .inl ⟨S2,?_,(hnr.stay hst).more (by omega)⟩;rw [hcut,e2];simp only;rw [if_pos hy3,hmend];simp only [zQ,hold,hc]
    ·have mm:Mid n firm S S2 ((u :: qtu) ++ (v :: qtv)) qn:=Mid.trans h m2 (hch.mid.perm (fun q=>by simp only [zfy,zfU,zge,or_false]; constructor <;> (intro h; rcases h with (h | h) | h | h <;> simp [h])) (List.Perm.refl _));have hfin:=Xq (mn:=mn) h hnd uu mm ctx hfo (by rw [hlen]; have:=h2.2; omega) (by rw [hlen]; omega);refine .inr ⟨_,S2,_,?_,hfin⟩;rw [hcut,e2];simp only;rw [if_pos hy3,hmend];simp only [zQ,hold,hc];rw [show k - 1 + 2 - 1 = j + 1 by omega,show k - 1 + 2 = j + 2 by omega,<- hj]
   ·have hold:((⟨keys,[],kids⟩:Nd).kids.drop k).take 1 = [v]:=by
     show (kids.drop k).take 1 = [v]
     rw [show k = j + 1 by omega,zga (by omega),hv0]; rfl
    have hvq:v ∉ qy:=(zfZ.1 m1.nodup).1;rcases vM (mn:=3) m1.ok hy.nv (fun q hq=>m1.used q (zfV _ hq)) (zfZ.1 m1.nodup).2 (by have:=hy.few; omega) ⟨by omega,Nat.le_refl _⟩ (by omega) (by omega) c4 (os:=[v])
      (fun o ho=>by rw [zft.1 ho]; exact m1.used v zgd) (by simp) (fun o ho=>by rw [zft.1 ho]; exact hvq) with ⟨S2,hc,hnr⟩ | ⟨bk,ks,S2,qn,hc,hfo,hb1,hb7,hb8,hch⟩
    ·refine .inl ⟨S2,?_,(hnr.stay hst).more (by omega)⟩;rw [hcut,e2];simp only;rw [if_neg hy3];simp only [zQ,hold,hc]
    ·obtain rfl:=hb7 hy.few;obtain ⟨k',rfl,tk⟩:=hfo;have m3:Mid n firm S S2 (v :: qtv) qn:=Mid.trans h m1 hch.mid;have mm:Mid n firm S S2 ((u :: qtu) ++ (v :: qtv)) ((u :: qtu) ++ qn):=Mid.frame h m3 uqu n7 fun q hq hq2=>n9 q hq q hq2 rfl
     have tu2:Tr (Dm S2) hh 3 lo' m u pu (u :: qtu):=tu.imp fun q hq=>(m3.page q (uqu q hq) fun hm=>n9 q hq q hm rfl).2
     have hfin:=Xq (mn:=mn) h hnd uu mm ctx (ks:=[m]) (cs:=[u,k']) ⟨u,[k'],pu,u :: qtu,qh pv key,qn,rfl,rfl,rfl,tu2,k',rfl,tk⟩ (by rw [hlen]; have:=h2.2; simp; omega) (by rw [hlen]; simp; omega);refine .inr ⟨_,S2,_,?_,hfin⟩;rw [hcut,e2];simp only;rw [if_neg hy3];simp only [zQ,hold,hc];have x1:keys.take k ++ [] ++ keys.drop (k + 1 - 1) = keys.take j ++ [m] ++ keys.drop (j + 1):=by
      rw [zgf,Nat.add_sub_cancel,zf0,zfA]; exact ekk
     have x2:kids.take k ++ [k'] ++ kids.drop (k + 1) = kids.take j ++ [u,k'] ++ kids.drop (j + 2):=by
      rw [show k = j + 1 by omega,List.take_add_one,ze7 (by omega),<- hu0];simp
     rw [x1,x2]
  ·rw [if_neg hlast] at hj;subst hj;have hkm:key < m:=by
    refine s2 m ?_;rw [hm0];exact zfX.2 ⟨0,by rw [zfr]; omega,by rw [zf1]; rfl⟩
   have dv:∀ p ∈ pv,p.1 ≠ key:=fun p hp=>by have:=(bv.2 p hp).1; omega
   have hkd:kids.getD j 0 = u:=by rw [ze6,ze7 (by omega),<- hu0]; rfl
   rw [vN dv];rw [hkd] at hcut;have hst:=kH f h u key;rcases ih (f:=f) h tu uqu n7 c1 hkm c3 (by omega) (by omega) (by omega) with ⟨e1,e2⟩ | ⟨e1,e2⟩
   ·refine .inl ⟨fun p hp=>?_,by rw [hcut,e2]⟩;rcases zfy.1 hp with hp | hp
    ·rcases zfy.1 hp with hp | hp
     ·exact d0 p hp
     ·rcases zfy.1 hp with hp | hp
      ·exact e1 p hp
      ·exact dv p hp
    ·exact d2 p hp
   refine .inr ⟨?_,?_⟩
   ·obtain ⟨p,hp,e⟩:=e1;exact ⟨p,zfS _ (zfT _ (zfS _ hp)),e⟩
   rcases e2 with ⟨S1,e2,e3⟩ | ⟨y,S1,qy,e2,hy⟩
   ·exact .inl ⟨S1,by rw [hcut,e2],e3.more (by omega)⟩
   rw [e2] at hst;obtain ⟨xu,qtu,hxu,rfl⟩:=tu.head;obtain ⟨z,qtv,hz,rfl,nz,hz3,hzk,hzl,hz7⟩:=tv.node;have m1:=hy.at_ h (uqu u zgd) (zfZ.1 n7).1;have m2:=Mid.frame h m1 uqv n8 fun q hq hq2=>n9 q hq2 q hq rfl
   have hzS1:Dm S1 v = some z:=(m1.page v (uqv v zgd) (fun hm=>n9 v hm v zgd rfl)).2.trans hz;have nz1:Nv (Dm S1) hh m hi' z pv qtv:=nz.imp fun q hq=>(m1.page q (uqv q (zfV _ hq)) fun hm=>n9 q hm q (zfV _ hq) rfl).2
   by_cases hy3:y.keys.length < 3
   ·obtain ⟨nj,lj⟩:=hy.nv.join nz1 (Int.le_of_lt bu.1) (Int.le_of_lt bv.1) hy.kids;have hy2:=hy.least;have hnd2:(qy ++ qtv).Nodup /\ v ∉ qy ++ qtv /\ u ∉ qy ++ qtv /\ u ≠ v:=by
     have:=m2.nodup;rw [zf3] at this;obtain ⟨g0,h5⟩:=zfZ.1 this;obtain ⟨g1,g2,g3⟩:=zfY.1 h5;obtain ⟨g4,g5⟩:=zfZ.1 g2;refine ⟨zfY.2 ⟨g5,g1,fun a ha b hb e=>g3 b hb a (zfV _ ha) e.symm⟩,fun hm=>g0 ?_,fun hm=>?_,fun e=>g0 (by rw [e]; simp)⟩
     ·rcases zfy.1 hm with hm | hm
      ·exact zfT _ (zfV _ hm)
      ·exact zfS _ hm
     ·rcases zfy.1 hm with hm | hm
      ·exact g4 hm
      ·exact g3 u hm u zgd rfl
    have hmend:kq n S1 ⟨keys,[],kids⟩ j (13 - f:Int) y = zQ n S1 ⟨keys,[],kids⟩ j 2 (vr y m z):=by
     unfold kq;have ho:jl ⟨keys,[],kids⟩ j = j + 1:=by unfold jl; rw [if_neg hlast]
     have ho2:kids.getD (j + 1) 0 = v:=by rw [ze6,ze7 (by omega),<- hv0]; rfl
     have ho3:keys.getD j 0 = m:=by rw [ze6,ze7 (by omega),<- hm0]; rfl
     simp only [ho,ho2,wy hzS1 (level:=13 - (f:Int)) (by omega),ho3];have hleaf:decide (z.kids.length = 0) = decide (y.kids.length = 0):=by
      rcases Nat.eq_zero_or_pos hh with h0 | h0
      ·subst h0;rw [decide_eq_true (hzk.2 rfl),decide_eq_true (by rw [hy.nv.1]; rfl)]
      ·rw [decide_eq_false (by have:=(hzl h0).1; omega),decide_eq_false (by have:=hy.kids h0; omega)]
     rw [if_neg (by rw [hleaf]; exact fun h=>h rfl),if_neg hlast]
    have hold:((⟨keys,[],kids⟩:Nd).kids.drop j).take 2 = [u,v]:=by
     show (kids.drop j).take 2 = [u,v]
     rw [edr]; rfl
    rcases vM (mn:=3) m2.ok nj (fun q hq=>m2.used q (by
      rcases zfy.1 hq with hq | hq
      ·exact zfT _ (zfV _ hq)
      ·exact zfS _ (zfV _ hq))) hnd2.1 (by split at lj <;> omega) (by split at lj <;> omega) (by split at lj <;> omega) c3 c4 (os:=[u,v])
      (fun o ho=>m2.used o (by simp only [zfU,zge,or_false] at ho; rcases ho with rfl | rfl <;> simp)) (by simpa using hnd2.2.2.2) (fun o ho=>by simp only [zfU,zge,or_false] at ho; rcases ho with rfl | rfl; exact hnd2.2.2.1; exact hnd2.2.1) with ⟨S2,hc,hnr⟩ | ⟨bk,ks,S2,qn,hc,hfo,hb1,hb7,hb8,hch⟩
    ·refine .inl ⟨S2,?_,(hnr.stay hst).more (by omega)⟩;rw [hcut,e2];simp only;rw [if_pos hy3,hmend];simp only [zQ,hold,hc]
    ·have mm:Mid n firm S S2 ((v :: qtv) ++ (u :: qtu)) qn:=Mid.trans h m2 (hch.mid.perm (fun q=>by simp only [zfy,zfU,zge,or_false]; constructor <;> (intro h; rcases h with (h | h) | h | h <;> simp [h])) (List.Perm.refl _));have mm2:Mid n firm S S2 ((u :: qtu) ++ (v :: qtv)) qn:=mm.perm (fun q=>by rw [zfy,zfy]; exact Or.comm) (List.Perm.refl _);have hfin:=Xq (mn:=mn) h hnd uu mm2 ctx hfo (by rw [hlen]; have:=h2.2; omega) (by rw [hlen]; omega);refine .inr ⟨_,S2,_,?_,hfin⟩;rw [hcut,e2];simp only;rw [if_pos hy3,hmend];simp only [zQ,hold,hc];rfl
   ·have hold:((⟨keys,[],kids⟩:Nd).kids.drop j).take 1 = [u]:=by
     show (kids.drop j).take 1 = [u]
     rw [edr]; rfl
    have hvq:u ∉ qy:=(zfZ.1 m1.nodup).1;rcases vM (mn:=3) m1.ok hy.nv (fun q hq=>m1.used q (zfV _ hq)) (zfZ.1 m1.nodup).2 (by have:=hy.few; omega) ⟨by omega,Nat.le_refl _⟩ (by omega) c3 (by omega) (os:=[u])
      (fun o ho=>by rw [zft.1 ho]; exact m1.used u zgd) (by simp) (fun o ho=>by rw [zft.1 ho]; exact hvq) with ⟨S2,hc,hnr⟩ | ⟨bk,ks,S2,qn,hc,hfo,hb1,hb7,hb8,hch⟩
    ·refine .inl ⟨S2,?_,(hnr.stay hst).more (by omega)⟩;rw [hcut,e2];simp only;rw [if_neg hy3];simp only [zQ,hold,hc]
    ·obtain rfl:=hb7 hy.few;obtain ⟨k',rfl,tk⟩:=hfo;have m3:Mid n firm S S2 (u :: qtu) qn:=Mid.trans h m1 hch.mid;have mm:Mid n firm S S2 ((v :: qtv) ++ (u :: qtu)) ((v :: qtv) ++ qn):=Mid.frame h m3 uqv n8 fun q hq hq2=>n9 q hq2 q hq rfl
     have mm2:Mid n firm S S2 ((u :: qtu) ++ (v :: qtv)) (qn ++ (v :: qtv)):=mm.perm (fun q=>by rw [zfy,zfy]; exact Or.comm) List.perm_append_comm;have tv2:Tr (Dm S2) hh 3 m hi' v pv (v :: qtv):=tv.imp fun q hq=>(m3.page q (uqv q hq) fun hm=>n9 q hm q hq rfl).2
     have hfin:=Xq (mn:=mn) h hnd uu mm2 ctx (ks:=[m]) (cs:=[k',v]) ⟨k',[v],qh pu key,qn,pv,v :: qtv,rfl,rfl,rfl,tk,v,rfl,tv2⟩ (by rw [hlen]; have:=h2.2; simp; omega) (by rw [hlen]; simp; omega);refine .inr ⟨_,S2,_,?_,hfin⟩;rw [hcut,e2];simp only;rw [if_neg hy3];simp only [zQ,hold,hc];have x1:keys.take j ++ [] ++ keys.drop (j + 1 - 1) = keys.take j ++ [m] ++ keys.drop (j + 1):=by
      rw [zgf,Nat.add_sub_cancel,zf0,zfA]; exact ekk
     have x2:kids.take j ++ [k'] ++ kids.drop (j + 1) = kids.take j ++ [k',v] ++ kids.drop (j + 2):=by
      rw [zga (i:=j + 1) (by omega),<- hv0];simp
     rw [x1,x2]
