/-
 TrCutMath. Conditions: as each theorem says.
-/
import Derived.Test.YtafclmbecmgbnaaGreatDoorTrDelModel
open List renaming mem_append -> zgf,mem_append_right -> zgA,mem_append_left -> zfF,mem_cons_of_mem -> zgB,nodup_cons -> zgF,nodup_append -> zgE,mem_cons_self -> zgU,mem_iff_getElem -> zgD,length_take -> zfZ,getElem?_eq_getElem -> zfM,mem_singleton -> zga,mem_cons -> zgz,getD_eq_getElem?_getD -> zfL,not_mem_nil -> zgV,length_drop -> zf8,append_assoc -> zgh,append_nil -> zgx,cons_append -> zgL,getElem_take -> zgW,getElem_drop -> zgH,drop_eq_getElem_cons -> zgS,length_eq_zero_iff -> zgl,mem_of_mem_take -> zgu,mem_of_mem_drop -> zgv,take_append_drop -> zgG
namespace Go.Proofs.YtafclmbecmgbnaaGreatDoor
theorem Fo.seg {R:Int -> Int -> Int -> List Pr -> List Int -> Prop} {a:List Int}:∀ {lo hi:Int} {b c d mid sg:List Int} {ps:List Pr} {qs:List Int},c.length = a.length -> sg.length = mid.length + 1 -> Fo R lo hi (a ++ (mid ++ b)) (c ++ (sg ++ d)) ps qs ->
  ∃ lo' hi' p0 p1 p2 q0 q1 q2,ps = p0 ++ p1 ++ p2 /\ qs = q0 ++ q1 ++ q2 /\ Fo R lo' hi' mid sg p1 q1 /\ lo' = (lo :: a).getLast (by simp) /\ hi' = (b ++ [hi]).head (by simp) /\
   (∀ p ∈ p0,∃ lo2 hi2 k2 ps2 qs2,R lo2 hi2 k2 ps2 qs2 /\ p ∈ ps2 /\ hi2 ∈ a) /\ (∀ p ∈ p2,∃ lo2 hi2 k2 ps2 qs2,R lo2 hi2 k2 ps2 qs2 /\ p ∈ ps2 /\ lo2 ∈ b) /\
   ∀ (R':Int -> Int -> Int -> List Pr -> List Int -> Prop) (ks cs:List Int) (p1':List Pr) (q1':List Int),(∀ lo hi k ps' qs',R lo hi k ps' qs' -> (∀ q ∈ qs',q ∈ q0 \/ q ∈ q2) -> R' lo hi k ps' qs') ->
    Fo R' lo' hi' ks cs p1' q1' -> Fo R' lo hi (a ++ ks ++ b) (c ++ cs ++ d) (p0 ++ p1' ++ p2) (q0 ++ q1' ++ q2):=by
 induction a with
 | nil =>
  intro lo hi b c d mid sg ps qs hl hs h;obtain rfl:=zgl.1 hl;simp only [List.nil_append] at h;cases b with
  | nil =>
   have h1:d = []:=by
    have:=h.len;simp only [zgx,List.length_append] at this;exact zgl.1 (by omega)
   subst h1;simp only [zgx] at h;refine ⟨lo,hi,[],ps,[],[],qs,[],by simp,by simp,h,rfl,rfl,(fun _ h=>by cases h),(fun _ h=>by cases h),fun R' ks cs p1' q1' _ hf=>?_⟩;simpa using hf
  | cons m b =>
   obtain ⟨p1,p2,q1,q2,rfl,rfl,h4,h5⟩:=Fo.unapp hs h;refine ⟨lo,m,[],p1,p2,[],q1,q2,by simp,by simp,h4,rfl,rfl,(fun _ h=>by cases h),?_,fun R' ks cs p1' q1' hR hf=>?_⟩
   ·intro p hp;obtain ⟨lo2,hi2,k2,ps2,qs2,h6,h7,h8,_⟩:=h5.of_mem p hp;exact ⟨lo2,hi2,k2,ps2,qs2,h6,h7,h8⟩
   ·have:=hf.app (h5.imp fun lo hi k ps' qs' h hq=>hR lo hi k ps' qs' h fun q hq2=>.inr (hq q hq2));simpa using this
 | cons m a ih =>
  intro lo hi b c d mid sg ps qs hl hs h;cases c with
  | nil=>cases hl
  | cons k0 c =>
   obtain ⟨k',kids',p1,q1,p2,q2,h1,h2,h3,h4,h5⟩:=h;simp only [zgL,List.cons.injEq] at h1;obtain ⟨rfl,rfl⟩:=h1;obtain ⟨lo',hi',p3,p4,p5,q3,q4,q5,e1,e2,e3,e4,e5,e6,e7,e8⟩:=ih (by simpa using hl) hs h5;refine ⟨lo',hi',p1 ++ p3,p4,p5,q1 ++ q3,q4,q5,by rw [h2,e1]; simp,by rw [h3,e2]; simp,e3,by rw [e4]; simp,e5,?_,e7,fun R' ks cs p1' q1' hR hf=>?_⟩
   ·intro p hp;rcases zgf.1 hp with hp | hp
    ·exact ⟨lo,m,k0,p1,q1,h4,hp,by simp⟩
    ·obtain ⟨lo2,hi2,k2,ps2,qs2,h6,h7,h8⟩:=e6 p hp;exact ⟨lo2,hi2,k2,ps2,qs2,h6,h7,zgB _ h8⟩
   ·have h9:=e8 R' ks cs p1' q1' (fun lo hi k ps' qs' h hq=>hR lo hi k ps' qs' h fun q hq2=>by
     rcases hq q hq2 with h | h
     ·exact .inl (zgA _ h)
     ·exact .inr h) hf
    refine ⟨k0,c ++ cs ++ d,p1,q1,p3 ++ p1' ++ p5,q3 ++ q1' ++ q5,by simp,by simp,by simp,hR _ _ _ _ _ h4 fun q hq=>.inl (zfF _ hq),by simpa using h9⟩
def vh (ps:List Pr) (key:Int):List Pr:=ps.filter fun p=>decide (p.1 ≠ key)
theorem jR (p q:List Pr) (key:Int):vh (p ++ q) key = vh p key ++ vh q key:=by simp [vh]
theorem vZ {ps:List Pr} {key:Int} (h:∀ p ∈ ps,p.1 ≠ key):vh ps key = ps:=List.filter_eq_self.2 fun p hp=>decide_eq_true (h p hp)
theorem Nv.without {D:Int -> Option Nd} {lo hi:Int} {x:Nd} {ps:List Pr} {qs:List Int} (hn:Nv D 0 lo hi x ps qs) (hr:zM x = true) (key:Int) :
  ((∀ p ∈ ps,p.1 ≠ key) /\ wP x key = .error 4) \/ ((∃ p ∈ ps,p.1 = key) /\ ∃ y,wP x key = .ok y /\ Nv D 0 lo hi y (vh ps key) [] /\ x.keys.length = y.keys.length + 1):=by
 obtain ⟨h1,h2,h3,h4,h5,h6,h7⟩:=hn;obtain ⟨keys,vals,kids⟩:=x;simp only at h1 h2 h3 h4 h5 h6;subst h1;have hs:yA ⟨keys,vals,[]⟩ key = (less keys key,decide (keys[less keys key]? = some key)):=by unfold yA; rw [if_pos hr]
 obtain ⟨a,ha⟩:∃ a,a = less keys key:=⟨_,rfl⟩
 have hat:∀ i (hi:i < keys.length),keys[i] < key ↔ i < a:=fun i hi=>by rw [ha]; exact YA h3 key hi
 rw [<- ha] at hs;unfold wP;rw [hs];by_cases hf:keys[a]? = some key
 ·refine .inr ?_;obtain ⟨hal,hae⟩:=List.getElem?_eq_some_iff.1 hf;simp only [hf,decide_true,if_true];have hlt:∀ z ∈ keys.take a,z < key:=fun z hz=>by
   obtain ⟨i,hi,rfl⟩:=zgD.1 hz;rw [zgW];rw [zfZ] at hi;exact (hat i (by omega)).2 (by omega)
  have hgt:∀ z ∈ keys.drop (a + 1),key < z:=fun z hz=>by
   obtain ⟨i,hi,rfl⟩:=zgD.1 hz;rw [zgH];rw [zf8] at hi;have:=List.pairwise_iff_getElem.1 h3 a (a + 1 + i) hal (by omega) (by omega);omega
  have hl:(keys.take a).length = (vals.take a).length:=by rw [zfZ,zfZ,h2]
  have e1:keys = keys.take a ++ key :: keys.drop (a + 1):=by rw [<- hae]; simp
  have e2:vals = vals.take a ++ vals[a]'(by omega) :: vals.drop (a + 1):=by simp
  have e4:keys.zip vals = (keys.take a).zip (vals.take a) ++ (key,vals[a]'(by omega)) :: (keys.drop (a + 1)).zip (vals.drop (a + 1)):=by
   conv=>lhs; rw [e1,e2]
   rw [List.zip_append hl];rfl
  refine ⟨⟨(key,vals[a]'(by omega)),by rw [h6,e4]; simp,rfl⟩,_,rfl,⟨rfl,by simp; omega,?_,fun z hz=>?_,fun v hv=>?_,?_,rfl⟩,by simp; omega⟩
  ·refine List.pairwise_append.2 ⟨h3.sublist (List.take_sublist _ _),h3.sublist (List.drop_sublist _ _),fun x hx y hy=>?_⟩;have:=hlt x hx;have:=hgt y hy;omega
  ·rcases zgf.1 hz with h | h
   ·exact h4 z (zgu h)
   ·exact h4 z (zgv h)
  ·rcases zgf.1 hv with h | h
   ·exact h5 v (zgu h)
   ·exact h5 v (zgv h)
  ·show vh ps key = (keys.take a ++ keys.drop (a + 1)).zip (vals.take a ++ vals.drop (a + 1));rw [h6,e4,jR,List.zip_append hl];congr 1
   ·refine vZ fun p hp=>?_
    have:=hlt _ (List.of_mem_zip hp).1;omega
   ·rw [show (key,vals[a]'(by omega)) :: (keys.drop (a + 1)).zip (vals.drop (a + 1)) = [(key,vals[a]'(by omega))] ++ (keys.drop (a + 1)).zip (vals.drop (a + 1)) from rfl,jR,vZ (ps:=(keys.drop (a + 1)).zip _) fun p hp=>?_]
    ·simp [vh]
    ·have:=hgt _ (List.of_mem_zip hp).1;omega
 ·refine .inl ⟨fun p hp e=>?_,?_⟩
  ·rw [h6] at hp;have hk:key ∈ keys:=by rw [<- e]; exact (List.of_mem_zip hp).1
   obtain ⟨i,hi,hie⟩:=zgD.1 hk;have h8:less keys key = i:=Km h3 key (by omega) (fun b hb=>by rw [<- hie]; exact List.pairwise_iff_getElem.1 h3 b i (by omega) (by omega) hb) (fun hb=>by rw [hie]; omega);rw [ha,h8,zfM hi,hie] at hf;exact hf rfl
  ·simp only [hf,decide_false,Bool.false_eq_true,if_false]
theorem Nv.join {D:Int -> Option Nd} {h:Nat} {lo m hi:Int} {x y:Nd} {p1 p2:List Pr} {q1 q2:List Int} (hx:Nv D h lo m x p1 q1) (hy:Nv D h m hi y p2 q2) (h1:lo <= m) (h2:m <= hi) (hb:0 < h -> x.kids.length = x.keys.length + 1) :
  Nv D h lo hi (vJ x m y) (p1 ++ p2) (q1 ++ q2) /\ (vJ x m y).keys.length = x.keys.length + y.keys.length + (if h = 0 then 0 else 1):=by
 cases h with
 | zero =>
  obtain ⟨a1,a2,a3,a4,a5,a6,a7⟩:=hx;obtain ⟨b1,b2,b3,b4,b5,b6,b7⟩:=hy;unfold vJ;rw [if_pos (by rw [a1]; rfl)];refine ⟨⟨by simp [a1,b1],by simp [a2,b2],List.pairwise_append.2 ⟨a3,b3,fun a ha b hb=>?_⟩,fun z hz=>?_,fun v hv=>?_,?_,by rw [a7,b7]; rfl⟩,by simp⟩
  ·have:=a4 a ha;have:=b4 b hb;omega
  ·rcases zgf.1 hz with hz | hz
   ·have:=a4 z hz; omega
   ·have:=b4 z hz; omega
  ·rcases zgf.1 hv with hv | hv
   ·exact a5 v hv
   ·exact b5 v hv
  ·show p1 ++ p2 = (x.keys ++ y.keys).zip (x.vals ++ y.vals);rw [List.zip_append a2.symm,a6,b6]
 | succ h =>
  obtain ⟨a1,a2⟩:=hx;obtain ⟨b1,b2⟩:=hy;have:=hb (by omega);unfold vJ;rw [if_neg (by omega)];refine ⟨⟨by simp [a1,b1],?_⟩,by simp; omega⟩;show Fo (Tr D h 3) lo hi (x.keys ++ [m] ++ y.keys) (x.kids ++ y.kids) _ _;rw [zgh];exact a2.app b2
theorem Tr.node {S:TS} {h mn:Nat} {lo hi k:Int} {ps:List Pr} {qs:List Int} (ht:Tr (Dm S) h mn lo hi k ps qs):∃ x qs',Dm S k = some x /\ qs = k :: qs' /\ Nv (Dm S) h lo hi x ps qs' /\ mn <= x.keys.length /\ (x.kids.length = 0 ↔ h = 0) /\ (0 < h -> x.kids.length = x.keys.length + 1 /\ x.keys ≠ []) /\ x.keys.length <= 7:=by
 cases h with
 | zero =>
  obtain ⟨keys,vals,h1,h2,h3,h4,h5,h6,h7⟩:=ht;have hr:=(vB h1).2;have h12:∀ v ∈ vals,v.size = 12:=fun v hv2=>by
   rcases (zm hr).2.2 with ⟨_,h6,_⟩ | ⟨h6,_⟩
   ·exact of_decide_eq_true (List.all_eq_true.1 h6 v hv2)
   ·exact absurd rfl h6
  exact ⟨_,[],h1,h7,⟨rfl,h2,h4,h5,h12,h6,rfl⟩,h3,by simp,(fun h=>by omega),(zm hr).2.1⟩
 | succ h =>
  obtain ⟨keys,kids,qs',h1,h2,h3,h4⟩:=ht;have hr:=(vB h1).2;have hl:=h3.len;exact ⟨_,qs',h1,h4,⟨rfl,h3⟩,h2.2,by simp only; omega,fun _=>⟨hl,h2.1⟩,(zm hr).2.1⟩
structure Mid (n:Nat) (firm:Nat -> List UInt8) (S S':TS) (A C:List Int):Prop where
 ok:OkT n S' firm
 nodup:C.Nodup
 used:∀ q ∈ C,usd S' q
 new:∀ q ∈ C,q ∈ A \/ inZ S.s q = false
 page:∀ j,usd S j -> j ∉ A -> usd S' j /\ Dm S' j = Dm S j
 only:∀ j,usd S' j -> (usd S j /\ j ∉ A) \/ j ∈ C
 keep:∀ j,inZ S.s j = true -> j ∉ A -> inZ S'.s j = true
section
variable {n:Nat} {firm:Nat -> List UInt8} {S S1 S2:TS} {A B C:List Int}
theorem Mid.refl (h:OkT n S firm):Mid n firm S S [] []:=⟨h,List.nodup_nil,(fun _ h=>by cases h),(fun _ h=>by cases h),fun j hj _=>⟨hj,rfl⟩,fun j hj=>.inl ⟨hj,by simp⟩,fun j hj _=>hj⟩
theorem Mid.trans (h:OkT n S firm) (h1:Mid n firm S S1 A B) (h2:Mid n firm S1 S2 B C):Mid n firm S S2 A C:=by
 have hB:∀ j,inZ S.s j = true -> j ∉ A -> j ∉ B:=fun j hj hn hb=>by
  rcases h1.new j hb with h | h
  ·exact hn h
  ·rw [hj] at h; cases h
 refine ⟨h2.ok,h2.nodup,h2.used,fun q hq=>?_,fun j hj hn=>?_,fun j hj=>?_,fun j hj hn=>h2.keep j (h1.keep j hj hn) (hB j hj hn)⟩
 ·rcases h2.new q hq with h3 | h3
  ·exact h1.new q h3
  ·by_cases hA:q ∈ A
   ·exact .inl hA
   ·cases h4:inZ S.s q with
    | false=>exact .inr rfl
    | true=>have:=h1.keep q h4 hA; rw [h3] at this; cases this
 ·obtain ⟨a1,a2⟩:=h1.page j hj hn;obtain ⟨b1,b2⟩:=h2.page j a1 (hB j (vt h hj) hn);exact ⟨b1,b2.trans a2⟩
 ·rcases h2.only j hj with ⟨h3,h4⟩ | h3
  ·rcases h1.only j h3 with h5 | h5
   ·exact .inl h5
   ·exact absurd h5 h4
  ·exact .inr h3
theorem Mid.frame (h:OkT n S firm) (h1:Mid n firm S S2 A C) {F:List Int} (hu:∀ q ∈ F,usd S q) (hn:F.Nodup) (hd:∀ q ∈ F,q ∉ A):Mid n firm S S2 (F ++ A) (F ++ C):=by
 refine ⟨h1.ok,zgE.2 ⟨hn,h1.nodup,fun a ha b hb e=>?_⟩,fun q hq=>?_,fun q hq=>?_,fun j hj hne=>?_,fun j hj=>?_,fun j hj hne=>?_⟩
 ·subst e;rcases h1.new a hb with h2 | h2
  ·exact hd a ha h2
  ·have:=vt h (hu a ha); rw [h2] at this; cases this
 ·rcases zgf.1 hq with hq | hq
  ·exact (h1.page q (hu q hq) (hd q hq)).1
  ·exact h1.used q hq
 ·rcases zgf.1 hq with hq | hq
  ·exact .inl (zfF _ hq)
  ·exact (h1.new q hq).imp (zgA _) id
 ·exact h1.page j hj fun hm=>hne (zgA _ hm)
 ·by_cases hf:j ∈ F
  ·exact .inr (zfF _ hf)
  ·rcases h1.only j hj with ⟨h2,h3⟩ | h2
   ·exact .inl ⟨h2,fun hm=>by rcases zgf.1 hm with hm | hm; exact hf hm; exact h3 hm⟩
   ·exact .inr (zgA _ h2)
 ·exact h1.keep j hj fun hm=>hne (zgA _ hm)
theorem Mid.perm (h1:Mid n firm S S2 A C) {A' C':List Int} (hA:∀ q,q ∈ A ↔ q ∈ A') (hC:C.Perm C'):Mid n firm S S2 A' C' :=
 ⟨h1.ok,hC.nodup_iff.1 h1.nodup,fun q hq=>h1.used q (hC.mem_iff.2 hq),fun q hq=>(h1.new q (hC.mem_iff.2 hq)).imp (hA q).1 id,fun j hj hn=>h1.page j hj fun hm=>hn ((hA j).1 hm),
  fun j hj=>(h1.only j hj).imp (fun h=>⟨h.1,fun hm=>h.2 ((hA j).2 hm)⟩) hC.mem_iff.1,fun j hj hn=>h1.keep j hj fun hm=>hn ((hA j).1 hm)⟩
theorem zb4.mid {os qs qn:List Int} (h:zb4 n firm S S1 os qs qn):Mid n firm S S1 (os ++ qs) qn :=
 ⟨h.ok,h.nodup,h.used,fun q hq=>(h.new q hq).imp (zgA _) id,fun j hj hn=>h.page j hj fun hm=>hn (zfF _ hm),
  fun j hj=>by
  by_cases hq:j ∈ qs
  ·exact .inr (h.sub j hq)
  ·rcases h.only j hj with ⟨h1,h2⟩ | h1
   ·exact .inl ⟨h1,fun hm=>by rcases zgf.1 hm with hm | hm; exact h2 hm; exact hq hm⟩
   ·exact .inr h1,
  fun j hj hn=>h.keep j hj fun hm=>hn (zfF _ hm)⟩
end
structure zaj (n:Nat) (firm:Nat -> List UInt8) (S S':TS) (hh mn:Nat) (lo hi i:Int) (x:Nd) (ps:List Pr) (qs qs':List Int):Prop where
 nv:Nv (Dm S') hh lo hi x ps qs'
 few:x.keys.length <= 7
 least:mn <= x.keys.length + 1
 kids:0 < hh -> x.kids.length = x.keys.length + 1
 mid:Mid n firm S S' qs.tail qs'
theorem zaj.at_ {n:Nat} {firm:Nat -> List UInt8} {S S':TS} {hh mn:Nat} {lo hi i:Int} {x:Nd} {ps:List Pr} {qt qs':List Int} (h:OkT n S firm) (hc:zaj n firm S S' hh mn lo hi i x ps (i :: qt) qs') (hu:usd S i) (hi0:i ∉ qt):Mid n firm S S' (i :: qt) (i :: qs') :=
 Mid.frame h hc.mid (F:=[i]) (fun q hq=>by rw [zga.1 hq]; exact hu) (by simp) (fun q hq=>by rw [zga.1 hq]; exact hi0)
theorem XV {n:Nat} {firm:Nat -> List UInt8} {S S2:TS} (h:OkT n S firm) {hh mn:Nat} {lo hi lo' hi' i:Int} {a b c d:List Int} {p0 p2 pm:List Pr} {q0 qm q2 qn:List Int} (hnd:(i :: (q0 ++ qm ++ q2)).Nodup) (hu:∀ q ∈ q0 ++ qm ++ q2,usd S q) (hm:Mid n firm S S2 qm qn)
  (ctx:∀ (R':Int -> Int -> Int -> List Pr -> List Int -> Prop) (ks cs:List Int) (p1':List Pr) (q1':List Int),(∀ lo hi k ps' qs',Tr (Dm S) hh 3 lo hi k ps' qs' -> (∀ q ∈ qs',q ∈ q0 \/ q ∈ q2) -> R' lo hi k ps' qs') ->
    Fo R' lo' hi' ks cs p1' q1' -> Fo R' lo hi (a ++ ks ++ b) (c ++ cs ++ d) (p0 ++ p1' ++ p2) (q0 ++ q1' ++ q2))
  {ks cs:List Int} (hf:Fo (Tr (Dm S2) hh 3) lo' hi' ks cs pm qn) (l1:mn <= (a ++ ks ++ b).length + 1) (l2:(a ++ ks ++ b).length <= 7) :
  zaj n firm S S2 (hh + 1) mn lo hi i ⟨a ++ ks ++ b,[],c ++ cs ++ d⟩ (p0 ++ pm ++ p2) (i :: (q0 ++ qm ++ q2)) (q0 ++ qn ++ q2):=by
 obtain ⟨n0,n1⟩:=zgF.1 hnd;obtain ⟨n2,n3,n4⟩:=zgE.1 n1;obtain ⟨n5,n6,n7⟩:=zgE.1 n2;have hF:(q0 ++ q2).Nodup:=zgE.2 ⟨n5,n3,fun x hx y hy=>n4 x (zfF _ hx) y hy⟩;have hmid:Mid n firm S S2 ((q0 ++ q2) ++ qm) ((q0 ++ q2) ++ qn):=by
  refine Mid.frame h hm (fun q hq=>hu q ?_) hF fun q hq hq2=>?_
  ·rcases zgf.1 hq with hq | hq
   ·exact zfF _ (zfF _ hq)
   ·exact zgA _ hq
  ·rcases zgf.1 hq with hq | hq
   ·exact n7 q hq q hq2 rfl
   ·exact n4 q (zgA _ hq2) q hq rfl
 have hfo:=ctx (Tr (Dm S2) hh 3) ks cs pm qn (fun lo hi k ps' qs' ht hq=>ht.imp fun q hq2=>by
  have hq3:=hq q hq2;have hq4:q ∈ q0 ++ q2:=by rcases hq3 with h | h; exact zfF _ h; exact zgA _ h
  refine (hm.page q (hu q ?_) fun hq5=>?_).2
  ·rcases hq3 with hq | hq
   ·exact zfF _ (zfF _ hq)
   ·exact zgA _ hq
  ·rcases hq3 with hq | hq
   ·exact n7 q hq q hq5 rfl
   ·exact n4 q (zgA _ hq5) q hq rfl) hf
 refine ⟨⟨rfl,hfo⟩,l2,l1,fun _=>hfo.len,hmid.perm (fun q=>?_) ?_⟩
 ·show q ∈ q0 ++ q2 ++ qm ↔ q ∈ q0 ++ qm ++ q2;simp only [zgf];constructor
  ·rintro ((h | h) | h)
   ·exact .inl (.inl h)
   ·exact .inr h
   ·exact .inl (.inr h)
  ·rintro ((h | h) | h)
   ·exact .inl (.inl h)
   ·exact .inr h
   ·exact .inl (.inr h)
 ·rw [zgh,zgh];exact List.Perm.append_left _ List.perm_append_comm
theorem zeZ {n:Nat} {firm:Nat -> List UInt8} {key:Int} (hh:Nat):∀ {S:TS} {mn f:Nat} {lo hi i:Int} {ps:List Pr} {qs:List Int},OkT n S firm -> Tr (Dm S) hh mn lo hi i ps qs -> (∀ q ∈ qs,usd S q) -> qs.Nodup ->
  lo <= key -> key < hi -> 0 <= lo -> hi <= 4294967296 -> hh + 1 <= f -> f <= 12 ->
  ((∀ p ∈ ps,p.1 ≠ key) /\ kN n f S i key = (.error 4,S)) \/ ((∃ p ∈ ps,p.1 = key) /\ ((∃ S',kN n f S i key = (.error 6,S') /\ vC n S (2 * f)) \/ ∃ x S' qs',kN n f S i key = (.ok x,S') /\ zaj n firm S S' hh mn lo hi i x (vh ps key) qs qs')):=by
 induction hh with
 | zero =>
  intro S mn f lo hi i ps qs h ht hu hnd hk1 hk2 hlo hhi hf hf2;obtain ⟨f,rfl⟩:∃ g,f = g + 1:=⟨f - 1,by omega⟩
  obtain ⟨x,qt,h1,rfl,hn,hmn,hk0,_,h7⟩:=ht.node;have hr:=(vB h1).2;have hld:=wK h1 (level:=12 - (f:Int)) (by omega);have hcut:kN n (f + 1) S i key = (wP x key,S):=by
   unfold kN;rw [hld];simp only;rw [if_pos (hk0.2 rfl)]
  obtain rfl:qt = []:=hn.2.2.2.2.2.2;rcases hn.without hr key with ⟨e1,e2⟩ | ⟨e1,y,e2,e3,e4⟩
  ·exact .inl ⟨e1,by rw [hcut,e2]⟩
  ·exact .inr ⟨e1,.inr ⟨y,S,[],by rw [hcut,e2],e3,by omega,by omega,(fun h=>by omega),Mid.refl h⟩⟩
 | succ hh ih =>
  intro S mn f lo hi i ps qs h ht hu hnd hk1 hk2 hlo hhi hf hf2;obtain ⟨f,rfl⟩:∃ g,f = g + 1:=⟨f - 1,by omega⟩
  obtain ⟨keys,kids,qt,h1,h2,h3,rfl⟩:=ht;have hr:=(vB h1).2;have hk7:keys.length <= 7:=(zm hr).2.1;have hld:=wK h1 (level:=12 - (f:Int)) (by omega);obtain ⟨s1,s2,s3⟩:=Zd hr key;obtain ⟨k,hk⟩:∃ k,k = yF ⟨keys,[],kids⟩ key:=⟨_,rfl⟩
  rw [<- hk] at s1 s2 s3;simp only at s1 s2 s3;have hl:=h3.len;have hkl:k < kids.length:=by omega
  have hk0:0 < keys.length:=Nat.pos_of_ne_zero fun e=>h2.1 (zgl.1 e)
  obtain ⟨kc1,kc2,kc3,kc4,kc5⟩:=h3.kids;have hi0:=zgF.1 hnd;have hcut:kN n (f + 1) S i key = (match kN n f S (kids.getD k 0) key with
    | (.error c,S1)=>(.error c,S1)
    | (.ok y,S1)=>if y.keys.length < 3 then kJ n S1 ⟨keys,[],kids⟩ k (13 - f:Int) y else zS n S1 ⟨keys,[],kids⟩ k 1 y):=by
   show (match yp S i (12 - (f:Int)) with | .error c=>(Except.error c,S) | .ok x=>_) = _;rw [hld];simp only;rw [if_neg (by omega),<- hk];cases kN n f S (kids.getD k 0) key with
   | mk o S1=>cases o <;> rfl
  obtain ⟨j,hj⟩:∃ j,j = if k = keys.length then k - 1 else k:=⟨_,rfl⟩
  have hjl:j < keys.length:=by rw [hj]; split <;> omega
  obtain ⟨u,hu0⟩:∃ u,u = kids[j]'(by omega):=⟨_,rfl⟩
  obtain ⟨v,hv0⟩:∃ v,v = kids[j + 1]'(by omega):=⟨_,rfl⟩
  obtain ⟨m,hm0⟩:∃ m,m = keys[j]:=⟨_,rfl⟩
  have ekk:keys = keys.take j ++ ([m] ++ keys.drop (j + 1)):=by rw [hm0]; simp
  have edr:kids.drop j = u :: v :: kids.drop (j + 2):=by rw [zgS (by omega),zgS (by omega),hu0,hv0]
  have ek:kids = kids.take j ++ ([u,v] ++ kids.drop (j + 2)):=by
   conv=>lhs; rw [<- zgG j kids,edr]
   rfl
  have h3':Fo (Tr (Dm S) hh 3) lo hi (keys.take j ++ ([m] ++ keys.drop (j + 1))) (kids.take j ++ ([u,v] ++ kids.drop (j + 2))) ps qt:=by rw [<- ek,<- ekk]; exact h3
  have la:(keys.take j).length = j:=by rw [zfZ]; omega
  have lb:(keys.drop (j + 1)).length = keys.length - (j + 1):=by rw [zf8]
  obtain ⟨lo',hi',p0,pm,p2,q0,qm,q2,rfl,rfl,t1,e4,e5,e6,e7,ctx⟩:=Fo.seg (by rw [zfZ,la]; omega) rfl h3';obtain ⟨_,_,pu,qu,pv,qv,hcc,rfl,rfl,tu,w,hww,tv⟩:=t1;simp only [List.cons.injEq] at hcc;obtain ⟨rfl,rfl⟩:=hcc;simp only [List.cons.injEq,and_true] at hww;subst hww;have hlo':lo' = lo \/ lo' ∈ keys.take j:=by
   have:=List.getLast_mem (l:=lo :: keys.take j) (by simp);rw [<- e4] at this;exact zgz.1 this
  have hhi':hi' ∈ keys.drop (j + 1) \/ hi' = hi:=by
   have:=List.head_mem (l:=keys.drop (j + 1) ++ [hi]) (by simp);rw [<- e5] at this;rcases zgf.1 this with h | h
   ·exact .inl h
   ·exact .inr (zga.1 h)
  have hjk:j <= k:=by rw [hj]; split <;> omega
  have ta:∀ z ∈ keys.take j,z <= key:=fun z hz=>s1 z (by
   obtain ⟨i2,hi2,rfl⟩:=zgD.1 hz;rw [zfZ] at hi2;rw [zgW];exact zgD.2 ⟨i2,by rw [zfZ]; omega,by rw [zgW]⟩)
  have tb:∀ z ∈ keys.drop (j + 1),key < z:=fun z hz=>s2 z (by
   obtain ⟨i2,hi2,rfl⟩:=zgD.1 hz;rw [zf8] at hi2;rw [zgH];have hne:k ≠ keys.length:=fun e=>by rw [if_pos e] at hj; omega
   rw [if_neg hne] at hj;exact zgD.2 ⟨1 + i2,by rw [zf8]; omega,by rw [zgH]; congr 1; omega⟩)
  have c1:lo' <= key:=by
   rcases hlo' with rfl | h
   ·exact hk1
   ·exact ta _ h
  have c2:key < hi':=by
   rcases hhi' with h | rfl
   ·exact tb _ h
   ·exact hk2
  have c3:0 <= lo':=by
   rcases hlo' with rfl | h
   ·exact hlo
   ·have:=(kc4 _ (zgu h)).1; omega
  have c4:hi' <= 4294967296:=by
   rcases hhi' with h | rfl
   ·have:=(kc4 _ (zgv h)).2; omega
   ·exact hhi
  have bu:=tu.bounds (.inl (by decide));have bv:=tv.bounds (.inl (by decide));have d0:∀ p ∈ p0,p.1 ≠ key:=fun p hp2=>by
   obtain ⟨_,_,_,_,_,g1,g2,g3⟩:=e6 p hp2;have:=(g1.bounds (.inl (by decide))).2 p g2;have:=ta _ g3;omega
  have d2:∀ p ∈ p2,p.1 ≠ key:=fun p hp2=>by
   obtain ⟨_,_,_,_,_,g1,g2,g3⟩:=e7 p hp2;have:=(g1.bounds (.inl (by decide))).2 p g2;have:=tb _ g3;omega
  obtain ⟨n1,n2,n3⟩:=zgE.1 hi0.2;obtain ⟨n4,n5,n6⟩:=zgE.1 n1;obtain ⟨n7,n8,n9⟩:=zgE.1 n5;have uu:∀ q ∈ q0 ++ (qu ++ qv) ++ q2,usd S q:=fun q hq=>hu q (zgB _ hq)
  have uqu:∀ q ∈ qu,usd S q:=fun q hq=>uu q (zfF _ (zgA _ (zfF _ hq)))
  have uqv:∀ q ∈ qv,usd S q:=fun q hq=>uu q (zfF _ (zgA _ (zgA _ hq)))
  have hd:∀ pm':List Pr,vh (p0 ++ (pu ++ pv) ++ p2) key = p0 ++ (vh pu key ++ vh pv key) ++ p2:=fun _=>by
   rw [jR,jR,jR,vZ d0,vZ d2]
  rw [hd []];have hlen:∀ ks:List Int,(keys.take j ++ ks ++ keys.drop (j + 1)).length = keys.length - 1 + ks.length:=fun ks=>by
   rw [List.length_append,List.length_append,la,lb]; omega
  by_cases hlast:k = keys.length
  ·-- the last child: its neighbour is the one ahead
   rw [if_pos hlast] at hj;have hkm:m <= key:=by
    refine s1 m ?_;rw [hm0];exact zgD.2 ⟨j,by rw [zfZ]; omega,by rw [zgW]⟩
   have du:∀ p ∈ pu,p.1 ≠ key:=fun p hp=>by have:=(bu.2 p hp).2; omega
   have hkd:kids.getD k 0 = v:=by rw [zfL,show k = j + 1 by omega,zfM (by omega),<- hv0]; rfl
   rw [vZ du];rw [hkd] at hcut;have hst:=kX f h v key;rcases ih (f:=f) h tv uqv n8 hkm c2 (by omega) c4 (by omega) (by omega) with ⟨e1,e2⟩ | ⟨e1,e2⟩
   ·refine .inl ⟨fun p hp=>?_,by rw [hcut,e2]⟩;rcases zgf.1 hp with hp | hp
    ·rcases zgf.1 hp with hp | hp
     ·exact d0 p hp
     ·rcases zgf.1 hp with hp | hp
      ·exact du p hp
      ·exact e1 p hp
    ·exact d2 p hp
   refine .inr ⟨?_,?_⟩
   ·obtain ⟨p,hp,e⟩:=e1;exact ⟨p,zfF _ (zgA _ (zgA _ hp)),e⟩
   rcases e2 with ⟨S1,e2,e3⟩ | ⟨y,S1,qy,e2,hy⟩
   ·exact .inl ⟨S1,by rw [hcut,e2],e3.more (by omega)⟩
   rw [e2] at hst;obtain ⟨xv,qtv,hxv,rfl⟩:=tv.head;obtain ⟨z,qtu,hz,rfl,nz,hz3,hzk,hzl,hz7⟩:=tu.node;have m1:=hy.at_ h (uqv v zgU) (zgF.1 n8).1;have m2:=Mid.frame h m1 uqu n7 fun q hq hq2=>n9 q hq q hq2 rfl
   have hzS1:Dm S1 u = some z:=(m1.page u (uqu u zgU) (fun hm=>n9 u zgU u hm rfl)).2.trans hz;have nz1:Nv (Dm S1) hh lo' m z pu qtu:=nz.imp fun q hq=>(m1.page q (uqu q (zgB _ hq)) fun hm=>n9 q (zgB _ hq) q hm rfl).2
   by_cases hy3:y.keys.length < 3
   ·obtain ⟨nj,lj⟩:=nz1.join hy.nv (Int.le_of_lt bu.1) (Int.le_of_lt bv.1) (fun h0=>(hzl h0).1);have hy2:=hy.least;have hnd2:(qtu ++ qy).Nodup:=by
     have:=m2.nodup;rw [zgL] at this;have h5:=(zgF.1 this).2;obtain ⟨g1,g2,g3⟩:=zgE.1 h5;exact zgE.2 ⟨g1,(zgF.1 g2).2,fun a ha b hb=>g3 a ha b (zgB _ hb)⟩
    have hvq:v ∉ qtu ++ qy /\ u ∉ qtu ++ qy /\ u ≠ v:=by
     have:=m2.nodup;rw [zgL] at this;obtain ⟨g0,h5⟩:=zgF.1 this;obtain ⟨g1,g2,g3⟩:=zgE.1 h5;refine ⟨fun hm=>?_,fun hm=>g0 ?_,fun e=>g0 (by rw [e]; simp)⟩
     ·rcases zgf.1 hm with hm | hm
      ·exact g3 v hm v zgU rfl
      ·exact (zgF.1 g2).1 hm
     ·rcases zgf.1 hm with hm | hm
      ·exact zfF _ hm
      ·exact zgA _ (zgB _ hm)
    have hmend:kJ n S1 ⟨keys,[],kids⟩ k (13 - f:Int) y = zS n S1 ⟨keys,[],kids⟩ (k - 1) 2 (vJ z m y):=by
     unfold kJ;have ho:jH ⟨keys,[],kids⟩ k = j:=by unfold jH; rw [if_pos hlast]; omega
     have ho2:kids.getD j 0 = u:=by rw [zfL,zfM (by omega),<- hu0]; rfl
     have ho3:keys.getD (k - 1) 0 = m:=by rw [<- hj,zfL,zfM (by omega),<- hm0]; rfl
     simp only [ho,ho2,wK hzS1 (level:=13 - (f:Int)) (by omega),ho3];have hleaf:decide (z.kids.length = 0) = decide (y.kids.length = 0):=by
      rcases Nat.eq_zero_or_pos hh with h0 | h0
      ·subst h0;rw [decide_eq_true (hzk.2 rfl),decide_eq_true (by rw [hy.nv.1]; rfl)]
      ·rw [decide_eq_false (by have:=(hzl h0).1; omega),decide_eq_false (by have:=hy.kids h0; omega)]
     rw [if_neg (by rw [hleaf]; exact fun h=>h rfl),if_pos hlast]
    have hold:((⟨keys,[],kids⟩:Nd).kids.drop (k - 1)).take 2 = [u,v]:=by
     show (kids.drop (k - 1)).take 2 = [u,v]
     rw [<- hj,edr]; rfl
    rcases vY (mn:=3) m2.ok nj (fun q hq=>m2.used q (by
      rcases zgf.1 hq with hq | hq
      ·exact zfF _ (zgB _ hq)
      ·exact zgA _ (zgB _ hq))) hnd2 (by split at lj <;> omega) (by split at lj <;> omega) (by split at lj <;> omega) c3 c4 (os:=[u,v])
      (fun o ho=>m2.used o (by simp only [zgz,zgV,or_false] at ho; rcases ho with rfl | rfl <;> simp)) (by simpa using hvq.2.2) (fun o ho=>by simp only [zgz,zgV,or_false] at ho; rcases ho with rfl | rfl; exact hvq.2.1; exact hvq.1) with ⟨S2,hc,hnr⟩ | ⟨bk,ks,S2,qn,hc,hfo,hb1,hb7,hb8,hch⟩
    ·refine .inl ⟨S2,?_,(hnr.stay hst).more (by omega)⟩;rw [hcut,e2];simp only;rw [if_pos hy3,hmend];simp only [zS,hold,hc]
    ·have mm:Mid n firm S S2 ((u :: qtu) ++ (v :: qtv)) qn:=Mid.trans h m2 (hch.mid.perm (fun q=>by simp only [zgf,zgz,zgV,or_false]; constructor <;> (intro h; rcases h with (h | h) | h | h <;> simp [h])) (List.Perm.refl _));have hfin:=XV (mn:=mn) h hnd uu mm ctx hfo (by rw [hlen]; have:=h2.2; omega) (by rw [hlen]; omega);refine .inr ⟨_,S2,_,?_,hfin⟩;rw [hcut,e2];simp only;rw [if_pos hy3,hmend];simp only [zS,hold,hc];rw [show k - 1 + 2 - 1 = j + 1 by omega,show k - 1 + 2 = j + 2 by omega,<- hj]
   ·have hold:((⟨keys,[],kids⟩:Nd).kids.drop k).take 1 = [v]:=by
     show (kids.drop k).take 1 = [v]
     rw [show k = j + 1 by omega,zgS (by omega),hv0]; rfl
    have hvq:v ∉ qy:=(zgF.1 m1.nodup).1;rcases vY (mn:=3) m1.ok hy.nv (fun q hq=>m1.used q (zgB _ hq)) (zgF.1 m1.nodup).2 (by have:=hy.few; omega) ⟨by omega,Nat.le_refl _⟩ (by omega) (by omega) c4 (os:=[v])
      (fun o ho=>by rw [zga.1 ho]; exact m1.used v zgU) (by simp) (fun o ho=>by rw [zga.1 ho]; exact hvq) with ⟨S2,hc,hnr⟩ | ⟨bk,ks,S2,qn,hc,hfo,hb1,hb7,hb8,hch⟩
    ·refine .inl ⟨S2,?_,(hnr.stay hst).more (by omega)⟩;rw [hcut,e2];simp only;rw [if_neg hy3];simp only [zS,hold,hc]
    ·obtain rfl:=hb7 hy.few;obtain ⟨k',rfl,tk⟩:=hfo;have m3:Mid n firm S S2 (v :: qtv) qn:=Mid.trans h m1 hch.mid;have mm:Mid n firm S S2 ((u :: qtu) ++ (v :: qtv)) ((u :: qtu) ++ qn):=Mid.frame h m3 uqu n7 fun q hq hq2=>n9 q hq q hq2 rfl
     have tu2:Tr (Dm S2) hh 3 lo' m u pu (u :: qtu):=tu.imp fun q hq=>(m3.page q (uqu q hq) fun hm=>n9 q hq q hm rfl).2
     have hfin:=XV (mn:=mn) h hnd uu mm ctx (ks:=[m]) (cs:=[u,k']) ⟨u,[k'],pu,u :: qtu,vh pv key,qn,rfl,rfl,rfl,tu2,k',rfl,tk⟩ (by rw [hlen]; have:=h2.2; simp; omega) (by rw [hlen]; simp; omega);refine .inr ⟨_,S2,_,?_,hfin⟩;rw [hcut,e2];simp only;rw [if_neg hy3];simp only [zS,hold,hc];have x1:keys.take k ++ [] ++ keys.drop (k + 1 - 1) = keys.take j ++ [m] ++ keys.drop (j + 1):=by
      rw [zgx,Nat.add_sub_cancel,zgG,zgh]; exact ekk
     have x2:kids.take k ++ [k'] ++ kids.drop (k + 1) = kids.take j ++ [u,k'] ++ kids.drop (j + 2):=by
      rw [show k = j + 1 by omega,List.take_add_one,zfM (by omega),<- hu0];simp
     rw [x1,x2]
  ·rw [if_neg hlast] at hj;subst hj;have hkm:key < m:=by
    refine s2 m ?_;rw [hm0];exact zgD.2 ⟨0,by rw [zf8]; omega,by rw [zgH]; rfl⟩
   have dv:∀ p ∈ pv,p.1 ≠ key:=fun p hp=>by have:=(bv.2 p hp).1; omega
   have hkd:kids.getD j 0 = u:=by rw [zfL,zfM (by omega),<- hu0]; rfl
   rw [vZ dv];rw [hkd] at hcut;have hst:=kX f h u key;rcases ih (f:=f) h tu uqu n7 c1 hkm c3 (by omega) (by omega) (by omega) with ⟨e1,e2⟩ | ⟨e1,e2⟩
   ·refine .inl ⟨fun p hp=>?_,by rw [hcut,e2]⟩;rcases zgf.1 hp with hp | hp
    ·rcases zgf.1 hp with hp | hp
     ·exact d0 p hp
     ·rcases zgf.1 hp with hp | hp
      ·exact e1 p hp
      ·exact dv p hp
    ·exact d2 p hp
   refine .inr ⟨?_,?_⟩
   ·obtain ⟨p,hp,e⟩:=e1;exact ⟨p,zfF _ (zgA _ (zfF _ hp)),e⟩
   rcases e2 with ⟨S1,e2,e3⟩ | ⟨y,S1,qy,e2,hy⟩
   ·exact .inl ⟨S1,by rw [hcut,e2],e3.more (by omega)⟩
   rw [e2] at hst;obtain ⟨xu,qtu,hxu,rfl⟩:=tu.head;obtain ⟨z,qtv,hz,rfl,nz,hz3,hzk,hzl,hz7⟩:=tv.node;have m1:=hy.at_ h (uqu u zgU) (zgF.1 n7).1;have m2:=Mid.frame h m1 uqv n8 fun q hq hq2=>n9 q hq2 q hq rfl
   have hzS1:Dm S1 v = some z:=(m1.page v (uqv v zgU) (fun hm=>n9 v hm v zgU rfl)).2.trans hz;have nz1:Nv (Dm S1) hh m hi' z pv qtv:=nz.imp fun q hq=>(m1.page q (uqv q (zgB _ hq)) fun hm=>n9 q hm q (zgB _ hq) rfl).2
   by_cases hy3:y.keys.length < 3
   ·obtain ⟨nj,lj⟩:=hy.nv.join nz1 (Int.le_of_lt bu.1) (Int.le_of_lt bv.1) hy.kids;have hy2:=hy.least;have hnd2:(qy ++ qtv).Nodup /\ v ∉ qy ++ qtv /\ u ∉ qy ++ qtv /\ u ≠ v:=by
     have:=m2.nodup;rw [zgL] at this;obtain ⟨g0,h5⟩:=zgF.1 this;obtain ⟨g1,g2,g3⟩:=zgE.1 h5;obtain ⟨g4,g5⟩:=zgF.1 g2;refine ⟨zgE.2 ⟨g5,g1,fun a ha b hb e=>g3 b hb a (zgB _ ha) e.symm⟩,fun hm=>g0 ?_,fun hm=>?_,fun e=>g0 (by rw [e]; simp)⟩
     ·rcases zgf.1 hm with hm | hm
      ·exact zgA _ (zgB _ hm)
      ·exact zfF _ hm
     ·rcases zgf.1 hm with hm | hm
      ·exact g4 hm
      ·exact g3 u hm u zgU rfl
    have hmend:kJ n S1 ⟨keys,[],kids⟩ j (13 - f:Int) y = zS n S1 ⟨keys,[],kids⟩ j 2 (vJ y m z):=by
     unfold kJ;have ho:jH ⟨keys,[],kids⟩ j = j + 1:=by unfold jH; rw [if_neg hlast]
     have ho2:kids.getD (j + 1) 0 = v:=by rw [zfL,zfM (by omega),<- hv0]; rfl
     have ho3:keys.getD j 0 = m:=by rw [zfL,zfM (by omega),<- hm0]; rfl
     simp only [ho,ho2,wK hzS1 (level:=13 - (f:Int)) (by omega),ho3];have hleaf:decide (z.kids.length = 0) = decide (y.kids.length = 0):=by
      rcases Nat.eq_zero_or_pos hh with h0 | h0
      ·subst h0;rw [decide_eq_true (hzk.2 rfl),decide_eq_true (by rw [hy.nv.1]; rfl)]
      ·rw [decide_eq_false (by have:=(hzl h0).1; omega),decide_eq_false (by have:=hy.kids h0; omega)]
     rw [if_neg (by rw [hleaf]; exact fun h=>h rfl),if_neg hlast]
    have hold:((⟨keys,[],kids⟩:Nd).kids.drop j).take 2 = [u,v]:=by
     show (kids.drop j).take 2 = [u,v]
     rw [edr]; rfl
    rcases vY (mn:=3) m2.ok nj (fun q hq=>m2.used q (by
      rcases zgf.1 hq with hq | hq
      ·exact zgA _ (zgB _ hq)
      ·exact zfF _ (zgB _ hq))) hnd2.1 (by split at lj <;> omega) (by split at lj <;> omega) (by split at lj <;> omega) c3 c4 (os:=[u,v])
      (fun o ho=>m2.used o (by simp only [zgz,zgV,or_false] at ho; rcases ho with rfl | rfl <;> simp)) (by simpa using hnd2.2.2.2) (fun o ho=>by simp only [zgz,zgV,or_false] at ho; rcases ho with rfl | rfl; exact hnd2.2.2.1; exact hnd2.2.1) with ⟨S2,hc,hnr⟩ | ⟨bk,ks,S2,qn,hc,hfo,hb1,hb7,hb8,hch⟩
    ·refine .inl ⟨S2,?_,(hnr.stay hst).more (by omega)⟩;rw [hcut,e2];simp only;rw [if_pos hy3,hmend];simp only [zS,hold,hc]
    ·have mm:Mid n firm S S2 ((v :: qtv) ++ (u :: qtu)) qn:=Mid.trans h m2 (hch.mid.perm (fun q=>by simp only [zgf,zgz,zgV,or_false]; constructor <;> (intro h; rcases h with (h | h) | h | h <;> simp [h])) (List.Perm.refl _));have mm2:Mid n firm S S2 ((u :: qtu) ++ (v :: qtv)) qn:=mm.perm (fun q=>by rw [zgf,zgf]; exact Or.comm) (List.Perm.refl _);have hfin:=XV (mn:=mn) h hnd uu mm2 ctx hfo (by rw [hlen]; have:=h2.2; omega) (by rw [hlen]; omega);refine .inr ⟨_,S2,_,?_,hfin⟩;rw [hcut,e2];simp only;rw [if_pos hy3,hmend];simp only [zS,hold,hc];rfl
   ·have hold:((⟨keys,[],kids⟩:Nd).kids.drop j).take 1 = [u]:=by
     show (kids.drop j).take 1 = [u]
     rw [edr]; rfl
    have hvq:u ∉ qy:=(zgF.1 m1.nodup).1;rcases vY (mn:=3) m1.ok hy.nv (fun q hq=>m1.used q (zgB _ hq)) (zgF.1 m1.nodup).2 (by have:=hy.few; omega) ⟨by omega,Nat.le_refl _⟩ (by omega) c3 (by omega) (os:=[u])
      (fun o ho=>by rw [zga.1 ho]; exact m1.used u zgU) (by simp) (fun o ho=>by rw [zga.1 ho]; exact hvq) with ⟨S2,hc,hnr⟩ | ⟨bk,ks,S2,qn,hc,hfo,hb1,hb7,hb8,hch⟩
    ·refine .inl ⟨S2,?_,(hnr.stay hst).more (by omega)⟩;rw [hcut,e2];simp only;rw [if_neg hy3];simp only [zS,hold,hc]
    ·obtain rfl:=hb7 hy.few;obtain ⟨k',rfl,tk⟩:=hfo;have m3:Mid n firm S S2 (u :: qtu) qn:=Mid.trans h m1 hch.mid;have mm:Mid n firm S S2 ((v :: qtv) ++ (u :: qtu)) ((v :: qtv) ++ qn):=Mid.frame h m3 uqv n8 fun q hq hq2=>n9 q hq2 q hq rfl
     have mm2:Mid n firm S S2 ((u :: qtu) ++ (v :: qtv)) (qn ++ (v :: qtv)):=mm.perm (fun q=>by rw [zgf,zgf]; exact Or.comm) List.perm_append_comm;have tv2:Tr (Dm S2) hh 3 m hi' v pv (v :: qtv):=tv.imp fun q hq=>(m3.page q (uqv q hq) fun hm=>n9 q hm q hq rfl).2
     have hfin:=XV (mn:=mn) h hnd uu mm2 ctx (ks:=[m]) (cs:=[k',v]) ⟨k',[v],vh pu key,qn,pv,v :: qtv,rfl,rfl,rfl,tk,v,rfl,tv2⟩ (by rw [hlen]; have:=h2.2; simp; omega) (by rw [hlen]; simp; omega);refine .inr ⟨_,S2,_,?_,hfin⟩;rw [hcut,e2];simp only;rw [if_neg hy3];simp only [zS,hold,hc];have x1:keys.take j ++ [] ++ keys.drop (j + 1 - 1) = keys.take j ++ [m] ++ keys.drop (j + 1):=by
      rw [zgx,Nat.add_sub_cancel,zgG,zgh]; exact ekk
     have x2:kids.take j ++ [k'] ++ kids.drop (j + 1) = kids.take j ++ [k',v] ++ kids.drop (j + 2):=by
      rw [zgS (i:=j + 1) (by omega),<- hv0];simp
     rw [x1,x2]
