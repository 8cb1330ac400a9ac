/-
  Tm. Conditions: as said.
-/
import Derived.Test.YtafclmbecmgbnaaGreatDoorTrModel
open List renaming mem_append_left -> zfS,mem_append_right -> zfT,mem_cons -> zfU,mem_append -> zfy,mem_cons_of_mem -> zfV,length_take -> zfj,mem_singleton -> zft,length_append -> zfk,length_drop -> zfr,mem_iff_getElem -> zfX,nodup_append -> zfY,nodup_cons -> zfZ,getElem?_eq_getElem -> ze7,take_append_drop -> zf0,getElem_drop -> zf1,zip_append -> zf2,mem_of_mem_take -> zfO,mem_of_mem_drop -> zfP,getD_eq_getElem?_getD -> ze6,cons_append -> zf3,of_mem_zip -> zf4,length_nil -> zf5,filter_cons_of_neg -> zf6,length_cons -> ze4,pairwise_iff_getElem -> zfL,filter_eq_self -> zf8,filter_eq_nil_iff -> zf9,drop_eq_getElem_cons -> zga,mem_of_mem_tail -> zgb
open Nat renaming le_refl -> ze3,eq_zero_or_pos -> zf7
open Int renaming le_refl -> zfW
open Bool renaming or_eq_true_iff -> zfo
namespace Go.Proofs.YtafclmbecmgbnaaGreatDoor
section
abbrev Pr:=Int × ByteArray
def Fo (R:Int -> Int -> Int -> List Pr -> List Int -> Prop):Int -> Int -> List Int -> List Int -> List Pr -> List Int -> Prop
 | lo,hi,[],kids,ps,qs=>∃ k,kids = [k] /\ R lo hi k ps qs
 | lo,hi,m :: keys,kids,ps,qs=>∃ k kids' p1 q1 p2 q2,kids = k :: kids' /\ ps = p1 ++ p2 /\ qs = q1 ++ q2 /\ R lo m k p1 q1 /\ Fo R m hi keys kids' p2 q2
def Tr (D:Int -> Option Nd):Nat -> Nat -> Int -> Int -> Int -> List Pr -> List Int -> Prop
 | 0,mn,lo,hi,k,ps,qs=>∃ keys vals,D k = some ⟨keys,vals,[]⟩ /\ vals.length = keys.length /\ mn <= keys.length /\ keys.Pairwise (· < ·) /\ (∀ z ∈ keys,lo <= z /\ z < hi) /\ ps = keys.zip vals /\ qs = [k]
 | h + 1,mn,lo,hi,k,ps,qs=>∃ keys kids qs',D k = some ⟨keys,[],kids⟩ /\ (keys ≠ [] /\ mn <= keys.length) /\ Fo (Tr D h 3) lo hi keys kids ps qs' /\ qs = k :: qs'
theorem Fo.imp {R R':Int -> Int -> Int -> List Pr -> List Int -> Prop} {keys:List Int}:∀ {lo hi:Int} {kids:List Int} {ps:List Pr} {qs:List Int},Fo R lo hi keys kids ps qs ->
  (∀ lo hi k ps' qs',R lo hi k ps' qs' -> (∀ q ∈ qs',q ∈ qs) -> R' lo hi k ps' qs') -> Fo R' lo hi keys kids ps qs:=by
 induction keys with
 | nil =>
  rintro lo hi kids ps qs ⟨k,h1,h2⟩ hi2;exact ⟨k,h1,hi2 _ _ _ _ _ h2 fun q hq=>hq⟩
 | cons m keys ih =>
  rintro lo hi kids ps qs ⟨k,kids',p1,q1,p2,q2,h1,h2,h3,h4,h5⟩ hi2;subst h3;exact ⟨k,kids',p1,q1,p2,q2,h1,h2,rfl,hi2 _ _ _ _ _ h4 fun q hq=>zfS _ hq,ih h5 fun _ _ _ _ _ h hq=>hi2 _ _ _ _ _ h fun q h=>zfT _ (hq q h)⟩
theorem Fo.len {R:Int -> Int -> Int -> List Pr -> List Int -> Prop} {keys:List Int}:∀ {lo hi:Int} {kids:List Int} {ps:List Pr} {qs:List Int},Fo R lo hi keys kids ps qs -> kids.length = keys.length + 1:=by
 induction keys with
 | nil=>rintro lo hi kids ps qs ⟨k,rfl,_⟩; rfl
 | cons m keys ih =>
  rintro lo hi kids ps qs ⟨k,kids',p1,q1,p2,q2,rfl,_,_,_,h5⟩;simp [ih h5]
theorem Fo.of_mem {R:Int -> Int -> Int -> List Pr -> List Int -> Prop} {keys:List Int}:∀ {lo hi:Int} {kids:List Int} {ps:List Pr} {qs:List Int},Fo R lo hi keys kids ps qs ->
  ∀ p ∈ ps,∃ lo2 hi2 k2 ps2 qs2,R lo2 hi2 k2 ps2 qs2 /\ p ∈ ps2 /\ lo2 ∈ lo :: keys /\ hi2 ∈ keys ++ [hi]:=by
 induction keys with
 | nil =>
  rintro lo hi kids ps qs ⟨k,_,h2⟩ p hp;exact ⟨lo,hi,k,ps,qs,h2,hp,by simp,by simp⟩
 | cons m keys ih =>
  rintro lo hi kids ps qs ⟨k,kids',p1,q1,p2,q2,_,rfl,_,h4,h5⟩ p hp;rcases zfy.1 hp with hp | hp
  ·exact ⟨lo,m,k,p1,q1,h4,hp,by simp,by simp⟩
  ·obtain ⟨lo2,hi2,k2,ps2,qs2,h6,h7,h8,h9⟩:=ih h5 p hp;exact ⟨lo2,hi2,k2,ps2,qs2,h6,h7,zfV _ h8,by simp only [zf3,zfU]; exact .inr h9⟩
theorem Fo.app {R:Int -> Int -> Int -> List Pr -> List Int -> Prop} {ks:List Int}:∀ {lo m hi:Int} {cs b d:List Int} {p1 p2:List Pr} {q1 q2:List Int},Fo R lo m ks cs p1 q1 -> Fo R m hi b d p2 q2 -> Fo R lo hi (ks ++ m :: b) (cs ++ d) (p1 ++ p2) (q1 ++ q2):=by
 induction ks with
 | nil =>
  rintro lo m hi cs b d p1 p2 q1 q2 ⟨k,rfl,h2⟩ h3;exact ⟨k,d,p1,q1,p2,q2,rfl,rfl,rfl,h2,h3⟩
 | cons x ks ih =>
  rintro lo m hi cs b d p1 p2 q1 q2 ⟨k,kids',p3,q3,p4,q4,rfl,rfl,rfl,h4,h5⟩ h3;exact ⟨k,kids' ++ d,p3,q3,p4 ++ p2,q4 ++ q2,by simp,by simp,by simp,h4,ih h5 h3⟩
theorem Fo.split {R:Int -> Int -> Int -> List Pr -> List Int -> Prop} {a:List Int}:∀ {lo hi:Int} {b c d:List Int} {k:Int} {ps:List Pr} {qs:List Int},c.length = a.length -> Fo R lo hi (a ++ b) (c ++ k :: d) ps qs ->
  ∃ lo' hi' p0 p1 p2 q0 q1 q2,ps = p0 ++ p1 ++ p2 /\ qs = q0 ++ q1 ++ q2 /\ R lo' hi' k p1 q1 /\ lo' = (lo :: a).getLast (by simp) /\ hi' = (b ++ [hi]).head (by simp) /\
   (∀ p ∈ p0,∃ lo2 hi2 k2 ps2 qs2,R lo2 hi2 k2 ps2 qs2 /\ p ∈ ps2 /\ hi2 ∈ a) /\ (∀ p ∈ p2,∃ lo2 hi2 k2 ps2 qs2,R lo2 hi2 k2 ps2 qs2 /\ p ∈ ps2 /\ lo2 ∈ b) /\
   ∀ (R':Int -> Int -> Int -> List Pr -> List Int -> Prop) (ks cs:List Int) (p1':List Pr) (q1':List Int),(∀ lo hi k ps' qs',R lo hi k ps' qs' -> (∀ q ∈ qs',q ∈ q0 \/ q ∈ q2) -> R' lo hi k ps' qs') ->
    Fo R' lo' hi' ks cs p1' q1' -> Fo R' lo hi (a ++ ks ++ b) (c ++ cs ++ d) (p0 ++ p1' ++ p2) (q0 ++ q1' ++ q2):=by
 induction a with
 | nil =>
  intro lo hi b c d k ps qs hl h;obtain rfl:=List.length_eq_zero_iff.1 hl;cases b with
  | nil =>
   obtain ⟨k',h1,h2⟩:=h;simp only [List.nil_append,List.cons.injEq] at h1;obtain ⟨rfl,rfl⟩:=h1;refine ⟨lo,hi,[],ps,[],[],qs,[],by simp,by simp,h2,rfl,rfl,(fun _ h=>by cases h),(fun _ h=>by cases h),fun R' ks cs p1' q1' _ hf=>?_⟩;simpa using hf
  | cons m b =>
   obtain ⟨k',kids',p1,q1,p2,q2,h1,h2,h3,h4,h5⟩:=h;simp only [List.nil_append,List.cons.injEq] at h1;obtain ⟨rfl,rfl⟩:=h1;refine ⟨lo,m,[],p1,p2,[],q1,q2,by simpa using h2,by simpa using h3,h4,rfl,rfl,(fun _ h=>by cases h),?_,fun R' ks cs p1' q1' hR hf=>?_⟩
   ·intro p hp;obtain ⟨lo2,hi2,k2,ps2,qs2,h6,h7,h8,_⟩:=h5.of_mem p hp;exact ⟨lo2,hi2,k2,ps2,qs2,h6,h7,h8⟩
   ·have:=hf.app (h5.imp fun lo hi k ps' qs' h hq=>hR lo hi k ps' qs' h fun q hq2=>.inr (hq q hq2));simpa using this
 | cons m a ih =>
  intro lo hi b c d k ps qs hl h;cases c with
  | nil=>cases hl
  | cons k0 c =>
   obtain ⟨k',kids',p1,q1,p2,q2,h1,h2,h3,h4,h5⟩:=h;simp only [zf3,List.cons.injEq] at h1;obtain ⟨rfl,rfl⟩:=h1;obtain ⟨lo',hi',p3,p4,p5,q3,q4,q5,e1,e2,e3,e4,e5,e6,e7,e8⟩:=ih (by simpa using hl) h5;refine ⟨lo',hi',p1 ++ p3,p4,p5,q1 ++ q3,q4,q5,by rw [h2,e1]; simp,by rw [h3,e2]; simp,e3,by rw [e4]; simp,e5,?_,e7,fun R' ks cs p1' q1' hR hf=>?_⟩
   ·intro p hp;rcases zfy.1 hp with hp | hp
    ·exact ⟨lo,m,k0,p1,q1,h4,hp,by simp⟩
    ·obtain ⟨lo2,hi2,k2,ps2,qs2,h6,h7,h8⟩:=e6 p hp;exact ⟨lo2,hi2,k2,ps2,qs2,h6,h7,zfV _ h8⟩
   ·have h9:=e8 R' ks cs p1' q1' (fun lo hi k ps' qs' h hq=>hR lo hi k ps' qs' h fun q hq2=>by
     rcases hq q hq2 with h | h
     ·exact .inl (zfT _ h)
     ·exact .inr h) hf
    refine ⟨k0,c ++ cs ++ d,p1,q1,p3 ++ p1' ++ p5,q3 ++ q1' ++ q5,by simp,by simp,by simp,hR _ _ _ _ _ h4 fun q hq=>.inl (zfS _ hq),by simpa using h9⟩
theorem Tr.imp {D D':Int -> Option Nd} {h:Nat}:∀ {mn:Nat} {lo hi k:Int} {ps:List Pr} {qs:List Int},Tr D h mn lo hi k ps qs -> (∀ q ∈ qs,D' q = D q) -> Tr D' h mn lo hi k ps qs:=by
 induction h with
 | zero =>
  rintro mn lo hi k ps qs ⟨keys,vals,h1,h2,h3,h4,h5,h6,h7⟩ hq;exact ⟨keys,vals,by rw [hq k (by rw [h7]; simp)]; exact h1,h2,h3,h4,h5,h6,h7⟩
 | succ h ih =>
  rintro mn lo hi k ps qs ⟨keys,kids,qs',h1,h2,h3,h4⟩ hq;refine ⟨keys,kids,qs',by rw [hq k (by rw [h4]; simp)]; exact h1,h2,h3.imp fun _ _ _ _ _ h5 h6=>ih h5 fun q hq2=>hq q (by rw [h4]; exact zfV _ (h6 q hq2)),h4⟩
theorem Tr.bounds {D:Int -> Option Nd} {h:Nat}:∀ {mn:Nat} {lo hi k:Int} {ps:List Pr} {qs:List Int},Tr D h mn lo hi k ps qs -> (0 < mn \/ 0 < h) -> lo < hi /\ ∀ p ∈ ps,lo <= p.1 /\ p.1 < hi:=by
 induction h with
 | zero =>
  rintro mn lo hi k ps qs ⟨keys,vals,h1,h2,h3,h4,h5,rfl,h7⟩ h0;have h0':0 < keys.length:=by omega
  have:=h5 _ (List.getElem_mem h0');refine ⟨by omega,fun p hp=>h5 _ (zf4 hp).1⟩
 | succ h ih =>
  rintro mn lo hi k ps qs ⟨keys,kids,qs',h1,h2,h3,h4⟩ _;clear h1 h2 h4;induction keys generalizing lo kids ps qs' with
  | nil =>
   obtain ⟨k2,_,h6⟩:=h3;exact ih h6 (.inl (by decide))
  | cons m keys ih2 =>
   obtain ⟨k2,kids',p1,q1,p2,q2,_,rfl,_,h8,h9⟩:=h3;obtain ⟨b1,b2⟩:=ih h8 (.inl (by decide));obtain ⟨b3,b4⟩:=ih2 _ _ h9;refine ⟨by omega,fun p hp=>?_⟩;rcases zfy.1 hp with hp | hp
   ·have:=b2 p hp; omega
   ·have:=b4 p hp; omega
theorem Tr.high {D:Int -> Option Nd} {h:Nat}:∀ {mn:Nat} {lo hi k:Int} {ps:List Pr} {qs:List Int},Tr D h mn lo hi k ps qs -> (2 <= mn \/ 0 < h) -> 2 ^ (h + 1) <= ps.length:=by
 induction h with
 | zero =>
  rintro mn lo hi k ps qs ⟨keys,vals,h1,h2,h3,h4,h5,rfl,rfl⟩ h0;simp only [List.length_zip];omega
 | succ h ih =>
  rintro mn lo hi k ps qs ⟨keys,kids,qs',h1,h2,h3,rfl⟩ _;cases keys with
  | nil=>exact absurd rfl h2.1
  | cons m keys =>
   obtain ⟨k2,kids',p1,q1,p2,q2,_,rfl,_,h8,h9⟩:=h3;have a1:=ih h8 (.inl (by decide));have a2:2 ^ (h + 1) <= p2.length:=by
    cases keys with
    | nil =>
     obtain ⟨_,_,h6⟩:=h9;exact ih h6 (.inl (by decide))
    | cons y keys =>
     obtain ⟨_,_,p3,_,p4,_,_,rfl,_,h10,_⟩:=h9;have:=ih h10 (.inl (by decide));rw [zfk]; omega
   rw [zfk,Nat.pow_succ]; omega
theorem Fo.unapp {R:Int -> Int -> Int -> List Pr -> List Int -> Prop} {a:List Int}:∀ {lo m hi:Int} {b c d:List Int} {ps:List Pr} {qs:List Int},c.length = a.length + 1 -> Fo R lo hi (a ++ m :: b) (c ++ d) ps qs ->
  ∃ p1 p2 q1 q2,ps = p1 ++ p2 /\ qs = q1 ++ q2 /\ Fo R lo m a c p1 q1 /\ Fo R m hi b d p2 q2:=by
 induction a with
 | nil =>
  rintro lo m hi b c d ps qs hl ⟨k,kids',p1,q1,p2,q2,h1,rfl,rfl,h4,h5⟩;obtain ⟨x,rfl⟩:=List.length_eq_one_iff.1 hl;simp only [zf3,List.nil_append,List.cons.injEq] at h1;obtain ⟨rfl,rfl⟩:=h1;exact ⟨p1,p2,q1,q2,rfl,rfl,⟨x,rfl,h4⟩,h5⟩
 | cons y a ih =>
  rintro lo m hi b c d ps qs hl ⟨k,kids',p1,q1,p2,q2,h1,rfl,rfl,h4,h5⟩;cases c with
  | nil=>cases hl
  | cons x c =>
   simp only [zf3,List.cons.injEq] at h1;obtain ⟨rfl,rfl⟩:=h1;obtain ⟨p3,p4,q3,q4,rfl,rfl,h6,h7⟩:=ih (by simpa using hl) h5;exact ⟨p1 ++ p3,p4,q1 ++ q3,q4,by simp,by simp,⟨x,c,p1,q1,p3,q3,rfl,rfl,rfl,h4,h6⟩,h7⟩
theorem Tr.head {D:Int -> Option Nd} {h mn:Nat} {lo hi k:Int} {ps:List Pr} {qs:List Int} (ht:Tr D h mn lo hi k ps qs):∃ x qs',D k = some x /\ qs = k :: qs':=by
 cases h with
 | zero=>obtain ⟨keys,vals,h1,_,_,_,_,_,h7⟩:=ht; exact ⟨_,[],h1,h7⟩
 | succ h=>obtain ⟨keys,kids,qs',h1,_,_,h4⟩:=ht; exact ⟨_,qs',h1,h4⟩
theorem Fo.kids {D:Int -> Option Nd} {h:Nat} {keys:List Int}:∀ {lo hi:Int} {kids:List Int} {ps:List Pr} {qs:List Int},Fo (Tr D h 3) lo hi keys kids ps qs ->
  (∀ k ∈ kids,k ∈ qs /\ ∃ x,D k = some x) /\ (qs.Nodup -> kids.Nodup) /\ keys.Pairwise (· < ·) /\ (∀ z ∈ keys,lo < z /\ z < hi) /\ lo < hi:=by
 induction keys with
 | nil =>
  rintro lo hi kids ps qs ⟨k,rfl,h2⟩;obtain ⟨x,qs',h3,rfl⟩:=h2.head;have h4:=(h2.bounds (.inl (by decide))).1;exact ⟨fun k2 hk=>by obtain rfl:=zft.1 hk; exact ⟨by simp,x,h3⟩,fun _=>by simp,List.Pairwise.nil,(fun _ hz=>by cases hz),h4⟩
 | cons m keys ih =>
  rintro lo hi kids ps qs ⟨k,kids',p1,q1,p2,q2,rfl,rfl,rfl,h4,h5⟩;obtain ⟨x,qs',h6,rfl⟩:=h4.head;have h7:=(h4.bounds (.inl (by decide))).1;obtain ⟨i1,i2,i3,i4,i5⟩:=ih h5;refine ⟨fun k2 hk=>?_,fun hn=>?_,List.pairwise_cons.2 ⟨fun z hz=>(i4 z hz).1,i3⟩,fun z hz=>?_,by omega⟩
  ·rcases zfU.1 hk with rfl | hk
   ·exact ⟨by simp,x,h6⟩
   ·exact ⟨zfT _ (i1 k2 hk).1,(i1 k2 hk).2⟩
  ·obtain ⟨n1,n2,n3⟩:=zfY.1 hn;refine zfZ.2 ⟨fun hk=>?_,i2 n2⟩;exact n3 k (by simp) k (i1 k hk).1 rfl
  ·rcases zfU.1 hz with rfl | hz
   ·exact ⟨h7,i5⟩
   ·have:=i4 z hz; exact ⟨by omega,this.2⟩
def Nv (D:Int -> Option Nd):Nat -> Int -> Int -> Nd -> List Pr -> List Int -> Prop
 | 0,lo,hi,x,ps,qs=>x.kids = [] /\ x.vals.length = x.keys.length /\ x.keys.Pairwise (· < ·) /\ (∀ z ∈ x.keys,lo <= z /\ z < hi) /\ (∀ v ∈ x.vals,v.size = 12) /\ ps = x.keys.zip x.vals /\ qs = []
 | h + 1,lo,hi,x,ps,qs=>x.vals = [] /\ Fo (Tr D h 3) lo hi x.keys x.kids ps qs
theorem Nv.laid {D D':Int -> Option Nd} {h mn:Nat} {lo hi k:Int} {x:Nd} {ps:List Pr} {qs:List Int} (hn:Nv D h lo hi x ps qs) (hk:D' k = some x) (hq:∀ q ∈ qs,D' q = D q) (hm:mn <= x.keys.length) (h0:x.keys ≠ []):Tr D' h mn lo hi k ps (k :: qs):=by
 cases h with
 | zero =>
  obtain ⟨h1,h2,h3,h4,h5,h6,h7⟩:=hn;obtain ⟨keys,vals,kids⟩:=x;simp only at h1 h2 h3 h4 h6 hm;subst h1 h7;exact ⟨keys,vals,hk,h2,hm,h3,h4,h6,rfl⟩
 | succ h =>
  obtain ⟨h1,h3⟩:=hn;obtain ⟨keys,vals,kids⟩:=x;simp only at h1 h3 hm h0;subst h1;exact ⟨keys,kids,qs,hk,⟨h0,hm⟩,h3.imp fun _ _ _ _ _ h5 h6=>h5.imp fun q hq2=>hq q (h6 q hq2),rfl⟩
theorem Nv.right {D:Int -> Option Nd} {h:Nat} {lo hi:Int} {x:Nd} {ps:List Pr} {qs:List Int} (hn:Nv D h lo hi x ps qs) (h7:x.keys.length <= 7) (hk0:0 < x.keys.length) (hlo:0 <= lo) (hhi:hi <= 4294967296) (hnd:qs.Nodup) (hD:∀ k y,D k = some y -> 2 <= k /\ k <= 239):zJ x = true:=by
 cases h with
 | zero =>
  obtain ⟨h1,h2,h3,h4,h5,h6,h7'⟩:=hn;obtain ⟨keys,vals,kids⟩:=x;simp only at h1 h2 h3 h4 h5 h7;subst h1;refine Ql (wJ.2 ⟨fun z hz=>?_,h3⟩) h7 (List.all_eq_true.2 fun v hv=>decide_eq_true (h5 v hv)) h2;have:=h4 z hz;omega
 | succ h =>
  obtain ⟨h1,h3⟩:=hn;obtain ⟨keys,vals,kids⟩:=x;simp only at h1 h3 h7 hk0;subst h1;obtain ⟨k1,k2,k3,k4,k5⟩:=h3.kids;have hl:=h3.len;have hkb:jc kids = true:=kJ.2 ⟨fun z hz=>by
   obtain ⟨_,y,hy⟩:=k1 z hz;exact hD z y hy,k2 hnd⟩
  unfold zJ;simp only [wJ.2 ⟨fun z hz=>by have:=k4 z hz; omega,k3⟩,decide_eq_true h7,Bool.and_self,Bool.true_and];rw [if_neg (by omega),hkb];simp only [zf5,decide_true,Bool.true_and,Bool.and_eq_true,decide_eq_true_eq];omega
def vE (ps:List Pr) (key:Int) (val:ByteArray):List Pr:=ps.filter (fun p=>decide (p.1 < key)) ++ (key,val) :: ps.filter (fun p=>decide (key < p.1))
theorem XZ {p0 p1 p2:List Pr} {key:Int} {val:ByteArray} (h0:∀ p ∈ p0,p.1 < key) (h2:∀ p ∈ p2,key < p.1):vE (p0 ++ p1 ++ p2) key val = p0 ++ vE p1 key val ++ p2:=by
 unfold vE;have a1:p0.filter (fun p=>decide (p.1 < key)) = p0:=zf8.2 fun p hp=>decide_eq_true (h0 p hp)
 have a2:p0.filter (fun p=>decide (key < p.1)) = []:=zf9.2 fun p hp=>by have:=h0 p hp; simp; omega
 have a3:p2.filter (fun p=>decide (key < p.1)) = p2:=zf8.2 fun p hp=>decide_eq_true (h2 p hp)
 have a4:p2.filter (fun p=>decide (p.1 < key)) = []:=zf9.2 fun p hp=>by have:=h2 p hp; simp; omega
 simp only [List.filter_append,a1,a2,a3,a4];simp
theorem zdF {ps a b:List Pr} {key:Int} {val:ByteArray} (h:ps = a ++ b) (ha:∀ p ∈ a,p.1 < key) (hb:∀ p ∈ b,key < p.1):vE ps key val = a ++ (key,val) :: b:=by
 have:=XZ (p0:=a) (p1:=[]) (p2:=b) (val:=val) ha hb;rw [List.append_nil] at this;rw [h,this];simp [vE]
theorem JU {ps a b:List Pr} {key:Int} {val v:ByteArray} (h:ps = a ++ (key,v) :: b) (ha:∀ p ∈ a,p.1 < key) (hb:∀ p ∈ b,key < p.1):vE ps key val = a ++ (key,val) :: b:=by
 have:=XZ (p0:=a) (p1:=[(key,v)]) (p2:=b) (val:=val) ha hb;rw [h,show a ++ (key,v) :: b = a ++ [(key,v)] ++ b by simp,this];simp [vE]
theorem zbV (ps:List Pr) (key:Int):(ps.filter (fun p=>decide (p.1 < key))).length + (ps.filter (fun p=>decide (key < p.1))).length <= ps.length:=by
 induction ps with
 | nil=>simp
 | cons p ps ih =>
  by_cases h1:p.1 < key
  ·rw [List.filter_cons_of_pos (by simpa using h1),zf6 (by simp; omega)];simp only [ze4]; omega
  ·by_cases h2:key < p.1
   ·rw [zf6 (by simpa using h1),List.filter_cons_of_pos (by simpa using h2)];simp only [ze4]; omega
   ·rw [zf6 (by simpa using h1),zf6 (by simpa using h2)];simp only [ze4]; omega
theorem Y3 {ps:List Pr} {key:Int} {val:ByteArray}:(vE ps key val).length <= ps.length + 1 /\ 0 < (vE ps key val).length:=by
 have h:=zbV ps key;unfold vE;rw [zfk,ze4];refine ⟨?_,Nat.lt_of_lt_of_le (Nat.succ_pos _) (Nat.le_add_left _ _)⟩;exact Nat.succ_le_succ h
theorem Nv.with_ {D:Int -> Option Nd} {lo hi:Int} {x:Nd} {ps:List Pr} {qs:List Int} (hn:Nv D 0 lo hi x ps qs) (hr:zJ x = true) {key:Int} (hk:lo <= key /\ key < hi) {val:ByteArray} (hv:val.size = 12) :
  Nv D 0 lo hi (jD x key val) (vE ps key val) [] /\ x.keys.length <= (jD x key val).keys.length /\ (jD x key val).keys.length <= x.keys.length + 1:=by
 obtain ⟨h1,h2,h3,h4,h5,h6,h7⟩:=hn;obtain ⟨keys,vals,kids⟩:=x;simp only at h1 h2 h3 h4 h5 h6;subst h1;have hs:yw ⟨keys,vals,[]⟩ key = (less keys key,decide (keys[less keys key]? = some key)):=by unfold yw; rw [if_pos hr]
 have hle:=Zc keys key;obtain ⟨a,ha⟩:∃ a,a = less keys key:=⟨_,rfl⟩
 have hat:∀ i (hi:i < keys.length),keys[i] < key ↔ i < a:=fun i hi=>by rw [ha]; exact Yd h3 key hi
 rw [<- ha] at hs hle;have hlt:∀ z ∈ keys.take a,z < key:=fun z hz=>by
  obtain ⟨i,hi,rfl⟩:=zfX.1 hz;rw [List.getElem_take];rw [zfj] at hi;exact (hat i (by omega)).2 (by omega)
 have hge:∀ z ∈ keys.drop a,key <= z:=fun z hz=>by
  obtain ⟨i,hi,rfl⟩:=zfX.1 hz;rw [zf1];rw [zfr] at hi;rcases Int.lt_or_le (keys[a + i]'(by omega)) key with h | h
  ·have:=(hat (a + i) (by omega)).1 h; omega
  ·exact h
 have hpt:∀ p ∈ (keys.take a).zip (vals.take a),p.1 < key:=fun p hp=>hlt _ (zf4 hp).1
 unfold jD;rw [hs];by_cases hf:keys[a]? = some key
 ·simp only [hf,decide_true,if_true];obtain ⟨hal,hae⟩:=List.getElem?_eq_some_iff.1 hf;have hgt:∀ z ∈ keys.drop (a + 1),key < z:=fun z hz=>by
   obtain ⟨i,hi,rfl⟩:=zfX.1 hz;rw [zf1];rw [zfr] at hi;have:=zfL.1 h3 a (a + 1 + i) hal (by omega) (by omega);omega
  refine ⟨⟨rfl,by simpa using h2,h3,h4,fun v hv2=>?_,?_,rfl⟩,ze3 _,Nat.le_succ _⟩
  ·rcases List.mem_or_eq_of_mem_set hv2 with h | h
   ·exact h5 v h
   ·rw [h]; exact hv
  ·have e1:keys = keys.take a ++ key :: keys.drop (a + 1):=by
    rw [<- hae]; simp
   have e2:vals = vals.take a ++ vals[a]'(by omega) :: vals.drop (a + 1):=by simp
   have e3:vals.set a val = vals.take a ++ val :: vals.drop (a + 1):=by
    rw [List.set_eq_take_append_cons_drop,if_pos (by omega)]
   have hl:(keys.take a).length = (vals.take a).length:=by rw [zfj,zfj,h2]
   have e4:keys.zip vals = (keys.take a).zip (vals.take a) ++ (key,vals[a]'(by omega)) :: (keys.drop (a + 1)).zip (vals.drop (a + 1)):=by
    conv=>lhs; rw [e1,e2]
    rw [zf2 hl];rfl
   rw [h6,JU e4 hpt fun p hp=>hgt _ (zf4 hp).1];show _ = keys.zip (vals.set a val)
   conv=>rhs; rw [e1,e3]
   rw [zf2 hl];rfl
 ·simp only [hf,decide_false,Bool.false_eq_true,if_false];have hgt:∀ z ∈ keys.drop a,key < z:=fun z hz=>by
   obtain ⟨i,hi,rfl⟩:=zfX.1 hz;have h8:=hge _ hz;rw [zf1] at h8 ⊢;rw [zfr] at hi;rcases zf7 i with rfl | h0
   ·have:keys[a + 0]? ≠ some key:=by simpa using hf
    rw [ze7 (by omega)] at this;have h9:keys[a + 0] ≠ key:=fun e=>this (by rw [e])
    omega
   ·have:=zfL.1 h3 a (a + i) (by omega) (by omega) (by omega);have h10:=hge _ (List.getElem_mem (by rw [zfr]; omega:0 < (keys.drop a).length));rw [zf1] at h10;have h11:keys[a + 0]'(by omega) = keys[a]'(by omega):=rfl;omega
  have hl:(keys.take a).length = (vals.take a).length:=by rw [zfj,zfj,h2]
  refine ⟨⟨rfl,by simp; omega,?_,fun z hz=>?_,fun v hv2=>?_,?_,rfl⟩,by simp; omega,by simp; omega⟩
  ·refine List.pairwise_append.2 ⟨h3.sublist (List.take_sublist _ _),List.pairwise_cons.2 ⟨hgt,h3.sublist (List.drop_sublist _ _)⟩,fun x hx y hy=>?_⟩;have:=hlt x hx;rcases zfU.1 hy with rfl | hy
   ·exact this
   ·have:=hgt y hy; omega
  ·rcases zfy.1 hz with h | h
   ·exact h4 z (zfO h)
   ·rcases zfU.1 h with rfl | h
    ·exact hk
    ·exact h4 z (zfP h)
  ·rcases zfy.1 hv2 with h | h
   ·exact h5 v (zfO h)
   ·rcases zfU.1 h with rfl | h
    ·exact hv
    ·exact h5 v (zfP h)
  ·have e4:keys.zip vals = (keys.take a).zip (vals.take a) ++ (keys.drop a).zip (vals.drop a):=by
    conv=>lhs; rw [<- zf0 a keys,<- zf0 a vals]
    rw [zf2 hl]
   rw [h6,zdF e4 hpt fun p hp=>hgt _ (zf4 hp).1];show _ = (keys.take a ++ key :: keys.drop a).zip (vals.take a ++ val :: vals.drop a);rw [zf2 hl];rfl
theorem Nv.split {D:Int -> Option Nd} {h:Nat} {lo hi:Int} {x:Nd} {ps:List Pr} {qs:List Int} (hn:Nv D h lo hi x ps qs) (h8:8 <= x.keys.length) (h10:x.keys.length <= 10) :
  ∃ x1 x2 m p1 p2 q1 q2,yq x = ([x1,x2],[m]) /\ Nv D h lo m x1 p1 q1 /\ Nv D h m hi x2 p2 q2 /\ ps = p1 ++ p2 /\ qs = q1 ++ q2 /\ 3 <= x1.keys.length /\ x1.keys.length <= 7 /\ 3 <= x2.keys.length /\ x2.keys.length <= 7:=by
 obtain ⟨keys,vals,kids⟩:=x;simp only at h8 h10;obtain ⟨a,ha⟩:∃ a,a = keys.length / 2:=⟨_,rfl⟩
 have hal:a < keys.length:=by omega
 have e0:(keys.drop a).take 1 = [keys[a]]:=by
  rw [zga hal]; rfl
 have e1:keys = keys.take a ++ keys[a] :: keys.drop (a + 1):=by simp
 have l1:(keys.take a).length = a:=by rw [zfj]; omega
 have l2:(keys.drop a).length = keys.length - a:=by rw [zfr]
 have l3:(keys.drop (a + 1)).length = keys.length - (a + 1):=by rw [zfr]
 cases h with
 | zero =>
  obtain ⟨h1,h2,h3,h4,h5,h6,h7⟩:=hn;simp only at h1 h2 h3 h4 h5 h6;subst h1 h7;have hp:yq ⟨keys,vals,[]⟩ = ([⟨keys.take a,vals.take a,[]⟩,⟨keys.drop a,vals.drop a,[]⟩],[keys[a]]):=by
   unfold yq;simp only [<- ha];rw [if_neg (by omega),if_pos (show ([]:List Int).length = 0 from rfl),e0]
  have e2:keys.drop a = keys[a] :: keys.drop (a + 1):=zga hal;have hs:=h3;rw [e1] at hs;obtain ⟨s1,s2,s3⟩:=List.pairwise_append.1 hs;refine ⟨_,_,_,(keys.take a).zip (vals.take a),(keys.drop a).zip (vals.drop a),[],[],hp,⟨rfl,by simp; omega,h3.sublist (List.take_sublist _ _),fun z hz=>⟨(h4 z (zfO hz)).1,s3 z hz _ (List.Mem.head _)⟩,fun v hv=>h5 v (zfO hv),rfl,rfl⟩,
   ⟨rfl,by simp; omega,h3.sublist (List.drop_sublist _ _),fun z hz=>⟨?_,(h4 z (zfP hz)).2⟩,fun v hv=>h5 v (zfP hv),rfl,rfl⟩,?_,rfl,by simp only [l1]; omega,by simp only [l1]; omega,by simp only [l2]; omega,by simp only [l2]; omega⟩
  ·have hz2:z ∈ keys.drop a:=hz;rw [e2] at hz2;rcases zfU.1 hz2 with rfl | hz2
   ·exact zfW _
   ·exact Int.le_of_lt ((List.pairwise_cons.1 s2).1 z hz2)
  ·rw [h6]
   conv=>lhs; rw [<- zf0 a keys,<- zf0 a vals]
   rw [zf2 (by rw [l1,zfj]; omega)]
 | succ h =>
  obtain ⟨h1,h3⟩:=hn;simp only at h1 h3;subst h1;have hl:=h3.len;have hp:yq ⟨keys,[],kids⟩ = ([⟨keys.take a,[],kids.take (a + 1)⟩,⟨keys.drop (a + 1),[],kids.drop (a + 1)⟩],[keys[a]]):=by
   unfold yq;simp only [<- ha];rw [if_neg (by omega),if_neg (by omega),e0]
  have h3':Fo (Tr D h 3) lo hi (keys.take a ++ keys[a] :: keys.drop (a + 1)) (kids.take (a + 1) ++ kids.drop (a + 1)) ps qs:=by
   rw [<- e1,zf0]; exact h3
  obtain ⟨p1,p2,q1,q2,e3,e4,f1,f2⟩:=Fo.unapp (by rw [l1,zfj]; omega) h3';exact ⟨_,_,_,p1,p2,q1,q2,hp,⟨rfl,f1⟩,⟨rfl,f2⟩,e3,e4,by simp only [l1]; omega,by simp only [l1]; omega,by simp only [l3]; omega,by simp only [l3]; omega⟩
end
section
open Bits (Ok has with_ without both minus first)
def Dm (S:TS) (k:Int):Option Nd:=if inZ S.s k = true then yg (S.data k.toNat) else none
abbrev usd (S:TS) (k:Int):Prop:=vD S.s.used k = true
abbrev OkT (n:Nat) (S:TS) (firm:Nat -> List UInt8):Prop:=yP n S.d S.s S.data firm
theorem wI {s:Pst} {k:Nat} (hk:k < 240):inZ s (k:Int) = s.isIn k:=by
 unfold inZ;rw [decide_eq_true (by omega),Bool.true_and];rfl
theorem Z9 {s:Pst} {i:Int} (h:inZ s i = true):∃ k:Nat,i = (k:Int) /\ k < 240 /\ s.isIn k = true:=by
 unfold inZ at h;simp only [Bool.and_eq_true,decide_eq_true_eq] at h;exact ⟨i.toNat,by omega,by omega,h.2⟩
theorem wW {S:TS} {i:Int} (h:usd S i):∃ k:Nat,i = (k:Int) /\ k < 240 /\ has S.s.used k = true:=by
 unfold usd vD at h;simp only [Bool.and_eq_true,decide_eq_true_eq] at h;exact ⟨i.toNat,by omega,by omega,h.2⟩
theorem jh {S:TS} {k:Nat} (hk:k < 240):usd S (k:Int) ↔ has S.s.used k = true:=by
 unfold usd vD;rw [decide_eq_true (by omega),Bool.true_and];rfl
theorem ve {n:Nat} {S:TS} {firm:Nat -> List UInt8} (h:OkT n S firm) {i:Int} (hu:usd S i):inZ S.s i = true:=by
 obtain ⟨k,rfl,hk,h1⟩:=wW hu;rw [wI hk];exact h.used_in hk h1
theorem vY {n:Nat} {S:TS} {firm:Nat -> List UInt8} (h:OkT n S firm) {i:Int} {x:Nd} (hx:Dm S i = some x):2 <= i /\ i <= 239:=by
 unfold Dm at hx;split at hx
 ·rename_i h1
  obtain ⟨k,rfl,hk,h2⟩:=Z9 h1;have:=h.in_range hk h2;have:=h.le;omega
 ·cases hx
structure zbE (S S':TS) (m:Nat) (new old:List Int):Prop where
 sup:S'.s.sup = S.s.sup
 down:S'.d.down = S.d.down
 soft:S'.d.soft.length <= S.d.soft.length + m
 page:∀ j,usd S j -> j ∉ old -> usd S' j /\ Dm S' j = Dm S j
 used:∀ j,usd S' j -> (usd S j /\ j ∉ old) \/ j ∈ new
 fresh:∀ j ∈ new,inZ S.s j = false
 inz:∃ E:List Int,E.length <= m /\ ∀ j,inZ S'.s j = true -> inZ S.s j = true \/ j ∈ E
theorem Xm {n:Nat} {S S':TS} {firm:Nat -> List UInt8} (h:OkT n S firm) {x:Nd} {k:Int} (ha:xA n S x = (.ok k,S')):zJ x = true /\ OkT n S' firm /\ zbE S S' 1 [k] [] /\ usd S' k /\ Dm S' k = some x:=by
 unfold xA at ha;split at ha
 ·cases ha
 ·rename_i hr
  have hr':zJ x = true:=by simpa using hr
  split at ha
  ·cases ha
  ·rename_i k' hf
   simp only [Prod.mk.injEq,Except.ok.injEq] at ha;obtain ⟨rfl,rfl⟩:=ha;obtain ⟨h2,hn,hin,_⟩:=h.first_some hf;have hle:=h.le;have hk:k' < 240:=by omega
   have h120:(vP x).length <= 120:=by
    have h1:=qE hr';have h2:=(zm hr').2.1;unfold Wj at h1;split at h1 <;> omega
   have hok:OkT n ⟨S.d.write k' (pgB (vh (vP x))),S.s.at_ k',upd S.data k' (vP x)⟩ firm:=h.laid hf h120;have hin':∀ j,j < 240 -> (S.s.at_ k').isIn j = (S.s.isIn j || decide (j = k')):=fun j hj=>by
    unfold Pst.isIn;rw [show (S.s.at_ k').new = with_ S.s.new k' from rfl,Bits.has_with h.newOk hk];show (has S.s.sup.used j || _) = _;by_cases e:j = k'
    ·simp [e]
    ·simp [e]
   have hgk:has S.s.gone k' = false:=by
    cases hg:has S.s.gone k' with
    | false=>rfl
    | true =>
     have:=h.goes k' hk hg;unfold Pst.isIn at hin;rw [this] at hin;cases hin
   have hus:∀ j,j < 240 -> has (S.s.at_ k').used j = (has S.s.used j || decide (j = k')):=fun j hj=>by
    rw [hok.has_used hj,h.has_used hj,hin' j hj];show (_ && !has S.s.gone j) = _;by_cases e:j = k'
    ·subst e; simp [hgk]
    ·simp [e]
   refine ⟨hr',hok,⟨rfl,rfl,?_,fun j hj _=>?_,fun j hj=>?_,fun j hj=>?_,[(k':Int)],ze3 _,fun j hj=>?_⟩,?_,?_⟩
   ·show (S.d.soft ++ [_]).length <= _;simp
   ·obtain ⟨j',rfl,hj2,hj3⟩:=wW hj;have hne:j' ≠ k':=by
     rintro rfl;have:=h.used_in hj2 hj3;rw [this] at hin;cases hin
    refine ⟨(jh hj2).2 (by show has (S.s.at_ k').used j' = true; rw [hus j' hj2,hj3]; rfl),?_⟩;unfold Dm;show (if inZ (S.s.at_ k') (j':Int) = true then yg (upd S.data k' (vP x) (j':Int).toNat) else none) = _;rw [wI hj2,wI hj2,hin' j' hj2,decide_eq_false hne,Bool.or_false];have e:upd S.data k' (vP x) ((j':Int).toNat) = S.data ((j':Int).toNat):=by unfold upd; rw [if_neg (by simpa using hne)]
    rw [e]
   ·obtain ⟨j',rfl,hj2,hj3⟩:=wW hj;have hj4:has (S.s.at_ k').used j' = true:=hj3;rw [hus j' hj2] at hj4;rcases zfo.1 hj4 with h5 | h5
    ·exact .inl ⟨(jh hj2).2 h5,by simp⟩
    ·exact .inr (by rw [of_decide_eq_true h5]; simp)
   ·obtain rfl:=zft.1 hj;rw [wI hk]; exact hin
   ·obtain ⟨j',rfl,hj2,hj3⟩:=Z9 hj;have hj4:(S.s.at_ k').isIn j' = true:=hj3;rw [hin' j' hj2] at hj4;rcases zfo.1 hj4 with h5 | h5
    ·exact .inl (by rw [wI hj2]; exact h5)
    ·exact .inr (by rw [of_decide_eq_true h5]; simp)
   ·exact (jh hk).2 (by show has (S.s.at_ k').used k' = true; rw [hus k' hk]; simp)
   ·unfold Dm;show (if inZ (S.s.at_ k') (k':Int) = true then yg (upd S.data k' (vP x) (k':Int).toNat) else none) = _;rw [wI hk,hin' k' hk];simp only [decide_true,Bool.or_true,if_true];unfold upd;rw [if_pos (by simp)];exact zaQ hr'
theorem Kb {n:Nat} {S S':TS} {firm:Nat -> List UInt8} (h:OkT n S firm) {x:Nd} {c:Int} (ha:xA n S x = (.error c,S')):S' = S /\ ((c = 2 /\ zJ x = false) \/ (c = 6 /\ ∀ m:Nat,2 <= m -> m < n -> inZ S.s (m:Int) = true)):=by
 unfold xA at ha;split at ha
 ·rename_i hr
  simp only [Prod.mk.injEq,Except.error.injEq] at ha;exact ⟨ha.2.symm,.inl ⟨ha.1.symm,hr⟩⟩
 ·split at ha
  ·rename_i hf
   simp only [Prod.mk.injEq,Except.error.injEq] at ha;refine ⟨ha.2.symm,.inr ⟨ha.1.symm,fun m h1 h2=>?_⟩⟩;have hle:=h.le;rw [wI (by omega)];exact h.first_none hf m h1 h2
  ·cases ha
theorem Ks {n:Nat} {S:TS} {firm:Nat -> List UInt8} (h:OkT n S firm) {k:Int} (hu:usd S k):∃ S',xY S k = (0,S') /\ OkT n S' firm /\ zbE S S' 0 [] [k] /\ ¬ usd S' k:=by
 obtain ⟨k',rfl,hk,h1⟩:=wW hu;have hd:xY S (k':Int) = (0,⟨S.d,S.s.drop k',S.data⟩):=by
  unfold xY;rw [if_pos hu];rfl
 have hok:OkT n ⟨S.d,S.s.drop k',S.data⟩ firm:=h.dropped hk h1;have hi:=h.used_in hk h1;have hg0:has S.s.gone k' = false:=by
  have:=h.has_used hk;rw [h1,hi] at this;simpa using this.symm
 have hsup:(S.s.drop k').sup = S.s.sup:=by unfold Pst.drop; split <;> rfl
 have hin:∀ j,j < 240 -> j ≠ k' -> (S.s.drop k').isIn j = S.s.isIn j:=fun j hj hne=>by
  unfold Pst.isIn Pst.drop;split
  ·show (has S.s.sup.used j || has (without S.s.new k') j) = _;rw [Bits.has_without h.newOk hk,if_neg hne]
  ·rfl
 have hinl:∀ j,j < 240 -> (S.s.drop k').isIn j = true -> S.s.isIn j = true:=fun j hj hj2=>by
  by_cases e:j = k'
  ·rw [e]; exact hi
  ·rw [<- hin j hj e]; exact hj2
 have hus:∀ j,j < 240 -> j ≠ k' -> has (S.s.drop k').used j = has S.s.used j:=fun j hj hne=>by
  rw [hok.has_used hj,h.has_used hj];show ((S.s.drop k').isIn j && !has (S.s.drop k').gone j) = _;rw [hin j hj hne];unfold Pst.drop;split
  ·rfl
  ·show (S.s.isIn j && !has (with_ S.s.gone k') j) = _;rw [Bits.has_with h.goneOk hk,if_neg hne]
 have hno:has (S.s.drop k').used k' = false:=by
  rw [hok.has_used hk];show ((S.s.drop k').isIn k' && !has (S.s.drop k').gone k') = false;unfold Pst.isIn Pst.drop;split
  ·rename_i hn
   show ((has S.s.sup.used k' || has (without S.s.new k') k') && _) = false;rw [Bits.has_without h.newOk hk,if_pos rfl,(h.fresh k' hk hn).2.2.1];rfl
  ·show (_ && !has (with_ S.s.gone k') k') = false;rw [Bits.has_with h.goneOk hk,if_pos rfl];simp
 refine ⟨_,hd,hok,⟨hsup,rfl,ze3 _,fun j hj hne=>?_,fun j hj=>?_,(fun _ h=>by cases h),[],ze3 _,fun j hj=>?_⟩,fun hu2=>?_⟩
 ·obtain ⟨j',rfl,hj2,hj3⟩:=wW hj;have hne':j' ≠ k':=fun e=>hne (by rw [e]; simp)
  refine ⟨(jh hj2).2 (by show has (S.s.drop k').used j' = true; rw [hus j' hj2 hne']; exact hj3),?_⟩;unfold Dm;show (if inZ (S.s.drop k') (j':Int) = true then _ else none) = _;rw [wI hj2,wI hj2,hin j' hj2 hne']
 ·obtain ⟨j',rfl,hj2,hj3⟩:=wW hj;have hj4:has (S.s.drop k').used j' = true:=hj3;have hne':j' ≠ k':=by
   rintro rfl;rw [hno] at hj4;cases hj4
  rw [hus j' hj2 hne'] at hj4;exact .inl ⟨(jh hj2).2 hj4,by simp only [zft]; omega⟩
 ·obtain ⟨j',rfl,hj2,hj3⟩:=Z9 hj;exact .inl (by rw [wI hj2]; exact hinl j' hj2 hj3)
 ·obtain ⟨j',e,hj2,hj3⟩:=wW hu2;have:j' = k':=by omega
  subst this;have hj4:has (S.s.drop j').used j' = true:=hj3;rw [hno] at hj4;cases hj4
structure xD (n:Nat) (firm:Nat -> List UInt8) (S S':TS) (m:Nat):Prop where
 ok:OkT n S' firm
 sup:S'.s.sup = S.s.sup
 down:S'.d.down = S.d.down
 soft:S'.d.soft.length <= S.d.soft.length + m
 inz:∃ E:List Int,E.length <= m /\ ∀ j,inZ S'.s j = true -> inZ S.s j = true \/ j ∈ E
theorem xD.refl {n:Nat} {firm:Nat -> List UInt8} {S:TS} (h:OkT n S firm):xD n firm S S 0:=⟨h,rfl,rfl,ze3 _,[],ze3 _,fun _ h=>.inl h⟩
theorem xD.trans {n:Nat} {firm:Nat -> List UInt8} {S S1 S2:TS} {m1 m2:Nat} (h1:xD n firm S S1 m1) (h2:xD n firm S1 S2 m2):xD n firm S S2 (m1 + m2):=by
 obtain ⟨E1,a1,a2⟩:=h1.inz;obtain ⟨E2,b1,b2⟩:=h2.inz;refine ⟨h2.ok,h2.sup.trans h1.sup,h2.down.trans h1.down,by have:=h1.soft; have:=h2.soft; omega,E1 ++ E2,by rw [zfk]; omega,fun j hj=>?_⟩;rcases b2 j hj with h | h
 ·rcases a2 j h with h | h
  ·exact .inl h
  ·exact .inr (zfS _ h)
 ·exact .inr (zfT _ h)
theorem xD.more {n:Nat} {firm:Nat -> List UInt8} {S S':TS} {m m':Nat} (h:xD n firm S S' m) (hm:m <= m'):xD n firm S S' m':=by
 obtain ⟨E,a1,a2⟩:=h.inz;exact ⟨h.ok,h.sup,h.down,by have:=h.soft; omega,E,by omega,a2⟩
theorem zbE.stay {n:Nat} {firm:Nat -> List UInt8} {S S':TS} {m:Nat} {a b:List Int} (h:zbE S S' m a b) (ho:OkT n S' firm):xD n firm S S' m:=⟨ho,h.sup,h.down,h.soft,h.inz⟩
theorem Yx {n:Nat} {S:TS} {firm:Nat -> List UInt8} (h:OkT n S firm) (x:Nd):xD n firm S (xA n S x).2 1:=by
 cases ha:xA n S x with
 | mk r S' =>
  cases r with
  | error c=>obtain ⟨rfl,_⟩:=Kb h ha; exact (xD.refl h).more (by decide)
  | ok k=>obtain ⟨_,h2,h3,_⟩:=Xm h ha; exact h3.stay h2
theorem XU {n:Nat} {S:TS} {firm:Nat -> List UInt8} (h:OkT n S firm) (k:Int):xD n firm S (xY S k).2 0:=by
 by_cases hu:usd S k
 ·obtain ⟨S',h1,h2,h3,_⟩:=Ks h hu;rw [h1];exact h3.stay h2
 ·unfold xY;rw [if_neg hu];exact xD.refl h
theorem Vs {n:Nat} {firm:Nat -> List UInt8} (l:List Nd):∀ {S:TS},OkT n S firm -> xD n firm S (zT n S l).2 l.length:=by
 induction l with
 | nil=>intro S h; exact xD.refl h
 | cons x r ih =>
  intro S h;have h1:=Yx h x;unfold zT;cases ha:xA n S x with
  | mk o S1 =>
   rw [ha] at h1;cases o with
   | error c=>exact h1.more (by simp)
   | ok k =>
    have h2:=ih h1.ok;simp only;cases hb:zT n S1 r with
    | mk o2 S2 =>
     rw [hb] at h2;cases o2 with
     | error c=>exact (h1.trans h2).more (by show 1 + r.length <= r.length + 1; omega)
     | ok l2=>exact (h1.trans h2).more (by show 1 + r.length <= r.length + 1; omega)
theorem WA {n:Nat} {firm:Nat -> List UInt8} (l:List Int):∀ {S:TS},OkT n S firm -> xD n firm S (yj S l).2 0:=by
 induction l with
 | nil=>intro S h; exact xD.refl h
 | cons k r ih =>
  intro S h;have h1:=XU h k;unfold yj;cases hd:xY S k with
  | mk c S1 =>
   rw [hd] at h1;by_cases hc:c = 0
   ·simp only [if_pos hc];exact (h1.trans (ih h1.ok)).more (ze3 _)
   ·simp only [if_neg hc];exact h1
theorem ZF (x:Nd):(yq x).1.length <= 2:=by
 unfold yq;split
 ·exact (by decide:(1:Nat) <= 2)
 ·split <;> exact ze3 2
theorem vo {n:Nat} {S:TS} {firm:Nat -> List UInt8} (h:OkT n S firm) (x:Nd) (old:List Int):xD n firm S (yo n S x old).2 2:=by
 have h1:=(Vs (yq x).1 h).more (ZF x);unfold yo;cases ha:zT n S (yq x).1 with
 | mk o S1 =>
  rw [ha] at h1;cases o with
  | error c=>exact h1
  | ok ks =>
   have h2:=WA old h1.ok;cases hd:yj S1 old with
   | mk c S2 =>
    rw [hd] at h2;by_cases hc:c = 0
    ·simp only [hd,if_pos hc];exact (h1.trans h2).more (ze3 _)
    ·simp only [hd,if_neg hc];exact (h1.trans h2).more (ze3 _)
theorem jn {n:Nat} {S:TS} {firm:Nat -> List UInt8} (h:OkT n S firm) (x:Nd) (a m:Nat) (kid:Nd):xD n firm S (zQ n S x a m kid).2 2:=by
 have h1:=vo h kid ((x.kids.drop a).take m);unfold zQ;cases hc:yo n S kid ((x.kids.drop a).take m) with
 | mk o S1 =>
  rw [hc] at h1;cases o with
  | error c=>exact h1
  | ok r=>exact h1
theorem jy {n:Nat} {firm:Nat -> List UInt8} (f:Nat):∀ {S:TS},OkT n S firm -> ∀ (i key:Int) (val:ByteArray),xD n firm S (kQ n f S i key val).2 (2 * f):=by
 induction f with
 | zero=>intro S h i key val; exact xD.refl h
 | succ f ih =>
  intro S h i key val;unfold kQ;cases hl:yk S i (12 - f:Int) with
  | error c=>exact (xD.refl h).more (Nat.zero_le _)
  | ok x =>
   by_cases hk:x.kids.length = 0
   ·simp only [if_pos hk];exact (xD.refl h).more (Nat.zero_le _)
   ·simp only [if_neg hk];have h1:=ih h (x.kids.getD (yB x key) 0) key val;cases hp:kQ n f S (x.kids.getD (yB x key) 0) key val with
    | mk o S1 =>
     rw [hp] at h1;cases o with
     | error c=>exact h1.more (by omega)
     | ok kid=>exact (h1.trans (jn h1.ok x (yB x key) 1 kid)).more (by omega)
theorem Y7 {n:Nat} {S:TS} {firm:Nat -> List UInt8} (h:OkT n S firm) (root key:Int) (val:ByteArray):xD n firm S (yY n S root key val).2 27:=by
 unfold yY;split
 ·exact (xD.refl h).more (by decide)
 ·split
  ·exact (Yx h _).more (by decide)
  ·have h1:=jy 12 h root key val;cases hp:kQ n 12 S root key val with
   | mk o S1 =>
    rw [hp] at h1;cases o with
    | error c=>exact h1.more (by decide)
    | ok x =>
     have h2:=vo h1.ok x [root];simp only;cases hc:yo n S1 x [root] with
     | mk o2 S2 =>
      rw [hc] at h2;cases o2 with
      | error c=>exact (h1.trans h2).more (by decide)
      | ok r =>
       obtain ⟨bk,ks⟩:=r;simp only;split
       ·exact (h1.trans h2).more (by decide)
       ·have h3:=Yx h2.ok ⟨bk,[],ks⟩;cases ha:xA n S2 ⟨bk,[],ks⟩ with
        | mk o3 S3 =>
         rw [ha] at h3;cases o3 with
         | error c=>exact ((h1.trans h2).trans h3).more (by decide)
         | ok k =>
          simp only;split
          ·exact ((h1.trans h2).trans h3).more (by decide)
          ·exact ((h1.trans h2).trans h3).more (by decide)
end
section
theorem Nv.imp {D D':Int -> Option Nd} {h:Nat} {lo hi:Int} {x:Nd} {ps:List Pr} {qs:List Int} (hn:Nv D h lo hi x ps qs) (hq:∀ q ∈ qs,D' q = D q):Nv D' h lo hi x ps qs:=by
 cases h with
 | zero=>exact hn
 | succ h =>
  obtain ⟨h1,h3⟩:=hn;exact ⟨h1,h3.imp fun _ _ _ _ _ h5 h6=>h5.imp fun q hq2=>hq q (h6 q hq2)⟩
theorem Nv.lt {D:Int -> Option Nd} {h:Nat} {lo hi:Int} {x:Nd} {ps:List Pr} {qs:List Int} (hn:Nv D h lo hi x ps qs) (h0:0 < x.keys.length):lo < hi:=by
 cases h with
 | zero =>
  obtain ⟨_,_,_,h4,_⟩:=hn;have:=h4 _ (List.getElem_mem h0);omega
 | succ h=>exact hn.2.kids.2.2.2.2
theorem XL {n:Nat} {S:TS} {firm:Nat -> List UInt8} (h:OkT n S firm) {hh:Nat} {lo hi:Int} {x:Nd} {ps:List Pr} {qs:List Int} (hn:Nv (Dm S) hh lo hi x ps qs) (hnd:qs.Nodup) (h7:x.keys.length <= 7) (hk0:0 < x.keys.length) (hlo:0 <= lo) (hhi:hi <= 4294967296) :
  (xA n S x = (.error 6,S) /\ ∀ m:Nat,2 <= m -> m < n -> inZ S.s (m:Int) = true) \/ ∃ k S',xA n S x = (.ok k,S') /\ OkT n S' firm /\ zbE S S' 1 [k] [] /\ usd S' k /\ Dm S' k = some x:=by
 have hr:=hn.right h7 hk0 hlo hhi hnd fun k y hy=>vY h hy
 cases ha:xA n S x with
 | mk r S' =>
  cases r with
  | error c =>
   obtain ⟨rfl,h1 | ⟨rfl,h2⟩⟩:=Kb h ha
   ·rw [hr] at h1; cases h1.2
   ·exact .inl ⟨rfl,h2⟩
  | ok k =>
   obtain ⟨_,h2,h3,h4,h5⟩:=Xm h ha;exact .inr ⟨k,S',rfl,h2,h3,h4,h5⟩
theorem qY {n:Nat} {S S':TS} {firm:Nat -> List UInt8} (h:OkT n S firm) {x:Nd} {k:Int} (ha:xA n S x = (.ok k,S')) {j:Int} (hj:inZ S.s j = true):inZ S'.s j = true:=by
 unfold xA at ha;split at ha
 ·cases ha
 ·split at ha
  ·cases ha
  ·rename_i k' hf
   simp only [Prod.mk.injEq,Except.ok.injEq] at ha;obtain ⟨rfl,rfl⟩:=ha;obtain ⟨h2,hn,_,_⟩:=h.first_some hf;have hle:=h.le;obtain ⟨j',rfl,hj2,hj3⟩:=Z9 hj;rw [wI hj2];unfold Pst.isIn at hj3 ⊢;show (Bits.has S.s.sup.used j' || Bits.has (Bits.with_ S.s.new k') j') = true;rw [Bits.has_with h.newOk (by omega)];rcases zfo.1 hj3 with h5 | h5
   ·rw [h5]; rfl
   ·rw [h5]; simp
theorem JH {n:Nat} {S:TS} {firm:Nat -> List UInt8} (h:OkT n S firm) {k:Int} {S':TS} (hd:xY S k = (0,S')) {j:Int} (hj:inZ S.s j = true) (hne:j ≠ k):inZ S'.s j = true:=by
 unfold xY at hd;split at hd
 ·rename_i hu
  obtain ⟨k',rfl,hk,h1⟩:=wW (S:=S) hu;simp only [Prod.mk.injEq,true_and] at hd;subst hd;obtain ⟨j',rfl,hj2,hj3⟩:=Z9 hj;have hne':j' ≠ k':=fun e=>hne (by rw [e])
  rw [wI hj2];show (S.s.drop (k':Int).toNat).isIn j' = true;rw [show (k':Int).toNat = k' from rfl];unfold Pst.isIn Pst.drop at *;split
  ·show (Bits.has S.s.sup.used j' || Bits.has (Bits.without S.s.new k') j') = true;rw [Bits.has_without h.newOk hk,if_neg hne'];exact hj3
  ·exact hj3
 ·simp only [Prod.mk.injEq] at hd;exact absurd hd.1 (by decide)
theorem ZA {n:Nat} {firm:Nat -> List UInt8} (os:List Int):∀ {S:TS},OkT n S firm -> (∀ o ∈ os,usd S o) -> os.Nodup ->
  ∃ S',yj S os = (0,S') /\ OkT n S' firm /\ (∀ j,usd S j -> j ∉ os -> usd S' j /\ Dm S' j = Dm S j) /\ (∀ j,usd S' j -> usd S j /\ j ∉ os) /\ (∀ j,inZ S.s j = true -> j ∉ os -> inZ S'.s j = true):=by
 induction os with
 | nil=>intro S h _ _; exact ⟨S,rfl,h,fun j hj _=>⟨hj,rfl⟩,fun j hj=>⟨hj,by simp⟩,fun j hj _=>hj⟩
 | cons o os ih =>
  intro S h hu hn;obtain ⟨n1,n2⟩:=zfZ.1 hn;obtain ⟨S1,hd,hok,hst,hno⟩:=Ks h (hu o List.mem_cons_self);have hu1:∀ q ∈ os,usd S1 q:=fun q hq=>(hst.page q (hu q (zfV _ hq)) (by simp only [zft]; rintro rfl; exact n1 hq)).1
  obtain ⟨S2,e1,e2,e3,e4,e5⟩:=ih hok hu1 n2;refine ⟨S2,by unfold yj; simp only [hd,if_true,e1],e2,fun j hj hne=>?_,fun j hj=>?_,fun j hj hne=>?_⟩
  ·obtain ⟨a1,a2⟩:=hst.page j hj (by simp only [zft]; rintro rfl; exact hne List.mem_cons_self);obtain ⟨b1,b2⟩:=e3 j a1 fun hm=>hne (zfV _ hm)
   exact ⟨b1,b2.trans a2⟩
  ·obtain ⟨a1,a2⟩:=e4 j hj;rcases hst.used j a1 with ⟨b1,b2⟩ | b1
   ·refine ⟨b1,fun hm=>?_⟩;rcases zfU.1 hm with e | hm
    ·exact b2 (zft.2 e)
    ·exact a2 hm
   ·cases b1
  ·exact e5 j (JH h hd hj fun e=>hne (by rw [e]; exact List.mem_cons_self)) fun hm=>hne (zfV _ hm)
structure zbl (n:Nat) (firm:Nat -> List UInt8) (S S':TS) (os qs qs':List Int):Prop where
 ok:OkT n S' firm
 nodup:qs'.Nodup
 used:∀ q ∈ qs',usd S' q
 new:∀ q ∈ qs',q ∈ qs \/ inZ S.s q = false
 page:∀ j,usd S j -> j ∉ os -> usd S' j /\ Dm S' j = Dm S j
 only:∀ j,usd S' j -> (usd S j /\ j ∉ os) \/ j ∈ qs'
 sub:∀ q ∈ qs,q ∈ qs'
 keep:∀ j,inZ S.s j = true -> j ∉ os -> inZ S'.s j = true
def vJ (n:Nat) (S:TS) (m:Nat):Prop:=∃ E:List Int,E.length <= m /\ ∀ k:Nat,2 <= k -> k < n -> inZ S.s (k:Int) = true \/ (k:Int) ∈ E
theorem vM {n:Nat} {S:TS} {firm:Nat -> List UInt8} (h:OkT n S firm) {hh mn:Nat} {lo hi:Int} {x:Nd} {ps:List Pr} {qs:List Int} (hn:Nv (Dm S) hh lo hi x ps qs) (hu:∀ q ∈ qs,usd S q) (hnd:qs.Nodup) (h10:x.keys.length <= 10)
  (hm:mn <= x.keys.length /\ mn <= 3) (hk0:0 < x.keys.length) (hlo:0 <= lo) (hhi:hi <= 4294967296) {os:List Int} (ho:∀ o ∈ os,usd S o) (hon:os.Nodup) (hoq:∀ o ∈ os,o ∉ qs) :
  (∃ S',yo n S x os = (.error 6,S') /\ vJ n S 2) \/
  ∃ bk ks S' qs',yo n S x os = (.ok (bk,ks),S') /\ Fo (Tr (Dm S') hh mn) lo hi bk ks ps qs' /\ bk.length <= 1 /\ (x.keys.length <= 7 -> bk = []) /\ (8 <= x.keys.length -> bk.length = 1) /\ zbl n firm S S' os qs qs':=by
 have hne0:∀ {y:Nd},0 < y.keys.length -> y.keys ≠ []:=fun h e=>by rw [e] at h; cases h
 by_cases h7:x.keys.length <= 7
 ·have hp:yq x = ([x],[]):=by unfold yq; rw [if_pos h7]
  rcases XL h hn hnd h7 hk0 hlo hhi with ⟨ha,hf⟩ | ⟨k,S1,ha,hok,hst,hus,hd⟩
  ·refine .inl ⟨S,?_,[],by simp,fun m h1 h2=>.inl (hf m h1 h2)⟩;unfold yo;simp only [hp,zT,ha]
  ·have ho1:∀ o ∈ os,usd S1 o:=fun o hm=>(hst.page o (ho o hm) (by simp)).1
   obtain ⟨S2,hd1,hok2,hpg2,hon2,hkp2⟩:=ZA os hok ho1 hon;have hkf:inZ S.s k = false:=hst.fresh k (by simp);have hko:k ∉ os:=fun hm=>by have:=ve h (ho k hm); rw [hkf] at this; cases this
   have hkq:k ∉ qs:=fun hk=>by have:=ve h (hu k hk); rw [hkf] at this; cases this
   have hD:∀ j,usd S j -> j ∉ os -> usd S2 j /\ Dm S2 j = Dm S j:=fun j hj hne=>by
    obtain ⟨a1,a2⟩:=hst.page j hj (by simp);obtain ⟨b1,b2⟩:=hpg2 j a1 hne;exact ⟨b1,b2.trans a2⟩
   obtain ⟨c1,c2⟩:=hpg2 k hus hko;have hkp:∀ j,inZ S.s j = true -> j ∉ os -> inZ S2.s j = true:=fun j hj hne=>hkp2 j (qY h ha hj) hne
   refine .inr ⟨[],[k],S2,k :: qs,?_,⟨k,rfl,hn.laid (c2.trans hd) (fun q hq=>(hD q (hu q hq) (fun e=>hoq q e hq)).2) hm.1 (hne0 hk0)⟩,by simp,fun _=>rfl,fun h8=>by omega,hok2,zfZ.2 ⟨hkq,hnd⟩,fun q hq=>?_,fun q hq=>?_,hD,fun j hj=>?_,fun q hq=>zfV _ hq,hkp⟩
   ·unfold yo;simp only [hp,zT,ha,hd1,if_true]
   ·rcases zfU.1 hq with rfl | hq
    ·exact c1
    ·exact (hD q (hu q hq) (fun e=>hoq q e hq)).1
   ·rcases zfU.1 hq with rfl | hq
    ·exact .inr hkf
    ·exact .inl hq
   ·obtain ⟨h1,h2⟩:=hon2 j hj;rcases hst.used j h1 with ⟨h3,_⟩ | h3
    ·exact .inl ⟨h3,h2⟩
    ·exact .inr (by rw [zft.1 h3]; simp)
 ·obtain ⟨x1,x2,m,p1,p2,q1,q2,hp,n1,n2,rfl,rfl,l1,l2,l3,l4⟩:=hn.split (by omega) h10;obtain ⟨d1,d2,d3⟩:=zfY.1 hnd;have b1:=n1.lt (by omega);have b2:=n2.lt (by omega);have u1:∀ q ∈ q1,usd S q:=fun q hq=>hu q (zfS _ hq)
  have u2:∀ q ∈ q2,usd S q:=fun q hq=>hu q (zfT _ hq)
  have o1:∀ o ∈ os,o ∉ q1:=fun o hm hq=>hoq o hm (zfS _ hq)
  have o2:∀ o ∈ os,o ∉ q2:=fun o hm hq=>hoq o hm (zfT _ hq)
  rcases XL h n1 d1 l2 (by omega) hlo (by omega) with ⟨ha,hf⟩ | ⟨k1,S1,ha,hok1,hst1,hus1,hd1⟩
  ·refine .inl ⟨S,?_,[],by simp,fun m h1 h2=>.inl (hf m h1 h2)⟩;unfold yo;simp only [hp,zT,ha]
  have hk1:inZ S.s k1 = false:=hst1.fresh k1 (by simp);have n2':Nv (Dm S1) hh m hi x2 p2 q2:=n2.imp fun q hq=>(hst1.page q (u2 q hq) (by simp)).2
  rcases XL hok1 n2' d2 l4 (by omega) (by omega) hhi with ⟨ha2,hf2⟩ | ⟨k2,S2,ha2,hok2,hst2,hus2,hd2⟩
  ·obtain ⟨E,e1,e2⟩:=hst1.inz;refine .inl ⟨S1,?_,E,by omega,fun m h1 h2=>e2 _ (hf2 m h1 h2)⟩;unfold yo;simp only [hp,zT,ha,ha2]
  have hk2:inZ S1.s k2 = false:=hst2.fresh k2 (by simp);have hA:∀ j,usd S j -> usd S2 j /\ Dm S2 j = Dm S j:=fun j hj=>by
   obtain ⟨a1,a2⟩:=hst1.page j hj (by simp);obtain ⟨b1,b2⟩:=hst2.page j a1 (by simp);exact ⟨b1,b2.trans a2⟩
  obtain ⟨S3,hd3,hok3,hpg3,hon3,hkp3⟩:=ZA os hok2 (fun o hm=>(hA o (ho o hm)).1) hon;have hko1:k1 ∉ os:=fun e=>by have:=ve h (ho k1 e); rw [hk1] at this; cases this
  have hko2:k2 ∉ os:=fun e=>by have:=ve hok1 (hst1.page k2 (ho k2 e) (by simp)).1; rw [hk2] at this; cases this
  have hk12:k1 ≠ k2:=fun e=>by have:=ve hok1 hus1; rw [e,hk2] at this; cases this
  have hkn1:∀ q,usd S q -> k1 ≠ q:=fun q hq e=>by have:=ve h hq; rw [<- e,hk1] at this; cases this
  have hkn2:∀ q,usd S q -> k2 ≠ q:=fun q hq e=>by have:=ve hok1 (hst1.page q hq (by simp)).1; rw [<- e,hk2] at this; cases this
  have hD:∀ j,usd S j -> j ∉ os -> usd S3 j /\ Dm S3 j = Dm S j:=fun j hj hne=>by
   obtain ⟨a1,a2⟩:=hA j hj;obtain ⟨b1,b2⟩:=hpg3 j a1 hne;exact ⟨b1,b2.trans a2⟩
  have hK1:usd S3 k1 /\ Dm S3 k1 = some x1:=by
   obtain ⟨a1,a2⟩:=hst2.page k1 hus1 (by simp);obtain ⟨b1,b2⟩:=hpg3 k1 a1 hko1;exact ⟨b1,b2.trans (a2.trans hd1)⟩
  have hK2:usd S3 k2 /\ Dm S3 k2 = some x2:=by
   obtain ⟨b1,b2⟩:=hpg3 k2 hus2 hko2;exact ⟨b1,b2.trans hd2⟩
  have hk2f:inZ S.s k2 = false:=by
   cases hz:inZ S.s k2 with
   | false=>rfl
   | true =>
    have:=qY h ha hz;rw [hk2] at this;cases this
  have t1:=n1.laid (mn:=mn) hK1.2 (fun q hq=>(hD q (u1 q hq) (fun e=>o1 q e hq)).2) (by omega) (hne0 (by omega));have t2:=n2.laid (mn:=mn) hK2.2 (fun q hq=>(hD q (u2 q hq) (fun e=>o2 q e hq)).2) (by omega) (hne0 (by omega));have hkp:∀ j,inZ S.s j = true -> j ∉ os -> inZ S3.s j = true:=fun j hj hne=>hkp3 j (qY hok1 ha2 (qY h ha hj)) hne
  have hsb:∀ q ∈ q1 ++ q2,q ∈ (k1 :: q1) ++ (k2 :: q2):=fun q hq=>by
   rcases zfy.1 hq with hq | hq
   ·exact zfS _ (zfV _ hq)
   ·exact zfT _ (zfV _ hq)
  refine .inr ⟨[m],[k1,k2],S3,(k1 :: q1) ++ (k2 :: q2),?_,⟨k1,[k2],p1,k1 :: q1,p2,k2 :: q2,rfl,rfl,rfl,t1,k2,rfl,t2⟩,by simp,fun h9=>absurd h9 h7,fun _=>rfl,hok3,?_,fun q hq=>?_,fun q hq=>?_,hD,fun j hj=>?_,hsb,hkp⟩
  ·unfold yo;simp only [hp,zT,ha,ha2,hd3,if_true]
  ·refine zfY.2 ⟨zfZ.2 ⟨fun hq=>hkn1 k1 (u1 k1 hq) rfl,d1⟩,zfZ.2 ⟨fun hq=>hkn2 k2 (u2 k2 hq) rfl,d2⟩,fun a ha b hb e=>?_⟩;subst e;rcases zfU.1 ha with rfl | ha
   ·rcases zfU.1 hb with e | hb
    ·exact hk12 e
    ·exact hkn1 a (u2 a hb) rfl
   ·rcases zfU.1 hb with rfl | hb
    ·exact hkn2 a (u1 a ha) rfl
    ·exact d3 a ha a hb rfl
  ·rcases zfy.1 hq with hq | hq
   ·rcases zfU.1 hq with rfl | hq
    ·exact hK1.1
    ·exact (hD q (u1 q hq) (fun e=>o1 q e hq)).1
   ·rcases zfU.1 hq with rfl | hq
    ·exact hK2.1
    ·exact (hD q (u2 q hq) (fun e=>o2 q e hq)).1
  ·rcases zfy.1 hq with hq | hq
   ·rcases zfU.1 hq with rfl | hq
    ·exact .inr hk1
    ·exact .inl (zfS _ hq)
   ·rcases zfU.1 hq with rfl | hq
    ·exact .inr hk2f
    ·exact .inl (zfT _ hq)
  ·obtain ⟨h1,h2⟩:=hon3 j hj;rcases hst2.used j h1 with ⟨h3,_⟩ | h3
   ·rcases hst1.used j h3 with ⟨h5,_⟩ | h5
    ·exact .inl ⟨h5,h2⟩
    ·exact .inr (by rw [zft.1 h5]; simp)
   ·exact .inr (by rw [zft.1 h3]; simp)
structure Chg (n:Nat) (firm:Nat -> List UInt8) (S S':TS) (o:Int) (qs qs':List Int):Prop where
 ok:OkT n S' firm
 nodup:qs'.Nodup
 used:∀ q ∈ qs',usd S' q
 new:∀ q ∈ qs',q ∈ qs \/ inZ S.s q = false
 page:∀ j,usd S j -> j ≠ o -> usd S' j /\ Dm S' j = Dm S j
 only:∀ j,usd S' j -> (usd S j /\ j ≠ o) \/ j ∈ qs'
 sub:∀ q ∈ qs,q ∈ qs'
 keep:∀ j,inZ S.s j = true -> j ≠ o -> inZ S'.s j = true
theorem zbl.one {n:Nat} {firm:Nat -> List UInt8} {S S':TS} {o:Int} {qs qs':List Int} (h:zbl n firm S S' [o] qs qs'):Chg n firm S S' o qs qs' :=
 ⟨h.ok,h.nodup,h.used,h.new,fun j hj hne=>h.page j hj (by simpa using hne),fun j hj=>(h.only j hj).imp (fun h=>⟨h.1,by simpa using h.2⟩) id,h.sub,fun j hj hne=>h.keep j hj (by simpa using hne)⟩
theorem Yy {n:Nat} {S:TS} {firm:Nat -> List UInt8} (h:OkT n S firm) {hh mn:Nat} {lo hi:Int} {x:Nd} {ps:List Pr} {qs:List Int} (hn:Nv (Dm S) hh lo hi x ps qs) (hu:∀ q ∈ qs,usd S q) (hnd:qs.Nodup) (h8:x.keys.length <= 8)
  (hm:mn <= x.keys.length /\ mn <= 3) (hk0:0 < x.keys.length) (hlo:0 <= lo) (hhi:hi <= 4294967296) {o:Int} (ho:usd S o) (hoq:o ∉ qs) :
  (∃ S',yo n S x [o] = (.error 6,S') /\ vJ n S 2) \/
  ∃ bk ks S' qs',yo n S x [o] = (.ok (bk,ks),S') /\ Fo (Tr (Dm S') hh mn) lo hi bk ks ps qs' /\ bk.length <= 1 /\ (x.keys.length <= 7 -> bk = []) /\ Chg n firm S S' o qs qs':=by
 rcases vM h hn hu hnd (by omega) hm hk0 hlo hhi (os:=[o]) (by simpa using ho) (by simp) (by simpa using hoq) with h1 | ⟨bk,ks,S',qs',h1,h2,h3,h4,_,h5⟩
 ·exact .inl h1
 ·exact .inr ⟨bk,ks,S',qs',h1,h2,h3,h4,h5.one⟩
end
section
theorem vk {S:TS} {i:Int} {x:Nd} (h:Dm S i = some x):inZ S.s i = true /\ zJ x = true:=by
 unfold Dm at h;split at h
 ·rename_i h1; exact ⟨h1,je h⟩
 ·cases h
theorem wy {S:TS} {i level:Int} {x:Nd} (h:Dm S i = some x) (hl:level <= 12):yk S i level = .ok x:=by
 have h1:=(vk h).1;unfold Dm at h;rw [if_pos h1] at h;unfold yk;rw [if_neg (by omega),if_pos h1,h]
theorem qD {x:Nd} (hr:zJ x = true) (key:Int):(∀ z ∈ x.keys.take (yB x key),z <= key) /\ (∀ z ∈ x.keys.drop (yB x key),key < z) /\ yB x key <= x.keys.length:=by
 have hs:=(wJ.1 (zm hr).1).2;have hle:=Zc x.keys key;have hat:∀ i (hi:i < x.keys.length),x.keys[i] < key ↔ i < less x.keys key:=fun i hi=>Yd hs key hi
 have hpw:=zfL.1 hs;unfold yB yw;rw [if_pos hr];simp only;by_cases hf:x.keys[less x.keys key]? = some key
 ·obtain ⟨hal,hae⟩:=List.getElem?_eq_some_iff.1 hf;rw [decide_eq_true hf,if_pos rfl];refine ⟨fun z hz=>?_,fun z hz=>?_,hal⟩
  ·obtain ⟨i,hi,rfl⟩:=zfX.1 hz;rw [List.getElem_take];rw [zfj] at hi;rcases Nat.lt_or_ge i (less x.keys key) with h | h
   ·exact Int.le_of_lt ((hat i (by omega)).2 h)
   ·have:i = less x.keys key:=by omega
    subst this;exact Int.le_of_eq hae
  ·obtain ⟨i,hi,rfl⟩:=zfX.1 hz;rw [zf1];rw [zfr] at hi;have:=hpw (less x.keys key) (less x.keys key + 1 + i) hal (by omega) (by omega);omega
 ·rw [decide_eq_false hf,if_neg (by decide)];refine ⟨fun z hz=>?_,fun z hz=>?_,hle⟩
  ·obtain ⟨i,hi,rfl⟩:=zfX.1 hz;rw [List.getElem_take];rw [zfj] at hi;exact Int.le_of_lt ((hat i (by omega)).2 (by omega))
  ·obtain ⟨i,hi,rfl⟩:=zfX.1 hz;rw [zf1];rw [zfr] at hi;have h0:¬ x.keys[less x.keys key + i]'(by omega) < key:=fun h=>by have:=(hat _ (by omega)).1 h; omega
   have h1:x.keys[less x.keys key + i]'(by omega) ≠ key:=fun e=>by
    rcases zf7 i with rfl | h2
    ·exact hf (by rw [ze7 (by omega)]; exact congrArg some e)
    ·have:=hpw (less x.keys key) (less x.keys key + i) (by omega) (by omega) (by omega);have:=(hat (less x.keys key) (by omega)).1 (by omega);omega
   omega
structure zeK (n:Nat) (firm:Nat -> List UInt8) (S S':TS) (hh mn:Nat) (lo hi i:Int) (x:Nd) (ps:List Pr) (qs qs':List Int):Prop where
 ok:OkT n S' firm
 nv:Nv (Dm S') hh lo hi x ps qs'
 few:x.keys.length <= 8
 least:mn <= x.keys.length
 nodup:qs'.Nodup
 used:∀ q ∈ qs',usd S' q
 at_:usd S' i /\ i ∉ qs'
 new:∀ q ∈ qs',q ∈ qs \/ inZ S.s q = false
 page:∀ j,usd S j -> j ∉ qs.tail -> usd S' j /\ Dm S' j = Dm S j
 only:∀ j,usd S' j -> (usd S j /\ j ∉ qs.tail) \/ j ∈ qs'
 keep:∀ j,inZ S.s j = true -> j ∉ qs.tail -> inZ S'.s j = true
theorem vJ.stay {n:Nat} {firm:Nat -> List UInt8} {S S':TS} {m m':Nat} (h:vJ n S' m') (hs:xD n firm S S' m):vJ n S (m + m'):=by
 obtain ⟨E,e1,e2⟩:=hs.inz;obtain ⟨F,f1,f2⟩:=h;refine ⟨E ++ F,by rw [zfk]; omega,fun k h1 h2=>?_⟩;rcases f2 k h1 h2 with h | h
 ·rcases e2 _ h with h | h
  ·exact .inl h
  ·exact .inr (zfS _ h)
 ·exact .inr (zfT _ h)
theorem vJ.more {n:Nat} {S:TS} {m m':Nat} (h:vJ n S m) (hm:m <= m'):vJ n S m':=by
 obtain ⟨F,f1,f2⟩:=h;exact ⟨F,by omega,f2⟩
theorem zex {n:Nat} {firm:Nat -> List UInt8} {key:Int} {val:ByteArray} (hv:val.size = 12) (hh:Nat):∀ {S:TS} {mn f:Nat} {lo hi i:Int} {ps:List Pr} {qs:List Int},OkT n S firm -> Tr (Dm S) hh mn lo hi i ps qs -> (∀ q ∈ qs,usd S q) -> qs.Nodup ->
  lo <= key -> key < hi -> 0 <= lo -> hi <= 4294967296 -> hh + 1 <= f -> f <= 12 ->
  (∃ S',kQ n f S i key val = (.error 6,S') /\ vJ n S (2 * f)) \/ ∃ x S' qs',kQ n f S i key val = (.ok x,S') /\ zeK n firm S S' hh mn lo hi i x (vE ps key val) qs qs':=by
 induction hh with
 | zero =>
  intro S mn f lo hi i ps qs h ht hu hnd hk1 hk2 hlo hhi hf hf2;obtain ⟨f,rfl⟩:∃ g,f = g + 1:=⟨f - 1,by omega⟩
  obtain ⟨keys,vals,h1,h2,h3,h4,h5,rfl,rfl⟩:=ht;have hr:=(vk h1).2;have hld:=wy h1 (level:=12 - (f:Int)) (by omega);have h12:∀ v ∈ vals,v.size = 12:=fun v hv2=>by
   rcases (zm hr).2.2 with ⟨_,h6,_⟩ | ⟨h6,_⟩
   ·exact of_decide_eq_true (List.all_eq_true.1 h6 v hv2)
   ·exact absurd rfl h6
  have hn:Nv (Dm S) 0 lo hi ⟨keys,vals,[]⟩ (keys.zip vals) []:=⟨rfl,h2,h4,h5,h12,rfl,rfl⟩
  obtain ⟨w1,w2,w3⟩:=hn.with_ hr ⟨hk1,hk2⟩ hv;refine .inr ⟨_,S,[],?_,h,w1,?_,Nat.le_trans h3 w2,by simp,(fun _ h=>by cases h),⟨hu i (by simp),by simp⟩,(fun _ h=>by cases h),fun j hj _=>⟨hj,rfl⟩,fun j hj=>.inl ⟨hj,by simp⟩,fun j hj _=>hj⟩
  ·unfold kQ;rw [hld];rfl
  ·have:=(zm hr).2.1;simp only at this w3;omega
 | succ hh ih =>
  intro S mn f lo hi i ps qs h ht hu hnd hk1 hk2 hlo hhi hf hf2;obtain ⟨f,rfl⟩:∃ g,f = g + 1:=⟨f - 1,by omega⟩
  obtain ⟨keys,kids,qt,h1,h2,h3,rfl⟩:=ht;have hr:=(vk h1).2;have hld:=wy h1 (level:=12 - (f:Int)) (by omega);obtain ⟨s1,s2,s3⟩:=qD hr key;obtain ⟨k,hk⟩:∃ k,k = yB ⟨keys,[],kids⟩ key:=⟨_,rfl⟩
  rw [<- hk] at s1 s2 s3;simp only at s1 s2 s3;have hl:=h3.len;have hkl:k < kids.length:=by omega
  obtain ⟨kid,hkid⟩:∃ kid,kid = kids[k]'hkl:=⟨_,rfl⟩
  have ek:kids = kids.take k ++ kid :: kids.drop (k + 1):=by rw [hkid]; simp
  have ekk:keys = keys.take k ++ keys.drop k:=(zf0 k keys).symm;have h3':Fo (Tr (Dm S) hh 3) lo hi (keys.take k ++ keys.drop k) (kids.take k ++ kid :: kids.drop (k + 1)) ps qt:=by rw [<- ek,<- ekk]; exact h3
  obtain ⟨lo',hi',p0,p1,p2,q0,q1,q2,rfl,rfl,t1,e4,e5,e6,e7,e8⟩:=Fo.split (by rw [zfj,zfj]; omega) h3';obtain ⟨k1,k2,k3,k4,k5⟩:=h3.kids;have hlo':lo' = lo \/ lo' ∈ keys.take k:=by
   have:=List.getLast_mem (l:=lo :: keys.take k) (by simp);rw [<- e4] at this;exact zfU.1 this
  have hhi':hi' ∈ keys.drop k \/ hi' = hi:=by
   have:=List.head_mem (l:=keys.drop k ++ [hi]) (by simp);rw [<- e5] at this;rcases zfy.1 this with h | h
   ·exact .inl h
   ·exact .inr (zft.1 h)
  have c1:lo' <= key:=by
   rcases hlo' with rfl | h
   ·exact hk1
   ·exact s1 _ h
  have c2:key < hi':=by
   rcases hhi' with h | rfl
   ·exact s2 _ h
   ·exact hk2
  have c3:0 <= lo':=by
   rcases hlo' with rfl | h
   ·exact hlo
   ·have:=(k4 _ (zfO h)).1; omega
  have c4:hi' <= 4294967296:=by
   rcases hhi' with h | rfl
   ·have:=(k4 _ (zfP h)).2; omega
   ·exact hhi
  have hi0:=zfZ.1 hnd;obtain ⟨n1,n2,n3⟩:=zfY.1 hi0.2;obtain ⟨n4,n5,n6⟩:=zfY.1 n1;have uu:∀ q ∈ q0 ++ q1 ++ q2,usd S q:=fun q hq=>hu q (zfV _ hq)
  have u1:∀ q ∈ q1,usd S q:=fun q hq=>uu q (zfS _ (zfT _ hq))
  have hput:kQ n (f + 1) S i key val = (match kQ n f S kid key val with
    | (.error c,S1)=>(.error c,S1)
    | (.ok y,S1)=>zQ n S1 ⟨keys,[],kids⟩ k 1 y):=by
   show (match yk S i (12 - (f:Int)) with | .error c=>(Except.error c,S) | .ok x=>_) = _;rw [hld];simp only;rw [if_neg (by omega),<- hk,show kids.getD k 0 = kid by rw [hkid,ze6,ze7 hkl]; rfl];cases kQ n f S kid key val with
   | mk o S1=>cases o <;> rfl
  have hst:=jy f h kid key val;rcases ih (f:=f) h t1 u1 n5 c1 c2 c3 c4 (by omega) (by omega) with ⟨S1,hp,hnr⟩ | ⟨y,S1,qy,hp,hy⟩
  ·exact .inl ⟨S1,by rw [hput,hp],hnr.more (by omega)⟩
  ·rw [hp] at hst;obtain ⟨x1,qt1,hx1,rfl⟩:=t1.head;have hold:((⟨keys,[],kids⟩:Nd).kids.drop k).take 1 = [kid]:=by
    show (kids.drop k).take 1 = [kid]
    rw [zga hkl,hkid]; rfl
   rcases Yy hy.ok hy.nv hy.used hy.nodup hy.few (mn:=3) ⟨hy.least,by decide⟩ (Nat.lt_of_lt_of_le (by decide) hy.least) c3 c4 hy.at_.1 hy.at_.2 with ⟨S2,hc,hnr⟩ | ⟨bk,ks,S2,qn,hc,hfo,hb1,_,hch⟩
   ·refine .inl ⟨S2,?_,(hnr.stay hst).more (by omega)⟩;rw [hput,hp];simp only [zQ,hold,hc]
   ·have f0:∀ q,q ∈ q0 \/ q ∈ q2 -> usd S2 q /\ Dm S2 q = Dm S q /\ q ≠ kid /\ usd S q /\ usd S1 q:=fun q hq=>by
     have hqs:usd S q:=uu q (by rcases hq with h | h; exact zfS _ (zfS _ h); exact zfT _ h);have hq1:q ∉ kid :: qt1:=fun hm=>by
      rcases hq with h | h
      ·exact n6 q h q hm rfl
      ·exact n3 q (zfT _ hm) q h rfl
     have hqk:q ≠ kid:=fun e=>hq1 (by rw [e]; simp)
     obtain ⟨a1,a2⟩:=hy.page q hqs (fun hm=>hq1 (zfV _ hm));obtain ⟨b1,b2⟩:=hch.page q a1 hqk;exact ⟨b1,b2.trans a2,hqk,hqs,a1⟩
    have fresh:∀ q ∈ qn,(q ∈ kid :: qt1 \/ inZ S.s q = false) \/ inZ S1.s q = false:=fun q hq=>by
     rcases hch.new q hq with h | h
     ·exact .inl (hy.new q h)
     ·exact .inr h
    have hqn0:∀ q ∈ qn,∀ r,(r ∈ q0 \/ r ∈ q2) -> q ≠ r:=fun q hq r hr2 e=>by
     subst e;obtain ⟨_,_,g3,g4,g5⟩:=f0 q hr2;rcases fresh q hq with (h9 | h9) | h9
     ·rcases hr2 with h | h
      ·exact n6 q h q h9 rfl
      ·exact n3 q (zfT _ h9) q h rfl
     ·have:=ve h g4; rw [h9] at this; cases this
     ·have:=ve hy.ok g5; rw [h9] at this; cases this
    have hi1:∀ q,q ∈ q0 ++ (kid :: qt1) ++ q2 -> q ≠ i:=fun q hq e=>hi0.1 (by rw [<- e]; exact hq)
    have hki:kid ≠ i:=hi1 kid (by simp);have hit:i ∉ (kid :: qt1).tail:=fun hm=>hi1 i (zfS _ (zfT _ (zfV _ hm))) rfl
    have hui:usd S i:=hu i (by simp);obtain ⟨ui1,_⟩:=hy.page i hui hit;obtain ⟨ui2,_⟩:=hch.page i ui1 (Ne.symm hki);have hkS1:usd S1 kid:=hy.at_.1;refine .inr ⟨⟨keys.take k ++ bk ++ keys.drop (k + 1 - 1),[],kids.take k ++ ks ++ kids.drop (k + 1)⟩,S2,q0 ++ qn ++ q2,?_,hch.ok,⟨rfl,?_⟩,?_,?_,?_,fun q hq=>?_,⟨ui2,fun hm=>?_⟩,fun q hq=>?_,fun j hj hjt=>?_,fun j hj=>?_,fun j hj hjt=>?_⟩
    ·rw [hput,hp];simp only [zQ,hold,hc]
    ·show Fo (Tr (Dm S2) hh 3) lo hi (keys.take k ++ bk ++ keys.drop (k + 1 - 1)) (kids.take k ++ ks ++ kids.drop (k + 1)) _ _;rw [Nat.add_sub_cancel,XZ]
     ·exact e8 _ _ _ _ _ (fun _ _ _ _ _ h8 h9=>h8.imp fun q hq=>(f0 q (h9 q hq)).2.1) hfo
     ·intro p hp2;obtain ⟨_,_,_,_,_,g1,g2,g3⟩:=e6 p hp2;have:=(g1.bounds (.inl (by decide))).2 p g2;have:=s1 _ g3;omega
     ·intro p hp2;obtain ⟨_,_,_,_,_,g1,g2,g3⟩:=e7 p hp2;have:=(g1.bounds (.inl (by decide))).2 p g2;have:=s2 _ g3;omega
    ·show (keys.take k ++ bk ++ keys.drop (k + 1 - 1)).length <= 8;have:=(zm hr).2.1;simp only at this;rw [Nat.add_sub_cancel,zfk,zfk,zfj,zfr];omega
    ·show mn <= (keys.take k ++ bk ++ keys.drop (k + 1 - 1)).length;have:=h2.2;rw [Nat.add_sub_cancel,zfk,zfk,zfj,zfr];omega
    ·refine zfY.2 ⟨zfY.2 ⟨n4,hch.nodup,fun a ha b hb e=>hqn0 b hb a (.inl ha) e.symm⟩,n2,fun a ha b hb e=>?_⟩;rcases zfy.1 ha with ha | ha
     ·exact n3 a (zfS _ ha) b hb e
     ·exact hqn0 a ha b (.inr hb) e
    ·rcases zfy.1 hq with hq | hq
     ·rcases zfy.1 hq with hq | hq
      ·exact (f0 q (.inl hq)).1
      ·exact hch.used q hq
     ·exact (f0 q (.inr hq)).1
    ·rcases zfy.1 hm with hm | hm
     ·rcases zfy.1 hm with hm | hm
      ·exact hi1 i (zfS _ (zfS _ hm)) rfl
      ·rcases fresh i hm with (h9 | h9) | h9
       ·exact hi1 i (zfS _ (zfT _ h9)) rfl
       ·have:=ve h hui; rw [h9] at this; cases this
       ·have:=ve hy.ok ui1; rw [h9] at this; cases this
     ·exact hi1 i (zfT _ hm) rfl
    ·rcases zfy.1 hq with hq | hq
     ·rcases zfy.1 hq with hq | hq
      ·exact .inl (zfV _ (zfS _ (zfS _ hq)))
      ·rcases fresh q hq with (h9 | h9) | h9
       ·exact .inl (zfV _ (zfS _ (zfT _ h9)))
       ·exact .inr h9
       ·by_cases h10:q ∈ kid :: qt1
        ·exact .inl (zfV _ (zfS _ (zfT _ h10)))
        ·cases h11:inZ S.s q with
         | false=>exact .inr rfl
         | true =>
          have:=hy.keep q h11 (fun hm=>h10 (zfV _ hm));rw [h9] at this; cases this
     ·exact .inl (zfV _ (zfT _ hq))
    ·have hj1:j ∉ kid :: qt1:=fun hm=>hjt (zfS _ (zfT _ hm))
     obtain ⟨a1,a2⟩:=hy.page j hj (fun hm=>hj1 (zfV _ hm));obtain ⟨b1,b2⟩:=hch.page j a1 (fun e=>hj1 (by rw [e]; simp));exact ⟨b1,b2.trans a2⟩
    ·rcases hch.only j hj with ⟨g1,g2⟩ | g1
     ·rcases hy.only j g1 with ⟨g3,g4⟩ | g3
      ·by_cases g5:j ∈ q0 \/ j ∈ q2
       ·refine .inr ?_;rcases g5 with g5 | g5
        ·exact zfS _ (zfS _ g5)
        ·exact zfT _ g5
       ·refine .inl ⟨g3,fun hm=>?_⟩;rcases zfy.1 hm with hm | hm
        ·rcases zfy.1 hm with hm | hm
         ·exact g5 (.inl hm)
         ·rcases zfU.1 hm with hm | hm
          ·exact g2 hm
          ·exact g4 hm
        ·exact g5 (.inr hm)
      ·exact .inr (zfS _ (zfT _ (hch.sub j g3)))
     ·exact .inr (zfS _ (zfT _ g1))
    ·have hj1:j ∉ kid :: qt1:=fun hm=>hjt (zfS _ (zfT _ hm))
     exact hch.keep j (hy.keep j hj fun hm=>hj1 (zfV _ hm)) (fun e=>hj1 (by rw [e]; simp))
end
section
theorem zeq {D:Int -> Option Nd} {hh:Nat} {lo hi key:Int} {keys kids:List Int} {ps:List Pr} {qs:List Int} {k:Nat} (h3:Fo (Tr D hh 3) lo hi keys kids ps qs) (s1:∀ z ∈ keys.take k,z <= key) (s2:∀ z ∈ keys.drop k,key < z) (hk:k <= keys.length) :
  ∃ lo' hi' p0 p1 p2 q1,Tr D hh 3 lo' hi' (kids.getD k 0) p1 q1 /\ ps = p0 ++ p1 ++ p2 /\ (∀ p ∈ p0,p.1 < key) /\ ∀ p ∈ p2,key < p.1:=by
 have hl:=h3.len;have hkl:k < kids.length:=by omega
 obtain ⟨kid,hkid⟩:∃ kid,kid = kids[k]'hkl:=⟨_,rfl⟩
 have ek:kids = kids.take k ++ kid :: kids.drop (k + 1):=by rw [hkid]; simp
 have ekk:keys = keys.take k ++ keys.drop k:=(zf0 k keys).symm;have h3':Fo (Tr D hh 3) lo hi (keys.take k ++ keys.drop k) (kids.take k ++ kid :: kids.drop (k + 1)) ps qs:=by rw [<- ek,<- ekk]; exact h3
 obtain ⟨lo',hi',p0,p1,p2,q0,q1,q2,e1,e2,t1,_,_,e6,e7,_⟩:=Fo.split (by rw [zfj,zfj]; omega) h3';refine ⟨lo',hi',p0,p1,p2,q1,by rw [ze6,ze7 hkl]; rw [<- hkid]; exact t1,e1,fun p hp2=>?_,fun p hp2=>?_⟩
 ·obtain ⟨_,_,_,_,_,g1,g2,g3⟩:=e6 p hp2;have:=(g1.bounds (.inl (by decide))).2 p g2;have:=s1 _ g3;omega
 ·obtain ⟨_,_,_,_,_,g1,g2,g3⟩:=e7 p hp2;have:=(g1.bounds (.inl (by decide))).2 p g2;have:=s2 _ g3;omega
theorem JO {key:Int} {v:ByteArray} (hh:Nat):∀ {S:TS} {mn f:Nat} {lo hi i:Int} {ps:List Pr} {qs:List Int},Tr (Dm S) hh mn lo hi i ps qs -> (key,v) ∈ ps -> hh + 1 <= f -> f <= 12 -> jM f S i key = .ok v:=by
 induction hh with
 | zero =>
  intro S mn f lo hi i ps qs ht hm hf hf2;obtain ⟨f,rfl⟩:∃ g,f = g + 1:=⟨f - 1,by omega⟩
  obtain ⟨keys,vals,h1,h2,h3,h4,h5,rfl,rfl⟩:=ht;have hr:=(vk h1).2;have hld:=wy h1 (level:=12 - (f:Int)) (by omega);obtain ⟨j,hj,he⟩:=zfX.1 hm;simp only [List.length_zip] at hj;rw [List.getElem_zip] at he;simp only [Prod.mk.injEq] at he;have hl:less keys key = j:=VK h4 key (by omega) (fun a ha=>by rw [<- he.1]; exact zfL.1 h4 a j (by omega) (by omega) ha) (fun ha=>by rw [he.1]; omega);have hs:yw ⟨keys,vals,[]⟩ key = (j,true):=by
   unfold yw;rw [if_pos hr];simp only [hl];rw [ze7 (by omega),he.1];simp
  unfold jM;rw [hld];simp only [hs,zf5,if_true];rw [ze6,ze7 (by omega)];exact congrArg Except.ok he.2
 | succ hh ih =>
  intro S mn f lo hi i ps qs ht hm hf hf2;obtain ⟨f,rfl⟩:∃ g,f = g + 1:=⟨f - 1,by omega⟩
  obtain ⟨keys,kids,qt,h1,h2,h3,rfl⟩:=ht;have hr:=(vk h1).2;have hld:=wy h1 (level:=12 - (f:Int)) (by omega);obtain ⟨s1,s2,s3⟩:=qD hr key;obtain ⟨lo',hi',p0,p1,p2,q1,t1,rfl,hp0,hp2⟩:=zeq h3 s1 s2 s3;have hl:=h3.len;have hm1:(key,v) ∈ p1:=by
   rcases zfy.1 hm with h | h
   ·rcases zfy.1 h with h | h
    ·have:=hp0 _ h; simp only at this; omega
    ·exact h
   ·have:=hp2 _ h; simp only at this; omega
  unfold jM;rw [hld];simp only;rw [if_neg (by omega)];exact ih t1 hm1 (by omega) (by omega)
def Rt (D:Int -> Option Nd) (root:Int) (ps:List Pr) (qs:List Int):Prop:=(root = 0 /\ ps = [] /\ qs = []) \/ ∃ h,Tr D h 1 0 4294967296 root ps qs
theorem zb8 (ps:List Pr) (key:Int) (val:ByteArray):(key,val) ∈ vE ps key val:=by unfold vE; simp
structure XE (n:Nat) (firm:Nat -> List UInt8) (S S':TS) (r:Int) (ps:List Pr) (qs qs':List Int):Prop where
 ok:OkT n S' firm
 rt:Rt (Dm S') r ps qs'
 nodup:qs'.Nodup
 used:∀ q ∈ qs',usd S' q
 new:∀ q ∈ qs',q ∈ qs \/ inZ S.s q = false
 page:∀ j,usd S j -> j ∉ qs -> usd S' j /\ Dm S' j = Dm S j
 only:∀ j,usd S' j -> (usd S j /\ j ∉ qs) \/ j ∈ qs'
theorem qB {h m:Nat} (h1:2 ^ (h + 1) <= m) (h2:m <= 500):h <= 8:=by
 rcases Nat.lt_or_ge 8 h with h3 | h3
 ·have:2 ^ 10 <= 2 ^ (h + 1):=Nat.pow_le_pow_right (by decide) (by omega);have h4:(2:Nat) ^ 10 = 1024:=by decide
  omega
 ·exact h3
theorem Tr.less {D:Int -> Option Nd} {h mn mn':Nat} {lo hi k:Int} {ps:List Pr} {qs:List Int} (ht:Tr D h mn lo hi k ps qs) (hm:mn' <= mn):Tr D h mn' lo hi k ps qs:=by
 cases h with
 | zero =>
  obtain ⟨keys,vals,h1,h2,h3,h4⟩:=ht;exact ⟨keys,vals,h1,h2,Nat.le_trans hm h3,h4⟩
 | succ h =>
  obtain ⟨keys,kids,qs',h1,h2,h3⟩:=ht;exact ⟨keys,kids,qs',h1,⟨h2.1,Nat.le_trans hm h2.2⟩,h3⟩
theorem W5 {n:Nat} {S:TS} {firm:Nat -> List UInt8} (h:OkT n S firm) {root key:Int} {val:ByteArray} (hv:val.size = 12) (hk:0 <= key /\ key <= 4294967295) {ps:List Pr} {qs:List Int} (ht:Rt (Dm S) root ps qs) (hu:∀ q ∈ qs,usd S q) (hnd:qs.Nodup) (hps:ps.length <= 500) :
  (∃ S',yY n S root key val = (.error 6,S') /\ vJ n S 27) \/ ∃ r S' qs',yY n S root key val = (.ok r,S') /\ XE n firm S S' r (vE ps key val) qs qs':=by
 have hc1:¬ (key < 0 \/ 4294967295 < key \/ val.size ≠ 12):=by omega
 rcases ht with ⟨rfl,rfl,rfl⟩ | ⟨hh,ht⟩
 ·have hn:Nv (Dm S) 0 0 4294967296 ⟨[key],[val],[]⟩ (vE [] key val) []:=⟨rfl,rfl,by simp,fun z hz=>by obtain rfl:=zft.1 hz; omega,fun v hv2=>by rw [zft.1 hv2]; exact hv,by simp [vE],rfl⟩
  have hpt:yY n S 0 key val = xA n S ⟨[key],[val],[]⟩:=by unfold yY; rw [if_neg hc1,if_pos rfl]
  rcases XL h hn (by simp) (by simp) (by simp) (zfW _) (zfW _) with ⟨ha,hf⟩ | ⟨k,S1,ha,hok,hst,hus,hd⟩
  ·exact .inl ⟨S,by rw [hpt,ha],[],by simp,fun m h1 h2=>.inl (hf m h1 h2)⟩
  ·refine .inr ⟨k,S1,[k],by rw [hpt,ha],hok,.inr ⟨0,hn.laid hd (fun _ h=>by cases h) (ze3 _) (by simp)⟩,by simp,fun q hq=>by rw [zft.1 hq]; exact hus,fun q hq=>.inr (hst.fresh q hq),fun j hj _=>hst.page j hj (by simp),fun j hj=>?_⟩;rcases hst.used j hj with ⟨h1,_⟩ | h1
   ·exact .inl ⟨h1,by simp⟩
   ·exact .inr h1
 ·obtain ⟨x0,qt,hx0,hqs⟩:=ht.head;have hr2:=(vY h hx0).1;have hh8:hh <= 8:=by
   rcases zf7 hh with h0 | h0
   ·omega
   ·exact qB (ht.high (.inr h0)) hps
  have hui:usd S root:=hu root (by rw [hqs]; simp);have hst:=jy 12 h root key val;have hr0:¬ root = 0:=by omega
  rcases zex hv hh (f:=12) h ht hu hnd hk.1 (by omega) (zfW _) (zfW _) (by omega) (ze3 _) with ⟨S1,hp,hnr⟩ | ⟨x,S1,qy,hp,hy⟩
  ·exact .inl ⟨S1,by unfold yY; rw [if_neg hc1,if_neg hr0,hp],hnr.more (by decide)⟩
  rw [hp] at hst;have hle:=Y3 (ps:=ps) (key:=key) (val:=val);have fin:∀ {S2:TS} {qn:List Int},Chg n firm S1 S2 root qy qn -> (∀ j,usd S j -> j ∉ qs -> usd S2 j /\ Dm S2 j = Dm S j) /\ (∀ j,usd S2 j -> (usd S j /\ j ∉ qs) \/ j ∈ qn) /\ (∀ q ∈ qn,q ∈ qs \/ inZ S.s q = false):=fun {S2 qn} hch=>by
   refine ⟨fun j hj hjt=>?_,fun j hj=>?_,fun q hq=>?_⟩
   ·have hjr:j ≠ root:=fun e=>hjt (by rw [hqs,e]; simp)
    obtain ⟨a1,a2⟩:=hy.page j hj (fun hm=>hjt (zgb hm));obtain ⟨b1,b2⟩:=hch.page j a1 hjr;exact ⟨b1,b2.trans a2⟩
   ·rcases hch.only j hj with ⟨g1,g2⟩ | g1
    ·rcases hy.only j g1 with ⟨g3,g4⟩ | g3
     ·refine .inl ⟨g3,fun hm=>?_⟩;rw [hqs] at hm g4;rcases zfU.1 hm with hm | hm
      ·exact g2 hm
      ·exact g4 hm
     ·exact .inr (hch.sub j g3)
    ·exact .inr g1
   ·by_cases h10:q ∈ qs
    ·exact .inl h10
    ·rcases hch.new q hq with h9 | h9
     ·exact hy.new q h9
     ·cases h11:inZ S.s q with
      | false=>exact .inr rfl
      | true =>
       have:=hy.keep q h11 (fun hm=>h10 (zgb hm));rw [h9] at this; cases this
  by_cases h7:x.keys.length <= 7
  ·rcases Yy hy.ok hy.nv hy.used hy.nodup hy.few (mn:=1) ⟨hy.least,by decide⟩ hy.least (zfW _) (zfW _) hy.at_.1 hy.at_.2 with ⟨S2,hc,hnr⟩ | ⟨bk,ks,S2,qn,hc,hfo,_,hb7,hch⟩
   ·refine .inl ⟨S2,?_,(hnr.stay hst).more (by decide)⟩
    (unfold yY; rw [if_neg hc1,if_neg hr0,hp])
    simp only [hc]
   ·obtain rfl:=hb7 h7;obtain ⟨k,rfl,htk⟩:=hfo;obtain ⟨f1,f2,f3⟩:=fin hch;refine .inr ⟨k,S2,qn,?_,hch.ok,.inr ⟨hh,htk⟩,hch.nodup,hch.used,f3,f1,f2⟩
    (unfold yY; rw [if_neg hc1,if_neg hr0,hp])
    simp only [hc,zf5,if_true];rfl
  ·rcases Yy hy.ok hy.nv hy.used hy.nodup hy.few (mn:=3) ⟨by omega,by decide⟩ (by omega) (zfW _) (zfW _) hy.at_.1 hy.at_.2 with ⟨S2,hc,hnr⟩ | ⟨bk,ks,S2,qn,hc,hfo,hb1,_,hch⟩
   ·refine .inl ⟨S2,?_,(hnr.stay hst).more (by decide)⟩
    (unfold yY; rw [if_neg hc1,if_neg hr0,hp])
    simp only [hc]
   ·obtain ⟨f1,f2,f3⟩:=fin hch;have hst2:=hst.trans (by have:=vo hst.ok x [root]; rw [hc] at this; exact this);by_cases hb0:bk.length = 0
    ·obtain rfl:=List.length_eq_zero_iff.1 hb0;obtain ⟨k,rfl,htk⟩:=hfo;refine .inr ⟨k,S2,qn,?_,hch.ok,.inr ⟨hh,?_⟩,hch.nodup,hch.used,f3,f1,f2⟩
     ·(unfold yY; rw [if_neg hc1,if_neg hr0,hp])
      simp only [hc,zf5,if_true];rfl
     ·exact htk.less (by decide)
    ·have hbk:bk ≠ []:=fun e=>hb0 (by rw [e]; rfl)
     have hn:Nv (Dm S2) (hh + 1) 0 4294967296 ⟨bk,[],ks⟩ (vE ps key val) qn:=⟨rfl,hfo⟩
     rcases XL hch.ok hn hch.nodup (by show bk.length <= 7; omega) (by show 0 < bk.length; omega) (zfW _) (zfW _) with ⟨ha,hf⟩ | ⟨k,S3,ha,hok3,hst3,hus3,hd3⟩
     ·refine .inl ⟨S2,?_,((show vJ n S2 0 from ⟨[],ze3 _,fun m h1 h2=>.inl (hf m h1 h2)⟩).stay hst2).more (by decide)⟩
      (unfold yY; rw [if_neg hc1,if_neg hr0,hp])
      simp only [hc,if_neg hb0,ha]
     ·have hkf:inZ S2.s k = false:=hst3.fresh k (by simp);have hkn:k ∉ qn:=fun hm=>by have:=ve hch.ok (hch.used k hm); rw [hkf] at this; cases this
      have htr:Tr (Dm S3) (hh + 1) 1 0 4294967296 k (vE ps key val) (k :: qn):=hn.laid hd3 (fun q hq=>(hst3.page q (hch.used q hq) (by simp)).2) (by show 1 <= bk.length; omega) hbk;have hk2:=(vY hok3 hd3).1;have hget:xy S3 k key = .ok val:=by
       unfold xy;rw [if_neg (by omega)];exact JO (hh + 1) htr (zb8 ps key val) (by omega) (ze3 _)
      refine .inr ⟨k,S3,k :: qn,?_,hok3,.inr ⟨hh + 1,htr⟩,zfZ.2 ⟨hkn,hch.nodup⟩,fun q hq=>?_,fun q hq=>?_,fun j hj hjt=>?_,fun j hj=>?_⟩
      ·(unfold yY; rw [if_neg hc1,if_neg hr0,hp])
       simp only [hc,if_neg hb0,ha,hget]
      ·rcases zfU.1 hq with rfl | hq
       ·exact hus3
       ·exact (hst3.page q (hch.used q hq) (by simp)).1
      ·rcases zfU.1 hq with rfl | hq
       ·by_cases h10:q ∈ qs
        ·exact .inl h10
        ·cases h11:inZ S.s q with
         | false=>exact .inr rfl
         | true =>
          have a1:=hy.keep q h11 (fun hm=>h10 (zgb hm));have a2:=hch.keep q a1 (fun e=>h10 (by rw [hqs,e]; simp));rw [hkf] at a2; cases a2
       ·exact f3 q hq
      ·obtain ⟨a1,a2⟩:=f1 j hj hjt;obtain ⟨b1,b2⟩:=hst3.page j a1 (by simp);exact ⟨b1,b2.trans a2⟩
      ·rcases hst3.used j hj with ⟨h1,_⟩ | h1
       ·rcases f2 j h1 with h2 | h2
        ·exact .inl h2
        ·exact .inr (zfV _ h2)
       ·exact .inr (by rw [zft.1 h1]; simp)
def ki (ps:List Pr) (a b:Int):List Pr:=ps.filter fun p=>decide (a <= p.1) && decide (p.1 < b)
theorem zbR (p q:List Pr) (a b:Int):ki (p ++ q) a b = ki p a b ++ ki q a b:=by simp [ki]
theorem XT {ps:List Pr} {a b a' b':Int} (h:∀ p ∈ ps,(a <= p.1 ↔ a' <= p.1) /\ (p.1 < b ↔ p.1 < b')):ki ps a b = ki ps a' b':=by
 unfold ki;refine List.filter_congr fun p hp=>?_
 obtain ⟨h1,h2⟩:=h p hp;simp only [h1,h2]
theorem WY {ps:List Pr} {a b:Int} (h:b <= a):ki ps a b = []:=by
 unfold ki;refine zf9.2 fun p _=>?_
 simp;omega
theorem zbQ {ps:List Pr} {a b:Int} (h:∀ p ∈ ps,a <= p.1 /\ p.1 < b):ki ps a b = ps:=by
 unfold ki;refine zf8.2 fun p hp=>?_
 have:=h p hp;simp;omega
theorem zdH {S:TS} {hh f:Nat} {x:Nd} {from_ to_ hi:Int} (hg:∀ {lo hi i:Int} {ps:List Pr} {qs:List Int},Tr (Dm S) hh 3 lo hi i ps qs -> ∀ a b:Int,xh f S i a b = .ok (ki ps a b)) (keys:List Int) :
  ∀ {a kids qs:List Int} {lo:Int} {ps:List Pr},Fo (Tr (Dm S) hh 3) lo hi keys kids ps qs -> x.keys = a ++ keys -> (∀ h:a ≠ [],lo = a.getLast h) -> xG (fun k a b=>xh f S k a b) x from_ to_ a.length kids = .ok (ki ps from_ to_):=by
 have low:∀ (a:List Int) (lo:Int) (ks:List Int),x.keys = a ++ ks -> (∀ h:a ≠ [],lo = a.getLast h) -> ∀ z:Int,lo <= z -> (jk x a.length from_ <= z ↔ from_ <= z):=fun a lo ks hx hlo z hz=>by
  unfold jk;split
  ·rename_i h0
   have hne:a ≠ []:=fun e=>by rw [e] at h0; cases h0
   have e1:x.keys.getD (a.length - 1) 0 = lo:=by
    rw [hx,hlo hne,List.getLast_eq_getElem,ze6,List.getElem?_append_left (by omega),ze7 (by omega)];rfl
   rw [e1];omega
  ·exact Iff.rfl
 induction keys with
 | nil =>
  rintro a kids qs lo ps ⟨k,rfl,ht⟩ hx hlo;have hb:=(ht.bounds (.inl (by decide))).2;have eh:xZ x a.length to_ = to_:=by unfold xZ; rw [if_neg (by rw [hx]; simp)]
  unfold xG;rw [eh];have hc:ki ps (jk x a.length from_) to_ = ki ps from_ to_:=XT fun p hp=>⟨low a lo [] hx hlo p.1 (hb p hp).1,Iff.rfl⟩
  by_cases hl:jk x a.length from_ < to_
  ·rw [if_pos hl,hg ht];simp only [xG,hc,List.append_nil]
  ·rw [if_neg hl,<- hc,WY (by omega)];rfl
 | cons m keys ih =>
  rintro a kids qs lo ps ⟨k,kids',p1,q1,p2,q2,rfl,rfl,rfl,ht,hr⟩ hx hlo;have hb:=(ht.bounds (.inl (by decide))).2;have eh:xZ x a.length to_ = min to_ m:=by
   unfold xZ;rw [if_pos (by rw [hx]; simp),hx,ze6,List.getElem?_append_right (ze3 _)];simp
  have hc:ki p1 (jk x a.length from_) (min to_ m) = ki p1 from_ to_:=XT fun p hp=>⟨low a lo _ hx hlo p.1 (hb p hp).1,by have:=(hb p hp).2; omega⟩
  have hi2:=ih (a:=a ++ [m]) hr (by rw [hx]; simp) (fun _=>by simp);rw [zfk,List.length_singleton] at hi2;unfold xG;rw [eh,zbR];by_cases hl:jk x a.length from_ < min to_ m
  ·rw [if_pos hl,hg ht];simp only [hi2,hc]
  ·have hz:ki p1 from_ to_ = []:=by rw [<- hc]; exact WY (by omega)
   rw [if_neg hl,hi2,hz];rfl
theorem zcF (hh:Nat):∀ {S:TS} {mn f:Nat} {lo hi i:Int} {ps:List Pr} {qs:List Int},Tr (Dm S) hh mn lo hi i ps qs -> hh + 1 <= f -> f <= 12 -> ∀ a b:Int,xh f S i a b = .ok (ki ps a b):=by
 induction hh with
 | zero =>
  intro S mn f lo hi i ps qs ht hf hf2 a b;obtain ⟨f,rfl⟩:∃ g,f = g + 1:=⟨f - 1,by omega⟩
  obtain ⟨keys,vals,h1,h2,h3,h4,h5,rfl,rfl⟩:=ht;have hld:=wy h1 (level:=12 - (f:Int)) (by omega);unfold xh;rw [hld];simp only [xG,List.append_nil];rfl
 | succ hh ih =>
  intro S mn f lo hi i ps qs ht hf hf2 a b;obtain ⟨f,rfl⟩:∃ g,f = g + 1:=⟨f - 1,by omega⟩
  obtain ⟨keys,kids,qt,h1,h2,h3,rfl⟩:=ht;have hld:=wy h1 (level:=12 - (f:Int)) (by omega);have hk:=zdH (f:=f) (x:=⟨keys,[],kids⟩) (from_:=a) (to_:=b) (fun t a b=>ih t (by omega) (by omega) a b) keys (a:=[]) h3 rfl (fun h=>absurd rfl h);unfold xh;rw [hld];simp only;rw [show xG (fun k a b=>xh f S k a b) ⟨keys,[],kids⟩ a b 0 kids = _ from hk];simp [KB]
theorem Y8 {n:Nat} {S:TS} {firm:Nat -> List UInt8} (h:OkT n S firm) {root:Int} {ps:List Pr} {qs:List Int} (ht:Rt (Dm S) root ps qs) (hps:ps.length <= 500) (a b:Int):wA S root a b = .ok (ki ps a b):=by
 rcases ht with ⟨rfl,rfl,rfl⟩ | ⟨hh,ht⟩
 ·rfl
 ·obtain ⟨x0,qt,hx0,_⟩:=ht.head;have hr2:=(vY h hx0).1;have hh8:hh <= 8:=by
   rcases zf7 hh with h0 | h0
   ·omega
   ·exact qB (ht.high (.inr h0)) hps
  unfold wA;rw [if_neg (by omega)];exact zcF hh ht (by omega) (ze3 _) a b
theorem Rt.imp {D D':Int -> Option Nd} {root:Int} {ps:List Pr} {qs:List Int} (ht:Rt D root ps qs) (hq:∀ q ∈ qs,D' q = D q):Rt D' root ps qs:=by
 rcases ht with h | ⟨hh,h⟩
 ·exact .inl h
 ·exact .inr ⟨hh,h.imp hq⟩
end
section
abbrev zeX (ps:List Pr):Prop:=ps.Pairwise (fun a b=>a.1 < b.1)
theorem VF {ps:List Pr} {key:Int} {val:ByteArray} (q:Pr):q ∈ vE ps key val ↔ q = (key,val) \/ (q ∈ ps /\ q.1 ≠ key):=by
 unfold vE;simp only [zfy,zfU,List.mem_filter,decide_eq_true_eq];constructor
 ·rintro (⟨h1,h2⟩ | h | ⟨h1,h2⟩)
  ·exact .inr ⟨h1,by omega⟩
  ·exact .inl h
  ·exact .inr ⟨h1,by omega⟩
 ·rintro (h | ⟨h1,h2⟩)
  ·exact .inr (.inl h)
  ·rcases Int.lt_or_lt_of_ne h2 with h3 | h3
   ·exact .inl ⟨h1,h3⟩
   ·exact .inr (.inr ⟨h1,h3⟩)
end
