/-
  Tm. Conditions: as said.
-/
import Derived.Test.YtafclmbecmgbnaaGreatDoorTrModel
open List renaming mem_append_left -> zfF,mem_append_right -> zgA,mem_cons -> zgz,mem_append -> zgf,mem_cons_of_mem -> zgB,length_take -> zfZ,mem_singleton -> zga,length_append -> zf0,length_drop -> zf8,mem_iff_getElem -> zgD,length_cons -> zfJ,length_nil -> zf2,nodup_append -> zgE,nodup_cons -> zgF,append_nil -> zgx,getElem?_eq_getElem -> zfM,take_append_drop -> zgG,getElem_drop -> zgH,filter_eq_self -> zgI,filter_eq_nil_iff -> zgJ,zip_append -> zgK,mem_of_mem_take -> zgu,mem_of_mem_drop -> zgv,getD_eq_getElem?_getD -> zfL,cons_append -> zgL,of_mem_zip -> zgM,length_zip -> zgN,pairwise_cons -> zgO,filter_cons_of_neg -> zgP,pairwise_iff_getElem -> zgr,pairwise_append -> zgj,mem_filter -> zgR,length_eq_zero_iff -> zgl,drop_eq_getElem_cons -> zgS,mem_of_mem_tail -> zgT
open Nat renaming le_refl -> zfI,eq_zero_or_pos -> zgQ
open Int renaming le_refl -> zgC
open Bool renaming or_eq_true_iff -> zf5
namespace Go.Proofs.YtafclmbecmgbnaaGreatDoor
section
abbrev Pr:=Int × ByteArray
def Fo (R:Int -> Int -> Int -> List Pr -> List Int -> Prop):Int -> Int -> List Int -> List Int -> List Pr -> List Int -> Prop
 | lo,hi,[],kids,ps,qs=>∃ k,kids = [k] /\ R lo hi k ps qs
 | lo,hi,m :: keys,kids,ps,qs=>∃ k kids' p1 q1 p2 q2,kids = k :: kids' /\ ps = p1 ++ p2 /\ qs = q1 ++ q2 /\ R lo m k p1 q1 /\ Fo R m hi keys kids' p2 q2
def Tr (D:Int -> Option Nd):Nat -> Nat -> Int -> Int -> Int -> List Pr -> List Int -> Prop
 | 0,mn,lo,hi,k,ps,qs=>∃ keys vals,D k = some ⟨keys,vals,[]⟩ /\ vals.length = keys.length /\ mn <= keys.length /\ keys.Pairwise (· < ·) /\ (∀ z ∈ keys,lo <= z /\ z < hi) /\ ps = keys.zip vals /\ qs = [k]
 | h + 1,mn,lo,hi,k,ps,qs=>∃ keys kids qs',D k = some ⟨keys,[],kids⟩ /\ (keys ≠ [] /\ mn <= keys.length) /\ Fo (Tr D h 3) lo hi keys kids ps qs' /\ qs = k :: qs'
theorem Fo.imp {R R':Int -> Int -> Int -> List Pr -> List Int -> Prop} {keys:List Int}:∀ {lo hi:Int} {kids:List Int} {ps:List Pr} {qs:List Int},Fo R lo hi keys kids ps qs ->
  (∀ lo hi k ps' qs',R lo hi k ps' qs' -> (∀ q ∈ qs',q ∈ qs) -> R' lo hi k ps' qs') -> Fo R' lo hi keys kids ps qs:=by
 induction keys with
 | nil =>
  rintro lo hi kids ps qs ⟨k,h1,h2⟩ hi2;exact ⟨k,h1,hi2 _ _ _ _ _ h2 fun q hq=>hq⟩
 | cons m keys ih =>
  rintro lo hi kids ps qs ⟨k,kids',p1,q1,p2,q2,h1,h2,h3,h4,h5⟩ hi2;subst h3;exact ⟨k,kids',p1,q1,p2,q2,h1,h2,rfl,hi2 _ _ _ _ _ h4 fun q hq=>zfF _ hq,ih h5 fun _ _ _ _ _ h hq=>hi2 _ _ _ _ _ h fun q h=>zgA _ (hq q h)⟩
theorem Fo.len {R:Int -> Int -> Int -> List Pr -> List Int -> Prop} {keys:List Int}:∀ {lo hi:Int} {kids:List Int} {ps:List Pr} {qs:List Int},Fo R lo hi keys kids ps qs -> kids.length = keys.length + 1:=by
 induction keys with
 | nil=>rintro lo hi kids ps qs ⟨k,rfl,_⟩; rfl
 | cons m keys ih =>
  rintro lo hi kids ps qs ⟨k,kids',p1,q1,p2,q2,rfl,_,_,_,h5⟩;simp [ih h5]
theorem Fo.of_mem {R:Int -> Int -> Int -> List Pr -> List Int -> Prop} {keys:List Int}:∀ {lo hi:Int} {kids:List Int} {ps:List Pr} {qs:List Int},Fo R lo hi keys kids ps qs ->
  ∀ p ∈ ps,∃ lo2 hi2 k2 ps2 qs2,R lo2 hi2 k2 ps2 qs2 /\ p ∈ ps2 /\ lo2 ∈ lo :: keys /\ hi2 ∈ keys ++ [hi]:=by
 induction keys with
 | nil =>
  rintro lo hi kids ps qs ⟨k,_,h2⟩ p hp;exact ⟨lo,hi,k,ps,qs,h2,hp,by simp,by simp⟩
 | cons m keys ih =>
  rintro lo hi kids ps qs ⟨k,kids',p1,q1,p2,q2,_,rfl,_,h4,h5⟩ p hp;rcases zgf.1 hp with hp | hp
  ·exact ⟨lo,m,k,p1,q1,h4,hp,by simp,by simp⟩
  ·obtain ⟨lo2,hi2,k2,ps2,qs2,h6,h7,h8,h9⟩:=ih h5 p hp;exact ⟨lo2,hi2,k2,ps2,qs2,h6,h7,zgB _ h8,by simp only [zgL,zgz]; exact .inr h9⟩
theorem Fo.app {R:Int -> Int -> Int -> List Pr -> List Int -> Prop} {ks:List Int}:∀ {lo m hi:Int} {cs b d:List Int} {p1 p2:List Pr} {q1 q2:List Int},Fo R lo m ks cs p1 q1 -> Fo R m hi b d p2 q2 -> Fo R lo hi (ks ++ m :: b) (cs ++ d) (p1 ++ p2) (q1 ++ q2):=by
 induction ks with
 | nil =>
  rintro lo m hi cs b d p1 p2 q1 q2 ⟨k,rfl,h2⟩ h3;exact ⟨k,d,p1,q1,p2,q2,rfl,rfl,rfl,h2,h3⟩
 | cons x ks ih =>
  rintro lo m hi cs b d p1 p2 q1 q2 ⟨k,kids',p3,q3,p4,q4,rfl,rfl,rfl,h4,h5⟩ h3;exact ⟨k,kids' ++ d,p3,q3,p4 ++ p2,q4 ++ q2,by simp,by simp,by simp,h4,ih h5 h3⟩
theorem Fo.split {R:Int -> Int -> Int -> List Pr -> List Int -> Prop} {a:List Int}:∀ {lo hi:Int} {b c d:List Int} {k:Int} {ps:List Pr} {qs:List Int},c.length = a.length -> Fo R lo hi (a ++ b) (c ++ k :: d) ps qs ->
  ∃ lo' hi' p0 p1 p2 q0 q1 q2,ps = p0 ++ p1 ++ p2 /\ qs = q0 ++ q1 ++ q2 /\ R lo' hi' k p1 q1 /\ lo' = (lo :: a).getLast (by simp) /\ hi' = (b ++ [hi]).head (by simp) /\
   (∀ p ∈ p0,∃ lo2 hi2 k2 ps2 qs2,R lo2 hi2 k2 ps2 qs2 /\ p ∈ ps2 /\ hi2 ∈ a) /\ (∀ p ∈ p2,∃ lo2 hi2 k2 ps2 qs2,R lo2 hi2 k2 ps2 qs2 /\ p ∈ ps2 /\ lo2 ∈ b) /\
   ∀ (R':Int -> Int -> Int -> List Pr -> List Int -> Prop) (ks cs:List Int) (p1':List Pr) (q1':List Int),(∀ lo hi k ps' qs',R lo hi k ps' qs' -> (∀ q ∈ qs',q ∈ q0 \/ q ∈ q2) -> R' lo hi k ps' qs') ->
    Fo R' lo' hi' ks cs p1' q1' -> Fo R' lo hi (a ++ ks ++ b) (c ++ cs ++ d) (p0 ++ p1' ++ p2) (q0 ++ q1' ++ q2):=by
 induction a with
 | nil =>
  intro lo hi b c d k ps qs hl h;obtain rfl:=zgl.1 hl;cases b with
  | nil =>
   obtain ⟨k',h1,h2⟩:=h;simp only [List.nil_append,List.cons.injEq] at h1;obtain ⟨rfl,rfl⟩:=h1;refine ⟨lo,hi,[],ps,[],[],qs,[],by simp,by simp,h2,rfl,rfl,(fun _ h=>by cases h),(fun _ h=>by cases h),fun R' ks cs p1' q1' _ hf=>?_⟩;simpa using hf
  | cons m b =>
   obtain ⟨k',kids',p1,q1,p2,q2,h1,h2,h3,h4,h5⟩:=h;simp only [List.nil_append,List.cons.injEq] at h1;obtain ⟨rfl,rfl⟩:=h1;refine ⟨lo,m,[],p1,p2,[],q1,q2,by simpa using h2,by simpa using h3,h4,rfl,rfl,(fun _ h=>by cases h),?_,fun R' ks cs p1' q1' hR hf=>?_⟩
   ·intro p hp;obtain ⟨lo2,hi2,k2,ps2,qs2,h6,h7,h8,_⟩:=h5.of_mem p hp;exact ⟨lo2,hi2,k2,ps2,qs2,h6,h7,h8⟩
   ·have:=hf.app (h5.imp fun lo hi k ps' qs' h hq=>hR lo hi k ps' qs' h fun q hq2=>.inr (hq q hq2));simpa using this
 | cons m a ih =>
  intro lo hi b c d k ps qs hl h;cases c with
  | nil=>cases hl
  | cons k0 c =>
   obtain ⟨k',kids',p1,q1,p2,q2,h1,h2,h3,h4,h5⟩:=h;simp only [zgL,List.cons.injEq] at h1;obtain ⟨rfl,rfl⟩:=h1;obtain ⟨lo',hi',p3,p4,p5,q3,q4,q5,e1,e2,e3,e4,e5,e6,e7,e8⟩:=ih (by simpa using hl) h5;refine ⟨lo',hi',p1 ++ p3,p4,p5,q1 ++ q3,q4,q5,by rw [h2,e1]; simp,by rw [h3,e2]; simp,e3,by rw [e4]; simp,e5,?_,e7,fun R' ks cs p1' q1' hR hf=>?_⟩
   ·intro p hp;rcases zgf.1 hp with hp | hp
    ·exact ⟨lo,m,k0,p1,q1,h4,hp,by simp⟩
    ·obtain ⟨lo2,hi2,k2,ps2,qs2,h6,h7,h8⟩:=e6 p hp;exact ⟨lo2,hi2,k2,ps2,qs2,h6,h7,zgB _ h8⟩
   ·have h9:=e8 R' ks cs p1' q1' (fun lo hi k ps' qs' h hq=>hR lo hi k ps' qs' h fun q hq2=>by
     rcases hq q hq2 with h | h
     ·exact .inl (zgA _ h)
     ·exact .inr h) hf
    refine ⟨k0,c ++ cs ++ d,p1,q1,p3 ++ p1' ++ p5,q3 ++ q1' ++ q5,by simp,by simp,by simp,hR _ _ _ _ _ h4 fun q hq=>.inl (zfF _ hq),by simpa using h9⟩
theorem Tr.imp {D D':Int -> Option Nd} {h:Nat}:∀ {mn:Nat} {lo hi k:Int} {ps:List Pr} {qs:List Int},Tr D h mn lo hi k ps qs -> (∀ q ∈ qs,D' q = D q) -> Tr D' h mn lo hi k ps qs:=by
 induction h with
 | zero =>
  rintro mn lo hi k ps qs ⟨keys,vals,h1,h2,h3,h4,h5,h6,h7⟩ hq;exact ⟨keys,vals,by rw [hq k (by rw [h7]; simp)]; exact h1,h2,h3,h4,h5,h6,h7⟩
 | succ h ih =>
  rintro mn lo hi k ps qs ⟨keys,kids,qs',h1,h2,h3,h4⟩ hq;refine ⟨keys,kids,qs',by rw [hq k (by rw [h4]; simp)]; exact h1,h2,h3.imp fun _ _ _ _ _ h5 h6=>ih h5 fun q hq2=>hq q (by rw [h4]; exact zgB _ (h6 q hq2)),h4⟩
theorem Tr.bounds {D:Int -> Option Nd} {h:Nat}:∀ {mn:Nat} {lo hi k:Int} {ps:List Pr} {qs:List Int},Tr D h mn lo hi k ps qs -> (0 < mn \/ 0 < h) -> lo < hi /\ ∀ p ∈ ps,lo <= p.1 /\ p.1 < hi:=by
 induction h with
 | zero =>
  rintro mn lo hi k ps qs ⟨keys,vals,h1,h2,h3,h4,h5,rfl,h7⟩ h0;have h0':0 < keys.length:=by omega
  have:=h5 _ (List.getElem_mem h0');refine ⟨by omega,fun p hp=>h5 _ (zgM hp).1⟩
 | succ h ih =>
  rintro mn lo hi k ps qs ⟨keys,kids,qs',h1,h2,h3,h4⟩ _;clear h1 h2 h4;induction keys generalizing lo kids ps qs' with
  | nil =>
   obtain ⟨k2,_,h6⟩:=h3;exact ih h6 (.inl (by decide))
  | cons m keys ih2 =>
   obtain ⟨k2,kids',p1,q1,p2,q2,_,rfl,_,h8,h9⟩:=h3;obtain ⟨b1,b2⟩:=ih h8 (.inl (by decide));obtain ⟨b3,b4⟩:=ih2 _ _ h9;refine ⟨by omega,fun p hp=>?_⟩;rcases zgf.1 hp with hp | hp
   ·have:=b2 p hp; omega
   ·have:=b4 p hp; omega
theorem Tr.count {D:Int -> Option Nd} {h:Nat}:∀ {mn:Nat} {lo hi k:Int} {ps:List Pr} {qs:List Int},Tr D h mn lo hi k ps qs -> (2 <= mn \/ 0 < h) -> qs.length + 1 <= ps.length:=by
 induction h with
 | zero =>
  rintro mn lo hi k ps qs ⟨keys,vals,h1,h2,h3,h4,h5,rfl,rfl⟩ h0;simp only [zfJ,zf2,zgN];omega
 | succ h ih =>
  rintro mn lo hi k ps qs ⟨keys,kids,qs',h1,h2,h3,rfl⟩ _;have:∀ {keys:List Int} {lo hi:Int} {kids:List Int} {ps:List Pr} {qs:List Int},Fo (Tr D h 3) lo hi keys kids ps qs -> qs.length + (keys.length + 1) <= ps.length:=by
   intro keys;induction keys with
   | nil =>
    rintro lo hi kids ps qs ⟨_,_,h6⟩;have:=ih h6 (.inl (by decide));simp only [zf2]; omega
   | cons m keys ih2 =>
    rintro lo hi kids ps qs ⟨k2,kids',p1,q1,p2,q2,_,rfl,rfl,h8,h9⟩;have a1:=ih h8 (.inl (by decide));have a2:=ih2 h9;simp only [zf0,zfJ]; omega
  have a3:=this h3;have a4:0 < keys.length:=Nat.pos_of_ne_zero fun e=>h2.1 (zgl.1 e)
  simp only [zfJ]; omega
theorem Tr.high {D:Int -> Option Nd} {h:Nat}:∀ {mn:Nat} {lo hi k:Int} {ps:List Pr} {qs:List Int},Tr D h mn lo hi k ps qs -> (2 <= mn \/ 0 < h) -> 2 ^ (h + 1) <= ps.length:=by
 induction h with
 | zero =>
  rintro mn lo hi k ps qs ⟨keys,vals,h1,h2,h3,h4,h5,rfl,rfl⟩ h0;simp only [zgN];omega
 | succ h ih =>
  rintro mn lo hi k ps qs ⟨keys,kids,qs',h1,h2,h3,rfl⟩ _;cases keys with
  | nil=>exact absurd rfl h2.1
  | cons m keys =>
   obtain ⟨k2,kids',p1,q1,p2,q2,_,rfl,_,h8,h9⟩:=h3;have a1:=ih h8 (.inl (by decide));have a2:2 ^ (h + 1) <= p2.length:=by
    cases keys with
    | nil =>
     obtain ⟨_,_,h6⟩:=h9;exact ih h6 (.inl (by decide))
    | cons y keys =>
     obtain ⟨_,_,p3,_,p4,_,_,rfl,_,h10,_⟩:=h9;have:=ih h10 (.inl (by decide));rw [zf0]; omega
   rw [zf0,Nat.pow_succ]; omega
theorem Fo.unapp {R:Int -> Int -> Int -> List Pr -> List Int -> Prop} {a:List Int}:∀ {lo m hi:Int} {b c d:List Int} {ps:List Pr} {qs:List Int},c.length = a.length + 1 -> Fo R lo hi (a ++ m :: b) (c ++ d) ps qs ->
  ∃ p1 p2 q1 q2,ps = p1 ++ p2 /\ qs = q1 ++ q2 /\ Fo R lo m a c p1 q1 /\ Fo R m hi b d p2 q2:=by
 induction a with
 | nil =>
  rintro lo m hi b c d ps qs hl ⟨k,kids',p1,q1,p2,q2,h1,rfl,rfl,h4,h5⟩;obtain ⟨x,rfl⟩:=List.length_eq_one_iff.1 hl;simp only [zgL,List.nil_append,List.cons.injEq] at h1;obtain ⟨rfl,rfl⟩:=h1;exact ⟨p1,p2,q1,q2,rfl,rfl,⟨x,rfl,h4⟩,h5⟩
 | cons y a ih =>
  rintro lo m hi b c d ps qs hl ⟨k,kids',p1,q1,p2,q2,h1,rfl,rfl,h4,h5⟩;cases c with
  | nil=>cases hl
  | cons x c =>
   simp only [zgL,List.cons.injEq] at h1;obtain ⟨rfl,rfl⟩:=h1;obtain ⟨p3,p4,q3,q4,rfl,rfl,h6,h7⟩:=ih (by simpa using hl) h5;exact ⟨p1 ++ p3,p4,q1 ++ q3,q4,by simp,by simp,⟨x,c,p1,q1,p3,q3,rfl,rfl,rfl,h4,h6⟩,h7⟩
theorem Tr.head {D:Int -> Option Nd} {h mn:Nat} {lo hi k:Int} {ps:List Pr} {qs:List Int} (ht:Tr D h mn lo hi k ps qs):∃ x qs',D k = some x /\ qs = k :: qs':=by
 cases h with
 | zero=>obtain ⟨keys,vals,h1,_,_,_,_,_,h7⟩:=ht; exact ⟨_,[],h1,h7⟩
 | succ h=>obtain ⟨keys,kids,qs',h1,_,_,h4⟩:=ht; exact ⟨_,qs',h1,h4⟩
theorem Fo.kids {D:Int -> Option Nd} {h:Nat} {keys:List Int}:∀ {lo hi:Int} {kids:List Int} {ps:List Pr} {qs:List Int},Fo (Tr D h 3) lo hi keys kids ps qs ->
  (∀ k ∈ kids,k ∈ qs /\ ∃ x,D k = some x) /\ (qs.Nodup -> kids.Nodup) /\ keys.Pairwise (· < ·) /\ (∀ z ∈ keys,lo < z /\ z < hi) /\ lo < hi:=by
 induction keys with
 | nil =>
  rintro lo hi kids ps qs ⟨k,rfl,h2⟩;obtain ⟨x,qs',h3,rfl⟩:=h2.head;have h4:=(h2.bounds (.inl (by decide))).1;exact ⟨fun k2 hk=>by obtain rfl:=zga.1 hk; exact ⟨by simp,x,h3⟩,fun _=>by simp,List.Pairwise.nil,(fun _ hz=>by cases hz),h4⟩
 | cons m keys ih =>
  rintro lo hi kids ps qs ⟨k,kids',p1,q1,p2,q2,rfl,rfl,rfl,h4,h5⟩;obtain ⟨x,qs',h6,rfl⟩:=h4.head;have h7:=(h4.bounds (.inl (by decide))).1;obtain ⟨i1,i2,i3,i4,i5⟩:=ih h5;refine ⟨fun k2 hk=>?_,fun hn=>?_,zgO.2 ⟨fun z hz=>(i4 z hz).1,i3⟩,fun z hz=>?_,by omega⟩
  ·rcases zgz.1 hk with rfl | hk
   ·exact ⟨by simp,x,h6⟩
   ·exact ⟨zgA _ (i1 k2 hk).1,(i1 k2 hk).2⟩
  ·obtain ⟨n1,n2,n3⟩:=zgE.1 hn;refine zgF.2 ⟨fun hk=>?_,i2 n2⟩;exact n3 k (by simp) k (i1 k hk).1 rfl
  ·rcases zgz.1 hz with rfl | hz
   ·exact ⟨h7,i5⟩
   ·have:=i4 z hz; exact ⟨by omega,this.2⟩
def Nv (D:Int -> Option Nd):Nat -> Int -> Int -> Nd -> List Pr -> List Int -> Prop
 | 0,lo,hi,x,ps,qs=>x.kids = [] /\ x.vals.length = x.keys.length /\ x.keys.Pairwise (· < ·) /\ (∀ z ∈ x.keys,lo <= z /\ z < hi) /\ (∀ v ∈ x.vals,v.size = 12) /\ ps = x.keys.zip x.vals /\ qs = []
 | h + 1,lo,hi,x,ps,qs=>x.vals = [] /\ Fo (Tr D h 3) lo hi x.keys x.kids ps qs
theorem Nv.laid {D D':Int -> Option Nd} {h mn:Nat} {lo hi k:Int} {x:Nd} {ps:List Pr} {qs:List Int} (hn:Nv D h lo hi x ps qs) (hk:D' k = some x) (hq:∀ q ∈ qs,D' q = D q) (hm:mn <= x.keys.length) (h0:x.keys ≠ []):Tr D' h mn lo hi k ps (k :: qs):=by
 cases h with
 | zero =>
  obtain ⟨h1,h2,h3,h4,h5,h6,h7⟩:=hn;obtain ⟨keys,vals,kids⟩:=x;simp only at h1 h2 h3 h4 h6 hm;subst h1 h7;exact ⟨keys,vals,hk,h2,hm,h3,h4,h6,rfl⟩
 | succ h =>
  obtain ⟨h1,h3⟩:=hn;obtain ⟨keys,vals,kids⟩:=x;simp only at h1 h3 hm h0;subst h1;exact ⟨keys,kids,qs,hk,⟨h0,hm⟩,h3.imp fun _ _ _ _ _ h5 h6=>h5.imp fun q hq2=>hq q (h6 q hq2),rfl⟩
theorem Nv.right {D:Int -> Option Nd} {h:Nat} {lo hi:Int} {x:Nd} {ps:List Pr} {qs:List Int} (hn:Nv D h lo hi x ps qs) (h7:x.keys.length <= 7) (hk0:0 < x.keys.length) (hlo:0 <= lo) (hhi:hi <= 4294967296) (hnd:qs.Nodup) (hD:∀ k y,D k = some y -> 2 <= k /\ k <= 239):zM x = true:=by
 cases h with
 | zero =>
  obtain ⟨h1,h2,h3,h4,h5,h6,h7'⟩:=hn;obtain ⟨keys,vals,kids⟩:=x;simp only at h1 h2 h3 h4 h5 h7;subst h1;refine QX (wU.2 ⟨fun z hz=>?_,h3⟩) h7 (List.all_eq_true.2 fun v hv=>decide_eq_true (h5 v hv)) h2;have:=h4 z hz;omega
 | succ h =>
  obtain ⟨h1,h3⟩:=hn;obtain ⟨keys,vals,kids⟩:=x;simp only at h1 h3 h7 hk0;subst h1;obtain ⟨k1,k2,k3,k4,k5⟩:=h3.kids;have hl:=h3.len;have hkb:jv kids = true:=kZ.2 ⟨fun z hz=>by
   obtain ⟨_,y,hy⟩:=k1 z hz;exact hD z y hy,k2 hnd⟩
  unfold zM;simp only [wU.2 ⟨fun z hz=>by have:=k4 z hz; omega,k3⟩,decide_eq_true h7,Bool.and_self,Bool.true_and];rw [if_neg (by omega),hkb];simp only [zf2,decide_true,Bool.true_and,Bool.and_eq_true,decide_eq_true_eq];omega
def xH (ps:List Pr) (key:Int) (val:ByteArray):List Pr:=ps.filter (fun p=>decide (p.1 < key)) ++ (key,val) :: ps.filter (fun p=>decide (key < p.1))
theorem Wx {p0 p1 p2:List Pr} {key:Int} {val:ByteArray} (h0:∀ p ∈ p0,p.1 < key) (h2:∀ p ∈ p2,key < p.1):xH (p0 ++ p1 ++ p2) key val = p0 ++ xH p1 key val ++ p2:=by
 unfold xH;have a1:p0.filter (fun p=>decide (p.1 < key)) = p0:=zgI.2 fun p hp=>decide_eq_true (h0 p hp)
 have a2:p0.filter (fun p=>decide (key < p.1)) = []:=zgJ.2 fun p hp=>by have:=h0 p hp; simp; omega
 have a3:p2.filter (fun p=>decide (key < p.1)) = p2:=zgI.2 fun p hp=>decide_eq_true (h2 p hp)
 have a4:p2.filter (fun p=>decide (p.1 < key)) = []:=zgJ.2 fun p hp=>by have:=h2 p hp; simp; omega
 simp only [List.filter_append,a1,a2,a3,a4];simp
theorem zen {ps a b:List Pr} {key:Int} {val:ByteArray} (h:ps = a ++ b) (ha:∀ p ∈ a,p.1 < key) (hb:∀ p ∈ b,key < p.1):xH ps key val = a ++ (key,val) :: b:=by
 have:=Wx (p0:=a) (p1:=[]) (p2:=b) (val:=val) ha hb;rw [zgx] at this;rw [h,this];simp [xH]
theorem Qu {ps a b:List Pr} {key:Int} {val v:ByteArray} (h:ps = a ++ (key,v) :: b) (ha:∀ p ∈ a,p.1 < key) (hb:∀ p ∈ b,key < p.1):xH ps key val = a ++ (key,val) :: b:=by
 have:=Wx (p0:=a) (p1:=[(key,v)]) (p2:=b) (val:=val) ha hb;rw [h,show a ++ (key,v) :: b = a ++ [(key,v)] ++ b by simp,this];simp [xH]
theorem zcF (ps:List Pr) (key:Int):(ps.filter (fun p=>decide (p.1 < key))).length + (ps.filter (fun p=>decide (key < p.1))).length <= ps.length:=by
 induction ps with
 | nil=>simp
 | cons p ps ih =>
  by_cases h1:p.1 < key
  ·rw [List.filter_cons_of_pos (by simpa using h1),zgP (by simp; omega)];simp only [zfJ]; omega
  ·by_cases h2:key < p.1
   ·rw [zgP (by simpa using h1),List.filter_cons_of_pos (by simpa using h2)];simp only [zfJ]; omega
   ·rw [zgP (by simpa using h1),zgP (by simpa using h2)];simp only [zfJ]; omega
theorem jt {ps:List Pr} {key:Int} {val:ByteArray}:(xH ps key val).length <= ps.length + 1 /\ 0 < (xH ps key val).length:=by
 have h:=zcF ps key;unfold xH;rw [zf0,zfJ];refine ⟨?_,Nat.lt_of_lt_of_le (Nat.succ_pos _) (Nat.le_add_left _ _)⟩;exact Nat.succ_le_succ h
theorem Nv.with_ {D:Int -> Option Nd} {lo hi:Int} {x:Nd} {ps:List Pr} {qs:List Int} (hn:Nv D 0 lo hi x ps qs) (hr:zM x = true) {key:Int} (hk:lo <= key /\ key < hi) {val:ByteArray} (hv:val.size = 12) :
  Nv D 0 lo hi (qe x key val) (xH ps key val) [] /\ x.keys.length <= (qe x key val).keys.length /\ (qe x key val).keys.length <= x.keys.length + 1:=by
 obtain ⟨h1,h2,h3,h4,h5,h6,h7⟩:=hn;obtain ⟨keys,vals,kids⟩:=x;simp only at h1 h2 h3 h4 h5 h6;subst h1;have hs:yA ⟨keys,vals,[]⟩ key = (less keys key,decide (keys[less keys key]? = some key)):=by unfold yA; rw [if_pos hr]
 have hle:=ZB keys key;obtain ⟨a,ha⟩:∃ a,a = less keys key:=⟨_,rfl⟩
 have hat:∀ i (hi:i < keys.length),keys[i] < key ↔ i < a:=fun i hi=>by rw [ha]; exact YA h3 key hi
 rw [<- ha] at hs hle;have hlt:∀ z ∈ keys.take a,z < key:=fun z hz=>by
  obtain ⟨i,hi,rfl⟩:=zgD.1 hz;rw [List.getElem_take];rw [zfZ] at hi;exact (hat i (by omega)).2 (by omega)
 have hge:∀ z ∈ keys.drop a,key <= z:=fun z hz=>by
  obtain ⟨i,hi,rfl⟩:=zgD.1 hz;rw [zgH];rw [zf8] at hi;rcases Int.lt_or_le (keys[a + i]'(by omega)) key with h | h
  ·have:=(hat (a + i) (by omega)).1 h; omega
  ·exact h
 have hpt:∀ p ∈ (keys.take a).zip (vals.take a),p.1 < key:=fun p hp=>hlt _ (zgM hp).1
 unfold qe;rw [hs];by_cases hf:keys[a]? = some key
 ·simp only [hf,decide_true,if_true];obtain ⟨hal,hae⟩:=List.getElem?_eq_some_iff.1 hf;have hgt:∀ z ∈ keys.drop (a + 1),key < z:=fun z hz=>by
   obtain ⟨i,hi,rfl⟩:=zgD.1 hz;rw [zgH];rw [zf8] at hi;have:=zgr.1 h3 a (a + 1 + i) hal (by omega) (by omega);omega
  refine ⟨⟨rfl,by simpa using h2,h3,h4,fun v hv2=>?_,?_,rfl⟩,zfI _,Nat.le_succ _⟩
  ·rcases List.mem_or_eq_of_mem_set hv2 with h | h
   ·exact h5 v h
   ·rw [h]; exact hv
  ·have e1:keys = keys.take a ++ key :: keys.drop (a + 1):=by
    rw [<- hae]; simp
   have e2:vals = vals.take a ++ vals[a]'(by omega) :: vals.drop (a + 1):=by simp
   have e3:vals.set a val = vals.take a ++ val :: vals.drop (a + 1):=by
    rw [List.set_eq_take_append_cons_drop,if_pos (by omega)]
   have hl:(keys.take a).length = (vals.take a).length:=by rw [zfZ,zfZ,h2]
   have e4:keys.zip vals = (keys.take a).zip (vals.take a) ++ (key,vals[a]'(by omega)) :: (keys.drop (a + 1)).zip (vals.drop (a + 1)):=by
    conv=>lhs; rw [e1,e2]
    rw [zgK hl];rfl
   rw [h6,Qu e4 hpt fun p hp=>hgt _ (zgM hp).1];show _ = keys.zip (vals.set a val)
   conv=>rhs; rw [e1,e3]
   rw [zgK hl];rfl
 ·simp only [hf,decide_false,Bool.false_eq_true,if_false];have hgt:∀ z ∈ keys.drop a,key < z:=fun z hz=>by
   obtain ⟨i,hi,rfl⟩:=zgD.1 hz;have h8:=hge _ hz;rw [zgH] at h8 ⊢;rw [zf8] at hi;rcases zgQ i with rfl | h0
   ·have:keys[a + 0]? ≠ some key:=by simpa using hf
    rw [zfM (by omega)] at this;have h9:keys[a + 0] ≠ key:=fun e=>this (by rw [e])
    omega
   ·have:=zgr.1 h3 a (a + i) (by omega) (by omega) (by omega);have h10:=hge _ (List.getElem_mem (by rw [zf8]; omega:0 < (keys.drop a).length));rw [zgH] at h10;have h11:keys[a + 0]'(by omega) = keys[a]'(by omega):=rfl;omega
  have hl:(keys.take a).length = (vals.take a).length:=by rw [zfZ,zfZ,h2]
  refine ⟨⟨rfl,by simp; omega,?_,fun z hz=>?_,fun v hv2=>?_,?_,rfl⟩,by simp; omega,by simp; omega⟩
  ·refine zgj.2 ⟨h3.sublist (List.take_sublist _ _),zgO.2 ⟨hgt,h3.sublist (List.drop_sublist _ _)⟩,fun x hx y hy=>?_⟩;have:=hlt x hx;rcases zgz.1 hy with rfl | hy
   ·exact this
   ·have:=hgt y hy; omega
  ·rcases zgf.1 hz with h | h
   ·exact h4 z (zgu h)
   ·rcases zgz.1 h with rfl | h
    ·exact hk
    ·exact h4 z (zgv h)
  ·rcases zgf.1 hv2 with h | h
   ·exact h5 v (zgu h)
   ·rcases zgz.1 h with rfl | h
    ·exact hv
    ·exact h5 v (zgv h)
  ·have e4:keys.zip vals = (keys.take a).zip (vals.take a) ++ (keys.drop a).zip (vals.drop a):=by
    conv=>lhs; rw [<- zgG a keys,<- zgG a vals]
    rw [zgK hl]
   rw [h6,zen e4 hpt fun p hp=>hgt _ (zgM hp).1];show _ = (keys.take a ++ key :: keys.drop a).zip (vals.take a ++ val :: vals.drop a);rw [zgK hl];rfl
theorem Nv.split {D:Int -> Option Nd} {h:Nat} {lo hi:Int} {x:Nd} {ps:List Pr} {qs:List Int} (hn:Nv D h lo hi x ps qs) (h8:8 <= x.keys.length) (h10:x.keys.length <= 10) :
  ∃ x1 x2 m p1 p2 q1 q2,yw x = ([x1,x2],[m]) /\ Nv D h lo m x1 p1 q1 /\ Nv D h m hi x2 p2 q2 /\ ps = p1 ++ p2 /\ qs = q1 ++ q2 /\ 3 <= x1.keys.length /\ x1.keys.length <= 7 /\ 3 <= x2.keys.length /\ x2.keys.length <= 7:=by
 obtain ⟨keys,vals,kids⟩:=x;simp only at h8 h10;obtain ⟨a,ha⟩:∃ a,a = keys.length / 2:=⟨_,rfl⟩
 have hal:a < keys.length:=by omega
 have e0:(keys.drop a).take 1 = [keys[a]]:=by
  rw [zgS hal]; rfl
 have e1:keys = keys.take a ++ keys[a] :: keys.drop (a + 1):=by simp
 have l1:(keys.take a).length = a:=by rw [zfZ]; omega
 have l2:(keys.drop a).length = keys.length - a:=by rw [zf8]
 have l3:(keys.drop (a + 1)).length = keys.length - (a + 1):=by rw [zf8]
 cases h with
 | zero =>
  obtain ⟨h1,h2,h3,h4,h5,h6,h7⟩:=hn;simp only at h1 h2 h3 h4 h5 h6;subst h1 h7;have hp:yw ⟨keys,vals,[]⟩ = ([⟨keys.take a,vals.take a,[]⟩,⟨keys.drop a,vals.drop a,[]⟩],[keys[a]]):=by
   unfold yw;simp only [<- ha];rw [if_neg (by omega),if_pos (show ([]:List Int).length = 0 from rfl),e0]
  have e2:keys.drop a = keys[a] :: keys.drop (a + 1):=zgS hal;have hs:=h3;rw [e1] at hs;obtain ⟨s1,s2,s3⟩:=zgj.1 hs;refine ⟨_,_,_,(keys.take a).zip (vals.take a),(keys.drop a).zip (vals.drop a),[],[],hp,⟨rfl,by simp; omega,h3.sublist (List.take_sublist _ _),fun z hz=>⟨(h4 z (zgu hz)).1,s3 z hz _ (List.Mem.head _)⟩,fun v hv=>h5 v (zgu hv),rfl,rfl⟩,
   ⟨rfl,by simp; omega,h3.sublist (List.drop_sublist _ _),fun z hz=>⟨?_,(h4 z (zgv hz)).2⟩,fun v hv=>h5 v (zgv hv),rfl,rfl⟩,?_,rfl,by simp only [l1]; omega,by simp only [l1]; omega,by simp only [l2]; omega,by simp only [l2]; omega⟩
  ·have hz2:z ∈ keys.drop a:=hz;rw [e2] at hz2;rcases zgz.1 hz2 with rfl | hz2
   ·exact zgC _
   ·exact Int.le_of_lt ((zgO.1 s2).1 z hz2)
  ·rw [h6]
   conv=>lhs; rw [<- zgG a keys,<- zgG a vals]
   rw [zgK (by rw [l1,zfZ]; omega)]
 | succ h =>
  obtain ⟨h1,h3⟩:=hn;simp only at h1 h3;subst h1;have hl:=h3.len;have hp:yw ⟨keys,[],kids⟩ = ([⟨keys.take a,[],kids.take (a + 1)⟩,⟨keys.drop (a + 1),[],kids.drop (a + 1)⟩],[keys[a]]):=by
   unfold yw;simp only [<- ha];rw [if_neg (by omega),if_neg (by omega),e0]
  have h3':Fo (Tr D h 3) lo hi (keys.take a ++ keys[a] :: keys.drop (a + 1)) (kids.take (a + 1) ++ kids.drop (a + 1)) ps qs:=by
   rw [<- e1,zgG]; exact h3
  obtain ⟨p1,p2,q1,q2,e3,e4,f1,f2⟩:=Fo.unapp (by rw [l1,zfZ]; omega) h3';exact ⟨_,_,_,p1,p2,q1,q2,hp,⟨rfl,f1⟩,⟨rfl,f2⟩,e3,e4,by simp only [l1]; omega,by simp only [l1]; omega,by simp only [l3]; omega,by simp only [l3]; omega⟩
end
section
open Bits (Ok has with_ without both minus first)
def Dm (S:TS) (k:Int):Option Nd:=if inZ S.s k = true then yk (S.data k.toNat) else none
abbrev usd (S:TS) (k:Int):Prop:=vH S.s.used k = true
abbrev OkT (n:Nat) (S:TS) (firm:Nat -> List UInt8):Prop:=yH n S.d S.s S.data firm
theorem wT {s:Pst} {k:Nat} (hk:k < 240):inZ s (k:Int) = s.isIn k:=by
 unfold inZ;rw [decide_eq_true (by omega),Bool.true_and];rfl
theorem Zy {s:Pst} {i:Int} (h:inZ s i = true):∃ k:Nat,i = (k:Int) /\ k < 240 /\ s.isIn k = true:=by
 unfold inZ at h;simp only [Bool.and_eq_true,decide_eq_true_eq] at h;exact ⟨i.toNat,by omega,by omega,h.2⟩
theorem vk {S:TS} {i:Int} (h:usd S i):∃ k:Nat,i = (k:Int) /\ k < 240 /\ has S.s.used k = true:=by
 unfold usd vH at h;simp only [Bool.and_eq_true,decide_eq_true_eq] at h;exact ⟨i.toNat,by omega,by omega,h.2⟩
theorem kV {S:TS} {k:Nat} (hk:k < 240):usd S (k:Int) ↔ has S.s.used k = true:=by
 unfold usd vH;rw [decide_eq_true (by omega),Bool.true_and];rfl
theorem vt {n:Nat} {S:TS} {firm:Nat -> List UInt8} (h:OkT n S firm) {i:Int} (hu:usd S i):inZ S.s i = true:=by
 obtain ⟨k,rfl,hk,h1⟩:=vk hu;rw [wT hk];exact h.used_in hk h1
theorem ky {n:Nat} {S:TS} {firm:Nat -> List UInt8} (h:OkT n S firm) {i:Int} {x:Nd} (hx:Dm S i = some x):2 <= i /\ i <= 239:=by
 unfold Dm at hx;split at hx
 ·rename_i h1
  obtain ⟨k,rfl,hk,h2⟩:=Zy h1;have:=h.in_range hk h2;have:=h.le;omega
 ·cases hx
structure zcp (S S':TS) (m:Nat) (new old:List Int):Prop where
 sup:S'.s.sup = S.s.sup
 down:S'.d.down = S.d.down
 soft:S'.d.soft.length <= S.d.soft.length + m
 page:∀ j,usd S j -> j ∉ old -> usd S' j /\ Dm S' j = Dm S j
 used:∀ j,usd S' j -> (usd S j /\ j ∉ old) \/ j ∈ new
 fresh:∀ j ∈ new,inZ S.s j = false
 inz:∃ E:List Int,E.length <= m /\ ∀ j,inZ S'.s j = true -> inZ S.s j = true \/ j ∈ E
theorem XR {n:Nat} {S S':TS} {firm:Nat -> List UInt8} (h:OkT n S firm) {x:Nd} {k:Int} (ha:xK n S x = (.ok k,S')):zM x = true /\ OkT n S' firm /\ zcp S S' 1 [k] [] /\ usd S' k /\ Dm S' k = some x:=by
 unfold xK at ha;split at ha
 ·cases ha
 ·rename_i hr
  have hr':zM x = true:=by simpa using hr
  split at ha
  ·cases ha
  ·rename_i k' hf
   simp only [Prod.mk.injEq,Except.ok.injEq] at ha;obtain ⟨rfl,rfl⟩:=ha;obtain ⟨h2,hn,hin,_⟩:=h.first_some hf;have hle:=h.le;have hk:k' < 240:=by omega
   have h120:(ke x).length <= 120:=by
    have h1:=Ze hr';have h2:=(zm hr').2.1;unfold WR at h1;split at h1 <;> omega
   have hok:OkT n ⟨S.d.write k' (pgB (wL (ke x))),S.s.at_ k',upd S.data k' (ke x)⟩ firm:=h.laid hf h120;have hin':∀ j,j < 240 -> (S.s.at_ k').isIn j = (S.s.isIn j || decide (j = k')):=fun j hj=>by
    unfold Pst.isIn;rw [show (S.s.at_ k').new = with_ S.s.new k' from rfl,Bits.has_with h.newOk hk];show (has S.s.sup.used j || _) = _;by_cases e:j = k'
    ·simp [e]
    ·simp [e]
   have hgk:has S.s.gone k' = false:=by
    cases hg:has S.s.gone k' with
    | false=>rfl
    | true =>
     have:=h.goes k' hk hg;unfold Pst.isIn at hin;rw [this] at hin;cases hin
   have hus:∀ j,j < 240 -> has (S.s.at_ k').used j = (has S.s.used j || decide (j = k')):=fun j hj=>by
    rw [hok.has_used hj,h.has_used hj,hin' j hj];show (_ && !has S.s.gone j) = _;by_cases e:j = k'
    ·subst e; simp [hgk]
    ·simp [e]
   refine ⟨hr',hok,⟨rfl,rfl,?_,fun j hj _=>?_,fun j hj=>?_,fun j hj=>?_,[(k':Int)],zfI _,fun j hj=>?_⟩,?_,?_⟩
   ·show (S.d.soft ++ [_]).length <= _;simp
   ·obtain ⟨j',rfl,hj2,hj3⟩:=vk hj;have hne:j' ≠ k':=by
     rintro rfl;have:=h.used_in hj2 hj3;rw [this] at hin;cases hin
    refine ⟨(kV hj2).2 (by show has (S.s.at_ k').used j' = true; rw [hus j' hj2,hj3]; rfl),?_⟩;unfold Dm;show (if inZ (S.s.at_ k') (j':Int) = true then yk (upd S.data k' (ke x) (j':Int).toNat) else none) = _;rw [wT hj2,wT hj2,hin' j' hj2,decide_eq_false hne,Bool.or_false];have e:upd S.data k' (ke x) ((j':Int).toNat) = S.data ((j':Int).toNat):=by unfold upd; rw [if_neg (by simpa using hne)]
    rw [e]
   ·obtain ⟨j',rfl,hj2,hj3⟩:=vk hj;have hj4:has (S.s.at_ k').used j' = true:=hj3;rw [hus j' hj2] at hj4;rcases zf5.1 hj4 with h5 | h5
    ·exact .inl ⟨(kV hj2).2 h5,by simp⟩
    ·exact .inr (by rw [of_decide_eq_true h5]; simp)
   ·obtain rfl:=zga.1 hj;rw [wT hk]; exact hin
   ·obtain ⟨j',rfl,hj2,hj3⟩:=Zy hj;have hj4:(S.s.at_ k').isIn j' = true:=hj3;rw [hin' j' hj2] at hj4;rcases zf5.1 hj4 with h5 | h5
    ·exact .inl (by rw [wT hj2]; exact h5)
    ·exact .inr (by rw [of_decide_eq_true h5]; simp)
   ·exact (kV hk).2 (by show has (S.s.at_ k').used k' = true; rw [hus k' hk]; simp)
   ·unfold Dm;show (if inZ (S.s.at_ k') (k':Int) = true then yk (upd S.data k' (ke x) (k':Int).toNat) else none) = _;rw [wT hk,hin' k' hk];simp only [decide_true,Bool.or_true,if_true];unfold upd;rw [if_pos (by simp)];exact zbB hr'
theorem KM {n:Nat} {S S':TS} {firm:Nat -> List UInt8} (h:OkT n S firm) {x:Nd} {c:Int} (ha:xK n S x = (.error c,S')):S' = S /\ ((c = 2 /\ zM x = false) \/ (c = 6 /\ ∀ m:Nat,2 <= m -> m < n -> inZ S.s (m:Int) = true)):=by
 unfold xK at ha;split at ha
 ·rename_i hr
  simp only [Prod.mk.injEq,Except.error.injEq] at ha;exact ⟨ha.2.symm,.inl ⟨ha.1.symm,hr⟩⟩
 ·split at ha
  ·rename_i hf
   simp only [Prod.mk.injEq,Except.error.injEq] at ha;refine ⟨ha.2.symm,.inr ⟨ha.1.symm,fun m h1 h2=>?_⟩⟩;have hle:=h.le;rw [wT (by omega)];exact h.first_none hf m h1 h2
  ·cases ha
theorem K6 {n:Nat} {S:TS} {firm:Nat -> List UInt8} (h:OkT n S firm) {k:Int} (hu:usd S k):∃ S',wH S k = (0,S') /\ OkT n S' firm /\ zcp S S' 0 [] [k] /\ ¬ usd S' k:=by
 obtain ⟨k',rfl,hk,h1⟩:=vk hu;have hd:wH S (k':Int) = (0,⟨S.d,S.s.drop k',S.data⟩):=by
  unfold wH;rw [if_pos hu];rfl
 have hok:OkT n ⟨S.d,S.s.drop k',S.data⟩ firm:=h.dropped hk h1;have hi:=h.used_in hk h1;have hg0:has S.s.gone k' = false:=by
  have:=h.has_used hk;rw [h1,hi] at this;simpa using this.symm
 have hsup:(S.s.drop k').sup = S.s.sup:=by unfold Pst.drop; split <;> rfl
 have hin:∀ j,j < 240 -> j ≠ k' -> (S.s.drop k').isIn j = S.s.isIn j:=fun j hj hne=>by
  unfold Pst.isIn Pst.drop;split
  ·show (has S.s.sup.used j || has (without S.s.new k') j) = _;rw [Bits.has_without h.newOk hk,if_neg hne]
  ·rfl
 have hinl:∀ j,j < 240 -> (S.s.drop k').isIn j = true -> S.s.isIn j = true:=fun j hj hj2=>by
  by_cases e:j = k'
  ·rw [e]; exact hi
  ·rw [<- hin j hj e]; exact hj2
 have hus:∀ j,j < 240 -> j ≠ k' -> has (S.s.drop k').used j = has S.s.used j:=fun j hj hne=>by
  rw [hok.has_used hj,h.has_used hj];show ((S.s.drop k').isIn j && !has (S.s.drop k').gone j) = _;rw [hin j hj hne];unfold Pst.drop;split
  ·rfl
  ·show (S.s.isIn j && !has (with_ S.s.gone k') j) = _;rw [Bits.has_with h.goneOk hk,if_neg hne]
 have hno:has (S.s.drop k').used k' = false:=by
  rw [hok.has_used hk];show ((S.s.drop k').isIn k' && !has (S.s.drop k').gone k') = false;unfold Pst.isIn Pst.drop;split
  ·rename_i hn
   show ((has S.s.sup.used k' || has (without S.s.new k') k') && _) = false;rw [Bits.has_without h.newOk hk,if_pos rfl,(h.fresh k' hk hn).2.2.1];rfl
  ·show (_ && !has (with_ S.s.gone k') k') = false;rw [Bits.has_with h.goneOk hk,if_pos rfl];simp
 refine ⟨_,hd,hok,⟨hsup,rfl,zfI _,fun j hj hne=>?_,fun j hj=>?_,(fun _ h=>by cases h),[],zfI _,fun j hj=>?_⟩,fun hu2=>?_⟩
 ·obtain ⟨j',rfl,hj2,hj3⟩:=vk hj;have hne':j' ≠ k':=fun e=>hne (by rw [e]; simp)
  refine ⟨(kV hj2).2 (by show has (S.s.drop k').used j' = true; rw [hus j' hj2 hne']; exact hj3),?_⟩;unfold Dm;show (if inZ (S.s.drop k') (j':Int) = true then _ else none) = _;rw [wT hj2,wT hj2,hin j' hj2 hne']
 ·obtain ⟨j',rfl,hj2,hj3⟩:=vk hj;have hj4:has (S.s.drop k').used j' = true:=hj3;have hne':j' ≠ k':=by
   rintro rfl;rw [hno] at hj4;cases hj4
  rw [hus j' hj2 hne'] at hj4;exact .inl ⟨(kV hj2).2 hj4,by simp only [zga]; omega⟩
 ·obtain ⟨j',rfl,hj2,hj3⟩:=Zy hj;exact .inl (by rw [wT hj2]; exact hinl j' hj2 hj3)
 ·obtain ⟨j',e,hj2,hj3⟩:=vk hu2;have:j' = k':=by omega
  subst this;have hj4:has (S.s.drop j').used j' = true:=hj3;rw [hno] at hj4;cases hj4
structure ww (n:Nat) (firm:Nat -> List UInt8) (S S':TS) (m:Nat):Prop where
 ok:OkT n S' firm
 sup:S'.s.sup = S.s.sup
 down:S'.d.down = S.d.down
 soft:S'.d.soft.length <= S.d.soft.length + m
 inz:∃ E:List Int,E.length <= m /\ ∀ j,inZ S'.s j = true -> inZ S.s j = true \/ j ∈ E
theorem ww.refl {n:Nat} {firm:Nat -> List UInt8} {S:TS} (h:OkT n S firm):ww n firm S S 0:=⟨h,rfl,rfl,zfI _,[],zfI _,fun _ h=>.inl h⟩
theorem ww.trans {n:Nat} {firm:Nat -> List UInt8} {S S1 S2:TS} {m1 m2:Nat} (h1:ww n firm S S1 m1) (h2:ww n firm S1 S2 m2):ww n firm S S2 (m1 + m2):=by
 obtain ⟨E1,a1,a2⟩:=h1.inz;obtain ⟨E2,b1,b2⟩:=h2.inz;refine ⟨h2.ok,h2.sup.trans h1.sup,h2.down.trans h1.down,by have:=h1.soft; have:=h2.soft; omega,E1 ++ E2,by rw [zf0]; omega,fun j hj=>?_⟩;rcases b2 j hj with h | h
 ·rcases a2 j h with h | h
  ·exact .inl h
  ·exact .inr (zfF _ h)
 ·exact .inr (zgA _ h)
theorem ww.more {n:Nat} {firm:Nat -> List UInt8} {S S':TS} {m m':Nat} (h:ww n firm S S' m) (hm:m <= m'):ww n firm S S' m':=by
 obtain ⟨E,a1,a2⟩:=h.inz;exact ⟨h.ok,h.sup,h.down,by have:=h.soft; omega,E,by omega,a2⟩
theorem zcp.stay {n:Nat} {firm:Nat -> List UInt8} {S S':TS} {m:Nat} {a b:List Int} (h:zcp S S' m a b) (ho:OkT n S' firm):ww n firm S S' m:=⟨ho,h.sup,h.down,h.soft,h.inz⟩
theorem YV {n:Nat} {S:TS} {firm:Nat -> List UInt8} (h:OkT n S firm) (x:Nd):ww n firm S (xK n S x).2 1:=by
 cases ha:xK n S x with
 | mk r S' =>
  cases r with
  | error c=>obtain ⟨rfl,_⟩:=KM h ha; exact (ww.refl h).more (by decide)
  | ok k=>obtain ⟨_,h2,h3,_⟩:=XR h ha; exact h3.stay h2
theorem Ws {n:Nat} {S:TS} {firm:Nat -> List UInt8} (h:OkT n S firm) (k:Int):ww n firm S (wH S k).2 0:=by
 by_cases hu:usd S k
 ·obtain ⟨S',h1,h2,h3,_⟩:=K6 h hu;rw [h1];exact h3.stay h2
 ·unfold wH;rw [if_neg hu];exact ww.refl h
theorem V5 {n:Nat} {firm:Nat -> List UInt8} (l:List Nd):∀ {S:TS},OkT n S firm -> ww n firm S (zY n S l).2 l.length:=by
 induction l with
 | nil=>intro S h; exact ww.refl h
 | cons x r ih =>
  intro S h;have h1:=YV h x;unfold zY;cases ha:xK n S x with
  | mk o S1 =>
   rw [ha] at h1;cases o with
   | error c=>exact h1.more (by simp)
   | ok k =>
    have h2:=ih h1.ok;simp only;cases hb:zY n S1 r with
    | mk o2 S2 =>
     rw [hb] at h2;cases o2 with
     | error c=>exact (h1.trans h2).more (by show 1 + r.length <= r.length + 1; omega)
     | ok l2=>exact (h1.trans h2).more (by show 1 + r.length <= r.length + 1; omega)
theorem W8 {n:Nat} {firm:Nat -> List UInt8} (l:List Int):∀ {S:TS},OkT n S firm -> ww n firm S (yo S l).2 0:=by
 induction l with
 | nil=>intro S h; exact ww.refl h
 | cons k r ih =>
  intro S h;have h1:=Ws h k;unfold yo;cases hd:wH S k with
  | mk c S1 =>
   rw [hd] at h1;by_cases hc:c = 0
   ·simp only [if_pos hc];exact (h1.trans (ih h1.ok)).more (zfI _)
   ·simp only [if_neg hc];exact h1
theorem Z2 (x:Nd):(yw x).1.length <= 2:=by
 unfold yw;split
 ·exact (by decide:(1:Nat) <= 2)
 ·split <;> exact zfI 2
theorem vF {n:Nat} {S:TS} {firm:Nat -> List UInt8} (h:OkT n S firm) (x:Nd) (old:List Int):ww n firm S (yt n S x old).2 2:=by
 have h1:=(V5 (yw x).1 h).more (Z2 x);unfold yt;cases ha:zY n S (yw x).1 with
 | mk o S1 =>
  rw [ha] at h1;cases o with
  | error c=>exact h1
  | ok ks =>
   have h2:=W8 old h1.ok;cases hd:yo S1 old with
   | mk c S2 =>
    rw [hd] at h2;by_cases hc:c = 0
    ·simp only [hd,if_pos hc];exact (h1.trans h2).more (zfI _)
    ·simp only [hd,if_neg hc];exact (h1.trans h2).more (zfI _)
theorem jI {n:Nat} {S:TS} {firm:Nat -> List UInt8} (h:OkT n S firm) (x:Nd) (a m:Nat) (kid:Nd):ww n firm S (zS n S x a m kid).2 2:=by
 have h1:=vF h kid ((x.kids.drop a).take m);unfold zS;cases hc:yt n S kid ((x.kids.drop a).take m) with
 | mk o S1 =>
  rw [hc] at h1;cases o with
  | error c=>exact h1
  | ok r=>exact h1
theorem jW {n:Nat} {firm:Nat -> List UInt8} (f:Nat):∀ {S:TS},OkT n S firm -> ∀ (i key:Int) (val:ByteArray),ww n firm S (jg n f S i key val).2 (2 * f):=by
 induction f with
 | zero=>intro S h i key val; exact ww.refl h
 | succ f ih =>
  intro S h i key val;unfold jg;cases hl:yp S i (12 - f:Int) with
  | error c=>exact (ww.refl h).more (Nat.zero_le _)
  | ok x =>
   by_cases hk:x.kids.length = 0
   ·simp only [if_pos hk];exact (ww.refl h).more (Nat.zero_le _)
   ·simp only [if_neg hk];have h1:=ih h (x.kids.getD (yF x key) 0) key val;cases hp:jg n f S (x.kids.getD (yF x key) 0) key val with
    | mk o S1 =>
     rw [hp] at h1;cases o with
     | error c=>exact h1.more (by omega)
     | ok kid=>exact (h1.trans (jI h1.ok x (yF x key) 1 kid)).more (by omega)
theorem XD {n:Nat} {S:TS} {firm:Nat -> List UInt8} (h:OkT n S firm) (root key:Int) (val:ByteArray):ww n firm S (xf n S root key val).2 27:=by
 unfold xf;split
 ·exact (ww.refl h).more (by decide)
 ·split
  ·exact (YV h _).more (by decide)
  ·have h1:=jW 12 h root key val;cases hp:jg n 12 S root key val with
   | mk o S1 =>
    rw [hp] at h1;cases o with
    | error c=>exact h1.more (by decide)
    | ok x =>
     have h2:=vF h1.ok x [root];simp only;cases hc:yt n S1 x [root] with
     | mk o2 S2 =>
      rw [hc] at h2;cases o2 with
      | error c=>exact (h1.trans h2).more (by decide)
      | ok r =>
       obtain ⟨bk,ks⟩:=r;simp only;split
       ·exact (h1.trans h2).more (by decide)
       ·have h3:=YV h2.ok ⟨bk,[],ks⟩;cases ha:xK n S2 ⟨bk,[],ks⟩ with
        | mk o3 S3 =>
         rw [ha] at h3;cases o3 with
         | error c=>exact ((h1.trans h2).trans h3).more (by decide)
         | ok k =>
          simp only;split
          ·exact ((h1.trans h2).trans h3).more (by decide)
          ·exact ((h1.trans h2).trans h3).more (by decide)
end
section
theorem Nv.imp {D D':Int -> Option Nd} {h:Nat} {lo hi:Int} {x:Nd} {ps:List Pr} {qs:List Int} (hn:Nv D h lo hi x ps qs) (hq:∀ q ∈ qs,D' q = D q):Nv D' h lo hi x ps qs:=by
 cases h with
 | zero=>exact hn
 | succ h =>
  obtain ⟨h1,h3⟩:=hn;exact ⟨h1,h3.imp fun _ _ _ _ _ h5 h6=>h5.imp fun q hq2=>hq q (h6 q hq2)⟩
theorem Nv.lt {D:Int -> Option Nd} {h:Nat} {lo hi:Int} {x:Nd} {ps:List Pr} {qs:List Int} (hn:Nv D h lo hi x ps qs) (h0:0 < x.keys.length):lo < hi:=by
 cases h with
 | zero =>
  obtain ⟨_,_,_,h4,_⟩:=hn;have:=h4 _ (List.getElem_mem h0);omega
 | succ h=>exact hn.2.kids.2.2.2.2
theorem Wj {n:Nat} {S:TS} {firm:Nat -> List UInt8} (h:OkT n S firm) {hh:Nat} {lo hi:Int} {x:Nd} {ps:List Pr} {qs:List Int} (hn:Nv (Dm S) hh lo hi x ps qs) (hnd:qs.Nodup) (h7:x.keys.length <= 7) (hk0:0 < x.keys.length) (hlo:0 <= lo) (hhi:hi <= 4294967296) :
  (xK n S x = (.error 6,S) /\ ∀ m:Nat,2 <= m -> m < n -> inZ S.s (m:Int) = true) \/ ∃ k S',xK n S x = (.ok k,S') /\ OkT n S' firm /\ zcp S S' 1 [k] [] /\ usd S' k /\ Dm S' k = some x:=by
 have hr:=hn.right h7 hk0 hlo hhi hnd fun k y hy=>ky h hy
 cases ha:xK n S x with
 | mk r S' =>
  cases r with
  | error c =>
   obtain ⟨rfl,h1 | ⟨rfl,h2⟩⟩:=KM h ha
   ·rw [hr] at h1; cases h1.2
   ·exact .inl ⟨rfl,h2⟩
  | ok k =>
   obtain ⟨_,h2,h3,h4,h5⟩:=XR h ha;exact .inr ⟨k,S',rfl,h2,h3,h4,h5⟩
theorem Zw {n:Nat} {S S':TS} {firm:Nat -> List UInt8} (h:OkT n S firm) {x:Nd} {k:Int} (ha:xK n S x = (.ok k,S')) {j:Int} (hj:inZ S.s j = true):inZ S'.s j = true:=by
 unfold xK at ha;split at ha
 ·cases ha
 ·split at ha
  ·cases ha
  ·rename_i k' hf
   simp only [Prod.mk.injEq,Except.ok.injEq] at ha;obtain ⟨rfl,rfl⟩:=ha;obtain ⟨h2,hn,_,_⟩:=h.first_some hf;have hle:=h.le;obtain ⟨j',rfl,hj2,hj3⟩:=Zy hj;rw [wT hj2];unfold Pst.isIn at hj3 ⊢;show (Bits.has S.s.sup.used j' || Bits.has (Bits.with_ S.s.new k') j') = true;rw [Bits.has_with h.newOk (by omega)];rcases zf5.1 hj3 with h5 | h5
   ·rw [h5]; rfl
   ·rw [h5]; simp
theorem Qh {n:Nat} {S:TS} {firm:Nat -> List UInt8} (h:OkT n S firm) {k:Int} {S':TS} (hd:wH S k = (0,S')) {j:Int} (hj:inZ S.s j = true) (hne:j ≠ k):inZ S'.s j = true:=by
 unfold wH at hd;split at hd
 ·rename_i hu
  obtain ⟨k',rfl,hk,h1⟩:=vk (S:=S) hu;simp only [Prod.mk.injEq,true_and] at hd;subst hd;obtain ⟨j',rfl,hj2,hj3⟩:=Zy hj;have hne':j' ≠ k':=fun e=>hne (by rw [e])
  rw [wT hj2];show (S.s.drop (k':Int).toNat).isIn j' = true;rw [show (k':Int).toNat = k' from rfl];unfold Pst.isIn Pst.drop at *;split
  ·show (Bits.has S.s.sup.used j' || Bits.has (Bits.without S.s.new k') j') = true;rw [Bits.has_without h.newOk hk,if_neg hne'];exact hj3
  ·exact hj3
 ·simp only [Prod.mk.injEq] at hd;exact absurd hd.1 (by decide)
theorem ZX {n:Nat} {firm:Nat -> List UInt8} (os:List Int):∀ {S:TS},OkT n S firm -> (∀ o ∈ os,usd S o) -> os.Nodup ->
  ∃ S',yo S os = (0,S') /\ OkT n S' firm /\ (∀ j,usd S j -> j ∉ os -> usd S' j /\ Dm S' j = Dm S j) /\ (∀ j,usd S' j -> usd S j /\ j ∉ os) /\ (∀ j,inZ S.s j = true -> j ∉ os -> inZ S'.s j = true):=by
 induction os with
 | nil=>intro S h _ _; exact ⟨S,rfl,h,fun j hj _=>⟨hj,rfl⟩,fun j hj=>⟨hj,by simp⟩,fun j hj _=>hj⟩
 | cons o os ih =>
  intro S h hu hn;obtain ⟨n1,n2⟩:=zgF.1 hn;obtain ⟨S1,hd,hok,hst,hno⟩:=K6 h (hu o List.mem_cons_self);have hu1:∀ q ∈ os,usd S1 q:=fun q hq=>(hst.page q (hu q (zgB _ hq)) (by simp only [zga]; rintro rfl; exact n1 hq)).1
  obtain ⟨S2,e1,e2,e3,e4,e5⟩:=ih hok hu1 n2;refine ⟨S2,by unfold yo; simp only [hd,if_true,e1],e2,fun j hj hne=>?_,fun j hj=>?_,fun j hj hne=>?_⟩
  ·obtain ⟨a1,a2⟩:=hst.page j hj (by simp only [zga]; rintro rfl; exact hne List.mem_cons_self);obtain ⟨b1,b2⟩:=e3 j a1 fun hm=>hne (zgB _ hm)
   exact ⟨b1,b2.trans a2⟩
  ·obtain ⟨a1,a2⟩:=e4 j hj;rcases hst.used j a1 with ⟨b1,b2⟩ | b1
   ·refine ⟨b1,fun hm=>?_⟩;rcases zgz.1 hm with e | hm
    ·exact b2 (zga.2 e)
    ·exact a2 hm
   ·cases b1
  ·exact e5 j (Qh h hd hj fun e=>hne (by rw [e]; exact List.mem_cons_self)) fun hm=>hne (zgB _ hm)
structure zb4 (n:Nat) (firm:Nat -> List UInt8) (S S':TS) (os qs qs':List Int):Prop where
 ok:OkT n S' firm
 nodup:qs'.Nodup
 used:∀ q ∈ qs',usd S' q
 new:∀ q ∈ qs',q ∈ qs \/ inZ S.s q = false
 page:∀ j,usd S j -> j ∉ os -> usd S' j /\ Dm S' j = Dm S j
 only:∀ j,usd S' j -> (usd S j /\ j ∉ os) \/ j ∈ qs'
 sub:∀ q ∈ qs,q ∈ qs'
 keep:∀ j,inZ S.s j = true -> j ∉ os -> inZ S'.s j = true
def vC (n:Nat) (S:TS) (m:Nat):Prop:=∃ E:List Int,E.length <= m /\ ∀ k:Nat,2 <= k -> k < n -> inZ S.s (k:Int) = true \/ (k:Int) ∈ E
theorem vY {n:Nat} {S:TS} {firm:Nat -> List UInt8} (h:OkT n S firm) {hh mn:Nat} {lo hi:Int} {x:Nd} {ps:List Pr} {qs:List Int} (hn:Nv (Dm S) hh lo hi x ps qs) (hu:∀ q ∈ qs,usd S q) (hnd:qs.Nodup) (h10:x.keys.length <= 10)
  (hm:mn <= x.keys.length /\ mn <= 3) (hk0:0 < x.keys.length) (hlo:0 <= lo) (hhi:hi <= 4294967296) {os:List Int} (ho:∀ o ∈ os,usd S o) (hon:os.Nodup) (hoq:∀ o ∈ os,o ∉ qs) :
  (∃ S',yt n S x os = (.error 6,S') /\ vC n S 2) \/
  ∃ bk ks S' qs',yt n S x os = (.ok (bk,ks),S') /\ Fo (Tr (Dm S') hh mn) lo hi bk ks ps qs' /\ bk.length <= 1 /\ (x.keys.length <= 7 -> bk = []) /\ (8 <= x.keys.length -> bk.length = 1) /\ zb4 n firm S S' os qs qs':=by
 have hne0:∀ {y:Nd},0 < y.keys.length -> y.keys ≠ []:=fun h e=>by rw [e] at h; cases h
 by_cases h7:x.keys.length <= 7
 ·have hp:yw x = ([x],[]):=by unfold yw; rw [if_pos h7]
  rcases Wj h hn hnd h7 hk0 hlo hhi with ⟨ha,hf⟩ | ⟨k,S1,ha,hok,hst,hus,hd⟩
  ·refine .inl ⟨S,?_,[],by simp,fun m h1 h2=>.inl (hf m h1 h2)⟩;unfold yt;simp only [hp,zY,ha]
  ·have ho1:∀ o ∈ os,usd S1 o:=fun o hm=>(hst.page o (ho o hm) (by simp)).1
   obtain ⟨S2,hd1,hok2,hpg2,hon2,hkp2⟩:=ZX os hok ho1 hon;have hkf:inZ S.s k = false:=hst.fresh k (by simp);have hko:k ∉ os:=fun hm=>by have:=vt h (ho k hm); rw [hkf] at this; cases this
   have hkq:k ∉ qs:=fun hk=>by have:=vt h (hu k hk); rw [hkf] at this; cases this
   have hD:∀ j,usd S j -> j ∉ os -> usd S2 j /\ Dm S2 j = Dm S j:=fun j hj hne=>by
    obtain ⟨a1,a2⟩:=hst.page j hj (by simp);obtain ⟨b1,b2⟩:=hpg2 j a1 hne;exact ⟨b1,b2.trans a2⟩
   obtain ⟨c1,c2⟩:=hpg2 k hus hko;have hkp:∀ j,inZ S.s j = true -> j ∉ os -> inZ S2.s j = true:=fun j hj hne=>hkp2 j (Zw h ha hj) hne
   refine .inr ⟨[],[k],S2,k :: qs,?_,⟨k,rfl,hn.laid (c2.trans hd) (fun q hq=>(hD q (hu q hq) (fun e=>hoq q e hq)).2) hm.1 (hne0 hk0)⟩,by simp,fun _=>rfl,fun h8=>by omega,hok2,zgF.2 ⟨hkq,hnd⟩,fun q hq=>?_,fun q hq=>?_,hD,fun j hj=>?_,fun q hq=>zgB _ hq,hkp⟩
   ·unfold yt;simp only [hp,zY,ha,hd1,if_true]
   ·rcases zgz.1 hq with rfl | hq
    ·exact c1
    ·exact (hD q (hu q hq) (fun e=>hoq q e hq)).1
   ·rcases zgz.1 hq with rfl | hq
    ·exact .inr hkf
    ·exact .inl hq
   ·obtain ⟨h1,h2⟩:=hon2 j hj;rcases hst.used j h1 with ⟨h3,_⟩ | h3
    ·exact .inl ⟨h3,h2⟩
    ·exact .inr (by rw [zga.1 h3]; simp)
 ·obtain ⟨x1,x2,m,p1,p2,q1,q2,hp,n1,n2,rfl,rfl,l1,l2,l3,l4⟩:=hn.split (by omega) h10;obtain ⟨d1,d2,d3⟩:=zgE.1 hnd;have b1:=n1.lt (by omega);have b2:=n2.lt (by omega);have u1:∀ q ∈ q1,usd S q:=fun q hq=>hu q (zfF _ hq)
  have u2:∀ q ∈ q2,usd S q:=fun q hq=>hu q (zgA _ hq)
  have o1:∀ o ∈ os,o ∉ q1:=fun o hm hq=>hoq o hm (zfF _ hq)
  have o2:∀ o ∈ os,o ∉ q2:=fun o hm hq=>hoq o hm (zgA _ hq)
  rcases Wj h n1 d1 l2 (by omega) hlo (by omega) with ⟨ha,hf⟩ | ⟨k1,S1,ha,hok1,hst1,hus1,hd1⟩
  ·refine .inl ⟨S,?_,[],by simp,fun m h1 h2=>.inl (hf m h1 h2)⟩;unfold yt;simp only [hp,zY,ha]
  have hk1:inZ S.s k1 = false:=hst1.fresh k1 (by simp);have n2':Nv (Dm S1) hh m hi x2 p2 q2:=n2.imp fun q hq=>(hst1.page q (u2 q hq) (by simp)).2
  rcases Wj hok1 n2' d2 l4 (by omega) (by omega) hhi with ⟨ha2,hf2⟩ | ⟨k2,S2,ha2,hok2,hst2,hus2,hd2⟩
  ·obtain ⟨E,e1,e2⟩:=hst1.inz;refine .inl ⟨S1,?_,E,by omega,fun m h1 h2=>e2 _ (hf2 m h1 h2)⟩;unfold yt;simp only [hp,zY,ha,ha2]
  have hk2:inZ S1.s k2 = false:=hst2.fresh k2 (by simp);have hA:∀ j,usd S j -> usd S2 j /\ Dm S2 j = Dm S j:=fun j hj=>by
   obtain ⟨a1,a2⟩:=hst1.page j hj (by simp);obtain ⟨b1,b2⟩:=hst2.page j a1 (by simp);exact ⟨b1,b2.trans a2⟩
  obtain ⟨S3,hd3,hok3,hpg3,hon3,hkp3⟩:=ZX os hok2 (fun o hm=>(hA o (ho o hm)).1) hon;have hko1:k1 ∉ os:=fun e=>by have:=vt h (ho k1 e); rw [hk1] at this; cases this
  have hko2:k2 ∉ os:=fun e=>by have:=vt hok1 (hst1.page k2 (ho k2 e) (by simp)).1; rw [hk2] at this; cases this
  have hk12:k1 ≠ k2:=fun e=>by have:=vt hok1 hus1; rw [e,hk2] at this; cases this
  have hkn1:∀ q,usd S q -> k1 ≠ q:=fun q hq e=>by have:=vt h hq; rw [<- e,hk1] at this; cases this
  have hkn2:∀ q,usd S q -> k2 ≠ q:=fun q hq e=>by have:=vt hok1 (hst1.page q hq (by simp)).1; rw [<- e,hk2] at this; cases this
  have hD:∀ j,usd S j -> j ∉ os -> usd S3 j /\ Dm S3 j = Dm S j:=fun j hj hne=>by
   obtain ⟨a1,a2⟩:=hA j hj;obtain ⟨b1,b2⟩:=hpg3 j a1 hne;exact ⟨b1,b2.trans a2⟩
  have hK1:usd S3 k1 /\ Dm S3 k1 = some x1:=by
   obtain ⟨a1,a2⟩:=hst2.page k1 hus1 (by simp);obtain ⟨b1,b2⟩:=hpg3 k1 a1 hko1;exact ⟨b1,b2.trans (a2.trans hd1)⟩
  have hK2:usd S3 k2 /\ Dm S3 k2 = some x2:=by
   obtain ⟨b1,b2⟩:=hpg3 k2 hus2 hko2;exact ⟨b1,b2.trans hd2⟩
  have hk2f:inZ S.s k2 = false:=by
   cases hz:inZ S.s k2 with
   | false=>rfl
   | true =>
    have:=Zw h ha hz;rw [hk2] at this;cases this
  have t1:=n1.laid (mn:=mn) hK1.2 (fun q hq=>(hD q (u1 q hq) (fun e=>o1 q e hq)).2) (by omega) (hne0 (by omega));have t2:=n2.laid (mn:=mn) hK2.2 (fun q hq=>(hD q (u2 q hq) (fun e=>o2 q e hq)).2) (by omega) (hne0 (by omega));have hkp:∀ j,inZ S.s j = true -> j ∉ os -> inZ S3.s j = true:=fun j hj hne=>hkp3 j (Zw hok1 ha2 (Zw h ha hj)) hne
  have hsb:∀ q ∈ q1 ++ q2,q ∈ (k1 :: q1) ++ (k2 :: q2):=fun q hq=>by
   rcases zgf.1 hq with hq | hq
   ·exact zfF _ (zgB _ hq)
   ·exact zgA _ (zgB _ hq)
  refine .inr ⟨[m],[k1,k2],S3,(k1 :: q1) ++ (k2 :: q2),?_,⟨k1,[k2],p1,k1 :: q1,p2,k2 :: q2,rfl,rfl,rfl,t1,k2,rfl,t2⟩,by simp,fun h9=>absurd h9 h7,fun _=>rfl,hok3,?_,fun q hq=>?_,fun q hq=>?_,hD,fun j hj=>?_,hsb,hkp⟩
  ·unfold yt;simp only [hp,zY,ha,ha2,hd3,if_true]
  ·refine zgE.2 ⟨zgF.2 ⟨fun hq=>hkn1 k1 (u1 k1 hq) rfl,d1⟩,zgF.2 ⟨fun hq=>hkn2 k2 (u2 k2 hq) rfl,d2⟩,fun a ha b hb e=>?_⟩;subst e;rcases zgz.1 ha with rfl | ha
   ·rcases zgz.1 hb with e | hb
    ·exact hk12 e
    ·exact hkn1 a (u2 a hb) rfl
   ·rcases zgz.1 hb with rfl | hb
    ·exact hkn2 a (u1 a ha) rfl
    ·exact d3 a ha a hb rfl
  ·rcases zgf.1 hq with hq | hq
   ·rcases zgz.1 hq with rfl | hq
    ·exact hK1.1
    ·exact (hD q (u1 q hq) (fun e=>o1 q e hq)).1
   ·rcases zgz.1 hq with rfl | hq
    ·exact hK2.1
    ·exact (hD q (u2 q hq) (fun e=>o2 q e hq)).1
  ·rcases zgf.1 hq with hq | hq
   ·rcases zgz.1 hq with rfl | hq
    ·exact .inr hk1
    ·exact .inl (zfF _ hq)
   ·rcases zgz.1 hq with rfl | hq
    ·exact .inr hk2f
    ·exact .inl (zgA _ hq)
  ·obtain ⟨h1,h2⟩:=hon3 j hj;rcases hst2.used j h1 with ⟨h3,_⟩ | h3
   ·rcases hst1.used j h3 with ⟨h5,_⟩ | h5
    ·exact .inl ⟨h5,h2⟩
    ·exact .inr (by rw [zga.1 h5]; simp)
   ·exact .inr (by rw [zga.1 h3]; simp)
structure Chg (n:Nat) (firm:Nat -> List UInt8) (S S':TS) (o:Int) (qs qs':List Int):Prop where
 ok:OkT n S' firm
 nodup:qs'.Nodup
 used:∀ q ∈ qs',usd S' q
 new:∀ q ∈ qs',q ∈ qs \/ inZ S.s q = false
 page:∀ j,usd S j -> j ≠ o -> usd S' j /\ Dm S' j = Dm S j
 only:∀ j,usd S' j -> (usd S j /\ j ≠ o) \/ j ∈ qs'
 sub:∀ q ∈ qs,q ∈ qs'
 keep:∀ j,inZ S.s j = true -> j ≠ o -> inZ S'.s j = true
theorem zb4.one {n:Nat} {firm:Nat -> List UInt8} {S S':TS} {o:Int} {qs qs':List Int} (h:zb4 n firm S S' [o] qs qs'):Chg n firm S S' o qs qs' :=
 ⟨h.ok,h.nodup,h.used,h.new,fun j hj hne=>h.page j hj (by simpa using hne),fun j hj=>(h.only j hj).imp (fun h=>⟨h.1,by simpa using h.2⟩) id,h.sub,fun j hj hne=>h.keep j hj (by simpa using hne)⟩
theorem YW {n:Nat} {S:TS} {firm:Nat -> List UInt8} (h:OkT n S firm) {hh mn:Nat} {lo hi:Int} {x:Nd} {ps:List Pr} {qs:List Int} (hn:Nv (Dm S) hh lo hi x ps qs) (hu:∀ q ∈ qs,usd S q) (hnd:qs.Nodup) (h8:x.keys.length <= 8)
  (hm:mn <= x.keys.length /\ mn <= 3) (hk0:0 < x.keys.length) (hlo:0 <= lo) (hhi:hi <= 4294967296) {o:Int} (ho:usd S o) (hoq:o ∉ qs) :
  (∃ S',yt n S x [o] = (.error 6,S') /\ vC n S 2) \/
  ∃ bk ks S' qs',yt n S x [o] = (.ok (bk,ks),S') /\ Fo (Tr (Dm S') hh mn) lo hi bk ks ps qs' /\ bk.length <= 1 /\ (x.keys.length <= 7 -> bk = []) /\ Chg n firm S S' o qs qs':=by
 rcases vY h hn hu hnd (by omega) hm hk0 hlo hhi (os:=[o]) (by simpa using ho) (by simp) (by simpa using hoq) with h1 | ⟨bk,ks,S',qs',h1,h2,h3,h4,_,h5⟩
 ·exact .inl h1
 ·exact .inr ⟨bk,ks,S',qs',h1,h2,h3,h4,h5.one⟩
end
section
theorem vB {S:TS} {i:Int} {x:Nd} (h:Dm S i = some x):inZ S.s i = true /\ zM x = true:=by
 unfold Dm at h;split at h
 ·rename_i h1; exact ⟨h1,jz h⟩
 ·cases h
theorem wK {S:TS} {i level:Int} {x:Nd} (h:Dm S i = some x) (hl:level <= 12):yp S i level = .ok x:=by
 have h1:=(vB h).1;unfold Dm at h;rw [if_pos h1] at h;unfold yp;rw [if_neg (by omega),if_pos h1,h]
theorem Zd {x:Nd} (hr:zM x = true) (key:Int):(∀ z ∈ x.keys.take (yF x key),z <= key) /\ (∀ z ∈ x.keys.drop (yF x key),key < z) /\ yF x key <= x.keys.length:=by
 have hs:=(wU.1 (zm hr).1).2;have hle:=ZB x.keys key;have hat:∀ i (hi:i < x.keys.length),x.keys[i] < key ↔ i < less x.keys key:=fun i hi=>YA hs key hi
 have hpw:=zgr.1 hs;unfold yF yA;rw [if_pos hr];simp only;by_cases hf:x.keys[less x.keys key]? = some key
 ·obtain ⟨hal,hae⟩:=List.getElem?_eq_some_iff.1 hf;rw [decide_eq_true hf,if_pos rfl];refine ⟨fun z hz=>?_,fun z hz=>?_,hal⟩
  ·obtain ⟨i,hi,rfl⟩:=zgD.1 hz;rw [List.getElem_take];rw [zfZ] at hi;rcases Nat.lt_or_ge i (less x.keys key) with h | h
   ·exact Int.le_of_lt ((hat i (by omega)).2 h)
   ·have:i = less x.keys key:=by omega
    subst this;exact Int.le_of_eq hae
  ·obtain ⟨i,hi,rfl⟩:=zgD.1 hz;rw [zgH];rw [zf8] at hi;have:=hpw (less x.keys key) (less x.keys key + 1 + i) hal (by omega) (by omega);omega
 ·rw [decide_eq_false hf,if_neg (by decide)];refine ⟨fun z hz=>?_,fun z hz=>?_,hle⟩
  ·obtain ⟨i,hi,rfl⟩:=zgD.1 hz;rw [List.getElem_take];rw [zfZ] at hi;exact Int.le_of_lt ((hat i (by omega)).2 (by omega))
  ·obtain ⟨i,hi,rfl⟩:=zgD.1 hz;rw [zgH];rw [zf8] at hi;have h0:¬ x.keys[less x.keys key + i]'(by omega) < key:=fun h=>by have:=(hat _ (by omega)).1 h; omega
   have h1:x.keys[less x.keys key + i]'(by omega) ≠ key:=fun e=>by
    rcases zgQ i with rfl | h2
    ·exact hf (by rw [zfM (by omega)]; exact congrArg some e)
    ·have:=hpw (less x.keys key) (less x.keys key + i) (by omega) (by omega) (by omega);have:=(hat (less x.keys key) (by omega)).1 (by omega);omega
   omega
structure zfq (n:Nat) (firm:Nat -> List UInt8) (S S':TS) (hh mn:Nat) (lo hi i:Int) (x:Nd) (ps:List Pr) (qs qs':List Int):Prop where
 ok:OkT n S' firm
 nv:Nv (Dm S') hh lo hi x ps qs'
 few:x.keys.length <= 8
 least:mn <= x.keys.length
 nodup:qs'.Nodup
 used:∀ q ∈ qs',usd S' q
 at_:usd S' i /\ i ∉ qs'
 new:∀ q ∈ qs',q ∈ qs \/ inZ S.s q = false
 page:∀ j,usd S j -> j ∉ qs.tail -> usd S' j /\ Dm S' j = Dm S j
 only:∀ j,usd S' j -> (usd S j /\ j ∉ qs.tail) \/ j ∈ qs'
 keep:∀ j,inZ S.s j = true -> j ∉ qs.tail -> inZ S'.s j = true
theorem vC.stay {n:Nat} {firm:Nat -> List UInt8} {S S':TS} {m m':Nat} (h:vC n S' m') (hs:ww n firm S S' m):vC n S (m + m'):=by
 obtain ⟨E,e1,e2⟩:=hs.inz;obtain ⟨F,f1,f2⟩:=h;refine ⟨E ++ F,by rw [zf0]; omega,fun k h1 h2=>?_⟩;rcases f2 k h1 h2 with h | h
 ·rcases e2 _ h with h | h
  ·exact .inl h
  ·exact .inr (zfF _ h)
 ·exact .inr (zgA _ h)
theorem vC.more {n:Nat} {S:TS} {m m':Nat} (h:vC n S m) (hm:m <= m'):vC n S m':=by
 obtain ⟨F,f1,f2⟩:=h;exact ⟨F,by omega,f2⟩
theorem zfc {n:Nat} {firm:Nat -> List UInt8} {key:Int} {val:ByteArray} (hv:val.size = 12) (hh:Nat):∀ {S:TS} {mn f:Nat} {lo hi i:Int} {ps:List Pr} {qs:List Int},OkT n S firm -> Tr (Dm S) hh mn lo hi i ps qs -> (∀ q ∈ qs,usd S q) -> qs.Nodup ->
  lo <= key -> key < hi -> 0 <= lo -> hi <= 4294967296 -> hh + 1 <= f -> f <= 12 ->
  (∃ S',jg n f S i key val = (.error 6,S') /\ vC n S (2 * f)) \/ ∃ x S' qs',jg n f S i key val = (.ok x,S') /\ zfq n firm S S' hh mn lo hi i x (xH ps key val) qs qs':=by
 induction hh with
 | zero =>
  intro S mn f lo hi i ps qs h ht hu hnd hk1 hk2 hlo hhi hf hf2;obtain ⟨f,rfl⟩:∃ g,f = g + 1:=⟨f - 1,by omega⟩
  obtain ⟨keys,vals,h1,h2,h3,h4,h5,rfl,rfl⟩:=ht;have hr:=(vB h1).2;have hld:=wK h1 (level:=12 - (f:Int)) (by omega);have h12:∀ v ∈ vals,v.size = 12:=fun v hv2=>by
   rcases (zm hr).2.2 with ⟨_,h6,_⟩ | ⟨h6,_⟩
   ·exact of_decide_eq_true (List.all_eq_true.1 h6 v hv2)
   ·exact absurd rfl h6
  have hn:Nv (Dm S) 0 lo hi ⟨keys,vals,[]⟩ (keys.zip vals) []:=⟨rfl,h2,h4,h5,h12,rfl,rfl⟩
  obtain ⟨w1,w2,w3⟩:=hn.with_ hr ⟨hk1,hk2⟩ hv;refine .inr ⟨_,S,[],?_,h,w1,?_,Nat.le_trans h3 w2,by simp,(fun _ h=>by cases h),⟨hu i (by simp),by simp⟩,(fun _ h=>by cases h),fun j hj _=>⟨hj,rfl⟩,fun j hj=>.inl ⟨hj,by simp⟩,fun j hj _=>hj⟩
  ·unfold jg;rw [hld];rfl
  ·have:=(zm hr).2.1;simp only at this w3;omega
 | succ hh ih =>
  intro S mn f lo hi i ps qs h ht hu hnd hk1 hk2 hlo hhi hf hf2;obtain ⟨f,rfl⟩:∃ g,f = g + 1:=⟨f - 1,by omega⟩
  obtain ⟨keys,kids,qt,h1,h2,h3,rfl⟩:=ht;have hr:=(vB h1).2;have hld:=wK h1 (level:=12 - (f:Int)) (by omega);obtain ⟨s1,s2,s3⟩:=Zd hr key;obtain ⟨k,hk⟩:∃ k,k = yF ⟨keys,[],kids⟩ key:=⟨_,rfl⟩
  rw [<- hk] at s1 s2 s3;simp only at s1 s2 s3;have hl:=h3.len;have hkl:k < kids.length:=by omega
  obtain ⟨kid,hkid⟩:∃ kid,kid = kids[k]'hkl:=⟨_,rfl⟩
  have ek:kids = kids.take k ++ kid :: kids.drop (k + 1):=by rw [hkid]; simp
  have ekk:keys = keys.take k ++ keys.drop k:=(zgG k keys).symm;have h3':Fo (Tr (Dm S) hh 3) lo hi (keys.take k ++ keys.drop k) (kids.take k ++ kid :: kids.drop (k + 1)) ps qt:=by rw [<- ek,<- ekk]; exact h3
  obtain ⟨lo',hi',p0,p1,p2,q0,q1,q2,rfl,rfl,t1,e4,e5,e6,e7,e8⟩:=Fo.split (by rw [zfZ,zfZ]; omega) h3';obtain ⟨k1,k2,k3,k4,k5⟩:=h3.kids;have hlo':lo' = lo \/ lo' ∈ keys.take k:=by
   have:=List.getLast_mem (l:=lo :: keys.take k) (by simp);rw [<- e4] at this;exact zgz.1 this
  have hhi':hi' ∈ keys.drop k \/ hi' = hi:=by
   have:=List.head_mem (l:=keys.drop k ++ [hi]) (by simp);rw [<- e5] at this;rcases zgf.1 this with h | h
   ·exact .inl h
   ·exact .inr (zga.1 h)
  have c1:lo' <= key:=by
   rcases hlo' with rfl | h
   ·exact hk1
   ·exact s1 _ h
  have c2:key < hi':=by
   rcases hhi' with h | rfl
   ·exact s2 _ h
   ·exact hk2
  have c3:0 <= lo':=by
   rcases hlo' with rfl | h
   ·exact hlo
   ·have:=(k4 _ (zgu h)).1; omega
  have c4:hi' <= 4294967296:=by
   rcases hhi' with h | rfl
   ·have:=(k4 _ (zgv h)).2; omega
   ·exact hhi
  have hi0:=zgF.1 hnd;obtain ⟨n1,n2,n3⟩:=zgE.1 hi0.2;obtain ⟨n4,n5,n6⟩:=zgE.1 n1;have uu:∀ q ∈ q0 ++ q1 ++ q2,usd S q:=fun q hq=>hu q (zgB _ hq)
  have u1:∀ q ∈ q1,usd S q:=fun q hq=>uu q (zfF _ (zgA _ hq))
  have hput:jg n (f + 1) S i key val = (match jg n f S kid key val with
    | (.error c,S1)=>(.error c,S1)
    | (.ok y,S1)=>zS n S1 ⟨keys,[],kids⟩ k 1 y):=by
   show (match yp S i (12 - (f:Int)) with | .error c=>(Except.error c,S) | .ok x=>_) = _;rw [hld];simp only;rw [if_neg (by omega),<- hk,show kids.getD k 0 = kid by rw [hkid,zfL,zfM hkl]; rfl];cases jg n f S kid key val with
   | mk o S1=>cases o <;> rfl
  have hst:=jW f h kid key val;rcases ih (f:=f) h t1 u1 n5 c1 c2 c3 c4 (by omega) (by omega) with ⟨S1,hp,hnr⟩ | ⟨y,S1,qy,hp,hy⟩
  ·exact .inl ⟨S1,by rw [hput,hp],hnr.more (by omega)⟩
  ·rw [hp] at hst;obtain ⟨x1,qt1,hx1,rfl⟩:=t1.head;have hold:((⟨keys,[],kids⟩:Nd).kids.drop k).take 1 = [kid]:=by
    show (kids.drop k).take 1 = [kid]
    rw [zgS hkl,hkid]; rfl
   rcases YW hy.ok hy.nv hy.used hy.nodup hy.few (mn:=3) ⟨hy.least,by decide⟩ (Nat.lt_of_lt_of_le (by decide) hy.least) c3 c4 hy.at_.1 hy.at_.2 with ⟨S2,hc,hnr⟩ | ⟨bk,ks,S2,qn,hc,hfo,hb1,_,hch⟩
   ·refine .inl ⟨S2,?_,(hnr.stay hst).more (by omega)⟩;rw [hput,hp];simp only [zS,hold,hc]
   ·have f0:∀ q,q ∈ q0 \/ q ∈ q2 -> usd S2 q /\ Dm S2 q = Dm S q /\ q ≠ kid /\ usd S q /\ usd S1 q:=fun q hq=>by
     have hqs:usd S q:=uu q (by rcases hq with h | h; exact zfF _ (zfF _ h); exact zgA _ h);have hq1:q ∉ kid :: qt1:=fun hm=>by
      rcases hq with h | h
      ·exact n6 q h q hm rfl
      ·exact n3 q (zgA _ hm) q h rfl
     have hqk:q ≠ kid:=fun e=>hq1 (by rw [e]; simp)
     obtain ⟨a1,a2⟩:=hy.page q hqs (fun hm=>hq1 (zgB _ hm));obtain ⟨b1,b2⟩:=hch.page q a1 hqk;exact ⟨b1,b2.trans a2,hqk,hqs,a1⟩
    have fresh:∀ q ∈ qn,(q ∈ kid :: qt1 \/ inZ S.s q = false) \/ inZ S1.s q = false:=fun q hq=>by
     rcases hch.new q hq with h | h
     ·exact .inl (hy.new q h)
     ·exact .inr h
    have hqn0:∀ q ∈ qn,∀ r,(r ∈ q0 \/ r ∈ q2) -> q ≠ r:=fun q hq r hr2 e=>by
     subst e;obtain ⟨_,_,g3,g4,g5⟩:=f0 q hr2;rcases fresh q hq with (h9 | h9) | h9
     ·rcases hr2 with h | h
      ·exact n6 q h q h9 rfl
      ·exact n3 q (zgA _ h9) q h rfl
     ·have:=vt h g4; rw [h9] at this; cases this
     ·have:=vt hy.ok g5; rw [h9] at this; cases this
    have hi1:∀ q,q ∈ q0 ++ (kid :: qt1) ++ q2 -> q ≠ i:=fun q hq e=>hi0.1 (by rw [<- e]; exact hq)
    have hki:kid ≠ i:=hi1 kid (by simp);have hit:i ∉ (kid :: qt1).tail:=fun hm=>hi1 i (zfF _ (zgA _ (zgB _ hm))) rfl
    have hui:usd S i:=hu i (by simp);obtain ⟨ui1,_⟩:=hy.page i hui hit;obtain ⟨ui2,_⟩:=hch.page i ui1 (Ne.symm hki);have hkS1:usd S1 kid:=hy.at_.1;refine .inr ⟨⟨keys.take k ++ bk ++ keys.drop (k + 1 - 1),[],kids.take k ++ ks ++ kids.drop (k + 1)⟩,S2,q0 ++ qn ++ q2,?_,hch.ok,⟨rfl,?_⟩,?_,?_,?_,fun q hq=>?_,⟨ui2,fun hm=>?_⟩,fun q hq=>?_,fun j hj hjt=>?_,fun j hj=>?_,fun j hj hjt=>?_⟩
    ·rw [hput,hp];simp only [zS,hold,hc]
    ·show Fo (Tr (Dm S2) hh 3) lo hi (keys.take k ++ bk ++ keys.drop (k + 1 - 1)) (kids.take k ++ ks ++ kids.drop (k + 1)) _ _;rw [Nat.add_sub_cancel,Wx]
     ·exact e8 _ _ _ _ _ (fun _ _ _ _ _ h8 h9=>h8.imp fun q hq=>(f0 q (h9 q hq)).2.1) hfo
     ·intro p hp2;obtain ⟨_,_,_,_,_,g1,g2,g3⟩:=e6 p hp2;have:=(g1.bounds (.inl (by decide))).2 p g2;have:=s1 _ g3;omega
     ·intro p hp2;obtain ⟨_,_,_,_,_,g1,g2,g3⟩:=e7 p hp2;have:=(g1.bounds (.inl (by decide))).2 p g2;have:=s2 _ g3;omega
    ·show (keys.take k ++ bk ++ keys.drop (k + 1 - 1)).length <= 8;have:=(zm hr).2.1;simp only at this;rw [Nat.add_sub_cancel,zf0,zf0,zfZ,zf8];omega
    ·show mn <= (keys.take k ++ bk ++ keys.drop (k + 1 - 1)).length;have:=h2.2;rw [Nat.add_sub_cancel,zf0,zf0,zfZ,zf8];omega
    ·refine zgE.2 ⟨zgE.2 ⟨n4,hch.nodup,fun a ha b hb e=>hqn0 b hb a (.inl ha) e.symm⟩,n2,fun a ha b hb e=>?_⟩;rcases zgf.1 ha with ha | ha
     ·exact n3 a (zfF _ ha) b hb e
     ·exact hqn0 a ha b (.inr hb) e
    ·rcases zgf.1 hq with hq | hq
     ·rcases zgf.1 hq with hq | hq
      ·exact (f0 q (.inl hq)).1
      ·exact hch.used q hq
     ·exact (f0 q (.inr hq)).1
    ·rcases zgf.1 hm with hm | hm
     ·rcases zgf.1 hm with hm | hm
      ·exact hi1 i (zfF _ (zfF _ hm)) rfl
      ·rcases fresh i hm with (h9 | h9) | h9
       ·exact hi1 i (zfF _ (zgA _ h9)) rfl
       ·have:=vt h hui; rw [h9] at this; cases this
       ·have:=vt hy.ok ui1; rw [h9] at this; cases this
     ·exact hi1 i (zgA _ hm) rfl
    ·rcases zgf.1 hq with hq | hq
     ·rcases zgf.1 hq with hq | hq
      ·exact .inl (zgB _ (zfF _ (zfF _ hq)))
      ·rcases fresh q hq with (h9 | h9) | h9
       ·exact .inl (zgB _ (zfF _ (zgA _ h9)))
       ·exact .inr h9
       ·by_cases h10:q ∈ kid :: qt1
        ·exact .inl (zgB _ (zfF _ (zgA _ h10)))
        ·cases h11:inZ S.s q with
         | false=>exact .inr rfl
         | true =>
          have:=hy.keep q h11 (fun hm=>h10 (zgB _ hm));rw [h9] at this; cases this
     ·exact .inl (zgB _ (zgA _ hq))
    ·have hj1:j ∉ kid :: qt1:=fun hm=>hjt (zfF _ (zgA _ hm))
     obtain ⟨a1,a2⟩:=hy.page j hj (fun hm=>hj1 (zgB _ hm));obtain ⟨b1,b2⟩:=hch.page j a1 (fun e=>hj1 (by rw [e]; simp));exact ⟨b1,b2.trans a2⟩
    ·rcases hch.only j hj with ⟨g1,g2⟩ | g1
     ·rcases hy.only j g1 with ⟨g3,g4⟩ | g3
      ·by_cases g5:j ∈ q0 \/ j ∈ q2
       ·refine .inr ?_;rcases g5 with g5 | g5
        ·exact zfF _ (zfF _ g5)
        ·exact zgA _ g5
       ·refine .inl ⟨g3,fun hm=>?_⟩;rcases zgf.1 hm with hm | hm
        ·rcases zgf.1 hm with hm | hm
         ·exact g5 (.inl hm)
         ·rcases zgz.1 hm with hm | hm
          ·exact g2 hm
          ·exact g4 hm
        ·exact g5 (.inr hm)
      ·exact .inr (zfF _ (zgA _ (hch.sub j g3)))
     ·exact .inr (zfF _ (zgA _ g1))
    ·have hj1:j ∉ kid :: qt1:=fun hm=>hjt (zfF _ (zgA _ hm))
     exact hch.keep j (hy.keep j hj fun hm=>hj1 (zgB _ hm)) (fun e=>hj1 (by rw [e]; simp))
end
section
theorem ze5 {D:Int -> Option Nd} {hh:Nat} {lo hi key:Int} {keys kids:List Int} {ps:List Pr} {qs:List Int} {k:Nat} (h3:Fo (Tr D hh 3) lo hi keys kids ps qs) (s1:∀ z ∈ keys.take k,z <= key) (s2:∀ z ∈ keys.drop k,key < z) (hk:k <= keys.length) :
  ∃ lo' hi' p0 p1 p2 q1,Tr D hh 3 lo' hi' (kids.getD k 0) p1 q1 /\ ps = p0 ++ p1 ++ p2 /\ (∀ p ∈ p0,p.1 < key) /\ ∀ p ∈ p2,key < p.1:=by
 have hl:=h3.len;have hkl:k < kids.length:=by omega
 obtain ⟨kid,hkid⟩:∃ kid,kid = kids[k]'hkl:=⟨_,rfl⟩
 have ek:kids = kids.take k ++ kid :: kids.drop (k + 1):=by rw [hkid]; simp
 have ekk:keys = keys.take k ++ keys.drop k:=(zgG k keys).symm;have h3':Fo (Tr D hh 3) lo hi (keys.take k ++ keys.drop k) (kids.take k ++ kid :: kids.drop (k + 1)) ps qs:=by rw [<- ek,<- ekk]; exact h3
 obtain ⟨lo',hi',p0,p1,p2,q0,q1,q2,e1,e2,t1,_,_,e6,e7,_⟩:=Fo.split (by rw [zfZ,zfZ]; omega) h3';refine ⟨lo',hi',p0,p1,p2,q1,by rw [zfL,zfM hkl]; rw [<- hkid]; exact t1,e1,fun p hp2=>?_,fun p hp2=>?_⟩
 ·obtain ⟨_,_,_,_,_,g1,g2,g3⟩:=e6 p hp2;have:=(g1.bounds (.inl (by decide))).2 p g2;have:=s1 _ g3;omega
 ·obtain ⟨_,_,_,_,_,g1,g2,g3⟩:=e7 p hp2;have:=(g1.bounds (.inl (by decide))).2 p g2;have:=s2 _ g3;omega
theorem Qo {key:Int} {v:ByteArray} (hh:Nat):∀ {S:TS} {mn f:Nat} {lo hi i:Int} {ps:List Pr} {qs:List Int},Tr (Dm S) hh mn lo hi i ps qs -> (key,v) ∈ ps -> hh + 1 <= f -> f <= 12 -> ql f S i key = .ok v:=by
 induction hh with
 | zero =>
  intro S mn f lo hi i ps qs ht hm hf hf2;obtain ⟨f,rfl⟩:∃ g,f = g + 1:=⟨f - 1,by omega⟩
  obtain ⟨keys,vals,h1,h2,h3,h4,h5,rfl,rfl⟩:=ht;have hr:=(vB h1).2;have hld:=wK h1 (level:=12 - (f:Int)) (by omega);obtain ⟨j,hj,he⟩:=zgD.1 hm;simp only [zgN] at hj;rw [List.getElem_zip] at he;simp only [Prod.mk.injEq] at he;have hl:less keys key = j:=Km h4 key (by omega) (fun a ha=>by rw [<- he.1]; exact zgr.1 h4 a j (by omega) (by omega) ha) (fun ha=>by rw [he.1]; omega);have hs:yA ⟨keys,vals,[]⟩ key = (j,true):=by
   unfold yA;rw [if_pos hr];simp only [hl];rw [zfM (by omega),he.1];simp
  unfold ql;rw [hld];simp only [hs,zf2,if_true];rw [zfL,zfM (by omega)];exact congrArg Except.ok he.2
 | succ hh ih =>
  intro S mn f lo hi i ps qs ht hm hf hf2;obtain ⟨f,rfl⟩:∃ g,f = g + 1:=⟨f - 1,by omega⟩
  obtain ⟨keys,kids,qt,h1,h2,h3,rfl⟩:=ht;have hr:=(vB h1).2;have hld:=wK h1 (level:=12 - (f:Int)) (by omega);obtain ⟨s1,s2,s3⟩:=Zd hr key;obtain ⟨lo',hi',p0,p1,p2,q1,t1,rfl,hp0,hp2⟩:=ze5 h3 s1 s2 s3;have hl:=h3.len;have hm1:(key,v) ∈ p1:=by
   rcases zgf.1 hm with h | h
   ·rcases zgf.1 h with h | h
    ·have:=hp0 _ h; simp only at this; omega
    ·exact h
   ·have:=hp2 _ h; simp only at this; omega
  unfold ql;rw [hld];simp only;rw [if_neg (by omega)];exact ih t1 hm1 (by omega) (by omega)
def Rt (D:Int -> Option Nd) (root:Int) (ps:List Pr) (qs:List Int):Prop:=(root = 0 /\ ps = [] /\ qs = []) \/ ∃ h,Tr D h 1 0 4294967296 root ps qs
theorem zcS (ps:List Pr) (key:Int) (val:ByteArray):(key,val) ∈ xH ps key val:=by unfold xH; simp
structure Wb (n:Nat) (firm:Nat -> List UInt8) (S S':TS) (r:Int) (ps:List Pr) (qs qs':List Int):Prop where
 ok:OkT n S' firm
 rt:Rt (Dm S') r ps qs'
 nodup:qs'.Nodup
 used:∀ q ∈ qs',usd S' q
 new:∀ q ∈ qs',q ∈ qs \/ inZ S.s q = false
 page:∀ j,usd S j -> j ∉ qs -> usd S' j /\ Dm S' j = Dm S j
 only:∀ j,usd S' j -> (usd S j /\ j ∉ qs) \/ j ∈ qs'
theorem Zb {h m:Nat} (h1:2 ^ (h + 1) <= m) (h2:m <= 500):h <= 8:=by
 rcases Nat.lt_or_ge 8 h with h3 | h3
 ·have:2 ^ 10 <= 2 ^ (h + 1):=Nat.pow_le_pow_right (by decide) (by omega);have h4:(2:Nat) ^ 10 = 1024:=by decide
  omega
 ·exact h3
theorem Tr.less {D:Int -> Option Nd} {h mn mn':Nat} {lo hi k:Int} {ps:List Pr} {qs:List Int} (ht:Tr D h mn lo hi k ps qs) (hm:mn' <= mn):Tr D h mn' lo hi k ps qs:=by
 cases h with
 | zero =>
  obtain ⟨keys,vals,h1,h2,h3,h4⟩:=ht;exact ⟨keys,vals,h1,h2,Nat.le_trans hm h3,h4⟩
 | succ h =>
  obtain ⟨keys,kids,qs',h1,h2,h3⟩:=ht;exact ⟨keys,kids,qs',h1,⟨h2.1,Nat.le_trans hm h2.2⟩,h3⟩
theorem VG {n:Nat} {S:TS} {firm:Nat -> List UInt8} (h:OkT n S firm) {root key:Int} {val:ByteArray} (hv:val.size = 12) (hk:0 <= key /\ key <= 4294967295) {ps:List Pr} {qs:List Int} (ht:Rt (Dm S) root ps qs) (hu:∀ q ∈ qs,usd S q) (hnd:qs.Nodup) (hps:ps.length <= 500) :
  (∃ S',xf n S root key val = (.error 6,S') /\ vC n S 27) \/ ∃ r S' qs',xf n S root key val = (.ok r,S') /\ Wb n firm S S' r (xH ps key val) qs qs':=by
 have hc1:¬ (key < 0 \/ 4294967295 < key \/ val.size ≠ 12):=by omega
 rcases ht with ⟨rfl,rfl,rfl⟩ | ⟨hh,ht⟩
 ·have hn:Nv (Dm S) 0 0 4294967296 ⟨[key],[val],[]⟩ (xH [] key val) []:=⟨rfl,rfl,by simp,fun z hz=>by obtain rfl:=zga.1 hz; omega,fun v hv2=>by rw [zga.1 hv2]; exact hv,by simp [xH],rfl⟩
  have hpt:xf n S 0 key val = xK n S ⟨[key],[val],[]⟩:=by unfold xf; rw [if_neg hc1,if_pos rfl]
  rcases Wj h hn (by simp) (by simp) (by simp) (zgC _) (zgC _) with ⟨ha,hf⟩ | ⟨k,S1,ha,hok,hst,hus,hd⟩
  ·exact .inl ⟨S,by rw [hpt,ha],[],by simp,fun m h1 h2=>.inl (hf m h1 h2)⟩
  ·refine .inr ⟨k,S1,[k],by rw [hpt,ha],hok,.inr ⟨0,hn.laid hd (fun _ h=>by cases h) (zfI _) (by simp)⟩,by simp,fun q hq=>by rw [zga.1 hq]; exact hus,fun q hq=>.inr (hst.fresh q hq),fun j hj _=>hst.page j hj (by simp),fun j hj=>?_⟩;rcases hst.used j hj with ⟨h1,_⟩ | h1
   ·exact .inl ⟨h1,by simp⟩
   ·exact .inr h1
 ·obtain ⟨x0,qt,hx0,hqs⟩:=ht.head;have hr2:=(ky h hx0).1;have hh8:hh <= 8:=by
   rcases zgQ hh with h0 | h0
   ·omega
   ·exact Zb (ht.high (.inr h0)) hps
  have hui:usd S root:=hu root (by rw [hqs]; simp);have hst:=jW 12 h root key val;have hr0:¬ root = 0:=by omega
  rcases zfc hv hh (f:=12) h ht hu hnd hk.1 (by omega) (zgC _) (zgC _) (by omega) (zfI _) with ⟨S1,hp,hnr⟩ | ⟨x,S1,qy,hp,hy⟩
  ·exact .inl ⟨S1,by unfold xf; rw [if_neg hc1,if_neg hr0,hp],hnr.more (by decide)⟩
  rw [hp] at hst;have hle:=jt (ps:=ps) (key:=key) (val:=val);have fin:∀ {S2:TS} {qn:List Int},Chg n firm S1 S2 root qy qn -> (∀ j,usd S j -> j ∉ qs -> usd S2 j /\ Dm S2 j = Dm S j) /\ (∀ j,usd S2 j -> (usd S j /\ j ∉ qs) \/ j ∈ qn) /\ (∀ q ∈ qn,q ∈ qs \/ inZ S.s q = false):=fun {S2 qn} hch=>by
   refine ⟨fun j hj hjt=>?_,fun j hj=>?_,fun q hq=>?_⟩
   ·have hjr:j ≠ root:=fun e=>hjt (by rw [hqs,e]; simp)
    obtain ⟨a1,a2⟩:=hy.page j hj (fun hm=>hjt (zgT hm));obtain ⟨b1,b2⟩:=hch.page j a1 hjr;exact ⟨b1,b2.trans a2⟩
   ·rcases hch.only j hj with ⟨g1,g2⟩ | g1
    ·rcases hy.only j g1 with ⟨g3,g4⟩ | g3
     ·refine .inl ⟨g3,fun hm=>?_⟩;rw [hqs] at hm g4;rcases zgz.1 hm with hm | hm
      ·exact g2 hm
      ·exact g4 hm
     ·exact .inr (hch.sub j g3)
    ·exact .inr g1
   ·by_cases h10:q ∈ qs
    ·exact .inl h10
    ·rcases hch.new q hq with h9 | h9
     ·exact hy.new q h9
     ·cases h11:inZ S.s q with
      | false=>exact .inr rfl
      | true =>
       have:=hy.keep q h11 (fun hm=>h10 (zgT hm));rw [h9] at this; cases this
  by_cases h7:x.keys.length <= 7
  ·rcases YW hy.ok hy.nv hy.used hy.nodup hy.few (mn:=1) ⟨hy.least,by decide⟩ hy.least (zgC _) (zgC _) hy.at_.1 hy.at_.2 with ⟨S2,hc,hnr⟩ | ⟨bk,ks,S2,qn,hc,hfo,_,hb7,hch⟩
   ·refine .inl ⟨S2,?_,(hnr.stay hst).more (by decide)⟩
    (unfold xf; rw [if_neg hc1,if_neg hr0,hp])
    simp only [hc]
   ·obtain rfl:=hb7 h7;obtain ⟨k,rfl,htk⟩:=hfo;obtain ⟨f1,f2,f3⟩:=fin hch;refine .inr ⟨k,S2,qn,?_,hch.ok,.inr ⟨hh,htk⟩,hch.nodup,hch.used,f3,f1,f2⟩
    (unfold xf; rw [if_neg hc1,if_neg hr0,hp])
    simp only [hc,zf2,if_true];rfl
  ·rcases YW hy.ok hy.nv hy.used hy.nodup hy.few (mn:=3) ⟨by omega,by decide⟩ (by omega) (zgC _) (zgC _) hy.at_.1 hy.at_.2 with ⟨S2,hc,hnr⟩ | ⟨bk,ks,S2,qn,hc,hfo,hb1,_,hch⟩
   ·refine .inl ⟨S2,?_,(hnr.stay hst).more (by decide)⟩
    (unfold xf; rw [if_neg hc1,if_neg hr0,hp])
    simp only [hc]
   ·obtain ⟨f1,f2,f3⟩:=fin hch;have hst2:=hst.trans (by have:=vF hst.ok x [root]; rw [hc] at this; exact this);by_cases hb0:bk.length = 0
    ·obtain rfl:=zgl.1 hb0;obtain ⟨k,rfl,htk⟩:=hfo;refine .inr ⟨k,S2,qn,?_,hch.ok,.inr ⟨hh,?_⟩,hch.nodup,hch.used,f3,f1,f2⟩
     ·(unfold xf; rw [if_neg hc1,if_neg hr0,hp])
      simp only [hc,zf2,if_true];rfl
     ·exact htk.less (by decide)
    ·have hbk:bk ≠ []:=fun e=>hb0 (by rw [e]; rfl)
     have hn:Nv (Dm S2) (hh + 1) 0 4294967296 ⟨bk,[],ks⟩ (xH ps key val) qn:=⟨rfl,hfo⟩
     rcases Wj hch.ok hn hch.nodup (by show bk.length <= 7; omega) (by show 0 < bk.length; omega) (zgC _) (zgC _) with ⟨ha,hf⟩ | ⟨k,S3,ha,hok3,hst3,hus3,hd3⟩
     ·refine .inl ⟨S2,?_,((show vC n S2 0 from ⟨[],zfI _,fun m h1 h2=>.inl (hf m h1 h2)⟩).stay hst2).more (by decide)⟩
      (unfold xf; rw [if_neg hc1,if_neg hr0,hp])
      simp only [hc,if_neg hb0,ha]
     ·have hkf:inZ S2.s k = false:=hst3.fresh k (by simp);have hkn:k ∉ qn:=fun hm=>by have:=vt hch.ok (hch.used k hm); rw [hkf] at this; cases this
      have htr:Tr (Dm S3) (hh + 1) 1 0 4294967296 k (xH ps key val) (k :: qn):=hn.laid hd3 (fun q hq=>(hst3.page q (hch.used q hq) (by simp)).2) (by show 1 <= bk.length; omega) hbk;have hk2:=(ky hok3 hd3).1;have hget:xR S3 k key = .ok val:=by
       unfold xR;rw [if_neg (by omega)];exact Qo (hh + 1) htr (zcS ps key val) (by omega) (zfI _)
      refine .inr ⟨k,S3,k :: qn,?_,hok3,.inr ⟨hh + 1,htr⟩,zgF.2 ⟨hkn,hch.nodup⟩,fun q hq=>?_,fun q hq=>?_,fun j hj hjt=>?_,fun j hj=>?_⟩
      ·(unfold xf; rw [if_neg hc1,if_neg hr0,hp])
       simp only [hc,if_neg hb0,ha,hget]
      ·rcases zgz.1 hq with rfl | hq
       ·exact hus3
       ·exact (hst3.page q (hch.used q hq) (by simp)).1
      ·rcases zgz.1 hq with rfl | hq
       ·by_cases h10:q ∈ qs
        ·exact .inl h10
        ·cases h11:inZ S.s q with
         | false=>exact .inr rfl
         | true =>
          have a1:=hy.keep q h11 (fun hm=>h10 (zgT hm));have a2:=hch.keep q a1 (fun e=>h10 (by rw [hqs,e]; simp));rw [hkf] at a2; cases a2
       ·exact f3 q hq
      ·obtain ⟨a1,a2⟩:=f1 j hj hjt;obtain ⟨b1,b2⟩:=hst3.page j a1 (by simp);exact ⟨b1,b2.trans a2⟩
      ·rcases hst3.used j hj with ⟨h1,_⟩ | h1
       ·rcases f2 j h1 with h2 | h2
        ·exact .inl h2
        ·exact .inr (zgB _ h2)
       ·exact .inr (by rw [zga.1 h1]; simp)
def kO (ps:List Pr) (a b:Int):List Pr:=ps.filter fun p=>decide (a <= p.1) && decide (p.1 < b)
theorem zcC (p q:List Pr) (a b:Int):kO (p ++ q) a b = kO p a b ++ kO q a b:=by simp [kO]
theorem Wr {ps:List Pr} {a b a' b':Int} (h:∀ p ∈ ps,(a <= p.1 ↔ a' <= p.1) /\ (p.1 < b ↔ p.1 < b')):kO ps a b = kO ps a' b':=by
 unfold kO;refine List.filter_congr fun p hp=>?_
 obtain ⟨h1,h2⟩:=h p hp;simp only [h1,h2]
theorem Vz {ps:List Pr} {a b:Int} (h:b <= a):kO ps a b = []:=by
 unfold kO;refine zgJ.2 fun p _=>?_
 simp;omega
theorem K3 {ps:List Pr} {a b:Int} (h:∀ p ∈ ps,a <= p.1 /\ p.1 < b):kO ps a b = ps:=by
 unfold kO;refine zgI.2 fun p hp=>?_
 have:=h p hp;simp;omega
theorem zep {S:TS} {hh f:Nat} {x:Nd} {from_ to_ hi:Int} (hg:∀ {lo hi i:Int} {ps:List Pr} {qs:List Int},Tr (Dm S) hh 3 lo hi i ps qs -> ∀ a b:Int,xq f S i a b = .ok (kO ps a b)) (keys:List Int) :
  ∀ {a kids qs:List Int} {lo:Int} {ps:List Pr},Fo (Tr (Dm S) hh 3) lo hi keys kids ps qs -> x.keys = a ++ keys -> (∀ h:a ≠ [],lo = a.getLast h) -> xS (fun k a b=>xq f S k a b) x from_ to_ a.length kids = .ok (kO ps from_ to_):=by
 have low:∀ (a:List Int) (lo:Int) (ks:List Int),x.keys = a ++ ks -> (∀ h:a ≠ [],lo = a.getLast h) -> ∀ z:Int,lo <= z -> (jG x a.length from_ <= z ↔ from_ <= z):=fun a lo ks hx hlo z hz=>by
  unfold jG;split
  ·rename_i h0
   have hne:a ≠ []:=fun e=>by rw [e] at h0; cases h0
   have e1:x.keys.getD (a.length - 1) 0 = lo:=by
    rw [hx,hlo hne,List.getLast_eq_getElem,zfL,List.getElem?_append_left (by omega),zfM (by omega)];rfl
   rw [e1];omega
  ·exact Iff.rfl
 induction keys with
 | nil =>
  rintro a kids qs lo ps ⟨k,rfl,ht⟩ hx hlo;have hb:=(ht.bounds (.inl (by decide))).2;have eh:wI x a.length to_ = to_:=by unfold wI; rw [if_neg (by rw [hx]; simp)]
  unfold xS;rw [eh];have hc:kO ps (jG x a.length from_) to_ = kO ps from_ to_:=Wr fun p hp=>⟨low a lo [] hx hlo p.1 (hb p hp).1,Iff.rfl⟩
  by_cases hl:jG x a.length from_ < to_
  ·rw [if_pos hl,hg ht];simp only [xS,hc,zgx]
  ·rw [if_neg hl,<- hc,Vz (by omega)];rfl
 | cons m keys ih =>
  rintro a kids qs lo ps ⟨k,kids',p1,q1,p2,q2,rfl,rfl,rfl,ht,hr⟩ hx hlo;have hb:=(ht.bounds (.inl (by decide))).2;have eh:wI x a.length to_ = min to_ m:=by
   unfold wI;rw [if_pos (by rw [hx]; simp),hx,zfL,List.getElem?_append_right (zfI _)];simp
  have hc:kO p1 (jG x a.length from_) (min to_ m) = kO p1 from_ to_:=Wr fun p hp=>⟨low a lo _ hx hlo p.1 (hb p hp).1,by have:=(hb p hp).2; omega⟩
  have hi2:=ih (a:=a ++ [m]) hr (by rw [hx]; simp) (fun _=>by simp);rw [zf0,List.length_singleton] at hi2;unfold xS;rw [eh,zcC];by_cases hl:jG x a.length from_ < min to_ m
  ·rw [if_pos hl,hg ht];simp only [hi2,hc]
  ·have hz:kO p1 from_ to_ = []:=by rw [<- hc]; exact Vz (by omega)
   rw [if_neg hl,hi2,hz];rfl
theorem zdp (hh:Nat):∀ {S:TS} {mn f:Nat} {lo hi i:Int} {ps:List Pr} {qs:List Int},Tr (Dm S) hh mn lo hi i ps qs -> hh + 1 <= f -> f <= 12 -> ∀ a b:Int,xq f S i a b = .ok (kO ps a b):=by
 induction hh with
 | zero =>
  intro S mn f lo hi i ps qs ht hf hf2 a b;obtain ⟨f,rfl⟩:∃ g,f = g + 1:=⟨f - 1,by omega⟩
  obtain ⟨keys,vals,h1,h2,h3,h4,h5,rfl,rfl⟩:=ht;have hld:=wK h1 (level:=12 - (f:Int)) (by omega);unfold xq;rw [hld];simp only [xS,zgx];rfl
 | succ hh ih =>
  intro S mn f lo hi i ps qs ht hf hf2 a b;obtain ⟨f,rfl⟩:∃ g,f = g + 1:=⟨f - 1,by omega⟩
  obtain ⟨keys,kids,qt,h1,h2,h3,rfl⟩:=ht;have hld:=wK h1 (level:=12 - (f:Int)) (by omega);have hk:=zep (f:=f) (x:=⟨keys,[],kids⟩) (from_:=a) (to_:=b) (fun t a b=>ih t (by omega) (by omega) a b) keys (a:=[]) h3 rfl (fun h=>absurd rfl h);unfold xq;rw [hld];simp only;rw [show xS (fun k a b=>xq f S k a b) ⟨keys,[],kids⟩ a b 0 kids = _ from hk];simp [Jd]
theorem Zk {n:Nat} {S:TS} {firm:Nat -> List UInt8} (h:OkT n S firm) {root:Int} {ps:List Pr} {qs:List Int} (ht:Rt (Dm S) root ps qs) (hps:ps.length <= 500) (a b:Int):wy S root a b = .ok (kO ps a b):=by
 rcases ht with ⟨rfl,rfl,rfl⟩ | ⟨hh,ht⟩
 ·rfl
 ·obtain ⟨x0,qt,hx0,_⟩:=ht.head;have hr2:=(ky h hx0).1;have hh8:hh <= 8:=by
   rcases zgQ hh with h0 | h0
   ·omega
   ·exact Zb (ht.high (.inr h0)) hps
  unfold wy;rw [if_neg (by omega)];exact zdp hh ht (by omega) (zfI _) a b
theorem Rt.imp {D D':Int -> Option Nd} {root:Int} {ps:List Pr} {qs:List Int} (ht:Rt D root ps qs) (hq:∀ q ∈ qs,D' q = D q):Rt D' root ps qs:=by
 rcases ht with h | ⟨hh,h⟩
 ·exact .inl h
 ·exact .inr ⟨hh,h.imp hq⟩
theorem Rt.count {D:Int -> Option Nd} {root:Int} {ps:List Pr} {qs:List Int} (ht:Rt D root ps qs):qs.length <= ps.length:=by
 rcases ht with ⟨_,rfl,rfl⟩ | ⟨hh,h⟩
 ·exact zfI _
 ·cases hh with
  | zero =>
   obtain ⟨keys,vals,_,h2,h3,_,_,rfl,rfl⟩:=h;simp only [zfJ,zf2,zgN];omega
  | succ hh=>have:=h.count (.inr (Nat.succ_pos _)); omega
end
section
abbrev Yl (ps:List Pr):Prop:=ps.Pairwise (fun a b=>a.1 < b.1)
def yX (ps:List Pr) (key:Int):Bool:=ps.any fun p=>decide (key <= p.1)
def xI (ps:List Pr) (key:Int) (val:ByteArray):List Pr:=if yX ps key = true then xH ps key val else ps
theorem YJ (ps:List Pr) (p:Pr) (key:Int):yX (ps ++ [p]) key = (yX ps key || decide (key <= p.1)):=by simp [yX,List.any_append]
theorem WL {ps:List Pr} {key:Int} (h:yX ps key = false):∀ p ∈ ps,p.1 < key:=fun p hp=>by
 unfold yX at h;have:=List.any_eq_false.1 h p hp;simp only [decide_eq_true_eq,Int.not_le] at this;exact this
theorem VD (ps:List Pr) (p:Pr) (key:Int) (val:ByteArray) (hd:yX ps key = true \/ key <= p.1) (hs:Yl (ps ++ [p])):xH (ps ++ [p]) key val = (if yX ps key = true then xH ps key val else ps ++ [(key,val)]) ++ if p.1 = key then [] else [p]:=by
 have hlt:∀ q ∈ ps,q.1 < p.1:=fun q hq=>(zgj.1 hs).2.2 q hq p (zga.2 rfl)
 have hkp:key <= p.1:=by
  rcases hd with h | h
  ·unfold yX at h;obtain ⟨q,hq,h2⟩:=List.any_eq_true.1 h;have:=hlt q hq;have:=of_decide_eq_true h2;omega
  ·exact h
 unfold xH;simp only [List.filter_append,List.filter_cons,List.filter_nil];have h1:decide (p.1 < key) = false:=decide_eq_false (by omega);rw [h1,if_neg (by decide),zgx];by_cases h3:yX ps key = true
 ·rw [if_pos h3];by_cases h2:p.1 = key
  ·rw [if_pos h2,if_neg (by rw [decide_eq_true_eq]; omega)]; simp
  ·rw [if_neg h2,if_pos (by rw [decide_eq_true_eq]; omega)]; simp
 ·rw [if_neg h3];have hno:=WL (by simpa using h3);have e1:ps.filter (fun q=>decide (q.1 < key)) = ps:=zgI.2 fun q hq=>decide_eq_true (hno q hq)
  have e2:ps.filter (fun q=>decide (key < q.1)) = []:=zgJ.2 fun q hq=>by rw [decide_eq_true_eq]; have:=hno q hq; omega
  rw [e1,e2];by_cases h2:p.1 = key
  ·rw [if_pos h2,if_neg (by rw [decide_eq_true_eq]; omega)]; simp
  ·rw [if_neg h2,if_pos (by rw [decide_eq_true_eq]; omega)]; simp
theorem Jv {ps:List Pr} {p:Pr} {key:Int} {val:ByteArray} (hs:Yl (ps ++ [p])):xI (ps ++ [p]) key val = (xI ps key val ++ if yX ps key = false /\ key <= p.1 then [(key,val)] else []) ++ if p.1 = key then [] else [p]:=by
 unfold xI;rw [YJ];cases hd:yX ps key with
 | true =>
  rw [Bool.true_or,if_pos rfl,if_pos rfl,if_neg (by simp),zgx,VD ps p key val (.inl hd) hs,if_pos hd]
 | false =>
  rw [Bool.false_or];by_cases hk:key <= p.1
  ·rw [if_pos (decide_eq_true hk),if_neg (by decide),if_pos ⟨rfl,hk⟩,VD ps p key val (.inr hk) hs,if_neg (by rw [hd]; decide)]
  ·rw [if_neg (by rw [decide_eq_true_eq]; exact hk),if_neg (by decide),if_neg (by simp [hk]),zgx,if_neg (by omega)]
theorem QR {ps:List Pr} {key:Int} {val:ByteArray}:(xI ps key val ++ if yX ps key = false then [(key,val)] else []) = xH ps key val:=by
 unfold xI;cases hd:yX ps key with
 | true=>rw [if_pos rfl,if_neg (by decide),zgx]
 | false =>
  have hno:=WL hd;rw [if_neg (by decide),if_pos rfl];unfold xH;rw [zgI.2 fun q hq=>decide_eq_true (hno q hq),zgJ.2 fun q hq=>by rw [decide_eq_true_eq]; have:=hno q hq; omega]
theorem Kj {ps:List Pr} {key:Int} {val:ByteArray} (q:Pr):q ∈ xH ps key val ↔ q = (key,val) \/ (q ∈ ps /\ q.1 ≠ key):=by
 unfold xH;simp only [zgf,zgz,zgR,decide_eq_true_eq];constructor
 ·rintro (⟨h1,h2⟩ | h | ⟨h1,h2⟩)
  ·exact .inr ⟨h1,by omega⟩
  ·exact .inl h
  ·exact .inr ⟨h1,by omega⟩
 ·rintro (h | ⟨h1,h2⟩)
  ·exact .inr (.inl h)
  ·rcases Int.lt_or_lt_of_ne h2 with h3 | h3
   ·exact .inl ⟨h1,h3⟩
   ·exact .inr (.inr ⟨h1,h3⟩)
theorem zbg {ps:List Pr} (h:Yl ps) (key:Int) (val:ByteArray):Yl (xH ps key val):=by
 unfold xH;refine zgj.2 ⟨h.filter _,zgO.2 ⟨fun q hq=>?_,h.filter _⟩,fun a ha b hb=>?_⟩
 ·exact of_decide_eq_true (zgR.1 hq).2
 ·have h1:=of_decide_eq_true (zgR.1 ha).2;rcases zgz.1 hb with rfl | h2
  ·exact h1
  ·have:=of_decide_eq_true (zgR.1 h2).2;omega
end
