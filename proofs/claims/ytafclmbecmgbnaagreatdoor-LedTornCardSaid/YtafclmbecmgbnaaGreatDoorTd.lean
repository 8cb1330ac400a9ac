/-
  Td. Conditions: as said.
-/
import Derived.Test.YtafclmbecmgbnaaGreatDoorTm
import Derived.Test.YtafclmbecmgbnaaGreatDoorTa
namespace Go.Proofs.YtafclmbecmgbnaaGreatDoor
section
def Dc (x:Sb) (firm:Nat -> List UInt8) (k:Int):Option Nd:=if vH x.used k = true then yk (firm k.toNat) else none
theorem zfm {n:Nat} {S:TS} {firm:Nat -> List UInt8} (h:OkT n S firm) {k:Int} (hk:vH S.s.sup.used k = true):Dm S k = Dc S.s.sup firm k:=by
 obtain ⟨j,rfl,hj,hh⟩:=Yw hk;unfold Dm Dc;rw [if_pos hk,Int.toNat_natCast,wT hj,if_pos (by unfold Pst.isIn; rw [hh,Bool.true_or]),h.same j hj hh]
structure zaG (x:Sb) (firm:Nat -> List UInt8) (root:Int) (ps:List Pr) (qs:List Int):Prop where
 rt:Rt (Dc x firm) root ps qs
 nodup:qs.Nodup
 used:∀ q ∈ qs,vH x.used q = true
theorem zaG.here {n:Nat} {S:TS} {firm:Nat -> List UInt8} {root:Int} {ps:List Pr} {qs:List Int} (hc:zaG S.s.sup firm root ps qs) (h:OkT n S firm):Rt (Dm S) root ps qs :=
 hc.rt.imp fun q hq=>zfm h (hc.used q hq)
theorem zad {n:Nat} {S:TS} {firm:Nat -> List UInt8} (h:OkT n S firm) (hg:S.s.gone = vq) {k:Int} (hk:vH S.s.sup.used k = true):usd S k:=by
 obtain ⟨j,rfl,hj,hh⟩:=Yw hk;rw [kV hj,h.has_used hj,hg,xn];unfold Pst.isIn;rw [hh];rfl
def TS.commit (S:TS) (r:Int):TS:=⟨xM S.d (S.s.next r),S.s.commit r,S.data⟩
def TS.abort (S:TS):TS:=⟨S.d,S.s.abort,S.data⟩
theorem Xq {S:TS} {r:Int} {ps:List Pr} {qs:List Int} (ht:Rt (Dm S) r ps qs) (hu:∀ q ∈ qs,usd S q) (hn:qs.Nodup) {n:Nat} {firm:Nat -> List UInt8} (h:OkT n S firm):zaG (S.commit r).s.sup S.data r ps qs:=by
 refine ⟨ht.imp fun q hq=>?_,hn,hu⟩;have h1:=hu q hq;unfold Dc Dm;rw [if_pos (vt h h1),if_pos (show vH (S.commit r).s.sup.used q = true from h1)]
theorem za6 (x:Sb) (firm:Nat -> List UInt8):zaG x firm 0 [] []:=⟨.inl ⟨rfl,rfl,rfl⟩,List.nodup_nil,fun _ h=>by cases h⟩
theorem Rt.rootOk {S:TS} {r:Int} {ps:List Pr} {qs:List Int} (ht:Rt (Dm S) r ps qs) (hu:∀ q ∈ qs,usd S q):rootOk S.s r = true:=by
 unfold Go.Proofs.YtafclmbecmgbnaaGreatDoor.rootOk;rcases ht with ⟨rfl,_,_⟩ | ⟨hh,ht⟩
 ·simp
 ·obtain ⟨x,qt,_,rfl⟩:=ht.head;have:=hu r List.mem_cons_self;simp [show vH S.s.used r = true from this]
end
section
open Go.RowKit
theorem zcR {ps:List Pr} (h:∀ p ∈ ps,0 <= p.1 /\ p.1 < 256) {key:Int} (hk:0 <= key /\ key < 256) (val:ByteArray):∀ p ∈ xH ps key val,0 <= p.1 /\ p.1 < 256:=fun p hp=>by
 rcases (Kj p).1 hp with rfl | ⟨h1,_⟩
 ·exact hk
 ·exact h p h1
theorem zba {n:Nat} {S:TS} {firm:Nat -> List UInt8} (h:OkT n S firm) {k:Nat} (hf:S.s.first n = some k) {key:Int} (hk:0 <= key /\ key <= 4294967295) {val:ByteArray} (hv:val.size = 12):∃ S',xf n S 0 key val = (.ok (k:Int),S') /\ OkT n S' firm /\ Tr (Dm S') 0 1 0 4294967296 k [(key,val)] [(k:Int)] /\ usd S' (k:Int) /\ xR S' k key = .ok val:=by
 have hn:Nv (Dm S) 0 0 4294967296 ⟨[key],[val],[]⟩ (xH [] key val) []:=⟨rfl,rfl,by simp,fun z hz=>by obtain rfl:=List.mem_singleton.1 hz; omega,fun v hv2=>by rw [List.mem_singleton.1 hv2]; exact hv,by simp [xH],rfl⟩
 have hpt:xf n S 0 key val = xK n S ⟨[key],[val],[]⟩:=by unfold xf; rw [if_neg (by omega),if_pos rfl]
 have hr:zM ⟨[key],[val],[]⟩ = true:=hn.right (by simp) (by simp) (Int.le_refl _) (Int.le_refl _) (by simp) fun k y hk=>ky h hk
 obtain ⟨S',he⟩:∃ S',xK n S ⟨[key],[val],[]⟩ = (.ok (k:Int),S'):=by
  unfold xK;rw [if_neg (by rw [hr]; decide),hf];exact ⟨_,rfl⟩
 obtain ⟨_,ho,_,hu,hd⟩:=XR h he;have ht:Tr (Dm S') 0 1 0 4294967296 k [(key,val)] [(k:Int)]:=by
  have:=hn.laid (mn:=1) hd (fun _ h=>by cases h) (Nat.le_refl _) (by simp);simpa [xH] using this
 have hk0:¬ (k:Int) = 0:=by have:=(ky ho hd).1; omega
 refine ⟨S',by rw [hpt,he],ho,ht,hu,?_⟩;unfold xR;rw [if_neg hk0];exact Qo 0 ht (List.mem_singleton.2 rfl) (by decide) (Nat.le_refl _)
end
section
open Go.RowKit Bits
theorem zbw {l:List Int}:∀ {m:List Int},l.Nodup -> (∀ x ∈ l,x ∈ m) -> l.length <= m.length:=by
 induction l with
 | nil=>intro m _ _; exact Nat.zero_le _
 | cons a l ih =>
  intro m hn hs;obtain ⟨h1,h2⟩:=List.nodup_cons.1 hn;have ha:=hs a List.mem_cons_self;have:=ih (m:=m.erase a) h2 fun x hx=>(List.mem_erase_of_ne (by rintro rfl; exact h1 hx)).2 (hs x (List.mem_cons_of_mem _ hx))
  rw [List.length_erase_of_mem ha] at this;have:=List.length_pos_of_mem ha;rw [List.length_cons];omega
structure TwT (n:Nat) (firm:Nat -> List UInt8) (S:TS) (a b:Int) (pa pb:List Pr) (qa qb:List Int):Prop where
 ok:OkT n S firm
 ra:Rt (Dm S) a pa qa
 rb:Rt (Dm S) b pb qb
 na:qa.Nodup
 nb:qb.Nodup
 ua:∀ q ∈ qa,usd S q
 ub:∀ q ∈ qb,usd S q
 dis:∀ q ∈ qa,q ∉ qb
 only:∀ j,usd S j -> j ∈ qa \/ j ∈ qb
 plain:∀ k,k < 240 -> has S.s.sup.used k = false
theorem TwT.start {n:Nat} (h3:3 <= n) (hn:n <= 240):TwT n (fun _=>[]) ⟨xM (Dk.new n) (Sb.bare 1),Pst.opened (Sb.bare 1),fun _=>[]⟩ 0 0 [] [] [] []:=by
 have hok:=yH.start h3 hn (fun _=>([]:List UInt8));have hu:∀ k,has (Pst.opened (Sb.bare 1)).sup.used k = false:=fun k=>has_none k
 refine ⟨hok,.inl ⟨rfl,rfl,rfl⟩,.inl ⟨rfl,rfl,rfl⟩,List.nodup_nil,List.nodup_nil,(fun _ h=>by cases h),(fun _ h=>by cases h),(fun _ h=>by cases h),fun j hj=>?_,fun k _=>hu k⟩;exfalso;obtain ⟨k,rfl,hk,hh⟩:=vk hj;have hh2:=hok.has_used hk;have hh3:has (Pst.opened (Sb.bare 1)).used k = true:=hh;rw [hh3] at hh2;unfold Pst.isIn at hh2;rw [hu,show (Pst.opened (Sb.bare 1)).new = vq from rfl,xn] at hh2;simp at hh2
def zfs (V:Int -> ByteArray) (l:List Int) (ps:List Pr):Prop:=Yl ps /\ ps.length <= l.length /\ ∀ q,q ∈ ps ↔ ∃ k ∈ l,q = (k,V k)
theorem zfs.nil (V:Int -> ByteArray):zfs V [] []:=⟨List.Pairwise.nil,Nat.zero_le _,fun q=>⟨fun h=>(by cases h),fun ⟨_,h,_⟩=>by cases h⟩⟩
end
