/-
  Td. Conditions: as said.
-/
import Derived.Test.YtafclmbecmgbnaaGreatDoorTm
import Derived.Test.YtafclmbecmgbnaaGreatDoorTa
namespace Go.Proofs.YtafclmbecmgbnaaGreatDoor
section
def Dc (x:Sb) (firm:Nat -> List UInt8) (k:Int):Option Nd:=if vD x.used k = true then yg (firm k.toNat) else none
theorem zeG {n:Nat} {S:TS} {firm:Nat -> List UInt8} (h:OkT n S firm) {k:Int} (hk:vD S.s.sup.used k = true):Dm S k = Dc S.s.sup firm k:=by
 obtain ⟨j,rfl,hj,hh⟩:=Z8 hk;unfold Dm Dc;rw [if_pos hk,Int.toNat_natCast,wI hj,if_pos (by unfold Pst.isIn; rw [hh,Bool.true_or]),h.same j hj hh]
structure Q2 (x:Sb) (firm:Nat -> List UInt8) (root:Int) (ps:List Pr) (qs:List Int):Prop where
 rt:Rt (Dc x firm) root ps qs
 nodup:qs.Nodup
 used:∀ q ∈ qs,vD x.used q = true
theorem Q2.here {n:Nat} {S:TS} {firm:Nat -> List UInt8} {root:Int} {ps:List Pr} {qs:List Int} (hc:Q2 S.s.sup firm root ps qs) (h:OkT n S firm):Rt (Dm S) root ps qs :=
 hc.rt.imp fun q hq=>zeG h (hc.used q hq)
theorem Qy {n:Nat} {S:TS} {firm:Nat -> List UInt8} (h:OkT n S firm) (hg:S.s.gone = wU) {k:Int} (hk:vD S.s.sup.used k = true):usd S k:=by
 obtain ⟨j,rfl,hj,hh⟩:=Z8 hk;rw [jh hj,h.has_used hj,hg,xP];unfold Pst.isIn;rw [hh];rfl
def TS.commit (S:TS) (r:Int):TS:=⟨xC S.d (S.s.next r),S.s.commit r,S.data⟩
def TS.abort (S:TS):TS:=⟨S.d,S.s.abort,S.data⟩
theorem YZ {S:TS} {r:Int} {ps:List Pr} {qs:List Int} (ht:Rt (Dm S) r ps qs) (hu:∀ q ∈ qs,usd S q) (hn:qs.Nodup) {n:Nat} {firm:Nat -> List UInt8} (h:OkT n S firm):Q2 (S.commit r).s.sup S.data r ps qs:=by
 refine ⟨ht.imp fun q hq=>?_,hn,hu⟩;have h1:=hu q hq;unfold Dc Dm;rw [if_pos (ve h h1),if_pos (show vD (S.commit r).s.sup.used q = true from h1)]
theorem zaq (x:Sb) (firm:Nat -> List UInt8):Q2 x firm 0 [] []:=⟨.inl ⟨rfl,rfl,rfl⟩,List.nodup_nil,fun _ h=>by cases h⟩
theorem Rt.rootOk {S:TS} {r:Int} {ps:List Pr} {qs:List Int} (ht:Rt (Dm S) r ps qs) (hu:∀ q ∈ qs,usd S q):rootOk S.s r = true:=by
 unfold Go.Proofs.YtafclmbecmgbnaaGreatDoor.rootOk;rcases ht with ⟨rfl,_,_⟩ | ⟨hh,ht⟩
 ·simp
 ·obtain ⟨x,qt,_,rfl⟩:=ht.head;have:=hu r List.mem_cons_self;simp [show vD S.s.used r = true from this]
end
section
open Go.RowKit
theorem zb7 {ps:List Pr} (h:∀ p ∈ ps,0 <= p.1 /\ p.1 < 256) {key:Int} (hk:0 <= key /\ key < 256) (val:ByteArray):∀ p ∈ vE ps key val,0 <= p.1 /\ p.1 < 256:=fun p hp=>by
 rcases (VF p).1 hp with rfl | ⟨h1,_⟩
 ·exact hk
 ·exact h p h1
theorem zbS {ps:List Pr} (h:∀ p ∈ ps,0 <= p.1 /\ p.1 < 256):ki ps 0 256 = ps:=zbQ h
theorem zat {n:Nat} {S:TS} {firm:Nat -> List UInt8} (h:OkT n S firm) {k:Nat} (hf:S.s.first n = some k) {key:Int} (hk:0 <= key /\ key <= 4294967295) {val:ByteArray} (hv:val.size = 12):∃ S',yY n S 0 key val = (.ok (k:Int),S') /\ OkT n S' firm /\ Tr (Dm S') 0 1 0 4294967296 k [(key,val)] [(k:Int)] /\ usd S' (k:Int) /\ xy S' k key = .ok val:=by
 have hn:Nv (Dm S) 0 0 4294967296 ⟨[key],[val],[]⟩ (vE [] key val) []:=⟨rfl,rfl,by simp,fun z hz=>by obtain rfl:=List.mem_singleton.1 hz; omega,fun v hv2=>by rw [List.mem_singleton.1 hv2]; exact hv,by simp [vE],rfl⟩
 have hpt:yY n S 0 key val = xA n S ⟨[key],[val],[]⟩:=by unfold yY; rw [if_neg (by omega),if_pos rfl]
 have hr:zJ ⟨[key],[val],[]⟩ = true:=hn.right (by simp) (by simp) (Int.le_refl _) (Int.le_refl _) (by simp) fun k y hk=>vY h hk
 obtain ⟨S',he⟩:∃ S',xA n S ⟨[key],[val],[]⟩ = (.ok (k:Int),S'):=by
  unfold xA;rw [if_neg (by rw [hr]; decide),hf];exact ⟨_,rfl⟩
 obtain ⟨_,ho,_,hu,hd⟩:=Xm h he;have ht:Tr (Dm S') 0 1 0 4294967296 k [(key,val)] [(k:Int)]:=by
  have:=hn.laid (mn:=1) hd (fun _ h=>by cases h) (Nat.le_refl _) (by simp);simpa [vE] using this
 have hk0:¬ (k:Int) = 0:=by have:=(vY ho hd).1; omega
 refine ⟨S',by rw [hpt,he],ho,ht,hu,?_⟩;unfold xy;rw [if_neg hk0];exact JO 0 ht (List.mem_singleton.2 rfl) (by decide) (Nat.le_refl _)
end
section
open Go.RowKit Bits
structure TwT (n:Nat) (firm:Nat -> List UInt8) (S:TS) (a b:Int) (pa pb:List Pr) (qa qb:List Int):Prop where
 ok:OkT n S firm
 ra:Rt (Dm S) a pa qa
 rb:Rt (Dm S) b pb qb
 na:qa.Nodup
 nb:qb.Nodup
 ua:∀ q ∈ qa,usd S q
 ub:∀ q ∈ qb,usd S q
 dis:∀ q ∈ qa,q ∉ qb
 only:∀ j,usd S j -> j ∈ qa \/ j ∈ qb
 plain:∀ k,k < 240 -> has S.s.sup.used k = false
theorem TwT.start {n:Nat} (h3:3 <= n) (hn:n <= 240):TwT n (fun _=>[]) ⟨xC (Dk.new n) (Sb.bare 1),Pst.opened (Sb.bare 1),fun _=>[]⟩ 0 0 [] [] [] []:=by
 have hok:=yP.start h3 hn (fun _=>([]:List UInt8));have hu:∀ k,has (Pst.opened (Sb.bare 1)).sup.used k = false:=fun k=>has_none k
 refine ⟨hok,.inl ⟨rfl,rfl,rfl⟩,.inl ⟨rfl,rfl,rfl⟩,List.nodup_nil,List.nodup_nil,(fun _ h=>by cases h),(fun _ h=>by cases h),(fun _ h=>by cases h),fun j hj=>?_,fun k _=>hu k⟩;exfalso;obtain ⟨k,rfl,hk,hh⟩:=wW hj;have hh2:=hok.has_used hk;have hh3:has (Pst.opened (Sb.bare 1)).used k = true:=hh;rw [hh3] at hh2;unfold Pst.isIn at hh2;rw [hu,show (Pst.opened (Sb.bare 1)).new = wU from rfl,xP] at hh2;simp at hh2
def zeM (V:Int -> ByteArray) (l:List Int) (ps:List Pr):Prop:=zeX ps /\ ps.length <= l.length /\ ∀ q,q ∈ ps ↔ ∃ k ∈ l,q = (k,V k)
theorem zeM.nil (V:Int -> ByteArray):zeM V [] []:=⟨List.Pairwise.nil,Nat.zero_le _,fun q=>⟨fun h=>(by cases h),fun ⟨_,h,_⟩=>by cases h⟩⟩
end
