/-
 NodeMath. Conditions: as each theorem says.
-/
import Derived.Test.YtafclmbecmgbnaaGreatDoorMaths
open Bool renaming and_eq_true -> zfm
open List renaming range -> zfI,mem_range -> zfJ,length_cons -> ze4,all_eq_true -> zfK,pairwise_iff_getElem -> zfL,map_congr_left -> zfM
namespace Go.Proofs.YtafclmbecmgbnaaGreatDoor
structure Nd where
 keys:List Int
 vals:List ByteArray
 kids:List Int
def Nd.empty:Nd:=⟨[],[],[]⟩
def zcx (l:List Int) (i:Nat):Bool:=decide (0 <= l.getD i 0) && decide (l.getD i 0 <= 4294967295) && (decide (i = 0) || decide (l.getD (i - 1) 0 < l.getD i 0))
def jW (l:List Int):Bool:=(zfI l.length).all (zcx l)
def kr (v:ByteArray):Bool:=decide (v.size = 12)
def zcy (l:List Int) (i:Nat):Bool:=decide (2 <= l.getD i 0) && decide (l.getD i 0 <= 239) && (zfI i).all fun k=>!decide (l.getD k 0 = l.getD i 0)
def jc (l:List Int):Bool:=(zfI l.length).all (zcy l)
def zJ (x:Nd):Bool :=
 jW x.keys && decide (x.keys.length <= 7) &&
  (if x.kids.length = 0 then x.vals.all kr && decide (x.vals.length = x.keys.length)
   else jc x.kids && decide (x.vals.length = 0) && decide (1 <= x.keys.length) && decide (x.kids.length = x.keys.length + 1))
theorem wJ {l:List Int}:jW l = true ↔ (∀ z ∈ l,0 <= z /\ z <= 4294967295) /\ l.Pairwise (· < ·):=by
 have hat:∀ i (h:i < l.length),l.getD i 0 = l[i]:=fun i h=>by simp [List.getD_eq_getElem?_getD,h]
 unfold jW;rw [zfK];constructor
 ·intro h;have h1:∀ i (hi:i < l.length),(0 <= l[i] /\ l[i] <= 4294967295) /\ ∀ (h0:0 < i),l[i - 1]'(by omega) < l[i]:=fun i hi=>by
   have:=h i (zfJ.2 hi);unfold zcx at this;simp only [zfm,Bool.or_eq_true,decide_eq_true_eq,hat i hi] at this;refine ⟨this.1,fun h0=>?_⟩;rcases this.2 with h2 | h2
   ·omega
   ·rwa [hat (i - 1) (by omega)] at h2
  refine ⟨fun z hz=>?_,?_⟩
  ·obtain ⟨i,hi,rfl⟩:=List.mem_iff_getElem.1 hz;exact (h1 i hi).1
  ·rw [zfL];intro i j hi hj hij;induction j with
   | zero=>omega
   | succ j ih =>
    have h2:l[j]'(by omega) < l[j + 1]:=(h1 (j + 1) hj).2 (by omega);rcases Nat.lt_or_ge i j with h3 | h3
    ·exact Int.lt_trans (ih (by omega) h3) h2
    ·obtain rfl:i = j:=by omega
     exact h2
 ·rintro ⟨h1,h2⟩ i hi;have hi:=zfJ.1 hi;unfold zcx;simp only [zfm,Bool.or_eq_true,decide_eq_true_eq,hat i hi];refine ⟨h1 _ (List.getElem_mem _),?_⟩;rcases Nat.eq_zero_or_pos i with h0 | h0
  ·exact .inl h0
  ·rw [hat (i - 1) (by omega)];exact .inr (zfL.1 h2 (i - 1) i (by omega) hi (by omega))
theorem kJ {l:List Int}:jc l = true ↔ (∀ z ∈ l,2 <= z /\ z <= 239) /\ l.Pairwise (· ≠ ·):=by
 have hat:∀ i (h:i < l.length),l.getD i 0 = l[i]:=fun i h=>by simp [List.getD_eq_getElem?_getD,h]
 unfold jc;rw [zfK];constructor
 ·intro h;have h1:∀ i (hi:i < l.length),(2 <= l[i] /\ l[i] <= 239) /\ ∀ k (hk:k < i),l[k]'(by omega) ≠ l[i]:=fun i hi=>by
   have:=h i (zfJ.2 hi);unfold zcy at this;simp only [zfm,decide_eq_true_eq,hat i hi,zfK,Bool.not_eq_true',decide_eq_false_iff_not] at this;refine ⟨this.1,fun k hk=>?_⟩;have:=this.2 k (zfJ.2 hk)
   rwa [hat k (by omega)] at this
  refine ⟨fun z hz=>?_,?_⟩
  ·obtain ⟨i,hi,rfl⟩:=List.mem_iff_getElem.1 hz;exact (h1 i hi).1
  ·rw [zfL];intro i j hi hj hij;exact (h1 j hj).2 i hij
 ·rintro ⟨h1,h2⟩ i hi;have hi:=zfJ.1 hi;unfold zcy;simp only [zfm,decide_eq_true_eq,hat i hi,zfK,Bool.not_eq_true',decide_eq_false_iff_not];refine ⟨h1 _ (List.getElem_mem _),fun k hk=>?_⟩;have hk:=zfJ.1 hk;rw [hat k (by omega)];exact zfL.1 h2 k i (by omega) hi hk
def ww (l:List Int):List UInt8:=l.flatMap fun z=>be 4 z.toNat
def xK (l:List ByteArray):List UInt8:=l.flatMap fun v=>v.data.toList
def vF (l:List Int):List UInt8:=l.map fun z=>UInt8.ofNat z.toNat
def vP (x:Nd):List UInt8:=(if x.kids.length = 0 then (0:UInt8) else 1) :: UInt8.ofNat x.keys.length :: (ww x.keys ++ xK x.vals ++ vF x.kids)
theorem vt (l:List Int):(ww l).length = 4 * l.length:=by
 induction l with
 | nil=>rfl
 | cons z r ih=>simp only [ww,List.flatMap_cons,List.length_append,yF,ze4] at ih ⊢; omega
theorem Yp {l:List ByteArray} (h:l.all kr = true):(xK l).length = 12 * l.length:=by
 induction l with
 | nil=>rfl
 | cons v r ih =>
  rw [List.all_cons,zfm] at h;have h1:v.data.toList.length = 12:=by simpa [kr] using h.1
  have:=ih h.2;simp only [xK,List.flatMap_cons,List.length_append,ze4] at this ⊢;omega
theorem Ya (l:List Int):(vF l).length = l.length:=by simp [vF]
def Wj (leaf:Bool) (k:Nat):Nat:=if leaf then 2 + 16 * k else 3 + 5 * k
theorem zm {x:Nd} (h:zJ x = true):jW x.keys = true /\ x.keys.length <= 7 /\
  ((x.kids = [] /\ x.vals.all kr = true /\ x.vals.length = x.keys.length) \/ (x.kids ≠ [] /\ jc x.kids = true /\ x.vals = [] /\ 1 <= x.keys.length /\ x.kids.length = x.keys.length + 1)):=by
 unfold zJ at h;simp only [zfm,decide_eq_true_eq] at h;refine ⟨h.1.1,h.1.2,?_⟩;have h2:=h.2;by_cases hk:x.kids.length = 0
 ·rw [if_pos hk] at h2;simp only [zfm,decide_eq_true_eq] at h2;exact .inl ⟨List.length_eq_zero_iff.1 hk,h2.1,h2.2⟩
 ·rw [if_neg hk] at h2;simp only [zfm,decide_eq_true_eq] at h2;exact .inr ⟨fun e=>hk (by rw [e]; rfl),h2.1.1.1,List.length_eq_zero_iff.1 h2.1.1.2,h2.1.2,h2.2⟩
theorem qE {x:Nd} (h:zJ x = true):(vP x).length = Wj (decide (x.kids.length = 0)) x.keys.length:=by
 obtain ⟨_,_,h3⟩:=zm h;unfold vP Wj;simp only [ze4,List.length_append,vt,Ya];rcases h3 with ⟨h4,h5,h6⟩ | ⟨h4,h5,h6,h7,h8⟩
 ·rw [Yp h5,h4];simp;omega
 ·rw [h6];have:x.kids.length ≠ 0:=by omega
  simp [xK,this];omega
def jX (k:Nat) (r:List UInt8):List Int:=(zfI k).map fun i=>(num ((r.drop (4 * i)).take 4):Int)
def zcY (k:Nat) (r:List UInt8):List ByteArray:=(zfI k).map fun i=>⟨((r.drop (4 * k + 12 * i)).take 12).toArray⟩
def zcb (k:Nat) (r:List UInt8):List Int:=(r.drop (4 * k)).map fun c=>(c.toNat:Int)
def qG (leaf:Bool) (k:Nat) (r:List UInt8):Nd:=⟨jX k r,if leaf then zcY k r else [],if leaf then [] else zcb k r⟩
def jV (s:List UInt8):Option (Bool × Nat × List UInt8) :=
 match s with
 | a :: b :: r=>if a <= 1 /\ b <= 7 /\ s.length = Wj (decide (a = 0)) b.toNat then some (decide (a = 0),b.toNat,r) else none
 | _=>none
def yg (s:List UInt8):Option Nd:=(jV s).bind fun h=>if zJ (qG h.1 h.2.1 h.2.2) = true then some (qG h.1 h.2.1 h.2.2) else none
theorem zaz {l:List Int} (h:∀ z ∈ l,0 <= z /\ z <= 4294967295) (r:List UInt8):jX l.length (ww l ++ r) = l:=by
 induction l with
 | nil=>rfl
 | cons z t ih =>
  have hz:=h z (by simp);unfold jX;rw [ze4,List.range_succ_eq_map,List.map_cons,List.map_map];have hb:(be 4 z.toNat).length = 4:=yF _ _;have e:ww (z :: t) ++ r = be 4 z.toNat ++ (ww t ++ r):=by simp [ww]
  rw [e];refine List.cons_eq_cons.2 ⟨?_,?_⟩
  ·rw [Nat.mul_zero,List.drop_zero,List.take_left' hb,J7 (by omega)];omega
  ·have:=ih fun y hy=>h y (by simp [hy])
   unfold jX at this;refine Eq.trans (zfM fun i _=>?_) this;show ((num (((be 4 z.toNat ++ (ww t ++ r)).drop (4 * (i + 1))).take 4):Nat):Int) = _;rw [List.drop_append,List.drop_eq_nil_of_le (by omega),hb,List.nil_append];congr 3
theorem zcZ {l:List ByteArray} (h:l.all kr = true) (r:List UInt8):((zfI l.length).map fun i=>(⟨(((xK l ++ r).drop (12 * i)).take 12).toArray⟩:ByteArray)) = l:=by
 induction l with
 | nil=>rfl
 | cons v t ih =>
  rw [List.all_cons,zfm] at h;have hb:v.data.toList.length = 12:=by simpa [kr] using h.1
  rw [ze4,List.range_succ_eq_map,List.map_cons,List.map_map];have e:xK (v :: t) ++ r = v.data.toList ++ (xK t ++ r):=by simp [xK]
  rw [e];refine List.cons_eq_cons.2 ⟨?_,?_⟩
  ·rw [Nat.mul_zero,List.drop_zero,List.take_left' hb]
  ·refine Eq.trans (zfM fun i _=>?_) (ih h.2);show (⟨(((v.data.toList ++ (xK t ++ r)).drop (12 * (i + 1))).take 12).toArray⟩:ByteArray) = _;rw [List.drop_append,List.drop_eq_nil_of_le (by omega),hb,List.nil_append];congr 4
theorem zbd {ks:List Int} {l:List ByteArray} (hl:l.length = ks.length) (h:l.all kr = true) (r:List UInt8):zcY ks.length (ww ks ++ (xK l ++ r)) = l:=by
 have:=zcZ h r;unfold zcY;rw [hl] at this;refine Eq.trans (zfM fun i _=>?_) this;rw [<- List.drop_drop,List.drop_left' (vt ks)]
theorem zaA {ks l:List Int} (h:∀ z ∈ l,2 <= z /\ z <= 239):zcb ks.length (ww ks ++ vF l) = l:=by
 unfold zcb;rw [List.drop_left' (vt ks)];unfold vF;rw [List.map_map];refine (zfM fun z hz=>?_).trans (List.map_id l);have:=h z hz;show (((UInt8.ofNat z.toNat).toNat:Nat):Int) = z;rw [UInt8.toNat_ofNat'];omega
theorem zax {x:Nd} (h:zJ x = true):jV (vP x) = some (decide (x.kids.length = 0),x.keys.length,ww x.keys ++ xK x.vals ++ vF x.kids):=by
 have hl:=qE h;have h7:=(zm h).2.1;have hb:(UInt8.ofNat x.keys.length).toNat = x.keys.length:=by rw [UInt8.toNat_ofNat']; omega
 have hb7:UInt8.ofNat x.keys.length <= 7:=by
  rw [UInt8.le_iff_toNat_le,hb];exact h7
 unfold vP at hl ⊢;unfold jV;simp only;by_cases hk:x.kids.length = 0
 ·simp only [hk,if_true] at hl ⊢;rw [if_pos ⟨by decide,hb7,by rw [hl,hb]⟩,hb]
 ·simp only [hk,if_false] at hl ⊢;rw [if_pos ⟨by decide,hb7,by rw [hl,hb]; rfl⟩,hb];simp
theorem zaK {x:Nd} (h:zJ x = true):qG (decide (x.kids.length = 0)) x.keys.length (ww x.keys ++ xK x.vals ++ vF x.kids) = x:=by
 obtain ⟨h1,h2,h3⟩:=zm h;have hk:=(wJ.1 h1).1;obtain ⟨keys,vals,kids⟩:=x;simp only at h1 h2 h3 hk ⊢;unfold qG;rw [List.append_assoc,zaz hk];rcases h3 with ⟨rfl,h5,h6⟩ | ⟨h4,h5,rfl,h7,h8⟩
 ·rw [zbd h6 h5];simp
 ·have h0:kids.length ≠ 0:=by omega
  have:=zaA (ks:=keys) (kJ.1 h5).1;simp [h0,xK,this]
theorem zaQ {x:Nd} (h:zJ x = true):yg (vP x) = some x:=by
 unfold yg;rw [zax h,Option.bind_some];simp only [zaK h,if_pos h]
theorem xi {s:List UInt8} (h:jV s = none):yg s = none:=by unfold yg; rw [h]; rfl
theorem WH {s r:List UInt8} {l:Bool} {k:Nat} (h:jV s = some (l,k,r)):yg s = if zJ (qG l k r) = true then some (qG l k r) else none:=by unfold yg; rw [h]; rfl
theorem je {s:List UInt8} {x:Nd} (h:yg s = some x):zJ x = true:=by
 unfold yg at h;cases hh:jV s with
 | none=>rw [hh] at h; cases h
 | some v =>
  rw [hh,Option.bind_some] at h;split at h
  ·rename_i hr
   cases h;exact hr
  ·cases h
theorem Ql {keys:List Int} {vals:List ByteArray} (h1:jW keys = true) (h2:keys.length <= 7) (h3:vals.all kr = true) (h4:vals.length = keys.length):zJ ⟨keys,vals,[]⟩ = true:=by
 unfold zJ;simp [h1,h2,h3,h4]
def less (keys:List Int) (key:Int):Nat:=(keys.takeWhile fun z=>decide (z < key)).length
theorem Yd {keys:List Int} (h:keys.Pairwise (· < ·)) (key:Int) {i:Nat} (hi:i < keys.length):(keys[i] < key ↔ i < less keys key):=by
 induction keys generalizing i with
 | nil=>cases hi
 | cons z t ih =>
  unfold less;rw [List.pairwise_cons] at h;by_cases hz:z < key
  ·rw [List.takeWhile_cons_of_pos (by simpa using hz)];cases i with
   | zero=>simp [hz]
   | succ i =>
    have:=ih h.2 (i:=i) (by simpa using hi);unfold less at this;simp only [List.getElem_cons_succ,ze4];rw [this];omega
  ·rw [List.takeWhile_cons_of_neg (by simpa using hz)];have hle:∀ y ∈ z :: t,¬ y < key:=fun y hy=>by
    rcases List.mem_cons.1 hy with rfl | hy
    ·exact hz
    ·have:=h.1 y hy;omega
   have:=hle _ (List.getElem_mem hi);simp [this]
theorem Zc (keys:List Int) (key:Int):less keys key <= keys.length:=(List.takeWhile_sublist _).length_le
def yw (x:Nd) (key:Int):Nat × Bool:=if zJ x = true then (less x.keys key,decide (x.keys[less x.keys key]? = some key)) else (0,false)
theorem VK {keys:List Int} (h:keys.Pairwise (· < ·)) (key:Int) {k:Nat} (hk:k <= keys.length) (h1:∀ i (hi:i < k),keys[i]'(by omega) < key) (h2:∀ (hi:k < keys.length),¬ keys[k] < key):less keys key = k:=by
 have hl:=Zc keys key;rcases Nat.lt_trichotomy (less keys key) k with h3 | h3 | h3
 ·have:=(Yd h key (i:=less keys key) (by omega)).1 (h1 _ h3);omega
 ·exact h3
 ·exact absurd ((Yd h key (i:=k) (by omega)).2 h3) (h2 (by omega))
