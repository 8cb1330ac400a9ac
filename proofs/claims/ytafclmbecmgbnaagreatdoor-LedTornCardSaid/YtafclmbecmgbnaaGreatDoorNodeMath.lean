/-
 NodeMath. Conditions: as each theorem says.
-/
import Derived.Test.YtafclmbecmgbnaaGreatDoorMaths
open Bool renaming and_eq_true -> zf4
open List renaming range -> zgo,mem_range -> zgp,length_cons -> zfJ,all_eq_true -> zgq,pairwise_iff_getElem -> zgr,map_congr_left -> zgs
namespace Go.Proofs.YtafclmbecmgbnaaGreatDoor
structure Nd where
 keys:List Int
 vals:List ByteArray
 kids:List Int
def Nd.empty:Nd:=⟨[],[],[]⟩
def zdi (l:List Int) (i:Nat):Bool:=decide (0 <= l.getD i 0) && decide (l.getD i 0 <= 4294967295) && (decide (i = 0) || decide (l.getD (i - 1) 0 < l.getD i 0))
def qF (l:List Int):Bool:=(zgo l.length).all (zdi l)
def kK (v:ByteArray):Bool:=decide (v.size = 12)
def zdj (l:List Int) (i:Nat):Bool:=decide (2 <= l.getD i 0) && decide (l.getD i 0 <= 239) && (zgo i).all fun k=>!decide (l.getD k 0 = l.getD i 0)
def jv (l:List Int):Bool:=(zgo l.length).all (zdj l)
def zM (x:Nd):Bool :=
 qF x.keys && decide (x.keys.length <= 7) &&
  (if x.kids.length = 0 then x.vals.all kK && decide (x.vals.length = x.keys.length)
   else jv x.kids && decide (x.vals.length = 0) && decide (1 <= x.keys.length) && decide (x.kids.length = x.keys.length + 1))
theorem wU {l:List Int}:qF l = true ↔ (∀ z ∈ l,0 <= z /\ z <= 4294967295) /\ l.Pairwise (· < ·):=by
 have hat:∀ i (h:i < l.length),l.getD i 0 = l[i]:=fun i h=>by simp [List.getD_eq_getElem?_getD,h]
 unfold qF;rw [zgq];constructor
 ·intro h;have h1:∀ i (hi:i < l.length),(0 <= l[i] /\ l[i] <= 4294967295) /\ ∀ (h0:0 < i),l[i - 1]'(by omega) < l[i]:=fun i hi=>by
   have:=h i (zgp.2 hi);unfold zdi at this;simp only [zf4,Bool.or_eq_true,decide_eq_true_eq,hat i hi] at this;refine ⟨this.1,fun h0=>?_⟩;rcases this.2 with h2 | h2
   ·omega
   ·rwa [hat (i - 1) (by omega)] at h2
  refine ⟨fun z hz=>?_,?_⟩
  ·obtain ⟨i,hi,rfl⟩:=List.mem_iff_getElem.1 hz;exact (h1 i hi).1
  ·rw [zgr];intro i j hi hj hij;induction j with
   | zero=>omega
   | succ j ih =>
    have h2:l[j]'(by omega) < l[j + 1]:=(h1 (j + 1) hj).2 (by omega);rcases Nat.lt_or_ge i j with h3 | h3
    ·exact Int.lt_trans (ih (by omega) h3) h2
    ·obtain rfl:i = j:=by omega
     exact h2
 ·rintro ⟨h1,h2⟩ i hi;have hi:=zgp.1 hi;unfold zdi;simp only [zf4,Bool.or_eq_true,decide_eq_true_eq,hat i hi];refine ⟨h1 _ (List.getElem_mem _),?_⟩;rcases Nat.eq_zero_or_pos i with h0 | h0
  ·exact .inl h0
  ·rw [hat (i - 1) (by omega)];exact .inr (zgr.1 h2 (i - 1) i (by omega) hi (by omega))
theorem kZ {l:List Int}:jv l = true ↔ (∀ z ∈ l,2 <= z /\ z <= 239) /\ l.Pairwise (· ≠ ·):=by
 have hat:∀ i (h:i < l.length),l.getD i 0 = l[i]:=fun i h=>by simp [List.getD_eq_getElem?_getD,h]
 unfold jv;rw [zgq];constructor
 ·intro h;have h1:∀ i (hi:i < l.length),(2 <= l[i] /\ l[i] <= 239) /\ ∀ k (hk:k < i),l[k]'(by omega) ≠ l[i]:=fun i hi=>by
   have:=h i (zgp.2 hi);unfold zdj at this;simp only [zf4,decide_eq_true_eq,hat i hi,zgq,Bool.not_eq_true',decide_eq_false_iff_not] at this;refine ⟨this.1,fun k hk=>?_⟩;have:=this.2 k (zgp.2 hk)
   rwa [hat k (by omega)] at this
  refine ⟨fun z hz=>?_,?_⟩
  ·obtain ⟨i,hi,rfl⟩:=List.mem_iff_getElem.1 hz;exact (h1 i hi).1
  ·rw [zgr];intro i j hi hj hij;exact (h1 j hj).2 i hij
 ·rintro ⟨h1,h2⟩ i hi;have hi:=zgp.1 hi;unfold zdj;simp only [zf4,decide_eq_true_eq,hat i hi,zgq,Bool.not_eq_true',decide_eq_false_iff_not];refine ⟨h1 _ (List.getElem_mem _),fun k hk=>?_⟩;have hk:=zgp.1 hk;rw [hat k (by omega)];exact zgr.1 h2 k i (by omega) hi hk
def wJ (l:List Int):List UInt8:=l.flatMap fun z=>be 4 z.toNat
def xY (l:List ByteArray):List UInt8:=l.flatMap fun v=>v.data.toList
def vS (l:List Int):List UInt8:=l.map fun z=>UInt8.ofNat z.toNat
def ke (x:Nd):List UInt8:=(if x.kids.length = 0 then (0:UInt8) else 1) :: UInt8.ofNat x.keys.length :: (wJ x.keys ++ xY x.vals ++ vS x.kids)
theorem vK (l:List Int):(wJ l).length = 4 * l.length:=by
 induction l with
 | nil=>rfl
 | cons z r ih=>simp only [wJ,List.flatMap_cons,List.length_append,yK,zfJ] at ih ⊢; omega
theorem YO {l:List ByteArray} (h:l.all kK = true):(xY l).length = 12 * l.length:=by
 induction l with
 | nil=>rfl
 | cons v r ih =>
  rw [List.all_cons,zf4] at h;have h1:v.data.toList.length = 12:=by simpa [kK] using h.1
  have:=ih h.2;simp only [xY,List.flatMap_cons,List.length_append,zfJ] at this ⊢;omega
theorem Yx (l:List Int):(vS l).length = l.length:=by simp [vS]
def WR (leaf:Bool) (k:Nat):Nat:=if leaf then 2 + 16 * k else 3 + 5 * k
theorem zm {x:Nd} (h:zM x = true):qF x.keys = true /\ x.keys.length <= 7 /\
  ((x.kids = [] /\ x.vals.all kK = true /\ x.vals.length = x.keys.length) \/ (x.kids ≠ [] /\ jv x.kids = true /\ x.vals = [] /\ 1 <= x.keys.length /\ x.kids.length = x.keys.length + 1)):=by
 unfold zM at h;simp only [zf4,decide_eq_true_eq] at h;refine ⟨h.1.1,h.1.2,?_⟩;have h2:=h.2;by_cases hk:x.kids.length = 0
 ·rw [if_pos hk] at h2;simp only [zf4,decide_eq_true_eq] at h2;exact .inl ⟨List.length_eq_zero_iff.1 hk,h2.1,h2.2⟩
 ·rw [if_neg hk] at h2;simp only [zf4,decide_eq_true_eq] at h2;exact .inr ⟨fun e=>hk (by rw [e]; rfl),h2.1.1.1,List.length_eq_zero_iff.1 h2.1.1.2,h2.1.2,h2.2⟩
theorem Ze {x:Nd} (h:zM x = true):(ke x).length = WR (decide (x.kids.length = 0)) x.keys.length:=by
 obtain ⟨_,_,h3⟩:=zm h;unfold ke WR;simp only [zfJ,List.length_append,vK,Yx];rcases h3 with ⟨h4,h5,h6⟩ | ⟨h4,h5,h6,h7,h8⟩
 ·rw [YO h5,h4];simp;omega
 ·rw [h6];have:x.kids.length ≠ 0:=by omega
  simp [xY,this];omega
def qG (k:Nat) (r:List UInt8):List Int:=(zgo k).map fun i=>(num ((r.drop (4 * i)).take 4):Int)
def zdH (k:Nat) (r:List UInt8):List ByteArray:=(zgo k).map fun i=>⟨((r.drop (4 * k + 12 * i)).take 12).toArray⟩
def zcV (k:Nat) (r:List UInt8):List Int:=(r.drop (4 * k)).map fun c=>(c.toNat:Int)
def Zg (leaf:Bool) (k:Nat) (r:List UInt8):Nd:=⟨qG k r,if leaf then zdH k r else [],if leaf then [] else zcV k r⟩
def qE (s:List UInt8):Option (Bool × Nat × List UInt8) :=
 match s with
 | a :: b :: r=>if a <= 1 /\ b <= 7 /\ s.length = WR (decide (a = 0)) b.toNat then some (decide (a = 0),b.toNat,r) else none
 | _=>none
def yk (s:List UInt8):Option Nd:=(qE s).bind fun h=>if zM (Zg h.1 h.2.1 h.2.2) = true then some (Zg h.1 h.2.1 h.2.2) else none
theorem zbi {l:List Int} (h:∀ z ∈ l,0 <= z /\ z <= 4294967295) (r:List UInt8):qG l.length (wJ l ++ r) = l:=by
 induction l with
 | nil=>rfl
 | cons z t ih =>
  have hz:=h z (by simp);unfold qG;rw [zfJ,List.range_succ_eq_map,List.map_cons,List.map_map];have hb:(be 4 z.toNat).length = 4:=yK _ _;have e:wJ (z :: t) ++ r = be 4 z.toNat ++ (wJ t ++ r):=by simp [wJ]
  rw [e];refine List.cons_eq_cons.2 ⟨?_,?_⟩
  ·rw [Nat.mul_zero,List.drop_zero,List.take_left' hb,QI (by omega)];omega
  ·have:=ih fun y hy=>h y (by simp [hy])
   unfold qG at this;refine Eq.trans (zgs fun i _=>?_) this;show ((num (((be 4 z.toNat ++ (wJ t ++ r)).drop (4 * (i + 1))).take 4):Nat):Int) = _;rw [List.drop_append,List.drop_eq_nil_of_le (by omega),hb,List.nil_append];congr 3
theorem zdI {l:List ByteArray} (h:l.all kK = true) (r:List UInt8):((zgo l.length).map fun i=>(⟨(((xY l ++ r).drop (12 * i)).take 12).toArray⟩:ByteArray)) = l:=by
 induction l with
 | nil=>rfl
 | cons v t ih =>
  rw [List.all_cons,zf4] at h;have hb:v.data.toList.length = 12:=by simpa [kK] using h.1
  rw [zfJ,List.range_succ_eq_map,List.map_cons,List.map_map];have e:xY (v :: t) ++ r = v.data.toList ++ (xY t ++ r):=by simp [xY]
  rw [e];refine List.cons_eq_cons.2 ⟨?_,?_⟩
  ·rw [Nat.mul_zero,List.drop_zero,List.take_left' hb]
  ·refine Eq.trans (zgs fun i _=>?_) (ih h.2);show (⟨(((v.data.toList ++ (xY t ++ r)).drop (12 * (i + 1))).take 12).toArray⟩:ByteArray) = _;rw [List.drop_append,List.drop_eq_nil_of_le (by omega),hb,List.nil_append];congr 4
theorem zbX {ks:List Int} {l:List ByteArray} (hl:l.length = ks.length) (h:l.all kK = true) (r:List UInt8):zdH ks.length (wJ ks ++ (xY l ++ r)) = l:=by
 have:=zdI h r;unfold zdH;rw [hl] at this;refine Eq.trans (zgs fun i _=>?_) this;rw [<- List.drop_drop,List.drop_left' (vK ks)]
theorem zbj {ks l:List Int} (h:∀ z ∈ l,2 <= z /\ z <= 239):zcV ks.length (wJ ks ++ vS l) = l:=by
 unfold zcV;rw [List.drop_left' (vK ks)];unfold vS;rw [List.map_map];refine (zgs fun z hz=>?_).trans (List.map_id l);have:=h z hz;show (((UInt8.ofNat z.toNat).toNat:Nat):Int) = z;rw [UInt8.toNat_ofNat'];omega
theorem zbf {x:Nd} (h:zM x = true):qE (ke x) = some (decide (x.kids.length = 0),x.keys.length,wJ x.keys ++ xY x.vals ++ vS x.kids):=by
 have hl:=Ze h;have h7:=(zm h).2.1;have hb:(UInt8.ofNat x.keys.length).toNat = x.keys.length:=by rw [UInt8.toNat_ofNat']; omega
 have hb7:UInt8.ofNat x.keys.length <= 7:=by
  rw [UInt8.le_iff_toNat_le,hb];exact h7
 unfold ke at hl ⊢;unfold qE;simp only;by_cases hk:x.kids.length = 0
 ·simp only [hk,if_true] at hl ⊢;rw [if_pos ⟨by decide,hb7,by rw [hl,hb]⟩,hb]
 ·simp only [hk,if_false] at hl ⊢;rw [if_pos ⟨by decide,hb7,by rw [hl,hb]; rfl⟩,hb];simp
theorem zbu {x:Nd} (h:zM x = true):Zg (decide (x.kids.length = 0)) x.keys.length (wJ x.keys ++ xY x.vals ++ vS x.kids) = x:=by
 obtain ⟨h1,h2,h3⟩:=zm h;have hk:=(wU.1 h1).1;obtain ⟨keys,vals,kids⟩:=x;simp only at h1 h2 h3 hk ⊢;unfold Zg;rw [List.append_assoc,zbi hk];rcases h3 with ⟨rfl,h5,h6⟩ | ⟨h4,h5,rfl,h7,h8⟩
 ·rw [zbX h6 h5];simp
 ·have h0:kids.length ≠ 0:=by omega
  have:=zbj (ks:=keys) (kZ.1 h5).1;simp [h0,xY,this]
theorem zbB {x:Nd} (h:zM x = true):yk (ke x) = some x:=by
 unfold yk;rw [zbf h,Option.bind_some];simp only [zbu h,if_pos h]
theorem xt {s:List UInt8} (h:qE s = none):yk s = none:=by unfold yk; rw [h]; rfl
theorem Vf {s r:List UInt8} {l:Bool} {k:Nat} (h:qE s = some (l,k,r)):yk s = if zM (Zg l k r) = true then some (Zg l k r) else none:=by unfold yk; rw [h]; rfl
theorem jz {s:List UInt8} {x:Nd} (h:yk s = some x):zM x = true:=by
 unfold yk at h;cases hh:qE s with
 | none=>rw [hh] at h; cases h
 | some v =>
  rw [hh,Option.bind_some] at h;split at h
  ·rename_i hr
   cases h;exact hr
  ·cases h
theorem QX {keys:List Int} {vals:List ByteArray} (h1:qF keys = true) (h2:keys.length <= 7) (h3:vals.all kK = true) (h4:vals.length = keys.length):zM ⟨keys,vals,[]⟩ = true:=by
 unfold zM;simp [h1,h2,h3,h4]
def less (keys:List Int) (key:Int):Nat:=(keys.takeWhile fun z=>decide (z < key)).length
theorem YA {keys:List Int} (h:keys.Pairwise (· < ·)) (key:Int) {i:Nat} (hi:i < keys.length):(keys[i] < key ↔ i < less keys key):=by
 induction keys generalizing i with
 | nil=>cases hi
 | cons z t ih =>
  unfold less;rw [List.pairwise_cons] at h;by_cases hz:z < key
  ·rw [List.takeWhile_cons_of_pos (by simpa using hz)];cases i with
   | zero=>simp [hz]
   | succ i =>
    have:=ih h.2 (i:=i) (by simpa using hi);unfold less at this;simp only [List.getElem_cons_succ,zfJ];rw [this];omega
  ·rw [List.takeWhile_cons_of_neg (by simpa using hz)];have hle:∀ y ∈ z :: t,¬ y < key:=fun y hy=>by
    rcases List.mem_cons.1 hy with rfl | hy
    ·exact hz
    ·have:=h.1 y hy;omega
   have:=hle _ (List.getElem_mem hi);simp [this]
theorem ZB (keys:List Int) (key:Int):less keys key <= keys.length:=(List.takeWhile_sublist _).length_le
def yA (x:Nd) (key:Int):Nat × Bool:=if zM x = true then (less x.keys key,decide (x.keys[less x.keys key]? = some key)) else (0,false)
theorem Km {keys:List Int} (h:keys.Pairwise (· < ·)) (key:Int) {k:Nat} (hk:k <= keys.length) (h1:∀ i (hi:i < k),keys[i]'(by omega) < key) (h2:∀ (hi:k < keys.length),¬ keys[k] < key):less keys key = k:=by
 have hl:=ZB keys key;rcases Nat.lt_trichotomy (less keys key) k with h3 | h3 | h3
 ·have:=(YA h key (i:=less keys key) (by omega)).1 (h1 _ h3);omega
 ·exact h3
 ·exact absurd ((YA h key (i:=k) (by omega)).2 h3) (h2 (by omega))
