/-
  Tx. Conditions: as said.
-/
import Derived.Shelf.Spec.SlicesInsertGrow
import Derived.Shelf.Slices.Delete
import Derived.Test.YtafclmbecmgbnaaGreatDoorTa
import Derived.Test.YtafclmbecmgbnaaGreatDoorTm
set_option maxRecDepth 100000
set_option maxHeartbeats 4000000
open Nat renaming le_trans -> ze2,le_refl -> ze3,zero_add -> zfa,lt_of_lt_of_le -> ze1
open List renaming length_append -> zfk,length_take -> zfj,length_drop -> zfr,length_cons -> ze4,getElem?_take -> zgj,getElem?_eq_getElem -> ze7,mem_append -> zfy,mem_of_mem_take -> zfO,mem_cons -> zfU,mem_of_mem_drop -> zfP,ext_getElem? -> zgk,getElem?_append -> zgl,length_set -> zgm,getElem?_drop -> zgn,take_of_length_le -> zfG,drop_of_length_le -> zgo,append_nil -> zgf,length_eq_zero_iff -> zfF
open Prod renaming mk -> zgi
open Array renaming toList_append -> zgp
namespace Go.Proofs.YtafclmbecmgbnaaGreatDoor
section
open Go.Shelf
def zea:Ren:=⟨fun x=>match x with | 21=>143 | 27=>162 | 28=>163 | 35=>176 | 39=>189 | n=>n,fun x=>match x with | 22=>45 | 3=>3 | 4=>4 | 0=>0 | n=>n,fun x=>x⟩
theorem qF:Lays2.n21 Tryz.prog zea where
 mixed:=by kernel_rfl
 f21:=by kernel_rfl
 f27:=by kernel_rfl
 f28:=by kernel_rfl
 f35:=by kernel_rfl
 f39:=by kernel_rfl
 t0:=by kernel_rfl
 a0:=fun _=>by kernel_rfl
 z0:=fun _=>by kernel_rfl
 v0:=fun _=>by kernel_rfl
 t3:=by kernel_rfl
 a3:=fun _=>by kernel_rfl
 z3:=fun _=>by kernel_rfl
 v3:=fun _=>by kernel_rfl
 t4:=by kernel_rfl
 a4:=fun _=>by kernel_rfl
 z4:=fun _=>by kernel_rfl
 v4:=fun _=>by kernel_rfl
 t22:=by kernel_rfl
 a22:=fun _=>by kernel_rfl
 z22:=fun _=>by kernel_rfl
 v22:=fun _=>by kernel_rfl
 i3:=by kernel_rfl
def zeS:Ren:=⟨fun x=>match x with | 22=>144 | 29=>165 | 30=>166 | 36=>177 | 17=>190 | n=>n,fun x=>match x with | 24=>46 | 9=>9 | 3=>3 | 4=>4 | 0=>0 | n=>n,fun x=>x⟩
theorem X1:Lays2.n22 Tryz.prog zeS where
 mixed:=by kernel_rfl
 f17:=by kernel_rfl
 f22:=by kernel_rfl
 f29:=by kernel_rfl
 f30:=by kernel_rfl
 f36:=by kernel_rfl
 t0:=by kernel_rfl
 a0:=fun _=>by kernel_rfl
 z0:=fun _=>by kernel_rfl
 v0:=fun _=>by kernel_rfl
 t3:=by kernel_rfl
 a3:=fun _=>by kernel_rfl
 z3:=fun _=>by kernel_rfl
 v3:=fun _=>by kernel_rfl
 t4:=by kernel_rfl
 a4:=fun _=>by kernel_rfl
 z4:=fun _=>by kernel_rfl
 v4:=fun _=>by kernel_rfl
 t9:=by kernel_rfl
 a9:=fun _=>by kernel_rfl
 z9:=fun _=>by kernel_rfl
 v9:=fun _=>by kernel_rfl
 t24:=by kernel_rfl
 a24:=fun _=>by kernel_rfl
 z24:=fun _=>by kernel_rfl
 v24:=fun _=>by kernel_rfl
 i9:=by kernel_rfl
end
section
open Go.RowKit
def ya (w:World) (g:Nat) (e:TypeId) (l:List Value):Prop:=w.1[g]? = some (.cells ⟨l⟩ e (0,0))
theorem ya.lt {w:World} {g:Nat} {e:TypeId} {l:List Value} (h:ya w g e l):g < w.1.size:=(Array.getElem?_eq_some_iff.1 h).1
theorem ya.cell {w:World} {g:Nat} {e:TypeId} {l:List Value} (h:ya w g e l) (j:Nat):w.cell? ⟨g,j,none⟩ = l[j]?:=by
 unfold ya at h;simp [World.cell?,h]
theorem ya.frozen {w:World} {g:Nat} {e:TypeId} {l:List Value} (h:ya w g e l) (j:Nat):w.frozen? ⟨g,j,none⟩ = false:=by
 unfold ya at h;simp [World.frozen?,h]
theorem ya.shape {w:World} {g:Nat} {e:TypeId} {l:List Value} (h:ya w g e l):w.shape? g = some (e,l.length):=by
 unfold ya at h;simp [World.shape?,h]
theorem ya.keep {w w':World} {g:Nat} {e:TypeId} {l:List Value} (h:ya w g e l) (hb:w'.1[g]? = w.1[g]?):ya w' g e l:=hb.trans h
theorem ya.setCell {w:World} {g:Nat} {e:TypeId} {l:List Value} (h:ya w g e l) (j:Nat) (u:Value):ya (w.setCell ⟨g,j,none⟩ u) g e (l.set j u):=by
 unfold ya at *;rw [heap_setCell_same w g j _ e u h];simp
theorem WL (l:List Value) (o:Nat) (v:Value) (r:List Value) (h:o + (r.length + 1) <= l.length):(l.set o v).take (o + 1) ++ r ++ (l.set o v).drop (o + 1 + r.length) = l.take o ++ (v :: r) ++ l.drop (o + (r.length + 1)):=by
 apply zgk;intro i;simp only [zgl,zfk,zfj,zgm,ze4,zgj,zgn,List.getElem?_set]
 grind
theorem ya.setCells {w:World} {g:Nat} {e:TypeId} {l:List Value} (h:ya w g e l) (o:Nat) (vs:List Value) (ho:o + vs.length <= l.length):ya (w.setCells g o vs) g e (l.take o ++ vs ++ l.drop (o + vs.length)):=by
 induction vs generalizing w l o with
 | nil=>simpa [World.setCells] using h
 | cons v r ih =>
  have h2:=h.setCell o v;have:=ih h2 (o + 1) (by simp at ho ⊢; omega);rw [WL l o v r (by simpa using ho)] at this;exact this
theorem xU {w:World} {b:Nat} {e:TypeId} {g n c:Nat} {xs:List Value} (h:w.ownsRow b e 1 (.slice (some ⟨g,0,none⟩) n c) n xs):∃ l,ya w g e l /\ l.length = c /\ l.take n = xs /\ n <= c /\ c <= maxLen /\ b <= g:=by
 rcases h.2 with ⟨h1,_⟩ | ⟨g',cap,cur,e1,e2,e3,e4,e5,e6,e7⟩
 ·cases h1
 ·cases e1;exact ⟨cur.toList,by unfold ya; rw [e3],by simpa using e6,by simpa using e7,e4,e5,e2⟩
theorem wK {w:World} {b:Nat} {e:TypeId} {g n c:Nat} {xs l:List Value} (h:ya w g e l) (hl:l.length = c) (hx:l.take n = xs) (hn:n <= c) (hc:c <= maxLen) (hb:b <= g):w.ownsRow b e 1 (.slice (some ⟨g,0,none⟩) n c) n xs:=by
 refine ⟨by rw [<- hx,zfj]; omega,.inr ⟨g,c,⟨l⟩,rfl,hb,h,hn,hc,by simpa using hl,by simpa using hx⟩⟩
theorem jQ (w:World) (g o:Nat) (vs:List Value) {i:Nat} (hi:i ≠ g):(w.setCells g o vs).heap[i]? = w.1[i]?:=by
 induction vs generalizing w o with
 | nil=>rfl
 | cons v r ih=>exact (ih (w.setCell ⟨g,o,none⟩ v) (o + 1)).trans (World.heap_setCell_far9 _ _ _ hi)
theorem Wh (w:World) (g o:Nat) (vs:List Value):(w.setCells g o vs).heap.size = w.1.size:=by
 induction vs generalizing w o with
 | nil=>rfl
 | cons v r ih=>exact (ih (w.setCell ⟨g,o,none⟩ v) (o + 1)).trans (World.heap_setCell_size9 _ _ _)
theorem WK (w:World) (g o:Nat) (vs:List Value):(w.setCells g o vs).os = w.os /\ (w.setCells g o vs).tape = w.tape /\ (w.setCells g o vs).output = w.output:=by
 induction vs generalizing w o with
 | nil=>exact ⟨rfl,rfl,rfl⟩
 | cons v r ih=>exact ih (w.setCell ⟨g,o,none⟩ v) (o + 1)
theorem zr.setCells {M:Nat -> Prop} {w w':World} (h:zr M w w') {g:Nat} (hg:M g \/ w.1.size <= g) (o:Nat) (vs:List Value):zr M w (w'.setCells g o vs):=by
 obtain ⟨h1,h2,h3⟩:=WK w' g o vs;refine ⟨h1.trans h.os,h2.trans h.tape,h3.trans h.output,by rw [Wh]; exact h.size,fun k hk=>?_⟩;rw [jQ _ _ _ _ (by rintro rfl; rcases hg with hg | hg; exact hk.2 hg; omega)];exact h.block k hk
theorem zr.drew {M:Nat -> Prop} {w w':World} (h:zr M w w'):zr M w w'.drew:=⟨h.os,h.tape,h.output,h.size,h.block⟩
theorem zr.alloc {M:Nat -> Prop} {w w':World} (h:zr M w w') (o:Obj):zr M w (w'.alloc o) :=
 ⟨h.os,h.tape,h.output,ze2 h.size (by simp),fun k hk=>(by
  have h2:=h.size;have h3:=hk.1;have:(w'.alloc o).heap[k]? = w'.1[k]?:=((Below.refl w'.1.size w').alloc (ze3 _) o).block k (by omega);exact this.trans (h.block k hk))⟩
theorem zr.refl (M:Nat -> Prop) (w:World):zr M w w:=⟨rfl,rfl,rfl,ze3 _,fun _ _=>rfl⟩
structure xb (w:World) (b:Nat) (e:TypeId) (A:Option Addr) (xs:List Value) (en:Ending) (w':World):Prop where
 out:∃ A' c',en = .returned (.slice A' xs.length c') /\ w'.ownsRow b e 1 (.slice A' xs.length c') xs.length xs /\ ∀ a,A' = some a -> A = some a \/ w.1.size <= a.block
 turn:zr (fun k=>∃ a,A = some a /\ a.block = k) w w'
theorem Wi {α:Type} {l vs:List α} {i n m:Nat} (hi:i <= n) (hm:vs.length = m) (hn:n + m <= l.length) :
  ((l.take (i + m) ++ (l.take n).drop i ++ l.drop (i + m + ((l.take n).drop i).length)).take i ++ vs ++ (l.take (i + m) ++ (l.take n).drop i ++ l.drop (i + m + ((l.take n).drop i).length)).drop (i + vs.length)).take (n + m) = (l.take n).take i ++ vs ++ (l.take n).drop i:=by
 apply zgk;intro j;simp only [zgl,zfk,zfj,zfr,zgj,zgn]
 grind
theorem YC {α:Type} {a vs d z:List α} {i m:Nat} (hi:a.length = i) (hm:vs.length = m) (hz:m + d.length <= z.length) :
  (((a ++ z).take i ++ vs ++ (a ++ z).drop (i + vs.length)).take (i + m) ++ d ++ ((a ++ z).take i ++ vs ++ (a ++ z).drop (i + vs.length)).drop (i + m + d.length)).take (i + m + d.length) = a ++ vs ++ d:=by
 apply zgk;intro j;simp only [zgl,zfk,zfj,zfr,zgj,zgn]
 grind
theorem W8 {α:Type} {l vs:List α} {n m:Nat} (hm:vs.length = m) (hn:n + m <= l.length):(l.take n ++ vs ++ l.drop (n + vs.length)).take (n + m) = l.take n ++ vs:=by
 apply zgk;intro j;simp only [zgl,zfk,zfj,zgj,zgn]
 grind
theorem ya.drew {w:World} {g:Nat} {e:TypeId} {l:List Value} (h:ya w g e l):ya w.drew g e l:=h
theorem ya.made (w:World) (a:Array Value) (e:TypeId):ya (w.alloc (.cells a e)) w.1.size e a.toList:=by
 unfold ya World.alloc;simp
theorem zb6 {w:World} {b:Nat} {A:Option Addr} {n c:Nat} {xs vs lv:List Value} (h:w.ownsRow b 3 1 (.slice A n c) n xs) (h1:∀ v ∈ xs,v.oneCell' = true) {i:Nat} (hi:i <= n) {vb voff m vc:Nat} {eV:TypeId} (hm:0 < m) (hvl:vs.length = m)
  (hr:ya w vb eV lv) (hv:∀ j v,vs[j]? = some v -> lv[voff + j]? = some v) (hv1:∀ v ∈ vs,v.oneCell' = true) (hne:∀ a,A = some a -> a.block ≠ vb) (hs:n + m <= 1000) (hb:b <= w.1.size) :
  Calls Tryz.prog 143 #[.slice A n c,.int .i64 (i:Int),.slice (some ⟨vb,voff,none⟩) m vc] w (xb w b 3 A (xs.take i ++ vs ++ xs.drop i)):=by
 have hxl:xs.length = n:=by have:=h.1; omega
 have hlen:(xs.take i ++ vs ++ xs.drop i).length = n + m:=by simp; omega
 have hvs:∀ j v,vs[j]? = some v -> w.cell? ⟨vb,voff + j,none⟩ = some v:=fun j v hj=>by rw [hr.cell]; exact hv j v hj
 have hmx:n + m <= maxLen:=by unfold maxLen; omega
 have hge:∀ c,n + m <= grownCap w (n + m) c 3:=fun c=>grownCap_ge w (n + m) c 3
 have hle:∀ c,grownCap w (n + m) c 3 <= maxLen:=fun c=>grownCap_le_maxLen w (n + m) c 3 hmx
 have hzc:∀ k,(Builtin.zeroCells (Value.int .i64 0).cells k).toList.length = k:=fun k=>by rw [Array.length_toList,size_zeroCells]; simp [Value.cells]
 have hnew:∀ (c':Nat) (l:List Value) (w':World),ya w' w.1.size 3 l -> l.length = c' -> l.take (n + m) = xs.take i ++ vs ++ xs.drop i -> n + m <= c' -> c' <= maxLen -> zr (fun k=>∃ a,A = some a /\ a.block = k) w w' ->
   xb w b 3 A (xs.take i ++ vs ++ xs.drop i) (.returned (.slice (some ⟨w.1.size,0,none⟩) (n + m) c')) w':=fun c' l w' hw hc ht hc1 hc2 htn=>by
  refine ⟨⟨some ⟨w.1.size,0,none⟩,c',by rw [hlen],?_,fun a ha=>.inr (by cases ha; exact ze3 _)⟩,htn⟩;rw [hlen];exact wK hw hc ht hc1 hc2 hb
 have hend:i = n -> ∀ c' ,n + m <= c' -> c' <= maxLen -> xb w b 3 A (xs.take i ++ vs ++ xs.drop i) (.returned (.slice (some ⟨w.1.size,0,none⟩) (n + m) c')) (w.drew.alloc (.cells ((xs ++ vs).toArray ++ Builtin.zeroCells (Value.int .i64 0).cells (c' - (n + m))) 3)):=fun hin c' hc1 hc2=>by
  subst hin;have ht:xs.take i = xs:=zfG (by omega);have hd:xs.drop i = []:=zgo (by omega);refine hnew c' _ _ (ya.made _ _ _) ?_ ?_ hc1 hc2 ((zr.refl _ w).drew.alloc _)
  ·rw [zgp,zfk,hzc]; simp; omega
  ·rw [zgp,ht,hd,zgf,List.take_left' (by simp; omega)]
 rcases h.2 with ⟨h2,h3⟩ | ⟨g,cap,cur,e1,_⟩
 ·simp only [Value.slice.injEq] at h2;obtain ⟨rfl,_,rfl⟩:=h2;subst h3;obtain rfl:i = 0:=by omega
  obtain rfl:=zfF.1 hxl;refine (Any2.slices_Insert_int_end_grow qF none 0 0 vb voff m vc [] vs w hm (ze3 _) (by omega) (by omega) rfl hvl (fun _=>rfl) (fun a ha=>(by cases ha)) hvs hv1).mono ?_;rintro e w' ⟨rfl,rfl⟩;exact hend rfl _ (hge 0) (hle 0)
 ·simp only [Value.slice.injEq] at e1;obtain ⟨rfl,_,rfl⟩:=e1;obtain ⟨l,hrow,hll,hlt,hnc,hcm,hbg⟩:=xU h;have hgv:vb ≠ g:=fun e=>hne _ rfl e.symm
  have hcs:∀ j v,xs[j]? = some v -> w.cell? ⟨g,0 + j,none⟩ = some v:=fun j v hj=>by
   rw [hrow.cell,zfa];rw [<- hlt,zgj] at hj;split at hj
   ·exact hj
   ·cases hj
  have hold:∀ (l2:List Value) (w':World),ya w' g 3 l2 -> l2.length = c -> l2.take (n + m) = xs.take i ++ vs ++ xs.drop i -> n + m <= c -> zr (fun k=>∃ a,some (⟨g,0,none⟩:Addr) = some a /\ a.block = k) w w' ->
    xb w b 3 (some ⟨g,0,none⟩) (xs.take i ++ vs ++ xs.drop i) (.returned (.slice (some ⟨g,0,none⟩) (n + m) c)) w':=fun l2 w' hw hc ht hc1 htn=>by
   refine ⟨⟨some ⟨g,0,none⟩,c,by rw [hlen],?_,fun a ha=>.inl ha⟩,htn⟩;rw [hlen];exact wK hw hc ht hc1 hcm hbg
  by_cases hin:i = n
  ·by_cases hroom:n + m <= c
   ·subst hin;refine (Any2.slices_Insert_int_end_room qF g 0 i c vb voff m vc vs w hm hroom (by unfold maxLen at hcm; omega) hvl (fun j hj=>by rw [hrow.cell,ze7 (by omega)]; rfl) (fun j _=>hrow.frozen _) hvs hv1).mono ?_;rintro e w' ⟨rfl,rfl⟩;have hd:xs.drop i = []:=zgo (by omega);have ht:xs.take i = xs:=zfG (by omega);refine hold _ _ (hrow.setCells (0 + i) vs (by omega)) ?_ ?_ hroom ((zr.refl _ w).setCells (.inl ⟨_,rfl,rfl⟩) _ _)
    ·simp; omega
    ·rw [zfa,W8 hvl (by omega),hlt,hd,ht,zgf]
   ·subst hin;refine (Any2.slices_Insert_int_end_grow qF (some ⟨g,0,none⟩) i c vb voff m vc xs vs w hm hnc (by omega) (by omega) hxl hvl (fun e=>(by cases e)) (fun a ha j v hj=>by cases ha; rw [Addr.add_mid]; exact hcs j v hj) hvs hv1).mono ?_;rintro e w' ⟨rfl,rfl⟩;exact hend rfl _ (hge c) (hle c)
  ·by_cases hroom:n + m <= c
   ·refine (Any2.slices_Insert_int_shift qF g 0 n c i vb voff m vc xs vs w (by omega) hm hroom (by unfold maxLen at hcm; omega) hgv hxl hvl hcs (fun j hj=>by rw [hrow.cell,ze7 (by omega)]; rfl) (fun j _=>hrow.frozen _) hvs h1 hv1 eV 3 lv.length l.length hr.shape hrow.shape (by omega) (hr.frozen _) (hr.frozen _)).mono ?_;rintro e w' ⟨rfl,rfl⟩;have hdl:(xs.drop i).length = n - i:=by rw [zfr]; omega
    have hr1:=hrow.drew.setCells (0 + (i + m)) (xs.drop i) (by rw [hdl]; omega);have hr2:=hr1.setCells (0 + i) vs (by simp; omega);refine hold _ _ hr2 ?_ ?_ hroom ((((zr.refl _ w).drew).setCells (.inl ⟨_,rfl,rfl⟩) _ _).setCells (.inl ⟨_,rfl,rfl⟩) _ _)
    ·simp; omega
    ·have:=Wi (l:=l) (vs:=vs) (i:=i) (n:=n) (m:=m) hi hvl (by omega);rw [hlt] at this;simpa only [zfa] using this
   ·refine (Any2.slices_Insert_int_grow qF g 0 n c i vb voff m vc xs vs w (by omega) hm hnc (by omega) (by omega) hxl hvl hcs hvs h1 hv1).mono ?_;rintro e w' ⟨rfl,rfl⟩;have hdl:(xs.drop i).length = n - i:=by rw [zfr]; omega
    have hal:(xs.take i).length = i:=by rw [zfj]; omega
    obtain ⟨zz,hzz⟩:∃ zz,zz = (Builtin.zeroCells (Value.int .i64 0).cells (n + m - i)).toList ++ (Builtin.zeroCells (Value.int .i64 0).cells (grownCap w (n + m) c 3 - (n + m))).toList:=⟨_,rfl⟩
    have hzl:zz.length = (n + m - i) + (grownCap w (n + m) c 3 - (n + m)):=by rw [hzz,zfk,hzc,hzc]
    have hr0:ya (w.alloc (.cells ((xs.take i).toArray ++ Builtin.zeroCells (Value.int .i64 0).cells (n + m - i) ++ Builtin.zeroCells (Value.int .i64 0).cells (grownCap w (n + m) c 3 - (n + m))) 3)) w.1.size 3 (xs.take i ++ zz):=by
     have:=ya.made w ((xs.take i).toArray ++ Builtin.zeroCells (Value.int .i64 0).cells (n + m - i) ++ Builtin.zeroCells (Value.int .i64 0).cells (grownCap w (n + m) c 3 - (n + m))) 3;rw [hzz,<- List.append_assoc];simpa using this
    have hg:=hge c;have hr1:=hr0.drew.setCells i vs (by rw [zfk,hal,hzl]; omega);have hr2:=hr1.drew.setCells (i + m) (xs.drop i) (by simp [hzl]; omega);refine hnew _ _ _ hr2 ?_ ?_ (hge c) (hle c) ((((zr.refl _ w).alloc _).drew.setCells (.inr (ze3 _)) _ _).drew.setCells (.inr (ze3 _)) _ _)
    ·show _ = grownCap w (n + m) c 3;simp [hzl]; omega
    ·have:=YC (a:=xs.take i) (vs:=vs) (d:=xs.drop i) (z:=zz) (i:=i) (m:=m) hal hvl (by rw [hdl,hzl]; omega)
     rwa [show i + m + (xs.drop i).length = n + m by omega] at this ⊢
theorem zep {w:World} {b:Nat} {A:Option Addr} {n c:Nat} {xs vs lv:List Value} (h:w.ownsRow b 9 1 (.slice A n c) n xs) (h1:∀ v ∈ xs,v.oneCell' = true) {i:Nat} (hi:i <= n) {vb voff m vc:Nat} {eV:TypeId} (hm:0 < m) (hvl:vs.length = m)
  (hr:ya w vb eV lv) (hv:∀ j v,vs[j]? = some v -> lv[voff + j]? = some v) (hv1:∀ v ∈ vs,v.oneCell' = true) (hne:∀ a,A = some a -> a.block ≠ vb) (hs:n + m <= 1000) (hb:b <= w.1.size) :
  Calls Tryz.prog 144 #[.slice A n c,.int .i64 (i:Int),.slice (some ⟨vb,voff,none⟩) m vc] w (xb w b 9 A (xs.take i ++ vs ++ xs.drop i)):=by
 have hxl:xs.length = n:=by have:=h.1; omega
 have hlen:(xs.take i ++ vs ++ xs.drop i).length = n + m:=by simp; omega
 have hvs:∀ j v,vs[j]? = some v -> w.cell? ⟨vb,voff + j,none⟩ = some v:=fun j v hj=>by rw [hr.cell]; exact hv j v hj
 have hmx:n + m <= maxLen:=by unfold maxLen; omega
 have hge:∀ c,n + m <= grownCap w (n + m) c 9:=fun c=>grownCap_ge w (n + m) c 9
 have hle:∀ c,grownCap w (n + m) c 9 <= maxLen:=fun c=>grownCap_le_maxLen w (n + m) c 9 hmx
 have hzc:∀ k,(Builtin.zeroCells (Value.string { data:=#[] }).cells k).toList.length = k:=fun k=>by rw [Array.length_toList,size_zeroCells]; simp [Value.cells]
 have hnew:∀ (c':Nat) (l:List Value) (w':World),ya w' w.1.size 9 l -> l.length = c' -> l.take (n + m) = xs.take i ++ vs ++ xs.drop i -> n + m <= c' -> c' <= maxLen -> zr (fun k=>∃ a,A = some a /\ a.block = k) w w' ->
   xb w b 9 A (xs.take i ++ vs ++ xs.drop i) (.returned (.slice (some ⟨w.1.size,0,none⟩) (n + m) c')) w':=fun c' l w' hw hc ht hc1 hc2 htn=>by
  refine ⟨⟨some ⟨w.1.size,0,none⟩,c',by rw [hlen],?_,fun a ha=>.inr (by cases ha; exact ze3 _)⟩,htn⟩;rw [hlen];exact wK hw hc ht hc1 hc2 hb
 have hend:i = n -> ∀ c' ,n + m <= c' -> c' <= maxLen -> xb w b 9 A (xs.take i ++ vs ++ xs.drop i) (.returned (.slice (some ⟨w.1.size,0,none⟩) (n + m) c')) (w.drew.alloc (.cells ((xs ++ vs).toArray ++ Builtin.zeroCells (Value.string { data:=#[] }).cells (c' - (n + m))) 9)):=fun hin c' hc1 hc2=>by
  subst hin;have ht:xs.take i = xs:=zfG (by omega);have hd:xs.drop i = []:=zgo (by omega);refine hnew c' _ _ (ya.made _ _ _) ?_ ?_ hc1 hc2 ((zr.refl _ w).drew.alloc _)
  ·rw [zgp,zfk,hzc]; simp; omega
  ·rw [zgp,ht,hd,zgf,List.take_left' (by simp; omega)]
 rcases h.2 with ⟨h2,h3⟩ | ⟨g,cap,cur,e1,_⟩
 ·simp only [Value.slice.injEq] at h2;obtain ⟨rfl,_,rfl⟩:=h2;subst h3;obtain rfl:i = 0:=by omega
  obtain rfl:=zfF.1 hxl;refine (Any2.slices_Insert_string_end_grow X1 none 0 0 vb voff m vc [] vs w hm (ze3 _) (by omega) (by omega) rfl hvl (fun _=>rfl) (fun a ha=>(by cases ha)) hvs hv1).mono ?_;rintro e w' ⟨rfl,rfl⟩;exact hend rfl _ (hge 0) (hle 0)
 ·simp only [Value.slice.injEq] at e1;obtain ⟨rfl,_,rfl⟩:=e1;obtain ⟨l,hrow,hll,hlt,hnc,hcm,hbg⟩:=xU h;have hgv:vb ≠ g:=fun e=>hne _ rfl e.symm
  have hcs:∀ j v,xs[j]? = some v -> w.cell? ⟨g,0 + j,none⟩ = some v:=fun j v hj=>by
   rw [hrow.cell,zfa];rw [<- hlt,zgj] at hj;split at hj
   ·exact hj
   ·cases hj
  have hold:∀ (l2:List Value) (w':World),ya w' g 9 l2 -> l2.length = c -> l2.take (n + m) = xs.take i ++ vs ++ xs.drop i -> n + m <= c -> zr (fun k=>∃ a,some (⟨g,0,none⟩:Addr) = some a /\ a.block = k) w w' ->
    xb w b 9 (some ⟨g,0,none⟩) (xs.take i ++ vs ++ xs.drop i) (.returned (.slice (some ⟨g,0,none⟩) (n + m) c)) w':=fun l2 w' hw hc ht hc1 htn=>by
   refine ⟨⟨some ⟨g,0,none⟩,c,by rw [hlen],?_,fun a ha=>.inl ha⟩,htn⟩;rw [hlen];exact wK hw hc ht hc1 hcm hbg
  by_cases hin:i = n
  ·by_cases hroom:n + m <= c
   ·subst hin;refine (Any2.slices_Insert_string_end_room X1 g 0 i c vb voff m vc vs w hm hroom (by unfold maxLen at hcm; omega) hvl (fun j hj=>by rw [hrow.cell,ze7 (by omega)]; rfl) (fun j _=>hrow.frozen _) hvs hv1).mono ?_;rintro e w' ⟨rfl,rfl⟩;have hd:xs.drop i = []:=zgo (by omega);have ht:xs.take i = xs:=zfG (by omega);refine hold _ _ (hrow.setCells (0 + i) vs (by omega)) ?_ ?_ hroom ((zr.refl _ w).setCells (.inl ⟨_,rfl,rfl⟩) _ _)
    ·simp; omega
    ·rw [zfa,W8 hvl (by omega),hlt,hd,ht,zgf]
   ·subst hin;refine (Any2.slices_Insert_string_end_grow X1 (some ⟨g,0,none⟩) i c vb voff m vc xs vs w hm hnc (by omega) (by omega) hxl hvl (fun e=>(by cases e)) (fun a ha j v hj=>by cases ha; rw [Addr.add_mid]; exact hcs j v hj) hvs hv1).mono ?_;rintro e w' ⟨rfl,rfl⟩;exact hend rfl _ (hge c) (hle c)
  ·by_cases hroom:n + m <= c
   ·refine (Any2.slices_Insert_string_shift X1 g 0 n c i vb voff m vc xs vs w (by omega) hm hroom (by unfold maxLen at hcm; omega) hgv hxl hvl hcs (fun j hj=>by rw [hrow.cell,ze7 (by omega)]; rfl) (fun j _=>hrow.frozen _) hvs h1 hv1 eV 9 lv.length l.length hr.shape hrow.shape (by omega) (hr.frozen _) (hr.frozen _)).mono ?_;rintro e w' ⟨rfl,rfl⟩;have hdl:(xs.drop i).length = n - i:=by rw [zfr]; omega
    have hr1:=hrow.drew.setCells (0 + (i + m)) (xs.drop i) (by rw [hdl]; omega);have hr2:=hr1.setCells (0 + i) vs (by simp; omega);refine hold _ _ hr2 ?_ ?_ hroom ((((zr.refl _ w).drew).setCells (.inl ⟨_,rfl,rfl⟩) _ _).setCells (.inl ⟨_,rfl,rfl⟩) _ _)
    ·simp; omega
    ·have:=Wi (l:=l) (vs:=vs) (i:=i) (n:=n) (m:=m) hi hvl (by omega);rw [hlt] at this;simpa only [zfa] using this
   ·refine (Any2.slices_Insert_string_grow X1 g 0 n c i vb voff m vc xs vs w (by omega) hm hnc (by omega) (by omega) hxl hvl hcs hvs h1 hv1).mono ?_;rintro e w' ⟨rfl,rfl⟩;have hdl:(xs.drop i).length = n - i:=by rw [zfr]; omega
    have hal:(xs.take i).length = i:=by rw [zfj]; omega
    obtain ⟨zz,hzz⟩:∃ zz,zz = (Builtin.zeroCells (Value.string { data:=#[] }).cells (n + m - i)).toList ++ (Builtin.zeroCells (Value.string { data:=#[] }).cells (grownCap w (n + m) c 9 - (n + m))).toList:=⟨_,rfl⟩
    have hzl:zz.length = (n + m - i) + (grownCap w (n + m) c 9 - (n + m)):=by rw [hzz,zfk,hzc,hzc]
    have hr0:ya (w.alloc (.cells ((xs.take i).toArray ++ Builtin.zeroCells (Value.string { data:=#[] }).cells (n + m - i) ++ Builtin.zeroCells (Value.string { data:=#[] }).cells (grownCap w (n + m) c 9 - (n + m))) 9)) w.1.size 9 (xs.take i ++ zz):=by
     have:=ya.made w ((xs.take i).toArray ++ Builtin.zeroCells (Value.string { data:=#[] }).cells (n + m - i) ++ Builtin.zeroCells (Value.string { data:=#[] }).cells (grownCap w (n + m) c 9 - (n + m))) 9;rw [hzz,<- List.append_assoc];simpa using this
    have hg:=hge c;have hr1:=hr0.drew.setCells i vs (by rw [zfk,hal,hzl]; omega);have hr2:=hr1.drew.setCells (i + m) (xs.drop i) (by simp [hzl]; omega);refine hnew _ _ _ hr2 ?_ ?_ (hge c) (hle c) ((((zr.refl _ w).alloc _).drew.setCells (.inr (ze3 _)) _ _).drew.setCells (.inr (ze3 _)) _ _)
    ·show _ = grownCap w (n + m) c 9;simp [hzl]; omega
    ·have:=YC (a:=xs.take i) (vs:=vs) (d:=xs.drop i) (z:=zz) (i:=i) (m:=m) hal hvl (by rw [hdl,hzl]; omega)
     rwa [show i + m + (xs.drop i).length = n + m by omega] at this ⊢
end
section
open Go.RowKit
theorem zu {w w':World} {M:Nat -> Prop} {b:Nat} {e:TypeId} {v:Value} {n:Nat} {xs:List Value} (h:w.ownsRow b e 1 v n xs) (ht:zr M w w') (hM:∀ g,v.ownBlock = some g -> ¬ M g):w'.ownsRow b e 1 v n xs :=
 zB h fun g hg=>ht.block g ⟨(h.lt g hg).2,hM g hg⟩
theorem Zg {w w':World} {M:Nat -> Prop} {g:Nat} {e:TypeId} {l:List Value} (h:ya w g e l) (ht:zr M w w') (hM:¬ M g):ya w' g e l:=h.keep (ht.block g ⟨h.lt,hM⟩)
theorem zb.turn {w w':World} {M:Nat -> Prop} {p:Nat} {l:zd} {x:Nd} (h:zb w p l x) (ht:zr M w w') (hM:¬ M p):zb w' p l x:=h.keep (ht.block p ⟨h.lt,hM⟩)
theorem zo.of_own {w:World} {b:Nat} {l:zd} {x:Nd} (k:w.ownsRow b 3 1 (.slice l.A x.keys.length l.ca) x.keys.length (x.keys.map (Value.int .i64)))
  (v:w.ownsRow b 9 1 (.slice l.B x.vals.length l.cb) x.vals.length (x.vals.map Value.string)) (c:w.ownsRow b 3 1 (.slice l.C x.kids.length l.cc) x.kids.length (x.kids.map (Value.int .i64)))
  (akv:∀ a c,l.A = some a -> l.B = some c -> a.block ≠ c.block) (akc:∀ a c,l.A = some a -> l.C = some c -> a.block ≠ c.block) (avc:∀ a c,l.B = some a -> l.C = some c -> a.block ≠ c.block)
  (kl:x.keys.length <= 100) (vl:x.vals.length <= 100) (cl:x.kids.length <= 101)
  (kw:∀ z ∈ x.keys,-9223372036854775808 <= z /\ z <= 9223372036854775807) (vw:∀ v ∈ x.vals,v.size <= maxLen) (cw:∀ z ∈ x.kids,-9223372036854775808 <= z /\ z <= 9223372036854775807):zo w b l x:=by
 obtain ⟨A,ca,e1,h1⟩:=va k;obtain ⟨B,cb,e2,h2⟩:=ZE v;obtain ⟨C,cc,e3,h3⟩:=va c;simp only [Value.slice.injEq] at e1 e2 e3;rw [<- e1.1] at h1;rw [<- e2.1] at h2;rw [<- e3.1] at h3;exact ⟨⟨h1,h2,h3,by unfold maxLen; omega,by unfold maxLen; omega,by unfold maxLen; omega,kw,vw,cw⟩,k,v,c,akv,akc,avc⟩
def XD (w:World) (b:Nat) (l:zd) (x:Nd) (e:Ending) (w':World):Prop :=
 ∃ l',e = .returned (ndV l' x) /\ zo w' b l' x /\ zr l.has w w' /\ ∀ g,l'.has g -> l.has g \/ w.1.size <= g
theorem JT {w:World} {b:Nat} {A:Option Addr} {c:Nat} {zs:List Int} (h:w.ownsRow b 3 1 (.slice A zs.length c) zs.length (zs.map (Value.int .i64))) {i:Nat} (hi:i <= zs.length) {vb:Nat} {z:Int} (hr:ya w vb 3 [.int .i64 z]) (hne:∀ a,A = some a -> a.block ≠ vb) (hs:zs.length <= 900) (hb:b <= w.1.size) :
  Calls Tryz.prog 143 #[.slice A zs.length c,.int .i64 (i:Int),.slice (some ⟨vb,0,none⟩) 1 1] w fun e w'=>∃ A' c',e = .returned (.slice A' (zs.take i ++ z :: zs.drop i).length c') /\
   w'.ownsRow b 3 1 (.slice A' (zs.take i ++ z :: zs.drop i).length c') (zs.take i ++ z :: zs.drop i).length ((zs.take i ++ z :: zs.drop i).map (Value.int .i64)) /\ (∀ a,A' = some a -> A = some a \/ w.1.size <= a.block) /\ zr (fun k=>∃ a,A = some a /\ a.block = k) w w':=by
 have he:(zs.map (Value.int .i64)).take i ++ [.int .i64 z] ++ (zs.map (Value.int .i64)).drop i = (zs.take i ++ z :: zs.drop i).map (Value.int .i64):=by simp [List.map_take,List.map_drop]
 refine (zb6 h (by intro v hv; obtain ⟨y,_,rfl⟩:=List.mem_map.1 hv; rfl) hi (vb:=vb) (voff:=0) (m:=1) (vc:=1) (vs:=[.int .i64 z]) (by decide) rfl hr (by intro j v hj; rwa [zfa]) (by intro v hv; obtain rfl:=List.mem_singleton.1 hv; rfl) hne (by omega) hb).mono ?_;rw [he];rintro e w' ⟨⟨A',c',rfl,h2,h3⟩,h4⟩;rw [List.length_map] at h2 ⊢;exact ⟨A',c',rfl,h2,h3,h4⟩
theorem JV {w:World} {b:Nat} {A:Option Addr} {c:Nat} {zs:List ByteArray} (h:w.ownsRow b 9 1 (.slice A zs.length c) zs.length (zs.map Value.string)) {i:Nat} (hi:i <= zs.length) {vb:Nat} {z:ByteArray} (hr:ya w vb 9 [.string z]) (hne:∀ a,A = some a -> a.block ≠ vb) (hs:zs.length <= 900) (hb:b <= w.1.size) :
  Calls Tryz.prog 144 #[.slice A zs.length c,.int .i64 (i:Int),.slice (some ⟨vb,0,none⟩) 1 1] w fun e w'=>∃ A' c',e = .returned (.slice A' (zs.take i ++ z :: zs.drop i).length c') /\
   w'.ownsRow b 9 1 (.slice A' (zs.take i ++ z :: zs.drop i).length c') (zs.take i ++ z :: zs.drop i).length ((zs.take i ++ z :: zs.drop i).map Value.string) /\ (∀ a,A' = some a -> A = some a \/ w.1.size <= a.block) /\ zr (fun k=>∃ a,A = some a /\ a.block = k) w w':=by
 have he:(zs.map Value.string).take i ++ [.string z] ++ (zs.map Value.string).drop i = (zs.take i ++ z :: zs.drop i).map Value.string:=by simp [List.map_take,List.map_drop]
 refine (zep h (by intro v hv; obtain ⟨y,_,rfl⟩:=List.mem_map.1 hv; rfl) hi (vb:=vb) (voff:=0) (m:=1) (vc:=1) (vs:=[.string z]) (by decide) rfl hr (by intro j v hj; rwa [zfa]) (by intro v hv; obtain rfl:=List.mem_singleton.1 hv; rfl) hne (by omega) hb).mono ?_;rw [he];rintro e w' ⟨⟨A',c',rfl,h2,h3⟩,h4⟩;rw [List.length_map] at h2 ⊢;exact ⟨A',c',rfl,h2,h3,h4⟩
structure YS (w:World) (p r q:Nat) (l:zd) (x:Nd) (key:Int) (val:ByteArray) (wr:World):Prop where
 bx:zb wr p l x
 c0:wr.cell? ⟨r,0,none⟩ = some (.int .i64 key)
 c1:wr.cell? ⟨r,1,none⟩ = some (.string val)
 bq:zb wr q zd.none_ Nd.empty
 fq:∀ j,wr.frozen? ⟨q,j,none⟩ = false
 turn:zr l.has w wr
 lw:∀ g,l.has g -> g < w.1.size
 wp:w.1.size <= p
 wr_:w.1.size <= r
 wq:w.1.size <= q
theorem YS.step {w wr w':World} {p r q:Nat} {l:zd} {x:Nd} {key:Int} {val:ByteArray} {M:Nat -> Prop} (h:YS w p r q l x key val wr) (ht:zr M wr w') (hM:∀ g,M g -> l.has g):YS w p r q l x key val w':=by
 have hn:∀ g,w.1.size <= g -> ¬ M g:=fun g hg hm=>by have:=h.lw g (hM g hm); omega
 have hbr:=ht.block r ⟨zt h.c0,hn r h.wr_⟩;have hbq:=ht.block q ⟨h.bq.lt,hn q h.wq⟩;exact ⟨h.bx.turn ht (hn p h.wp),(World.cell?_of_block (w:=wr) (a:=⟨r,0,none⟩) hbr).trans h.c0,(World.cell?_of_block (w:=wr) (a:=⟨r,1,none⟩) hbr).trans h.c1,h.bq.turn ht (hn q h.wq),fun j=>(World.frozen?_of_block (w:=wr) (a:=⟨q,j,none⟩) hbq).trans (h.fq j),
  h.turn.trans (ht.more fun k _ hk=>.inl (hM k hk)),h.lw,h.wp,h.wr_,h.wq⟩
structure YR (p r:Nat) (l:zd) (x:Nd) (key:Int) (val:ByteArray) (wr:World):Prop where
 bx:zb wr p l x
 c0:wr.cell? ⟨r,0,none⟩ = some (.int .i64 key)
 c1:wr.cell? ⟨r,1,none⟩ = some (.string val)
theorem YS.r {w wr:World} {p r q:Nat} {l:zd} {x:Nd} {key:Int} {val:ByteArray} (h:YS w p r q l x key val wr):YR p r l x key val wr:=⟨h.bx,h.c0,h.c1⟩
theorem YR.keep {w w':World} {p r:Nat} {l:zd} {x:Nd} {key:Int} {val:ByteArray} (h:YR p r l x key val w) (hp:w'.1[p]? = w.1[p]?) (hr:w'.1[r]? = w.1[r]?):YR p r l x key val w' :=
 ⟨h.bx.keep hp,(World.cell?_of_block (w:=w) (a:=⟨r,0,none⟩) hr).trans h.c0,(World.cell?_of_block (w:=w) (a:=⟨r,1,none⟩) hr).trans h.c1⟩
theorem zc2 {w:World} {b:Nat} {l:zd} {x:Nd} (h:zo w b l x) (hb:b <= w.1.size) (hr:zJ x = true) (hlf:x.kids.length = 0) {key:Int} (hk:-9223372036854775808 <= key /\ key <= 9223372036854775807) {val:ByteArray} (hv:val.size <= maxLen) :
  Calls Tryz.prog 107 #[ndV l x,.agg #[.int .i64 key,.string val]] w (XD w b l (jD x key val)):=by
 obtain ⟨h1k,h7,hsh⟩:=zm hr;have hvl:x.vals.length = x.keys.length:=by
  rcases hsh with ⟨_,_,h6⟩ | ⟨_,_,_,_,h8⟩
  ·exact h6
  ·omega
 have hk0:x.kids = []:=zfF.1 hlf;obtain ⟨p,HPP⟩:=hY (w.1.size);obtain ⟨r,HRR⟩:=hY (w.1.size + 1);obtain ⟨q,HQQ⟩:=hY (r + 1);have HPQ:=hI (p ≠ q /\ r ≠ q) (by rw [HQQ.o,HRR.o,HPP.o]; omega);obtain ⟨w1,HW1⟩:=hY (((w.alloc (.cells #[.slice l.A x.keys.length l.ca,.slice l.B x.vals.length l.cb,.slice l.C x.kids.length l.cc] 48)).alloc (.cells #[.int .i64 key,.string val] 97)).alloc (.cells #[.slice none 0 0,.slice none 0 0,.slice none 0 0] 48));have HB1:=hI (Below w.1.size w w1) (by rw [HW1.o]; exact (((Below.refl _ _).alloc (ze3 _) _).alloc (by simp) _).alloc (by simp; omega) _);have HS1:=hI (YS w p r q l x key val w1) (by
  rw [HW1.o,HPP.o,HQQ.o,HRR.o];have hz1:(w.alloc (.cells #[.slice l.A x.keys.length l.ca,.slice l.B x.vals.length l.cb,.slice l.C x.kids.length l.cc] 48)).1.size = w.1.size + 1:=by simp
  have hz2:((w.alloc (.cells #[.slice l.A x.keys.length l.ca,.slice l.B x.vals.length l.cb,.slice l.C x.kids.length l.cc] 48)).alloc (.cells #[.int .i64 key,.string val] 97)).1.size = w.1.size + 1 + 1:=by simp
  have b1:=(Below.refl (w.1.size + 1) (w.alloc (.cells #[.slice l.A x.keys.length l.ca,.slice l.B x.vals.length l.cb,.slice l.C x.kids.length l.cc] 48))).alloc (by rw [hz1]; exact ze3 _) (.cells #[.int .i64 key,.string val] 97);have b2:=(Below.refl (w.1.size + 1 + 1) ((w.alloc (.cells #[.slice l.A x.keys.length l.ca,.slice l.B x.vals.length l.cb,.slice l.C x.kids.length l.cc] 48)).alloc (.cells #[.int .i64 key,.string val] 97))).alloc (by rw [hz2]; exact ze3 _) (.cells #[.slice none 0 0,.slice none 0 0,.slice none 0 0] 48);have e1:=zb.new (w:=w) (l:=l) (x:=x) 48;have e2:=(e1.carry b1 (by omega)).carry b2 (by omega);have e3:∀ j,j < 2 -> ((w.alloc (.cells #[.slice l.A x.keys.length l.ca,.slice l.B x.vals.length l.cb,.slice l.C x.kids.length l.cc] 48)).alloc (.cells #[.int .i64 key,.string val] 97)).cell? ⟨w.1.size + 1,j,none⟩ = (#[.int .i64 key,.string val]:Array Value)[j]?:=fun j _=>by rw [<- hz1]; simp
  have e4:=zb.new (w:=(w.alloc (.cells #[.slice l.A x.keys.length l.ca,.slice l.B x.vals.length l.cb,.slice l.C x.kids.length l.cc] 48)).alloc (.cells #[.int .i64 key,.string val] 97)) (l:=zd.none_) (x:=Nd.empty) 48;have e5:=zU ((w.alloc (.cells #[.slice l.A x.keys.length l.ca,.slice l.B x.vals.length l.cb,.slice l.C x.kids.length l.cc] 48)).alloc (.cells #[.int .i64 key,.string val] 97)) #[.slice none 0 0,.slice none 0 0,.slice none 0 0] 48;rw [hz2] at e4 e5;refine ⟨e2,(b2.cell (p:=⟨w.1.size + 1,0,none⟩) (by show w.1.size + 1 < w.1.size + 1 + 1; omega)).trans (e3 0 (by decide)),(b2.cell (p:=⟨w.1.size + 1,1,none⟩) (by show w.1.size + 1 < w.1.size + 1 + 1; omega)).trans (e3 1 (by decide)),e4,e5,zr.of_below (by rw [<- HW1.o]; exact HB1.o),fun g hg=>(h.lt g hg).2,ze3 _,by omega,by omega⟩)
 have HM1:=hI (zo w1 b l x) (h.carry HB1.o);have HBW:=hI (b <= w.1.size) hb;have HKW:=Hi hk;have HVW:=Hi hv;have HSZ:=hI (x.keys.length <= 7 /\ x.vals.length = x.keys.length /\ x.kids.length = 0 /\ x.kids = []) ⟨h7,hvl,hlf,hk0⟩;obtain ⟨a,HAA⟩:=hY ((yw x key).1);obtain ⟨fd,HFD⟩:=hY ((yw x key).2);have HSE:=hI (yw x key = (less x.keys key,decide (x.keys[less x.keys key]? = some key))) (by unfold yw; rw [if_pos hr]);have HAL:=hI (a <= x.keys.length) (by rw [HAA.o,HSE.o]; exact Zc _ _);have HSK:=Hi (Z0 HM1.o.is key);rw [<- HAA.o,<- HFD.o] at HSK;have HX':=hI (jD x key val = if fd = true then ⟨x.keys,x.vals.set a val,x.kids⟩ else ⟨x.keys.take a ++ key :: x.keys.drop a,x.vals.take a ++ val :: x.vals.drop a,[]⟩) (by rw [HFD.o,HAA.o]; rfl);obtain ⟨x',HXX⟩:∃ x',Hid (x' = jD x key val):=Hy;rw [<- HXX.o] at HX' ⊢;clear h hb hr hlf hk hv h1k h7 hsh hvl hk0 HXX;have c0:=HS1.o.c0
 go_enter Tryz.func107,Tryz.ntmps107
 go_upto_region 1 with (fail)
 rw [<- HW1.o,<- HRR.o,<- HQQ.o,<- HPP.o];clear HW1 HPP HRR HQQ;go_wp2_with (with_reducible refine xD9 (some 8) ?_);refine zf Tryz.ndProg (by rfl) _ rfl p rfl l x HS1.o.bx ?_;go_wp2_with fail;refine HSK.o.mono ?_;rintro e w2 ⟨rfl,hb⟩;have HM2:=Hi (HM1.o.carry hb);have HS2:=hI (YS w p r q l x key val w2) (HS1.o.step (M:=fun _=>False) (zr.of_below hb) (fun _ h=>h.elim));clear hb HSK HS1 HM1 c0;cases fd with
 | true =>
  have HAV:=hI (a < x.vals.length) (by
   have h:=HFD.o;rw [HSE.o] at h;have h2:=of_decide_eq_true h.symm;rw [HSZ.o.2.1];have h3:less x.keys key = a:=by rw [HAA.o,HSE.o]
   rw [h3] at h2;exact (List.getElem?_eq_some_iff.1 h2).1)
  obtain ⟨gv,HGV,hvc,hvm,_,_⟩:=yp HM2.o.v (by have:=HAV.o; omega);have hown:=HM2.o.v;rw [HGV] at hown;obtain ⟨lv,hrow,hll,hlt,_,_,_⟩:=xU hown;have HRO:=Hi hrow;obtain ⟨old,hcv⟩:∃ old,w2.cell? ⟨gv,a,none⟩ = some old:=⟨_,by rw [hrow.cell,ze7 (by have:=HAV.o; omega)]⟩
  have hfv:w2.frozen? ⟨gv,a,none⟩ = false:=hrow.frozen a;have HST:=Hi (hown.stored a (.string val));have hal:(a:Int) < (x.vals.length:Int):=by have:=HAV.o; omega
  have c1:=HS2.o.bx.c1;rw [HGV] at c1;have HGVV:=Hi HGV;have r1:=HS2.o.c1;have hgp:¬ gv = p:=fun e=>by have:=HS2.o.lw gv (.inr (.inl ⟨_,HGVV.o,rfl⟩)); have:=HS2.o.wp; omega
  clear HGV hvc hvm hown hrow hll hlt;go_wp2_with (with_reducible refine xD9 (some 21) ?_);obtain ⟨w3,HW3⟩:=hY (w2.setCell ⟨gv,a,none⟩ (.string val));rw [<- HW3.o];have HT3:=hI (zr l.has w2 w3) (by
   rw [HW3.o];exact (zr.refl _ w2).setCells (g:=gv) (.inl (.inr (.inl ⟨_,HGVV.o,rfl⟩))) a [.string val])
  have HS3:=Hi (HS2.o.step HT3.o (fun _ h=>h));have HV3:=hI (w3.ownsRow b 9 1 (.slice l.B x.vals.length l.cb) x.vals.length ((x.vals.set a val).map Value.string)) (by
   have:=HST.o.1;rw [HW3.o,HGVV.o,List.map_set];exact this)
  have HK3:=hI (w3.ownsRow b 3 1 (.slice l.A x.keys.length l.ca) x.keys.length (x.keys.map (Value.int .i64))) (zu HM2.o.k (M:=fun k=>gv = k) (by
   rw [HW3.o]; exact (zr.refl _ w2).setCells (g:=gv) (.inl rfl) a [.string val]) (fun g hg e=>by
    cases hA:l.A with
    | none=>rw [hA] at hg; cases hg
    | some c=>rw [hA] at hg; cases hg; exact HM2.o.akv c _ hA HGVV.o e.symm))
  have HC3:=hI (w3.ownsRow b 3 1 (.slice l.C x.kids.length l.cc) x.kids.length (x.kids.map (Value.int .i64))) (zu HM2.o.c (M:=fun k=>gv = k) (by
   rw [HW3.o]; exact (zr.refl _ w2).setCells (g:=gv) (.inl rfl) a [.string val]) (fun g hg e=>by
    cases hA:l.C with
    | none=>rw [hA] at hg; cases hg
    | some c=>rw [hA] at hg; cases hg; exact HM2.o.avc _ c HGVV.o hA e))
  have HX3:=hI (x' = ⟨x.keys,x.vals.set a val,x.kids⟩) HX'.o;have HM3:=hI (zo w3 b l x') (by
   rw [HX3.o];refine zo.of_own HK3.o (by rw [show (x.vals.set a val).length = x.vals.length from zgm ..]; exact HV3.o) HC3.o HM2.o.akv HM2.o.akc HM2.o.avc (by show x.keys.length <= 100; have:=HSZ.o.1; omega) ?_ ?_ HM2.o.is.kw ?_ HM2.o.is.cw
   ·show (x.vals.set a val).length <= 100;rw [zgm]; have:=HSZ.o; omega
   ·show x.kids.length <= 101;have:=HSZ.o; omega
   ·intro v hv;rcases List.mem_or_eq_of_mem_set hv with h | h
    ·exact HM2.o.is.vw v h
    ·rw [h]; exact HVW.o)
  clear HST HRO HT3 HS2 HM2 HV3 HK3 HC3 hcv hfv c1 r1 hgp;refine zf Tryz.ndProg (by rfl) _ rfl p rfl l x HS3.o.bx ?_;have HBQ:=Hi HS3.o.bq;have f0:=HS3.o.fq 0;have f1:=HS3.o.fq 1;have f2:=HS3.o.fq 2;have d0:=HBQ.o.c0;have d1:=HBQ.o.c1;have d2:=HBQ.o.c2;obtain ⟨w4,HWw4⟩:=hY (((w3.setCell ⟨q,0,none⟩ (.slice l.A x.keys.length l.ca)).setCell ⟨q,1,none⟩ (.slice l.B x.vals.length l.cb)).setCell ⟨q,2,none⟩ (.slice l.C x.kids.length l.cc));have HSw4:=hI (w4 = zx w3 q l x) HWw4.o;have HXw4:=hI (zb w4 q l x) (by rw [HSw4.o]; exact zC HBQ.o);go_wp2_with fail;rw [<- HWw4.o];refine bodyPost_ret (kS Tryz.ndProg rfl _ _ q l x rfl HXw4.o) rfl ?_;have hnq:¬ l.has q:=fun h=>by have:=HS3.o.lw q h; have:=HS3.o.wq; omega
  refine ⟨l,?_,?_,?_,fun g hg=>.inl hg⟩
  ·rw [HX3.o];show Ending.returned (ndV l x) = .returned (.agg #[.slice l.A x.keys.length l.ca,.slice l.B (x.vals.set a val).length l.cb,.slice l.C x.kids.length l.cc]);rw [zgm]
  ·rw [HSw4.o]; exact vi HM3.o hnq
  ·have h3:=HS3.o.turn;rw [HSw4.o];exact ⟨h3.os,h3.tape,h3.output,by rw [zK]; exact h3.size,fun k hk=>(zj (by have:=HS3.o.wq; omega)).trans (h3.block k hk)⟩
 | false =>
  go_upto_region 5 with (fail)
  refine wp_region_held (S:=fun w9=>YR p r l x key val w9) (by kernel_rfl) ?_;change wpAnyH _ _ _ _ _ _ _ _ w2.drew;obtain ⟨wa,HWA⟩:=hY (w2.drew);rw [<- HWA.o];have hdr:Below w2.1.size w2 wa:=by rw [HWA.o]; exact (Below.refl _ _).drew
  have hS:YS w p r q l x key val wa:=HS2.o.step (M:=fun _=>False) (zr.of_below hdr) (fun _ h=>h.elim);have HKA:=Hi (zu HM2.o.k (M:=fun _=>False) (zr.of_below hdr) (fun _ _ h=>h.elim));have HVA:=Hi (zu HM2.o.v (M:=fun _=>False) (zr.of_below hdr) (fun _ _ h=>h.elim));have HGE:=hI (w.1.size <= wa.1.size) hS.turn.size;have HLW:=hI (∀ g,l.has g -> g < w.1.size) hS.lw;have HNE:=hI (∀ a c,l.A = some a -> l.B = some c -> a.block ≠ c.block) HM2.o.akv;have HIS:=hI (xt w2 l x) HM2.o.is;clear HWA hdr HS2 HM2;obtain ⟨ks,HKS⟩:=hY (x.keys.take a ++ key :: x.keys.drop a);obtain ⟨vs,HVS⟩:=hY (x.vals.take a ++ val :: x.vals.drop a);refine xA9 0 22 (.pointer (some ⟨p,0,none⟩)) hS.r ?_;refine xG9 1 23 (.slice l.A x.keys.length l.ca) rfl (.inl ⟨by rfl,fun _ h=>by have c0:=h.bx.c0; go_simp⟩) hS.r ?_;refine xA9 2 24 (.int .i64 (a:Int)) hS.r ?_;refine xA9 3 25 (.pointer (some ⟨r,0,none⟩)) hS.r ?_;refine xG9 4 26 (.int .i64 key) rfl (.inl ⟨by rfl,fun _ h=>by have c0:=h.c0; go_simp⟩) hS.r ?_;refine xA9 7 29 (.pointer (some ⟨p,1,none⟩)) hS.r ?_;refine xG9 8 30 (.slice l.B x.vals.length l.cb) rfl (.inl ⟨by rfl,fun _ h=>by have c0:=h.bx.c1; go_simp⟩) hS.r ?_;refine xA9 9 31 (.int .i64 (a:Int)) hS.r ?_;refine xA9 10 32 (.pointer (some ⟨r,1,none⟩)) hS.r ?_;refine xG9 11 33 (.string val) rfl (.inl ⟨by rfl,fun _ h=>by have c0:=h.c1; go_simp⟩) hS.r ?_;refine K8 (i:=5) (j:=12) (oi:=⟨some 27,_,_,_,_,_⟩) (oj:=⟨some 34,_,_,_,_,_⟩) rfl rfl (by kernel_rfl) (fun K hK=>?_) (fun K hK=>?_)
  ·go_simp;obtain ⟨v1,Hv1⟩:=hY (wa.1.size);obtain ⟨wb1,HWwb1⟩:=hY (wa.alloc (.cells #[.int .i64 key] 3));rw [<- HWwb1.o,<- Hv1.o];have ht:zr (fun _=>False) wa wb1:=by rw [HWwb1.o]; exact (zr.refl _ _).alloc _
   have HKA:=Hi (zu HKA.o ht (fun _ _ h=>h.elim));have HVA:=Hi (zu HVA.o ht (fun _ _ h=>h.elim));have HR1:=hI (ya wb1 v1 3 [.int .i64 key]) (by rw [HWwb1.o,Hv1.o]; exact ya.made _ _ _);have HGv1:=hI (w.1.size <= v1) (by rw [Hv1.o]; exact hS.turn.size);have hS2:=hS.step ht (fun _ h=>h.elim);have HGE:=Hi (ze2 HGE.o ht.size);clear ht hS HWwb1;refine hK.out _ _ hS2.r ?_;clear hK K;have hS:=hS2;clear hS2;refine K8 (i:=6) (j:=12) (oi:=⟨some 28,_,_,_,_,_⟩) (oj:=⟨some 34,_,_,_,_,_⟩) rfl rfl (by kernel_rfl) (fun K hK=>?_) (fun K hK=>?_)
   ·go_simp;refine (JT HKA.o HAL.o HR1.o (fun c e h=>by have:=HLW.o c.block (.inl ⟨c,e,rfl⟩); have:=HGv1.o; omega) (by have:=HSZ.o.1; omega) (ze2 HBW.o HGE.o)).mono ?_;rintro e wb2 ⟨A2,cA,rfl,hown,hbl,ht⟩;rw [<- HKS.o] at hown ⊢;clear HKA;have HKN:=Hi hown;have HKB:=hI (∀ c,A2 = some c -> (l.A = some c \/ (w.1.size <= c.block /\ q < c.block)) /\ c.block < wb2.1.size) fun c e=>⟨(hbl c e).imp id fun h=>⟨ze2 HGE.o h,ze1 hS.bq.lt h⟩,(hown.lt c.block (by rw [e]; rfl)).2⟩
    have HVA:=Hi (zu HVA.o ht (fun g hg ⟨c,e1,e2⟩=>by cases hB:l.B with | none=>(rw [hB] at hg; cases hg) | some d=>(rw [hB] at hg; cases hg; exact HNE.o c d e1 hB e2)));have hS2:=hS.step ht (fun _ ⟨c,e1,e2⟩=>.inl ⟨c,e1,e2⟩);have HGE:=Hi (ze2 HGE.o ht.size);clear ht hS hown hbl HR1;refine hK.out _ _ hS2.r ?_;clear hK K;have hS:=hS2;clear hS2;refine xJ9 12 (some 34) (fun K hK=>?_);go_simp;obtain ⟨v2,Hv2⟩:=hY (wb2.1.size);obtain ⟨wb3,HWwb3⟩:=hY (wb2.alloc (.cells #[.string val] 9));rw [<- HWwb3.o,<- Hv2.o];have ht:zr (fun _=>False) wb2 wb3:=by rw [HWwb3.o]; exact (zr.refl _ _).alloc _
    have HVA:=Hi (zu HVA.o ht (fun _ _ h=>h.elim));have HKN:=Hi (zu HKN.o ht (fun _ _ h=>h.elim));have HR2:=hI (ya wb3 v2 9 [.string val]) (by rw [HWwb3.o,Hv2.o]; exact ya.made _ _ _);have HGv2:=hI (w.1.size <= v2) (by rw [Hv2.o]; exact hS.turn.size);have hS2:=hS.step ht (fun _ h=>h.elim);have HGE:=Hi (ze2 HGE.o ht.size);clear ht hS HWwb3;refine hK.out _ _ hS2.r ?_;clear hK K;have hS:=hS2;clear hS2;refine xJ9 13 (some 35) (fun K hK=>?_);go_simp;refine (JV HVA.o (by rw [HSZ.o.2.1]; exact HAL.o) HR2.o (fun c e h=>by have:=HLW.o c.block (.inr (.inl ⟨c,e,rfl⟩)); have:=HGv2.o; omega) (by have:=HSZ.o; omega) (ze2 HBW.o HGE.o)).mono ?_;rintro e wb4 ⟨B2,cB,rfl,hown,hbl,ht⟩;rw [<- HVS.o] at hown ⊢;clear HVA;have HVN:=Hi hown;have HKL:=hI (∀ c,A2 = some c -> c.block < wb3.1.size) fun c e=>(HKN.o.lt c.block (by rw [e]; rfl)).2
    have HDD:=hI (∀ c d,A2 = some c -> B2 = some d -> c.block ≠ d.block) (fun c d e1 e2=>by
       rcases hbl d e2 with h1 | h1
       ·rcases (HKB.o c e1).1 with h2 | h2
        ·exact HNE.o c d h2 h1
        ·have:=HLW.o d.block (.inr (.inl ⟨d,h1,rfl⟩)); omega
       ·have:=HKL.o c e1; omega)
    have HVB:=hI (∀ d,B2 = some d -> l.B = some d \/ (w.1.size <= d.block /\ q < d.block)) fun d e=>(hbl d e).imp id fun h=>⟨ze2 HGE.o h,ze1 hS.bq.lt h⟩
    have HKN:=Hi (zu HKN.o ht (fun g hg ⟨d,e1,e2⟩=>by cases hA:A2 with | none=>(rw [hA] at hg; cases hg) | some c=>(rw [hA] at hg; cases hg; rcases (HKB.o c hA).1 with h2 | h2; exact HNE.o c d h2 e1 e2.symm; have:=HLW.o d.block (.inr (.inl ⟨d,e1,rfl⟩)); omega)));have hS2:=hS.step ht (fun _ ⟨c,e1,e2⟩=>.inr (.inl ⟨c,e1,e2⟩));clear ht hS hown hbl HR2;refine hK.out _ _ hS2.r ?_;clear hK K;have hS:=hS2;clear hS2;refine xA9 14 36 (.agg #[.slice A2 ks.length cA,.slice B2 vs.length cB,.slice none 0 0]) hS.r ?_;refine xJ9 15 (none) (fun K hK=>?_);have HBQ:=Hi hS.bq;have f0:=hS.fq 0;have f1:=hS.fq 1;have f2:=hS.fq 2;obtain ⟨x2,HX2⟩:∃ x2:Nd,Hid (x2 = ⟨ks,vs,[]⟩):=Hy;have d0:=HBQ.o.c0;have d1:=HBQ.o.c1;have d2:=HBQ.o.c2;obtain ⟨w4,HWw4⟩:=hY (((wb4.setCell ⟨q,0,none⟩ (.slice A2 ks.length cA)).setCell ⟨q,1,none⟩ (.slice B2 vs.length cB)).setCell ⟨q,2,none⟩ (.slice none 0 0));have HSw4:=hI (w4 = zx wb4 q ⟨A2,B2,none,cA,cB,0⟩ x2) (by rw [HX2.o]; exact HWw4.o);have HXw4:=hI (zb w4 q ⟨A2,B2,none,cA,cB,0⟩ x2) (by rw [HSw4.o]; exact zC HBQ.o);go_simp;rw [<- HWw4.o];have hT4:zr (fun k=>k = q) wb4 w4:=⟨by rw [HSw4.o]; rfl,by rw [HSw4.o]; rfl,by rw [HSw4.o]; rfl,by rw [HSw4.o,zK]; exact ze3 _,fun k hk=>by rw [HSw4.o]; exact zj hk.2⟩
    have HSS:=Hi hS;clear hS;have hpq:p ≠ q /\ r ≠ q:=HPQ.o;have hR4:YR p r l x key val w4:=HSS.o.r.keep (by rw [HSw4.o]; exact zj hpq.1) (by rw [HSw4.o]; exact zj hpq.2);refine hK.out _ _ hR4 ?_;clear hK K;refine wpAnyH_done (by kernel_rfl) ?_ _;go_wp2_with fail;refine bodyPost_ret (kS Tryz.ndProg rfl _ _ q ⟨A2,B2,none,cA,cB,0⟩ x2 rfl HXw4.o) rfl ?_;have hqA:∀ c,A2 = some c -> c.block ≠ q:=fun c e h=>by
     rcases (HKB.o c e).1 with h3 | h3
     ·have:=HLW.o c.block (.inl ⟨c,h3,rfl⟩); have:=HSS.o.wq; omega
     ·have:=h3.2; omega
    have hqB:∀ c,B2 = some c -> c.block ≠ q:=fun c e h=>by
     rcases HVB.o c e with h3 | h3
     ·have:=HLW.o c.block (.inr (.inl ⟨c,h3,rfl⟩)); have:=HSS.o.wq; omega
     ·have:=h3.2; omega
    have hx:x' = x2:=by rw [HX'.o,HX2.o,HKS.o,HVS.o]; rfl
    rw [hx];refine ⟨_,rfl,?_,HSS.o.turn.trans (hT4.more fun k _ hk=>.inr (by rw [hk]; exact HSS.o.wq)),?_⟩
    ·rw [HX2.o];refine zo.of_own (zu HKN.o hT4 ?_) (zu HVN.o hT4 ?_) (World.ownsRow_nil _ _ _ _) HDD.o (fun _ _ _ h=>(by cases h)) (fun _ _ _ h=>(by cases h)) ?_ ?_ (Nat.zero_le _) ?_ ?_ (fun z hz=>(by cases hz))
     ·intro g hg e;cases hA:A2 with
      | none=>rw [hA] at hg; cases hg
      | some c=>rw [hA] at hg; cases hg; exact hqA c hA e
     ·intro g hg e;cases hA:B2 with
      | none=>rw [hA] at hg; cases hg
      | some c=>rw [hA] at hg; cases hg; exact hqB c hA e
     ·show ks.length <= 100;rw [HKS.o]; have:=HSZ.o; have:=HAL.o; simp; omega
     ·show vs.length <= 100;rw [HVS.o]; have:=HSZ.o; have:=HAL.o; simp; omega
     ·intro z hz;have hz2:z ∈ x.keys.take a ++ key :: x.keys.drop a:=by rw [<- HKS.o]; exact hz
      rcases zfy.1 hz2 with h | h
      ·exact HIS.o.kw z (zfO h)
      ·rcases zfU.1 h with h | h
       ·rw [h]; exact HKW.o
       ·exact HIS.o.kw z (zfP h)
     ·intro z hz;have hz2:z ∈ x.vals.take a ++ val :: x.vals.drop a:=by rw [<- HVS.o]; exact hz
      rcases zfy.1 hz2 with h | h
      ·exact HIS.o.vw z (zfO h)
      ·rcases zfU.1 h with h | h
       ·rw [h]; exact HVW.o
       ·exact HIS.o.vw z (zfP h)
    ·rintro g (⟨c,e,rfl⟩ | ⟨c,e,rfl⟩ | ⟨c,e,rfl⟩)
     ·rcases (HKB.o c e).1 with h3 | h3
      ·exact .inl (.inl ⟨c,h3,rfl⟩)
      ·exact .inr h3.1
     ·rcases HVB.o c e with h3 | h3
      ·exact .inl (.inr (.inl ⟨c,h3,rfl⟩))
      ·exact .inr h3.1
     ·cases e
   ·go_simp;obtain ⟨v2,Hv2⟩:=hY (wb1.1.size);obtain ⟨wb2,HWwb2⟩:=hY (wb1.alloc (.cells #[.string val] 9));rw [<- HWwb2.o,<- Hv2.o];have ht:zr (fun _=>False) wb1 wb2:=by rw [HWwb2.o]; exact (zr.refl _ _).alloc _
    have HKA:=Hi (zu HKA.o ht (fun _ _ h=>h.elim));have HVA:=Hi (zu HVA.o ht (fun _ _ h=>h.elim));have HR1:=Hi (Zg HR1.o ht (fun h=>h.elim));have HR2:=hI (ya wb2 v2 9 [.string val]) (by rw [HWwb2.o,Hv2.o]; exact ya.made _ _ _);have HGv2:=hI (w.1.size <= v2) (by rw [Hv2.o]; exact hS.turn.size);have hS2:=hS.step ht (fun _ h=>h.elim);have HGE:=Hi (ze2 HGE.o ht.size);clear ht hS HWwb2;refine hK.out _ _ hS2.r ?_;clear hK K;have hS:=hS2;clear hS2;refine xJ9 6 (some 28) (fun K hK=>?_);go_simp;refine (JT HKA.o HAL.o HR1.o (fun c e h=>by have:=HLW.o c.block (.inl ⟨c,e,rfl⟩); have:=HGv1.o; omega) (by have:=HSZ.o.1; omega) (ze2 HBW.o HGE.o)).mono ?_;rintro e wb3 ⟨A2,cA,rfl,hown,hbl,ht⟩;rw [<- HKS.o] at hown ⊢;clear HKA;have HKN:=Hi hown;have HKB:=hI (∀ c,A2 = some c -> (l.A = some c \/ (w.1.size <= c.block /\ q < c.block)) /\ c.block < wb3.1.size) fun c e=>⟨(hbl c e).imp id fun h=>⟨ze2 HGE.o h,ze1 hS.bq.lt h⟩,(hown.lt c.block (by rw [e]; rfl)).2⟩
    have HVA:=Hi (zu HVA.o ht (fun g hg ⟨c,e1,e2⟩=>by cases hB:l.B with | none=>(rw [hB] at hg; cases hg) | some d=>(rw [hB] at hg; cases hg; exact HNE.o c d e1 hB e2)));have HR2:=Hi (Zg HR2.o ht (fun ⟨c,e1,e2⟩=>by have:=HLW.o c.block (.inl ⟨c,e1,rfl⟩); have:=HGv2.o; omega));have hS2:=hS.step ht (fun _ ⟨c,e1,e2⟩=>.inl ⟨c,e1,e2⟩);have HGE:=Hi (ze2 HGE.o ht.size);clear ht hS hown hbl HR1;refine hK.out _ _ hS2.r ?_;clear hK K;have hS:=hS2;clear hS2;refine xJ9 13 (some 35) (fun K hK=>?_);go_simp;refine (JV HVA.o (by rw [HSZ.o.2.1]; exact HAL.o) HR2.o (fun c e h=>by have:=HLW.o c.block (.inr (.inl ⟨c,e,rfl⟩)); have:=HGv2.o; omega) (by have:=HSZ.o; omega) (ze2 HBW.o HGE.o)).mono ?_;rintro e wb4 ⟨B2,cB,rfl,hown,hbl,ht⟩;rw [<- HVS.o] at hown ⊢;clear HVA;have HVN:=Hi hown;have HKL:=hI (∀ c,A2 = some c -> c.block < wb3.1.size) fun c e=>(HKN.o.lt c.block (by rw [e]; rfl)).2
    have HDD:=hI (∀ c d,A2 = some c -> B2 = some d -> c.block ≠ d.block) (fun c d e1 e2=>by
       rcases hbl d e2 with h1 | h1
       ·rcases (HKB.o c e1).1 with h2 | h2
        ·exact HNE.o c d h2 h1
        ·have:=HLW.o d.block (.inr (.inl ⟨d,h1,rfl⟩)); omega
       ·have:=HKL.o c e1; omega)
    have HVB:=hI (∀ d,B2 = some d -> l.B = some d \/ (w.1.size <= d.block /\ q < d.block)) fun d e=>(hbl d e).imp id fun h=>⟨ze2 HGE.o h,ze1 hS.bq.lt h⟩
    have HKN:=Hi (zu HKN.o ht (fun g hg ⟨d,e1,e2⟩=>by cases hA:A2 with | none=>(rw [hA] at hg; cases hg) | some c=>(rw [hA] at hg; cases hg; rcases (HKB.o c hA).1 with h2 | h2; exact HNE.o c d h2 e1 e2.symm; have:=HLW.o d.block (.inr (.inl ⟨d,e1,rfl⟩)); omega)));have hS2:=hS.step ht (fun _ ⟨c,e1,e2⟩=>.inr (.inl ⟨c,e1,e2⟩));clear ht hS hown hbl HR2;refine hK.out _ _ hS2.r ?_;clear hK K;have hS:=hS2;clear hS2;refine xA9 14 36 (.agg #[.slice A2 ks.length cA,.slice B2 vs.length cB,.slice none 0 0]) hS.r ?_;refine xJ9 15 (none) (fun K hK=>?_);have HBQ:=Hi hS.bq;have f0:=hS.fq 0;have f1:=hS.fq 1;have f2:=hS.fq 2;obtain ⟨x2,HX2⟩:∃ x2:Nd,Hid (x2 = ⟨ks,vs,[]⟩):=Hy;have d0:=HBQ.o.c0;have d1:=HBQ.o.c1;have d2:=HBQ.o.c2;obtain ⟨w4,HWw4⟩:=hY (((wb4.setCell ⟨q,0,none⟩ (.slice A2 ks.length cA)).setCell ⟨q,1,none⟩ (.slice B2 vs.length cB)).setCell ⟨q,2,none⟩ (.slice none 0 0));have HSw4:=hI (w4 = zx wb4 q ⟨A2,B2,none,cA,cB,0⟩ x2) (by rw [HX2.o]; exact HWw4.o);have HXw4:=hI (zb w4 q ⟨A2,B2,none,cA,cB,0⟩ x2) (by rw [HSw4.o]; exact zC HBQ.o);go_simp;rw [<- HWw4.o];have hT4:zr (fun k=>k = q) wb4 w4:=⟨by rw [HSw4.o]; rfl,by rw [HSw4.o]; rfl,by rw [HSw4.o]; rfl,by rw [HSw4.o,zK]; exact ze3 _,fun k hk=>by rw [HSw4.o]; exact zj hk.2⟩
    have HSS:=Hi hS;clear hS;have hpq:p ≠ q /\ r ≠ q:=HPQ.o;have hR4:YR p r l x key val w4:=HSS.o.r.keep (by rw [HSw4.o]; exact zj hpq.1) (by rw [HSw4.o]; exact zj hpq.2);refine hK.out _ _ hR4 ?_;clear hK K;refine wpAnyH_done (by kernel_rfl) ?_ _;go_wp2_with fail;refine bodyPost_ret (kS Tryz.ndProg rfl _ _ q ⟨A2,B2,none,cA,cB,0⟩ x2 rfl HXw4.o) rfl ?_;have hqA:∀ c,A2 = some c -> c.block ≠ q:=fun c e h=>by
     rcases (HKB.o c e).1 with h3 | h3
     ·have:=HLW.o c.block (.inl ⟨c,h3,rfl⟩); have:=HSS.o.wq; omega
     ·have:=h3.2; omega
    have hqB:∀ c,B2 = some c -> c.block ≠ q:=fun c e h=>by
     rcases HVB.o c e with h3 | h3
     ·have:=HLW.o c.block (.inr (.inl ⟨c,h3,rfl⟩)); have:=HSS.o.wq; omega
     ·have:=h3.2; omega
    have hx:x' = x2:=by rw [HX'.o,HX2.o,HKS.o,HVS.o]; rfl
    rw [hx];refine ⟨_,rfl,?_,HSS.o.turn.trans (hT4.more fun k _ hk=>.inr (by rw [hk]; exact HSS.o.wq)),?_⟩
    ·rw [HX2.o];refine zo.of_own (zu HKN.o hT4 ?_) (zu HVN.o hT4 ?_) (World.ownsRow_nil _ _ _ _) HDD.o (fun _ _ _ h=>(by cases h)) (fun _ _ _ h=>(by cases h)) ?_ ?_ (Nat.zero_le _) ?_ ?_ (fun z hz=>(by cases hz))
     ·intro g hg e;cases hA:A2 with
      | none=>rw [hA] at hg; cases hg
      | some c=>rw [hA] at hg; cases hg; exact hqA c hA e
     ·intro g hg e;cases hA:B2 with
      | none=>rw [hA] at hg; cases hg
      | some c=>rw [hA] at hg; cases hg; exact hqB c hA e
     ·show ks.length <= 100;rw [HKS.o]; have:=HSZ.o; have:=HAL.o; simp; omega
     ·show vs.length <= 100;rw [HVS.o]; have:=HSZ.o; have:=HAL.o; simp; omega
     ·intro z hz;have hz2:z ∈ x.keys.take a ++ key :: x.keys.drop a:=by rw [<- HKS.o]; exact hz
      rcases zfy.1 hz2 with h | h
      ·exact HIS.o.kw z (zfO h)
      ·rcases zfU.1 h with h | h
       ·rw [h]; exact HKW.o
       ·exact HIS.o.kw z (zfP h)
     ·intro z hz;have hz2:z ∈ x.vals.take a ++ val :: x.vals.drop a:=by rw [<- HVS.o]; exact hz
      rcases zfy.1 hz2 with h | h
      ·exact HIS.o.vw z (zfO h)
      ·rcases zfU.1 h with h | h
       ·rw [h]; exact HVW.o
       ·exact HIS.o.vw z (zfP h)
    ·rintro g (⟨c,e,rfl⟩ | ⟨c,e,rfl⟩ | ⟨c,e,rfl⟩)
     ·rcases (HKB.o c e).1 with h3 | h3
      ·exact .inl (.inl ⟨c,h3,rfl⟩)
      ·exact .inr h3.1
     ·rcases HVB.o c e with h3 | h3
      ·exact .inl (.inr (.inl ⟨c,h3,rfl⟩))
      ·exact .inr h3.1
     ·cases e
  ·go_simp;obtain ⟨v2,Hv2⟩:=hY (wa.1.size);obtain ⟨wb1,HWwb1⟩:=hY (wa.alloc (.cells #[.string val] 9));rw [<- HWwb1.o,<- Hv2.o];have ht:zr (fun _=>False) wa wb1:=by rw [HWwb1.o]; exact (zr.refl _ _).alloc _
   have HKA:=Hi (zu HKA.o ht (fun _ _ h=>h.elim));have HVA:=Hi (zu HVA.o ht (fun _ _ h=>h.elim));have HR2:=hI (ya wb1 v2 9 [.string val]) (by rw [HWwb1.o,Hv2.o]; exact ya.made _ _ _);have HGv2:=hI (w.1.size <= v2) (by rw [Hv2.o]; exact hS.turn.size);have hS2:=hS.step ht (fun _ h=>h.elim);have HGE:=Hi (ze2 HGE.o ht.size);clear ht hS HWwb1;refine hK.out _ _ hS2.r ?_;clear hK K;have hS:=hS2;clear hS2;refine xJ9 5 (some 27) (fun K hK=>?_);go_simp;obtain ⟨v1,Hv1⟩:=hY (wb1.1.size);obtain ⟨wb2,HWwb2⟩:=hY (wb1.alloc (.cells #[.int .i64 key] 3));rw [<- HWwb2.o,<- Hv1.o];have ht:zr (fun _=>False) wb1 wb2:=by rw [HWwb2.o]; exact (zr.refl _ _).alloc _
   have HKA:=Hi (zu HKA.o ht (fun _ _ h=>h.elim));have HVA:=Hi (zu HVA.o ht (fun _ _ h=>h.elim));have HR2:=Hi (Zg HR2.o ht (fun h=>h.elim));have HR1:=hI (ya wb2 v1 3 [.int .i64 key]) (by rw [HWwb2.o,Hv1.o]; exact ya.made _ _ _);have HGv1:=hI (w.1.size <= v1) (by rw [Hv1.o]; exact hS.turn.size);have hS2:=hS.step ht (fun _ h=>h.elim);have HGE:=Hi (ze2 HGE.o ht.size);clear ht hS HWwb2;refine hK.out _ _ hS2.r ?_;clear hK K;have hS:=hS2;clear hS2;refine xJ9 6 (some 28) (fun K hK=>?_);go_simp;refine (JT HKA.o HAL.o HR1.o (fun c e h=>by have:=HLW.o c.block (.inl ⟨c,e,rfl⟩); have:=HGv1.o; omega) (by have:=HSZ.o.1; omega) (ze2 HBW.o HGE.o)).mono ?_;rintro e wb3 ⟨A2,cA,rfl,hown,hbl,ht⟩;rw [<- HKS.o] at hown ⊢;clear HKA;have HKN:=Hi hown;have HKB:=hI (∀ c,A2 = some c -> (l.A = some c \/ (w.1.size <= c.block /\ q < c.block)) /\ c.block < wb3.1.size) fun c e=>⟨(hbl c e).imp id fun h=>⟨ze2 HGE.o h,ze1 hS.bq.lt h⟩,(hown.lt c.block (by rw [e]; rfl)).2⟩
   have HVA:=Hi (zu HVA.o ht (fun g hg ⟨c,e1,e2⟩=>by cases hB:l.B with | none=>(rw [hB] at hg; cases hg) | some d=>(rw [hB] at hg; cases hg; exact HNE.o c d e1 hB e2)));have HR2:=Hi (Zg HR2.o ht (fun ⟨c,e1,e2⟩=>by have:=HLW.o c.block (.inl ⟨c,e1,rfl⟩); have:=HGv2.o; omega));have hS2:=hS.step ht (fun _ ⟨c,e1,e2⟩=>.inl ⟨c,e1,e2⟩);have HGE:=Hi (ze2 HGE.o ht.size);clear ht hS hown hbl HR1;refine hK.out _ _ hS2.r ?_;clear hK K;have hS:=hS2;clear hS2;refine xJ9 13 (some 35) (fun K hK=>?_);go_simp;refine (JV HVA.o (by rw [HSZ.o.2.1]; exact HAL.o) HR2.o (fun c e h=>by have:=HLW.o c.block (.inr (.inl ⟨c,e,rfl⟩)); have:=HGv2.o; omega) (by have:=HSZ.o; omega) (ze2 HBW.o HGE.o)).mono ?_;rintro e wb4 ⟨B2,cB,rfl,hown,hbl,ht⟩;rw [<- HVS.o] at hown ⊢;clear HVA;have HVN:=Hi hown;have HKL:=hI (∀ c,A2 = some c -> c.block < wb3.1.size) fun c e=>(HKN.o.lt c.block (by rw [e]; rfl)).2
   have HDD:=hI (∀ c d,A2 = some c -> B2 = some d -> c.block ≠ d.block) (fun c d e1 e2=>by
      rcases hbl d e2 with h1 | h1
      ·rcases (HKB.o c e1).1 with h2 | h2
       ·exact HNE.o c d h2 h1
       ·have:=HLW.o d.block (.inr (.inl ⟨d,h1,rfl⟩)); omega
      ·have:=HKL.o c e1; omega)
   have HVB:=hI (∀ d,B2 = some d -> l.B = some d \/ (w.1.size <= d.block /\ q < d.block)) fun d e=>(hbl d e).imp id fun h=>⟨ze2 HGE.o h,ze1 hS.bq.lt h⟩
   have HKN:=Hi (zu HKN.o ht (fun g hg ⟨d,e1,e2⟩=>by cases hA:A2 with | none=>(rw [hA] at hg; cases hg) | some c=>(rw [hA] at hg; cases hg; rcases (HKB.o c hA).1 with h2 | h2; exact HNE.o c d h2 e1 e2.symm; have:=HLW.o d.block (.inr (.inl ⟨d,e1,rfl⟩)); omega)));have hS2:=hS.step ht (fun _ ⟨c,e1,e2⟩=>.inr (.inl ⟨c,e1,e2⟩));clear ht hS hown hbl HR2;refine hK.out _ _ hS2.r ?_;clear hK K;have hS:=hS2;clear hS2;refine xA9 14 36 (.agg #[.slice A2 ks.length cA,.slice B2 vs.length cB,.slice none 0 0]) hS.r ?_;refine xJ9 15 (none) (fun K hK=>?_);have HBQ:=Hi hS.bq;have f0:=hS.fq 0;have f1:=hS.fq 1;have f2:=hS.fq 2;obtain ⟨x2,HX2⟩:∃ x2:Nd,Hid (x2 = ⟨ks,vs,[]⟩):=Hy;have d0:=HBQ.o.c0;have d1:=HBQ.o.c1;have d2:=HBQ.o.c2;obtain ⟨w4,HWw4⟩:=hY (((wb4.setCell ⟨q,0,none⟩ (.slice A2 ks.length cA)).setCell ⟨q,1,none⟩ (.slice B2 vs.length cB)).setCell ⟨q,2,none⟩ (.slice none 0 0));have HSw4:=hI (w4 = zx wb4 q ⟨A2,B2,none,cA,cB,0⟩ x2) (by rw [HX2.o]; exact HWw4.o);have HXw4:=hI (zb w4 q ⟨A2,B2,none,cA,cB,0⟩ x2) (by rw [HSw4.o]; exact zC HBQ.o);go_simp;rw [<- HWw4.o];have hT4:zr (fun k=>k = q) wb4 w4:=⟨by rw [HSw4.o]; rfl,by rw [HSw4.o]; rfl,by rw [HSw4.o]; rfl,by rw [HSw4.o,zK]; exact ze3 _,fun k hk=>by rw [HSw4.o]; exact zj hk.2⟩
   have HSS:=Hi hS;clear hS;have hpq:p ≠ q /\ r ≠ q:=HPQ.o;have hR4:YR p r l x key val w4:=HSS.o.r.keep (by rw [HSw4.o]; exact zj hpq.1) (by rw [HSw4.o]; exact zj hpq.2);refine hK.out _ _ hR4 ?_;clear hK K;refine wpAnyH_done (by kernel_rfl) ?_ _;go_wp2_with fail;refine bodyPost_ret (kS Tryz.ndProg rfl _ _ q ⟨A2,B2,none,cA,cB,0⟩ x2 rfl HXw4.o) rfl ?_;have hqA:∀ c,A2 = some c -> c.block ≠ q:=fun c e h=>by
    rcases (HKB.o c e).1 with h3 | h3
    ·have:=HLW.o c.block (.inl ⟨c,h3,rfl⟩); have:=HSS.o.wq; omega
    ·have:=h3.2; omega
   have hqB:∀ c,B2 = some c -> c.block ≠ q:=fun c e h=>by
    rcases HVB.o c e with h3 | h3
    ·have:=HLW.o c.block (.inr (.inl ⟨c,h3,rfl⟩)); have:=HSS.o.wq; omega
    ·have:=h3.2; omega
   have hx:x' = x2:=by rw [HX'.o,HX2.o,HKS.o,HVS.o]; rfl
   rw [hx];refine ⟨_,rfl,?_,HSS.o.turn.trans (hT4.more fun k _ hk=>.inr (by rw [hk]; exact HSS.o.wq)),?_⟩
   ·rw [HX2.o];refine zo.of_own (zu HKN.o hT4 ?_) (zu HVN.o hT4 ?_) (World.ownsRow_nil _ _ _ _) HDD.o (fun _ _ _ h=>(by cases h)) (fun _ _ _ h=>(by cases h)) ?_ ?_ (Nat.zero_le _) ?_ ?_ (fun z hz=>(by cases hz))
    ·intro g hg e;cases hA:A2 with
     | none=>rw [hA] at hg; cases hg
     | some c=>rw [hA] at hg; cases hg; exact hqA c hA e
    ·intro g hg e;cases hA:B2 with
     | none=>rw [hA] at hg; cases hg
     | some c=>rw [hA] at hg; cases hg; exact hqB c hA e
    ·show ks.length <= 100;rw [HKS.o]; have:=HSZ.o; have:=HAL.o; simp; omega
    ·show vs.length <= 100;rw [HVS.o]; have:=HSZ.o; have:=HAL.o; simp; omega
    ·intro z hz;have hz2:z ∈ x.keys.take a ++ key :: x.keys.drop a:=by rw [<- HKS.o]; exact hz
     rcases zfy.1 hz2 with h | h
     ·exact HIS.o.kw z (zfO h)
     ·rcases zfU.1 h with h | h
      ·rw [h]; exact HKW.o
      ·exact HIS.o.kw z (zfP h)
    ·intro z hz;have hz2:z ∈ x.vals.take a ++ val :: x.vals.drop a:=by rw [<- HVS.o]; exact hz
     rcases zfy.1 hz2 with h | h
     ·exact HIS.o.vw z (zfO h)
     ·rcases zfU.1 h with h | h
      ·rw [h]; exact HVW.o
      ·exact HIS.o.vw z (zfP h)
   ·rintro g (⟨c,e,rfl⟩ | ⟨c,e,rfl⟩ | ⟨c,e,rfl⟩)
    ·rcases (HKB.o c e).1 with h3 | h3
     ·exact .inl (.inl ⟨c,h3,rfl⟩)
     ·exact .inr h3.1
    ·rcases HVB.o c e with h3 | h3
     ·exact .inl (.inr (.inl ⟨c,h3,rfl⟩))
     ·exact .inr h3.1
    ·cases e
end
section
open Go.RowKit
theorem Jb {x:Nd} (hr:zJ x = true) (hlf:x.kids.length = 0) (key:Int) (val:ByteArray):xB (jD x key val):=by
 obtain ⟨h1,h7,h3⟩:=zm hr;have hv:=(yc hr).leaf hlf;unfold jD;split
 ·exact ⟨fun _=>by simp [hv],fun h=>absurd hlf h,by show x.keys.length <= 100; omega⟩
 ·refine ⟨fun _=>?_,fun h=>absurd rfl h,?_⟩
  ·simp only [zfk,zfj,ze4,zfr]; omega
  ·simp only [zfk,zfj,ze4,zfr]; omega
theorem X7 (x:Nd):(yq x).1.length = (yq x).2.length + 1:=by
 unfold yq;split
 ·rfl
 ·split
  ·simp only [ze4,List.length_nil,zfj,zfr]; omega
  ·simp only [ze4,List.length_nil,zfj,zfr]; omega
theorem wV (x:Nd):(yq x).2.length <= 1:=by
 have h1:=X7 x;have h2:=ZF x;omega
theorem XK (n:Nat) (l:List Nd):∀ {S S1:TS} {ks:List Int},zT n S l = (.ok ks,S1) -> ks.length = l.length:=by
 induction l with
 | nil=>intro S S1 ks h; simp only [zT,zgi.injEq,Except.ok.injEq] at h; rw [<- h.1]; rfl
 | cons y l ih =>
  intro S S1 ks h;unfold zT at h;cases ha:xA n S y with
  | mk o S2 =>
   rw [ha] at h;cases o with
   | error c=>simp only [zgi.injEq] at h; cases h.1
   | ok k =>
    simp only at h;cases hb:zT n S2 l with
    | mk o2 S3 =>
     rw [hb] at h;cases o2 with
     | error c=>simp only [zgi.injEq] at h; cases h.1
     | ok ks2 =>
      simp only [zgi.injEq,Except.ok.injEq] at h;rw [<- h.1,ze4,ze4,ih hb]
theorem kh {n:Nat} {S S1:TS} {x:Nd} {old bk ks:List Int} (h:yo n S x old = (.ok (bk,ks),S1)):bk = (yq x).2 /\ ks.length = bk.length + 1:=by
 unfold yo at h;cases ha:zT n S (yq x).1 with
 | mk o S2 =>
  rw [ha] at h;cases o with
  | error c=>simp only [zgi.injEq] at h; cases h.1
  | ok ks2 =>
   simp only at h;cases hb:yj S2 old with
   | mk c S3 =>
    rw [hb] at h;simp only at h;split at h
    ·simp only [zgi.injEq,Except.ok.injEq] at h;obtain ⟨⟨rfl,rfl⟩,_⟩:=h;exact ⟨rfl,by rw [XK n _ ha,X7]⟩
    ·simp only [zgi.injEq] at h; cases h.1
theorem vx {n:Nat} {S S1:TS} {x y z:Nd} {at_ many:Nat} (hr:zJ x = true) (hk:x.kids.length ≠ 0) (hm:1 <= many) (hat:at_ + many <= x.kids.length) (h:zQ n S x at_ many y = (.ok z,S1)):xB z:=by
 have h1:=(yc hr).inner hk;have h7:=(zm hr).2.1;unfold zQ at h;cases hc:yo n S y ((x.kids.drop at_).take many) with
 | mk o S2 =>
  rw [hc] at h;cases o with
  | error c=>simp only [zgi.injEq] at h; cases h.1
  | ok r =>
   obtain ⟨bk,ks⟩:=r;simp only [zgi.injEq,Except.ok.injEq] at h;obtain ⟨rfl,_⟩:=h;obtain ⟨h2,h3⟩:=kh hc;have h4:=wV y;rw [<- h2] at h4;refine ⟨fun h0=>?_,fun _=>⟨rfl,?_⟩,?_⟩
   ·simp only [zfk,zfj,zfr] at h0; omega
   ·simp only [zfk,zfj,zfr]; omega
   ·simp only [zfk,zfj,zfr]; omega
theorem X9 {n:Nat} {key:Int} {val:ByteArray} (f:Nat):∀ {S S1:TS} {i:Int} {z:Nd},kQ n f S i key val = (.ok z,S1) -> xB z:=by
 induction f with
 | zero=>intro S S1 i z h; simp only [kQ,zgi.injEq] at h; cases h.1
 | succ f ih =>
  intro S S1 i z h;unfold kQ at h;cases hl:yk S i (12 - f:Int) with
  | error c=>rw [hl] at h; simp only [zgi.injEq] at h; cases h.1
  | ok x =>
   rw [hl] at h;simp only at h;have hr:=xn hl;split at h
   ·rename_i h0
    simp only [zgi.injEq,Except.ok.injEq] at h;rw [<- h.1];exact Jb hr h0 _ _
   ·rename_i h0
    split at h
    ·simp only [zgi.injEq] at h; cases h.1
    ·rename_i kid S2 hp
     exact vx hr h0 (ze3 _) (kI hr h0 key) h
theorem J1 (f:Int -> Int -> Int -> Except Int (List (Int × ByteArray))) (x:Nd) (a b:Int) (l:List Int):∀ {i:Nat} {m:List (Int × ByteArray)} (k:Int),xG f x a b i l = .ok m -> xG f x a b i (l ++ [k]) =
  if jk x (i + l.length) a < xZ x (i + l.length) b then (match f k (jk x (i + l.length) a) (xZ x (i + l.length) b) with | .error c=>.error c | .ok m2=>.ok (m ++ m2)) else .ok m:=by
 induction l with
 | nil =>
  intro i m k h;simp only [xG,Except.ok.injEq] at h;subst h;simp only [List.nil_append,xG,List.length_nil,Nat.add_zero];split
  ·cases f k (jk x i a) (xZ x i b) with
   | error c=>rfl
   | ok m2=>simp
  ·rfl
 | cons y l ih =>
  intro i m k h;simp only [xG] at h;simp only [List.cons_append,xG,ze4];rw [show i + (l.length + 1) = i + 1 + l.length by omega];split at h
  ·rename_i hc
   rw [if_pos hc];cases hf:f y (jk x i a) (xZ x i b) with
   | error c=>rw [hf] at h; cases h
   | ok m1 =>
    rw [hf] at h;simp only at h ⊢;cases hk:xG f x a b (i + 1) l with
    | error c=>rw [hk] at h; cases h
    | ok m2 =>
     rw [hk] at h;simp only [Except.ok.injEq] at h;subst h;rw [ih k hk];by_cases hc2:jk x (i + 1 + l.length) a < xZ x (i + 1 + l.length) b
     ·rw [if_pos hc2,if_pos hc2];cases f k (jk x (i + 1 + l.length) a) (xZ x (i + 1 + l.length) b) with
      | error c=>rfl
      | ok m3=>simp
     ·rw [if_neg hc2,if_neg hc2]
  ·rename_i hc
   rw [if_neg hc];exact ih k h
theorem J2 (f:Int -> Int -> Int -> Except Int (List (Int × ByteArray))) (x:Nd) (a b:Int) (l:List Int):∀ {i:Nat} {c:Int} (r:List Int),xG f x a b i l = .error c -> xG f x a b i (l ++ r) = .error c:=by
 induction l with
 | nil=>intro i c r h; simp [xG] at h
 | cons y l ih =>
  intro i c r h;simp only [xG] at h;simp only [List.cons_append,xG];split at h
  ·rename_i hc
   rw [if_pos hc];cases hf:f y (jk x i a) (xZ x i b) with
   | error c2=>rw [hf] at h; exact h
   | ok m1 =>
    rw [hf] at h;simp only at h ⊢;cases hk:xG f x a b (i + 1) l with
    | error c2=>rw [hk] at h; simp only at h; rw [ih r hk]; exact h
    | ok m2=>rw [hk] at h; cases h
  ·rename_i hc
   rw [if_neg hc];exact ih r h
theorem zaG {keys:List Int} {vals:List ByteArray} {i:Nat} (hk:i < keys.length) (hv:i < vals.length) (p:Int × ByteArray -> Bool):((keys.zip vals).take (i + 1)).filter p = ((keys.zip vals).take i).filter p ++ if p (keys[i],vals[i]) = true then [(keys[i],vals[i])] else []:=by
 have hz:i < (keys.zip vals).length:=by rw [List.length_zip]; omega
 rw [List.take_add_one,ze7 hz,List.filter_append,List.getElem_zip];congr 1;simp only [Option.toList,List.filter_cons,List.filter_nil]
end
