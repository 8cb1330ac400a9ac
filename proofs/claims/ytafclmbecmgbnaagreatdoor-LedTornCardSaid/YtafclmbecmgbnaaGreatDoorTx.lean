/-
  Tx. Conditions: as said.
-/
import Derived.Shelf.Spec.SlicesInsertGrow
import Derived.Shelf.Slices.Delete
import Derived.Test.YtafclmbecmgbnaaGreatDoorTa
import Derived.Test.YtafclmbecmgbnaaGreatDoorTm
set_option maxRecDepth 100000
set_option maxHeartbeats 4000000
open Nat renaming le_trans -> zfH,le_refl -> zfI,zero_add -> zfP,lt_of_lt_of_le -> zfG
open List renaming length_append -> zf0,length_take -> zfZ,length_drop -> zf8,length_cons -> zfJ,getElem?_take -> zgZ,getElem?_eq_getElem -> zfM,mem_append -> zgf,mem_of_mem_take -> zgu,mem_cons -> zgz,mem_of_mem_drop -> zgv,ext_getElem? -> zg0,getElem?_append -> zg1,length_set -> zg2,getElem?_drop -> zg3,take_of_length_le -> zgm,drop_of_length_le -> zg4,append_nil -> zgx,length_eq_zero_iff -> zgl
open Prod renaming mk -> zgY
open Array renaming toList_append -> zg5
namespace Go.Proofs.YtafclmbecmgbnaaGreatDoor
section
open Go.Shelf
def zeP:Ren:=⟨fun x=>match x with | 21=>143 | 27=>162 | 28=>163 | 35=>176 | 39=>189 | n=>n,fun x=>match x with | 22=>45 | 3=>3 | 4=>4 | 0=>0 | n=>n,fun x=>x⟩
theorem Zf:Lays2.n21 Tryz.prog zeP where
 mixed:=by kernel_rfl
 f21:=by kernel_rfl
 f27:=by kernel_rfl
 f28:=by kernel_rfl
 f35:=by kernel_rfl
 f39:=by kernel_rfl
 t0:=by kernel_rfl
 a0:=fun _=>by kernel_rfl
 z0:=fun _=>by kernel_rfl
 v0:=fun _=>by kernel_rfl
 t3:=by kernel_rfl
 a3:=fun _=>by kernel_rfl
 z3:=fun _=>by kernel_rfl
 v3:=fun _=>by kernel_rfl
 t4:=by kernel_rfl
 a4:=fun _=>by kernel_rfl
 z4:=fun _=>by kernel_rfl
 v4:=fun _=>by kernel_rfl
 t22:=by kernel_rfl
 a22:=fun _=>by kernel_rfl
 z22:=fun _=>by kernel_rfl
 v22:=fun _=>by kernel_rfl
 i3:=by kernel_rfl
def zfy:Ren:=⟨fun x=>match x with | 22=>144 | 29=>165 | 30=>166 | 36=>177 | 17=>190 | n=>n,fun x=>match x with | 24=>46 | 9=>9 | 3=>3 | 4=>4 | 0=>0 | n=>n,fun x=>x⟩
theorem Wz:Lays2.n22 Tryz.prog zfy where
 mixed:=by kernel_rfl
 f17:=by kernel_rfl
 f22:=by kernel_rfl
 f29:=by kernel_rfl
 f30:=by kernel_rfl
 f36:=by kernel_rfl
 t0:=by kernel_rfl
 a0:=fun _=>by kernel_rfl
 z0:=fun _=>by kernel_rfl
 v0:=fun _=>by kernel_rfl
 t3:=by kernel_rfl
 a3:=fun _=>by kernel_rfl
 z3:=fun _=>by kernel_rfl
 v3:=fun _=>by kernel_rfl
 t4:=by kernel_rfl
 a4:=fun _=>by kernel_rfl
 z4:=fun _=>by kernel_rfl
 v4:=fun _=>by kernel_rfl
 t9:=by kernel_rfl
 a9:=fun _=>by kernel_rfl
 z9:=fun _=>by kernel_rfl
 v9:=fun _=>by kernel_rfl
 t24:=by kernel_rfl
 a24:=fun _=>by kernel_rfl
 z24:=fun _=>by kernel_rfl
 v24:=fun _=>by kernel_rfl
 i9:=by kernel_rfl
end
section
open Go.RowKit
def yf (w:World) (g:Nat) (e:TypeId) (l:List Value):Prop:=w.1[g]? = some (.cells ⟨l⟩ e (0,0))
theorem yf.lt {w:World} {g:Nat} {e:TypeId} {l:List Value} (h:yf w g e l):g < w.1.size:=(Array.getElem?_eq_some_iff.1 h).1
theorem yf.cell {w:World} {g:Nat} {e:TypeId} {l:List Value} (h:yf w g e l) (j:Nat):w.cell? ⟨g,j,none⟩ = l[j]?:=by
 unfold yf at h;simp [World.cell?,h]
theorem yf.frozen {w:World} {g:Nat} {e:TypeId} {l:List Value} (h:yf w g e l) (j:Nat):w.frozen? ⟨g,j,none⟩ = false:=by
 unfold yf at h;simp [World.frozen?,h]
theorem yf.shape {w:World} {g:Nat} {e:TypeId} {l:List Value} (h:yf w g e l):w.shape? g = some (e,l.length):=by
 unfold yf at h;simp [World.shape?,h]
theorem yf.keep {w w':World} {g:Nat} {e:TypeId} {l:List Value} (h:yf w g e l) (hb:w'.1[g]? = w.1[g]?):yf w' g e l:=hb.trans h
theorem yf.setCell {w:World} {g:Nat} {e:TypeId} {l:List Value} (h:yf w g e l) (j:Nat) (u:Value):yf (w.setCell ⟨g,j,none⟩ u) g e (l.set j u):=by
 unfold yf at *;rw [heap_setCell_same w g j _ e u h];simp
theorem Vj (l:List Value) (o:Nat) (v:Value) (r:List Value) (h:o + (r.length + 1) <= l.length):(l.set o v).take (o + 1) ++ r ++ (l.set o v).drop (o + 1 + r.length) = l.take o ++ (v :: r) ++ l.drop (o + (r.length + 1)):=by
 apply zg0;intro i;simp only [zg1,zf0,zfZ,zg2,zfJ,zgZ,zg3,List.getElem?_set]
 grind
theorem yf.setCells {w:World} {g:Nat} {e:TypeId} {l:List Value} (h:yf w g e l) (o:Nat) (vs:List Value) (ho:o + vs.length <= l.length):yf (w.setCells g o vs) g e (l.take o ++ vs ++ l.drop (o + vs.length)):=by
 induction vs generalizing w l o with
 | nil=>simpa [World.setCells] using h
 | cons v r ih =>
  have h2:=h.setCell o v;have:=ih h2 (o + 1) (by simp at ho ⊢; omega);rw [Vj l o v r (by simpa using ho)] at this;exact this
theorem wC {w:World} {b:Nat} {e:TypeId} {g n c:Nat} {xs:List Value} (h:w.ownsRow b e 1 (.slice (some ⟨g,0,none⟩) n c) n xs):∃ l,yf w g e l /\ l.length = c /\ l.take n = xs /\ n <= c /\ c <= maxLen /\ b <= g:=by
 rcases h.2 with ⟨h1,_⟩ | ⟨g',cap,cur,e1,e2,e3,e4,e5,e6,e7⟩
 ·cases h1
 ·cases e1;exact ⟨cur.toList,by unfold yf; rw [e3],by simpa using e6,by simpa using e7,e4,e5,e2⟩
theorem wV {w:World} {b:Nat} {e:TypeId} {g n c:Nat} {xs l:List Value} (h:yf w g e l) (hl:l.length = c) (hx:l.take n = xs) (hn:n <= c) (hc:c <= maxLen) (hb:b <= g):w.ownsRow b e 1 (.slice (some ⟨g,0,none⟩) n c) n xs:=by
 refine ⟨by rw [<- hx,zfZ]; omega,.inr ⟨g,c,⟨l⟩,rfl,hb,h,hn,hc,by simpa using hl,by simpa using hx⟩⟩
theorem qz (w:World) (g o:Nat) (vs:List Value) {i:Nat} (hi:i ≠ g):(w.setCells g o vs).heap[i]? = w.1[i]?:=by
 induction vs generalizing w o with
 | nil=>rfl
 | cons v r ih=>exact (ih (w.setCell ⟨g,o,none⟩ v) (o + 1)).trans (World.heap_setCell_far9 _ _ _ hi)
theorem WP (w:World) (g o:Nat) (vs:List Value):(w.setCells g o vs).heap.size = w.1.size:=by
 induction vs generalizing w o with
 | nil=>rfl
 | cons v r ih=>exact (ih (w.setCell ⟨g,o,none⟩ v) (o + 1)).trans (World.heap_setCell_size9 _ _ _)
theorem Vi (w:World) (g o:Nat) (vs:List Value):(w.setCells g o vs).os = w.os /\ (w.setCells g o vs).tape = w.tape /\ (w.setCells g o vs).output = w.output:=by
 induction vs generalizing w o with
 | nil=>exact ⟨rfl,rfl,rfl⟩
 | cons v r ih=>exact ih (w.setCell ⟨g,o,none⟩ v) (o + 1)
theorem zw.setCells {M:Nat -> Prop} {w w':World} (h:zw M w w') {g:Nat} (hg:M g \/ w.1.size <= g) (o:Nat) (vs:List Value):zw M w (w'.setCells g o vs):=by
 obtain ⟨h1,h2,h3⟩:=Vi w' g o vs;refine ⟨h1.trans h.os,h2.trans h.tape,h3.trans h.output,by rw [WP]; exact h.size,fun k hk=>?_⟩;rw [qz _ _ _ _ (by rintro rfl; rcases hg with hg | hg; exact hk.2 hg; omega)];exact h.block k hk
theorem zw.drew {M:Nat -> Prop} {w w':World} (h:zw M w w'):zw M w w'.drew:=⟨h.os,h.tape,h.output,h.size,h.block⟩
theorem zw.alloc {M:Nat -> Prop} {w w':World} (h:zw M w w') (o:Obj):zw M w (w'.alloc o) :=
 ⟨h.os,h.tape,h.output,zfH h.size (by simp),fun k hk=>(by
  have h2:=h.size;have h3:=hk.1;have:(w'.alloc o).heap[k]? = w'.1[k]?:=((Below.refl w'.1.size w').alloc (zfI _) o).block k (by omega);exact this.trans (h.block k hk))⟩
theorem zw.refl (M:Nat -> Prop) (w:World):zw M w w:=⟨rfl,rfl,rfl,zfI _,fun _ _=>rfl⟩
structure xe (w:World) (b:Nat) (e:TypeId) (A:Option Addr) (xs:List Value) (en:Ending) (w':World):Prop where
 out:∃ A' c',en = .returned (.slice A' xs.length c') /\ w'.ownsRow b e 1 (.slice A' xs.length c') xs.length xs /\ ∀ a,A' = some a -> A = some a \/ w.1.size <= a.block
 turn:zw (fun k=>∃ a,A = some a /\ a.block = k) w w'
theorem WQ {α:Type} {l vs:List α} {i n m:Nat} (hi:i <= n) (hm:vs.length = m) (hn:n + m <= l.length) :
  ((l.take (i + m) ++ (l.take n).drop i ++ l.drop (i + m + ((l.take n).drop i).length)).take i ++ vs ++ (l.take (i + m) ++ (l.take n).drop i ++ l.drop (i + m + ((l.take n).drop i).length)).drop (i + vs.length)).take (n + m) = (l.take n).take i ++ vs ++ (l.take n).drop i:=by
 apply zg0;intro j;simp only [zg1,zf0,zfZ,zf8,zgZ,zg3]
 grind
theorem Y3 {α:Type} {a vs d z:List α} {i m:Nat} (hi:a.length = i) (hm:vs.length = m) (hz:m + d.length <= z.length) :
  (((a ++ z).take i ++ vs ++ (a ++ z).drop (i + vs.length)).take (i + m) ++ d ++ ((a ++ z).take i ++ vs ++ (a ++ z).drop (i + vs.length)).drop (i + m + d.length)).take (i + m + d.length) = a ++ vs ++ d:=by
 apply zg0;intro j;simp only [zg1,zf0,zfZ,zf8,zgZ,zg3]
 grind
theorem VL {α:Type} {l vs:List α} {n m:Nat} (hm:vs.length = m) (hn:n + m <= l.length):(l.take n ++ vs ++ l.drop (n + vs.length)).take (n + m) = l.take n ++ vs:=by
 apply zg0;intro j;simp only [zg1,zf0,zfZ,zgZ,zg3]
 grind
theorem yf.drew {w:World} {g:Nat} {e:TypeId} {l:List Value} (h:yf w g e l):yf w.drew g e l:=h
theorem yf.made (w:World) (a:Array Value) (e:TypeId):yf (w.alloc (.cells a e)) w.1.size e a.toList:=by
 unfold yf World.alloc;simp
theorem zcQ {w:World} {b:Nat} {A:Option Addr} {n c:Nat} {xs vs lv:List Value} (h:w.ownsRow b 3 1 (.slice A n c) n xs) (h1:∀ v ∈ xs,v.oneCell' = true) {i:Nat} (hi:i <= n) {vb voff m vc:Nat} {eV:TypeId} (hm:0 < m) (hvl:vs.length = m)
  (hr:yf w vb eV lv) (hv:∀ j v,vs[j]? = some v -> lv[voff + j]? = some v) (hv1:∀ v ∈ vs,v.oneCell' = true) (hne:∀ a,A = some a -> a.block ≠ vb) (hs:n + m <= 1000) (hb:b <= w.1.size) :
  Calls Tryz.prog 143 #[.slice A n c,.int .i64 (i:Int),.slice (some ⟨vb,voff,none⟩) m vc] w (xe w b 3 A (xs.take i ++ vs ++ xs.drop i)):=by
 have hxl:xs.length = n:=by have:=h.1; omega
 have hlen:(xs.take i ++ vs ++ xs.drop i).length = n + m:=by simp; omega
 have hvs:∀ j v,vs[j]? = some v -> w.cell? ⟨vb,voff + j,none⟩ = some v:=fun j v hj=>by rw [hr.cell]; exact hv j v hj
 have hmx:n + m <= maxLen:=by unfold maxLen; omega
 have hge:∀ c,n + m <= grownCap w (n + m) c 3:=fun c=>grownCap_ge w (n + m) c 3
 have hle:∀ c,grownCap w (n + m) c 3 <= maxLen:=fun c=>grownCap_le_maxLen w (n + m) c 3 hmx
 have hzc:∀ k,(Builtin.zeroCells (Value.int .i64 0).cells k).toList.length = k:=fun k=>by rw [Array.length_toList,size_zeroCells]; simp [Value.cells]
 have hnew:∀ (c':Nat) (l:List Value) (w':World),yf w' w.1.size 3 l -> l.length = c' -> l.take (n + m) = xs.take i ++ vs ++ xs.drop i -> n + m <= c' -> c' <= maxLen -> zw (fun k=>∃ a,A = some a /\ a.block = k) w w' ->
   xe w b 3 A (xs.take i ++ vs ++ xs.drop i) (.returned (.slice (some ⟨w.1.size,0,none⟩) (n + m) c')) w':=fun c' l w' hw hc ht hc1 hc2 htn=>by
  refine ⟨⟨some ⟨w.1.size,0,none⟩,c',by rw [hlen],?_,fun a ha=>.inr (by cases ha; exact zfI _)⟩,htn⟩;rw [hlen];exact wV hw hc ht hc1 hc2 hb
 have hend:i = n -> ∀ c' ,n + m <= c' -> c' <= maxLen -> xe w b 3 A (xs.take i ++ vs ++ xs.drop i) (.returned (.slice (some ⟨w.1.size,0,none⟩) (n + m) c')) (w.drew.alloc (.cells ((xs ++ vs).toArray ++ Builtin.zeroCells (Value.int .i64 0).cells (c' - (n + m))) 3)):=fun hin c' hc1 hc2=>by
  subst hin;have ht:xs.take i = xs:=zgm (by omega);have hd:xs.drop i = []:=zg4 (by omega);refine hnew c' _ _ (yf.made _ _ _) ?_ ?_ hc1 hc2 ((zw.refl _ w).drew.alloc _)
  ·rw [zg5,zf0,hzc]; simp; omega
  ·rw [zg5,ht,hd,zgx,List.take_left' (by simp; omega)]
 rcases h.2 with ⟨h2,h3⟩ | ⟨g,cap,cur,e1,_⟩
 ·simp only [Value.slice.injEq] at h2;obtain ⟨rfl,_,rfl⟩:=h2;subst h3;obtain rfl:i = 0:=by omega
  obtain rfl:=zgl.1 hxl;refine (Any2.slices_Insert_int_end_grow Zf none 0 0 vb voff m vc [] vs w hm (zfI _) (by omega) (by omega) rfl hvl (fun _=>rfl) (fun a ha=>(by cases ha)) hvs hv1).mono ?_;rintro e w' ⟨rfl,rfl⟩;exact hend rfl _ (hge 0) (hle 0)
 ·simp only [Value.slice.injEq] at e1;obtain ⟨rfl,_,rfl⟩:=e1;obtain ⟨l,hrow,hll,hlt,hnc,hcm,hbg⟩:=wC h;have hgv:vb ≠ g:=fun e=>hne _ rfl e.symm
  have hcs:∀ j v,xs[j]? = some v -> w.cell? ⟨g,0 + j,none⟩ = some v:=fun j v hj=>by
   rw [hrow.cell,zfP];rw [<- hlt,zgZ] at hj;split at hj
   ·exact hj
   ·cases hj
  have hold:∀ (l2:List Value) (w':World),yf w' g 3 l2 -> l2.length = c -> l2.take (n + m) = xs.take i ++ vs ++ xs.drop i -> n + m <= c -> zw (fun k=>∃ a,some (⟨g,0,none⟩:Addr) = some a /\ a.block = k) w w' ->
    xe w b 3 (some ⟨g,0,none⟩) (xs.take i ++ vs ++ xs.drop i) (.returned (.slice (some ⟨g,0,none⟩) (n + m) c)) w':=fun l2 w' hw hc ht hc1 htn=>by
   refine ⟨⟨some ⟨g,0,none⟩,c,by rw [hlen],?_,fun a ha=>.inl ha⟩,htn⟩;rw [hlen];exact wV hw hc ht hc1 hcm hbg
  by_cases hin:i = n
  ·by_cases hroom:n + m <= c
   ·subst hin;refine (Any2.slices_Insert_int_end_room Zf g 0 i c vb voff m vc vs w hm hroom (by unfold maxLen at hcm; omega) hvl (fun j hj=>by rw [hrow.cell,zfM (by omega)]; rfl) (fun j _=>hrow.frozen _) hvs hv1).mono ?_;rintro e w' ⟨rfl,rfl⟩;have hd:xs.drop i = []:=zg4 (by omega);have ht:xs.take i = xs:=zgm (by omega);refine hold _ _ (hrow.setCells (0 + i) vs (by omega)) ?_ ?_ hroom ((zw.refl _ w).setCells (.inl ⟨_,rfl,rfl⟩) _ _)
    ·simp; omega
    ·rw [zfP,VL hvl (by omega),hlt,hd,ht,zgx]
   ·subst hin;refine (Any2.slices_Insert_int_end_grow Zf (some ⟨g,0,none⟩) i c vb voff m vc xs vs w hm hnc (by omega) (by omega) hxl hvl (fun e=>(by cases e)) (fun a ha j v hj=>by cases ha; rw [Addr.add_mid]; exact hcs j v hj) hvs hv1).mono ?_;rintro e w' ⟨rfl,rfl⟩;exact hend rfl _ (hge c) (hle c)
  ·by_cases hroom:n + m <= c
   ·refine (Any2.slices_Insert_int_shift Zf g 0 n c i vb voff m vc xs vs w (by omega) hm hroom (by unfold maxLen at hcm; omega) hgv hxl hvl hcs (fun j hj=>by rw [hrow.cell,zfM (by omega)]; rfl) (fun j _=>hrow.frozen _) hvs h1 hv1 eV 3 lv.length l.length hr.shape hrow.shape (by omega) (hr.frozen _) (hr.frozen _)).mono ?_;rintro e w' ⟨rfl,rfl⟩;have hdl:(xs.drop i).length = n - i:=by rw [zf8]; omega
    have hr1:=hrow.drew.setCells (0 + (i + m)) (xs.drop i) (by rw [hdl]; omega);have hr2:=hr1.setCells (0 + i) vs (by simp; omega);refine hold _ _ hr2 ?_ ?_ hroom ((((zw.refl _ w).drew).setCells (.inl ⟨_,rfl,rfl⟩) _ _).setCells (.inl ⟨_,rfl,rfl⟩) _ _)
    ·simp; omega
    ·have:=WQ (l:=l) (vs:=vs) (i:=i) (n:=n) (m:=m) hi hvl (by omega);rw [hlt] at this;simpa only [zfP] using this
   ·refine (Any2.slices_Insert_int_grow Zf g 0 n c i vb voff m vc xs vs w (by omega) hm hnc (by omega) (by omega) hxl hvl hcs hvs h1 hv1).mono ?_;rintro e w' ⟨rfl,rfl⟩;have hdl:(xs.drop i).length = n - i:=by rw [zf8]; omega
    have hal:(xs.take i).length = i:=by rw [zfZ]; omega
    obtain ⟨zz,hzz⟩:∃ zz,zz = (Builtin.zeroCells (Value.int .i64 0).cells (n + m - i)).toList ++ (Builtin.zeroCells (Value.int .i64 0).cells (grownCap w (n + m) c 3 - (n + m))).toList:=⟨_,rfl⟩
    have hzl:zz.length = (n + m - i) + (grownCap w (n + m) c 3 - (n + m)):=by rw [hzz,zf0,hzc,hzc]
    have hr0:yf (w.alloc (.cells ((xs.take i).toArray ++ Builtin.zeroCells (Value.int .i64 0).cells (n + m - i) ++ Builtin.zeroCells (Value.int .i64 0).cells (grownCap w (n + m) c 3 - (n + m))) 3)) w.1.size 3 (xs.take i ++ zz):=by
     have:=yf.made w ((xs.take i).toArray ++ Builtin.zeroCells (Value.int .i64 0).cells (n + m - i) ++ Builtin.zeroCells (Value.int .i64 0).cells (grownCap w (n + m) c 3 - (n + m))) 3;rw [hzz,<- List.append_assoc];simpa using this
    have hg:=hge c;have hr1:=hr0.drew.setCells i vs (by rw [zf0,hal,hzl]; omega);have hr2:=hr1.drew.setCells (i + m) (xs.drop i) (by simp [hzl]; omega);refine hnew _ _ _ hr2 ?_ ?_ (hge c) (hle c) ((((zw.refl _ w).alloc _).drew.setCells (.inr (zfI _)) _ _).drew.setCells (.inr (zfI _)) _ _)
    ·show _ = grownCap w (n + m) c 3;simp [hzl]; omega
    ·have:=Y3 (a:=xs.take i) (vs:=vs) (d:=xs.drop i) (z:=zz) (i:=i) (m:=m) hal hvl (by rw [hdl,hzl]; omega)
     rwa [show i + m + (xs.drop i).length = n + m by omega] at this ⊢
theorem ze4 {w:World} {b:Nat} {A:Option Addr} {n c:Nat} {xs vs lv:List Value} (h:w.ownsRow b 9 1 (.slice A n c) n xs) (h1:∀ v ∈ xs,v.oneCell' = true) {i:Nat} (hi:i <= n) {vb voff m vc:Nat} {eV:TypeId} (hm:0 < m) (hvl:vs.length = m)
  (hr:yf w vb eV lv) (hv:∀ j v,vs[j]? = some v -> lv[voff + j]? = some v) (hv1:∀ v ∈ vs,v.oneCell' = true) (hne:∀ a,A = some a -> a.block ≠ vb) (hs:n + m <= 1000) (hb:b <= w.1.size) :
  Calls Tryz.prog 144 #[.slice A n c,.int .i64 (i:Int),.slice (some ⟨vb,voff,none⟩) m vc] w (xe w b 9 A (xs.take i ++ vs ++ xs.drop i)):=by
 have hxl:xs.length = n:=by have:=h.1; omega
 have hlen:(xs.take i ++ vs ++ xs.drop i).length = n + m:=by simp; omega
 have hvs:∀ j v,vs[j]? = some v -> w.cell? ⟨vb,voff + j,none⟩ = some v:=fun j v hj=>by rw [hr.cell]; exact hv j v hj
 have hmx:n + m <= maxLen:=by unfold maxLen; omega
 have hge:∀ c,n + m <= grownCap w (n + m) c 9:=fun c=>grownCap_ge w (n + m) c 9
 have hle:∀ c,grownCap w (n + m) c 9 <= maxLen:=fun c=>grownCap_le_maxLen w (n + m) c 9 hmx
 have hzc:∀ k,(Builtin.zeroCells (Value.string { data:=#[] }).cells k).toList.length = k:=fun k=>by rw [Array.length_toList,size_zeroCells]; simp [Value.cells]
 have hnew:∀ (c':Nat) (l:List Value) (w':World),yf w' w.1.size 9 l -> l.length = c' -> l.take (n + m) = xs.take i ++ vs ++ xs.drop i -> n + m <= c' -> c' <= maxLen -> zw (fun k=>∃ a,A = some a /\ a.block = k) w w' ->
   xe w b 9 A (xs.take i ++ vs ++ xs.drop i) (.returned (.slice (some ⟨w.1.size,0,none⟩) (n + m) c')) w':=fun c' l w' hw hc ht hc1 hc2 htn=>by
  refine ⟨⟨some ⟨w.1.size,0,none⟩,c',by rw [hlen],?_,fun a ha=>.inr (by cases ha; exact zfI _)⟩,htn⟩;rw [hlen];exact wV hw hc ht hc1 hc2 hb
 have hend:i = n -> ∀ c' ,n + m <= c' -> c' <= maxLen -> xe w b 9 A (xs.take i ++ vs ++ xs.drop i) (.returned (.slice (some ⟨w.1.size,0,none⟩) (n + m) c')) (w.drew.alloc (.cells ((xs ++ vs).toArray ++ Builtin.zeroCells (Value.string { data:=#[] }).cells (c' - (n + m))) 9)):=fun hin c' hc1 hc2=>by
  subst hin;have ht:xs.take i = xs:=zgm (by omega);have hd:xs.drop i = []:=zg4 (by omega);refine hnew c' _ _ (yf.made _ _ _) ?_ ?_ hc1 hc2 ((zw.refl _ w).drew.alloc _)
  ·rw [zg5,zf0,hzc]; simp; omega
  ·rw [zg5,ht,hd,zgx,List.take_left' (by simp; omega)]
 rcases h.2 with ⟨h2,h3⟩ | ⟨g,cap,cur,e1,_⟩
 ·simp only [Value.slice.injEq] at h2;obtain ⟨rfl,_,rfl⟩:=h2;subst h3;obtain rfl:i = 0:=by omega
  obtain rfl:=zgl.1 hxl;refine (Any2.slices_Insert_string_end_grow Wz none 0 0 vb voff m vc [] vs w hm (zfI _) (by omega) (by omega) rfl hvl (fun _=>rfl) (fun a ha=>(by cases ha)) hvs hv1).mono ?_;rintro e w' ⟨rfl,rfl⟩;exact hend rfl _ (hge 0) (hle 0)
 ·simp only [Value.slice.injEq] at e1;obtain ⟨rfl,_,rfl⟩:=e1;obtain ⟨l,hrow,hll,hlt,hnc,hcm,hbg⟩:=wC h;have hgv:vb ≠ g:=fun e=>hne _ rfl e.symm
  have hcs:∀ j v,xs[j]? = some v -> w.cell? ⟨g,0 + j,none⟩ = some v:=fun j v hj=>by
   rw [hrow.cell,zfP];rw [<- hlt,zgZ] at hj;split at hj
   ·exact hj
   ·cases hj
  have hold:∀ (l2:List Value) (w':World),yf w' g 9 l2 -> l2.length = c -> l2.take (n + m) = xs.take i ++ vs ++ xs.drop i -> n + m <= c -> zw (fun k=>∃ a,some (⟨g,0,none⟩:Addr) = some a /\ a.block = k) w w' ->
    xe w b 9 (some ⟨g,0,none⟩) (xs.take i ++ vs ++ xs.drop i) (.returned (.slice (some ⟨g,0,none⟩) (n + m) c)) w':=fun l2 w' hw hc ht hc1 htn=>by
   refine ⟨⟨some ⟨g,0,none⟩,c,by rw [hlen],?_,fun a ha=>.inl ha⟩,htn⟩;rw [hlen];exact wV hw hc ht hc1 hcm hbg
  by_cases hin:i = n
  ·by_cases hroom:n + m <= c
   ·subst hin;refine (Any2.slices_Insert_string_end_room Wz g 0 i c vb voff m vc vs w hm hroom (by unfold maxLen at hcm; omega) hvl (fun j hj=>by rw [hrow.cell,zfM (by omega)]; rfl) (fun j _=>hrow.frozen _) hvs hv1).mono ?_;rintro e w' ⟨rfl,rfl⟩;have hd:xs.drop i = []:=zg4 (by omega);have ht:xs.take i = xs:=zgm (by omega);refine hold _ _ (hrow.setCells (0 + i) vs (by omega)) ?_ ?_ hroom ((zw.refl _ w).setCells (.inl ⟨_,rfl,rfl⟩) _ _)
    ·simp; omega
    ·rw [zfP,VL hvl (by omega),hlt,hd,ht,zgx]
   ·subst hin;refine (Any2.slices_Insert_string_end_grow Wz (some ⟨g,0,none⟩) i c vb voff m vc xs vs w hm hnc (by omega) (by omega) hxl hvl (fun e=>(by cases e)) (fun a ha j v hj=>by cases ha; rw [Addr.add_mid]; exact hcs j v hj) hvs hv1).mono ?_;rintro e w' ⟨rfl,rfl⟩;exact hend rfl _ (hge c) (hle c)
  ·by_cases hroom:n + m <= c
   ·refine (Any2.slices_Insert_string_shift Wz g 0 n c i vb voff m vc xs vs w (by omega) hm hroom (by unfold maxLen at hcm; omega) hgv hxl hvl hcs (fun j hj=>by rw [hrow.cell,zfM (by omega)]; rfl) (fun j _=>hrow.frozen _) hvs h1 hv1 eV 9 lv.length l.length hr.shape hrow.shape (by omega) (hr.frozen _) (hr.frozen _)).mono ?_;rintro e w' ⟨rfl,rfl⟩;have hdl:(xs.drop i).length = n - i:=by rw [zf8]; omega
    have hr1:=hrow.drew.setCells (0 + (i + m)) (xs.drop i) (by rw [hdl]; omega);have hr2:=hr1.setCells (0 + i) vs (by simp; omega);refine hold _ _ hr2 ?_ ?_ hroom ((((zw.refl _ w).drew).setCells (.inl ⟨_,rfl,rfl⟩) _ _).setCells (.inl ⟨_,rfl,rfl⟩) _ _)
    ·simp; omega
    ·have:=WQ (l:=l) (vs:=vs) (i:=i) (n:=n) (m:=m) hi hvl (by omega);rw [hlt] at this;simpa only [zfP] using this
   ·refine (Any2.slices_Insert_string_grow Wz g 0 n c i vb voff m vc xs vs w (by omega) hm hnc (by omega) (by omega) hxl hvl hcs hvs h1 hv1).mono ?_;rintro e w' ⟨rfl,rfl⟩;have hdl:(xs.drop i).length = n - i:=by rw [zf8]; omega
    have hal:(xs.take i).length = i:=by rw [zfZ]; omega
    obtain ⟨zz,hzz⟩:∃ zz,zz = (Builtin.zeroCells (Value.string { data:=#[] }).cells (n + m - i)).toList ++ (Builtin.zeroCells (Value.string { data:=#[] }).cells (grownCap w (n + m) c 9 - (n + m))).toList:=⟨_,rfl⟩
    have hzl:zz.length = (n + m - i) + (grownCap w (n + m) c 9 - (n + m)):=by rw [hzz,zf0,hzc,hzc]
    have hr0:yf (w.alloc (.cells ((xs.take i).toArray ++ Builtin.zeroCells (Value.string { data:=#[] }).cells (n + m - i) ++ Builtin.zeroCells (Value.string { data:=#[] }).cells (grownCap w (n + m) c 9 - (n + m))) 9)) w.1.size 9 (xs.take i ++ zz):=by
     have:=yf.made w ((xs.take i).toArray ++ Builtin.zeroCells (Value.string { data:=#[] }).cells (n + m - i) ++ Builtin.zeroCells (Value.string { data:=#[] }).cells (grownCap w (n + m) c 9 - (n + m))) 9;rw [hzz,<- List.append_assoc];simpa using this
    have hg:=hge c;have hr1:=hr0.drew.setCells i vs (by rw [zf0,hal,hzl]; omega);have hr2:=hr1.drew.setCells (i + m) (xs.drop i) (by simp [hzl]; omega);refine hnew _ _ _ hr2 ?_ ?_ (hge c) (hle c) ((((zw.refl _ w).alloc _).drew.setCells (.inr (zfI _)) _ _).drew.setCells (.inr (zfI _)) _ _)
    ·show _ = grownCap w (n + m) c 9;simp [hzl]; omega
    ·have:=Y3 (a:=xs.take i) (vs:=vs) (d:=xs.drop i) (z:=zz) (i:=i) (m:=m) hal hvl (by rw [hdl,hzl]; omega)
     rwa [show i + m + (xs.drop i).length = n + m by omega] at this ⊢
end
section
open Go.RowKit
theorem zy {w w':World} {M:Nat -> Prop} {b:Nat} {e:TypeId} {v:Value} {n:Nat} {xs:List Value} (h:w.ownsRow b e 1 v n xs) (ht:zw M w w') (hM:∀ g,v.ownBlock = some g -> ¬ M g):w'.ownsRow b e 1 v n xs :=
 zA h fun g hg=>ht.block g ⟨(h.lt g hg).2,hM g hg⟩
theorem ZF {w w':World} {M:Nat -> Prop} {g:Nat} {e:TypeId} {l:List Value} (h:yf w g e l) (ht:zw M w w') (hM:¬ M g):yf w' g e l:=h.keep (ht.block g ⟨h.lt,hM⟩)
theorem zb.turn {w w':World} {M:Nat -> Prop} {p:Nat} {l:zd} {x:Nd} (h:zb w p l x) (ht:zw M w w') (hM:¬ M p):zb w' p l x:=h.keep (ht.block p ⟨h.lt,hM⟩)
theorem zo.of_own {w:World} {b:Nat} {l:zd} {x:Nd} (k:w.ownsRow b 3 1 (.slice l.A x.keys.length l.ca) x.keys.length (x.keys.map (Value.int .i64)))
  (v:w.ownsRow b 9 1 (.slice l.B x.vals.length l.cb) x.vals.length (x.vals.map Value.string)) (c:w.ownsRow b 3 1 (.slice l.C x.kids.length l.cc) x.kids.length (x.kids.map (Value.int .i64)))
  (akv:∀ a c,l.A = some a -> l.B = some c -> a.block ≠ c.block) (akc:∀ a c,l.A = some a -> l.C = some c -> a.block ≠ c.block) (avc:∀ a c,l.B = some a -> l.C = some c -> a.block ≠ c.block)
  (kl:x.keys.length <= 100) (vl:x.vals.length <= 100) (cl:x.kids.length <= 101)
  (kw:∀ z ∈ x.keys,-9223372036854775808 <= z /\ z <= 9223372036854775807) (vw:∀ v ∈ x.vals,v.size <= maxLen) (cw:∀ z ∈ x.kids,-9223372036854775808 <= z /\ z <= 9223372036854775807):zo w b l x:=by
 obtain ⟨A,ca,e1,h1⟩:=vr k;obtain ⟨B,cb,e2,h2⟩:=Z1 v;obtain ⟨C,cc,e3,h3⟩:=vr c;simp only [Value.slice.injEq] at e1 e2 e3;rw [<- e1.1] at h1;rw [<- e2.1] at h2;rw [<- e3.1] at h3;exact ⟨⟨h1,h2,h3,by unfold maxLen; omega,by unfold maxLen; omega,by unfold maxLen; omega,kw,vw,cw⟩,k,v,c,akv,akc,avc⟩
def X9 (w:World) (b:Nat) (l:zd) (x:Nd) (e:Ending) (w':World):Prop :=
 ∃ l',e = .returned (ndV l' x) /\ zo w' b l' x /\ zw l.has w w' /\ ∀ g,l'.has g -> l.has g \/ w.1.size <= g
theorem Qt {w:World} {b:Nat} {A:Option Addr} {c:Nat} {zs:List Int} (h:w.ownsRow b 3 1 (.slice A zs.length c) zs.length (zs.map (Value.int .i64))) {i:Nat} (hi:i <= zs.length) {vb:Nat} {z:Int} (hr:yf w vb 3 [.int .i64 z]) (hne:∀ a,A = some a -> a.block ≠ vb) (hs:zs.length <= 900) (hb:b <= w.1.size) :
  Calls Tryz.prog 143 #[.slice A zs.length c,.int .i64 (i:Int),.slice (some ⟨vb,0,none⟩) 1 1] w fun e w'=>∃ A' c',e = .returned (.slice A' (zs.take i ++ z :: zs.drop i).length c') /\
   w'.ownsRow b 3 1 (.slice A' (zs.take i ++ z :: zs.drop i).length c') (zs.take i ++ z :: zs.drop i).length ((zs.take i ++ z :: zs.drop i).map (Value.int .i64)) /\ (∀ a,A' = some a -> A = some a \/ w.1.size <= a.block) /\ zw (fun k=>∃ a,A = some a /\ a.block = k) w w':=by
 have he:(zs.map (Value.int .i64)).take i ++ [.int .i64 z] ++ (zs.map (Value.int .i64)).drop i = (zs.take i ++ z :: zs.drop i).map (Value.int .i64):=by simp [List.map_take,List.map_drop]
 refine (zcQ h (by intro v hv; obtain ⟨y,_,rfl⟩:=List.mem_map.1 hv; rfl) hi (vb:=vb) (voff:=0) (m:=1) (vc:=1) (vs:=[.int .i64 z]) (by decide) rfl hr (by intro j v hj; rwa [zfP]) (by intro v hv; obtain rfl:=List.mem_singleton.1 hv; rfl) hne (by omega) hb).mono ?_;rw [he];rintro e w' ⟨⟨A',c',rfl,h2,h3⟩,h4⟩;rw [List.length_map] at h2 ⊢;exact ⟨A',c',rfl,h2,h3,h4⟩
theorem Qv {w:World} {b:Nat} {A:Option Addr} {c:Nat} {zs:List ByteArray} (h:w.ownsRow b 9 1 (.slice A zs.length c) zs.length (zs.map Value.string)) {i:Nat} (hi:i <= zs.length) {vb:Nat} {z:ByteArray} (hr:yf w vb 9 [.string z]) (hne:∀ a,A = some a -> a.block ≠ vb) (hs:zs.length <= 900) (hb:b <= w.1.size) :
  Calls Tryz.prog 144 #[.slice A zs.length c,.int .i64 (i:Int),.slice (some ⟨vb,0,none⟩) 1 1] w fun e w'=>∃ A' c',e = .returned (.slice A' (zs.take i ++ z :: zs.drop i).length c') /\
   w'.ownsRow b 9 1 (.slice A' (zs.take i ++ z :: zs.drop i).length c') (zs.take i ++ z :: zs.drop i).length ((zs.take i ++ z :: zs.drop i).map Value.string) /\ (∀ a,A' = some a -> A = some a \/ w.1.size <= a.block) /\ zw (fun k=>∃ a,A = some a /\ a.block = k) w w':=by
 have he:(zs.map Value.string).take i ++ [.string z] ++ (zs.map Value.string).drop i = (zs.take i ++ z :: zs.drop i).map Value.string:=by simp [List.map_take,List.map_drop]
 refine (ze4 h (by intro v hv; obtain ⟨y,_,rfl⟩:=List.mem_map.1 hv; rfl) hi (vb:=vb) (voff:=0) (m:=1) (vc:=1) (vs:=[.string z]) (by decide) rfl hr (by intro j v hj; rwa [zfP]) (by intro v hv; obtain rfl:=List.mem_singleton.1 hv; rfl) hne (by omega) hb).mono ?_;rw [he];rintro e w' ⟨⟨A',c',rfl,h2,h3⟩,h4⟩;rw [List.length_map] at h2 ⊢;exact ⟨A',c',rfl,h2,h3,h4⟩
structure Xk (w:World) (p r q:Nat) (l:zd) (x:Nd) (key:Int) (val:ByteArray) (wr:World):Prop where
 bx:zb wr p l x
 c0:wr.cell? ⟨r,0,none⟩ = some (.int .i64 key)
 c1:wr.cell? ⟨r,1,none⟩ = some (.string val)
 bq:zb wr q zd.none_ Nd.empty
 fq:∀ j,wr.frozen? ⟨q,j,none⟩ = false
 turn:zw l.has w wr
 lw:∀ g,l.has g -> g < w.1.size
 wp:w.1.size <= p
 wr_:w.1.size <= r
 wq:w.1.size <= q
theorem Xk.step {w wr w':World} {p r q:Nat} {l:zd} {x:Nd} {key:Int} {val:ByteArray} {M:Nat -> Prop} (h:Xk w p r q l x key val wr) (ht:zw M wr w') (hM:∀ g,M g -> l.has g):Xk w p r q l x key val w':=by
 have hn:∀ g,w.1.size <= g -> ¬ M g:=fun g hg hm=>by have:=h.lw g (hM g hm); omega
 have hbr:=ht.block r ⟨zp h.c0,hn r h.wr_⟩;have hbq:=ht.block q ⟨h.bq.lt,hn q h.wq⟩;exact ⟨h.bx.turn ht (hn p h.wp),(World.cell?_of_block (w:=wr) (a:=⟨r,0,none⟩) hbr).trans h.c0,(World.cell?_of_block (w:=wr) (a:=⟨r,1,none⟩) hbr).trans h.c1,h.bq.turn ht (hn q h.wq),fun j=>(World.frozen?_of_block (w:=wr) (a:=⟨q,j,none⟩) hbq).trans (h.fq j),
  h.turn.trans (ht.more fun k _ hk=>.inl (hM k hk)),h.lw,h.wp,h.wr_,h.wq⟩
structure Xj (p r:Nat) (l:zd) (x:Nd) (key:Int) (val:ByteArray) (wr:World):Prop where
 bx:zb wr p l x
 c0:wr.cell? ⟨r,0,none⟩ = some (.int .i64 key)
 c1:wr.cell? ⟨r,1,none⟩ = some (.string val)
theorem Xk.r {w wr:World} {p r q:Nat} {l:zd} {x:Nd} {key:Int} {val:ByteArray} (h:Xk w p r q l x key val wr):Xj p r l x key val wr:=⟨h.bx,h.c0,h.c1⟩
theorem Xj.keep {w w':World} {p r:Nat} {l:zd} {x:Nd} {key:Int} {val:ByteArray} (h:Xj p r l x key val w) (hp:w'.1[p]? = w.1[p]?) (hr:w'.1[r]? = w.1[r]?):Xj p r l x key val w' :=
 ⟨h.bx.keep hp,(World.cell?_of_block (w:=w) (a:=⟨r,0,none⟩) hr).trans h.c0,(World.cell?_of_block (w:=w) (a:=⟨r,1,none⟩) hr).trans h.c1⟩
theorem zdL {w:World} {b:Nat} {l:zd} {x:Nd} (h:zo w b l x) (hb:b <= w.1.size) (hr:zM x = true) (hlf:x.kids.length = 0) {key:Int} (hk:-9223372036854775808 <= key /\ key <= 9223372036854775807) {val:ByteArray} (hv:val.size <= maxLen) :
  Calls Tryz.prog 107 #[ndV l x,.agg #[.int .i64 key,.string val]] w (X9 w b l (qe x key val)):=by
 obtain ⟨h1k,h7,hsh⟩:=zm hr;have hvl:x.vals.length = x.keys.length:=by
  rcases hsh with ⟨_,_,h6⟩ | ⟨_,_,_,_,h8⟩
  ·exact h6
  ·omega
 have hk0:x.kids = []:=zgl.1 hlf;obtain ⟨p,HPP⟩:=hY (w.1.size);obtain ⟨r,HRR⟩:=hY (w.1.size + 1);obtain ⟨q,HQQ⟩:=hY (r + 1);have HPQ:=hI (p ≠ q /\ r ≠ q) (by rw [HQQ.o,HRR.o,HPP.o]; omega);obtain ⟨w1,HW1⟩:=hY (((w.alloc (.cells #[.slice l.A x.keys.length l.ca,.slice l.B x.vals.length l.cb,.slice l.C x.kids.length l.cc] 48)).alloc (.cells #[.int .i64 key,.string val] 97)).alloc (.cells #[.slice none 0 0,.slice none 0 0,.slice none 0 0] 48));have HB1:=hI (Below w.1.size w w1) (by rw [HW1.o]; exact (((Below.refl _ _).alloc (zfI _) _).alloc (by simp) _).alloc (by simp; omega) _);have HS1:=hI (Xk w p r q l x key val w1) (by
  rw [HW1.o,HPP.o,HQQ.o,HRR.o];have hz1:(w.alloc (.cells #[.slice l.A x.keys.length l.ca,.slice l.B x.vals.length l.cb,.slice l.C x.kids.length l.cc] 48)).1.size = w.1.size + 1:=by simp
  have hz2:((w.alloc (.cells #[.slice l.A x.keys.length l.ca,.slice l.B x.vals.length l.cb,.slice l.C x.kids.length l.cc] 48)).alloc (.cells #[.int .i64 key,.string val] 97)).1.size = w.1.size + 1 + 1:=by simp
  have b1:=(Below.refl (w.1.size + 1) (w.alloc (.cells #[.slice l.A x.keys.length l.ca,.slice l.B x.vals.length l.cb,.slice l.C x.kids.length l.cc] 48))).alloc (by rw [hz1]; exact zfI _) (.cells #[.int .i64 key,.string val] 97);have b2:=(Below.refl (w.1.size + 1 + 1) ((w.alloc (.cells #[.slice l.A x.keys.length l.ca,.slice l.B x.vals.length l.cb,.slice l.C x.kids.length l.cc] 48)).alloc (.cells #[.int .i64 key,.string val] 97))).alloc (by rw [hz2]; exact zfI _) (.cells #[.slice none 0 0,.slice none 0 0,.slice none 0 0] 48);have e1:=zb.new (w:=w) (l:=l) (x:=x) 48;have e2:=(e1.carry b1 (by omega)).carry b2 (by omega);have e3:∀ j,j < 2 -> ((w.alloc (.cells #[.slice l.A x.keys.length l.ca,.slice l.B x.vals.length l.cb,.slice l.C x.kids.length l.cc] 48)).alloc (.cells #[.int .i64 key,.string val] 97)).cell? ⟨w.1.size + 1,j,none⟩ = (#[.int .i64 key,.string val]:Array Value)[j]?:=fun j _=>by rw [<- hz1]; simp
  have e4:=zb.new (w:=(w.alloc (.cells #[.slice l.A x.keys.length l.ca,.slice l.B x.vals.length l.cb,.slice l.C x.kids.length l.cc] 48)).alloc (.cells #[.int .i64 key,.string val] 97)) (l:=zd.none_) (x:=Nd.empty) 48;have e5:=ya ((w.alloc (.cells #[.slice l.A x.keys.length l.ca,.slice l.B x.vals.length l.cb,.slice l.C x.kids.length l.cc] 48)).alloc (.cells #[.int .i64 key,.string val] 97)) #[.slice none 0 0,.slice none 0 0,.slice none 0 0] 48;rw [hz2] at e4 e5;refine ⟨e2,(b2.cell (p:=⟨w.1.size + 1,0,none⟩) (by show w.1.size + 1 < w.1.size + 1 + 1; omega)).trans (e3 0 (by decide)),(b2.cell (p:=⟨w.1.size + 1,1,none⟩) (by show w.1.size + 1 < w.1.size + 1 + 1; omega)).trans (e3 1 (by decide)),e4,e5,zw.of_below (by rw [<- HW1.o]; exact HB1.o),fun g hg=>(h.lt g hg).2,zfI _,by omega,by omega⟩)
 have HM1:=hI (zo w1 b l x) (h.carry HB1.o);have HBW:=hI (b <= w.1.size) hb;have HKW:=Hi hk;have HVW:=Hi hv;have HSZ:=hI (x.keys.length <= 7 /\ x.vals.length = x.keys.length /\ x.kids.length = 0 /\ x.kids = []) ⟨h7,hvl,hlf,hk0⟩;obtain ⟨a,HAA⟩:=hY ((yA x key).1);obtain ⟨fd,HFD⟩:=hY ((yA x key).2);have HSE:=hI (yA x key = (less x.keys key,decide (x.keys[less x.keys key]? = some key))) (by unfold yA; rw [if_pos hr]);have HAL:=hI (a <= x.keys.length) (by rw [HAA.o,HSE.o]; exact ZB _ _);have HSK:=Hi (Ym HM1.o.is key);rw [<- HAA.o,<- HFD.o] at HSK;have HX':=hI (qe x key val = if fd = true then ⟨x.keys,x.vals.set a val,x.kids⟩ else ⟨x.keys.take a ++ key :: x.keys.drop a,x.vals.take a ++ val :: x.vals.drop a,[]⟩) (by rw [HFD.o,HAA.o]; rfl);obtain ⟨x',HXX⟩:∃ x',Hid (x' = qe x key val):=Hy;rw [<- HXX.o] at HX' ⊢;clear h hb hr hlf hk hv h1k h7 hsh hvl hk0 HXX;have c0:=HS1.o.c0
 go_enter Tryz.func107,Tryz.ntmps107
 go_upto_region 1 with (fail)
 rw [<- HW1.o,<- HRR.o,<- HQQ.o,<- HPP.o];clear HW1 HPP HRR HQQ;go_wp2_with (with_reducible refine xD9 (some 8) ?_);refine zg Tryz.ndProg (by rfl) _ rfl p rfl l x HS1.o.bx ?_;go_wp2_with fail;refine HSK.o.mono ?_;rintro e w2 ⟨rfl,hb⟩;have HM2:=Hi (HM1.o.carry hb);have HS2:=hI (Xk w p r q l x key val w2) (HS1.o.step (M:=fun _=>False) (zw.of_below hb) (fun _ h=>h.elim));clear hb HSK HS1 HM1 c0;cases fd with
 | true =>
  have HAV:=hI (a < x.vals.length) (by
   have h:=HFD.o;rw [HSE.o] at h;have h2:=of_decide_eq_true h.symm;rw [HSZ.o.2.1];have h3:less x.keys key = a:=by rw [HAA.o,HSE.o]
   rw [h3] at h2;exact (List.getElem?_eq_some_iff.1 h2).1)
  obtain ⟨gv,HGV,hvc,hvm,_,_⟩:=yu HM2.o.v (by have:=HAV.o; omega);have hown:=HM2.o.v;rw [HGV] at hown;obtain ⟨lv,hrow,hll,hlt,_,_,_⟩:=wC hown;have HRO:=Hi hrow;obtain ⟨old,hcv⟩:∃ old,w2.cell? ⟨gv,a,none⟩ = some old:=⟨_,by rw [hrow.cell,zfM (by have:=HAV.o; omega)]⟩
  have hfv:w2.frozen? ⟨gv,a,none⟩ = false:=hrow.frozen a;have HST:=Hi (hown.stored a (.string val));have hal:(a:Int) < (x.vals.length:Int):=by have:=HAV.o; omega
  have c1:=HS2.o.bx.c1;rw [HGV] at c1;have HGVV:=Hi HGV;have r1:=HS2.o.c1;have hgp:¬ gv = p:=fun e=>by have:=HS2.o.lw gv (.inr (.inl ⟨_,HGVV.o,rfl⟩)); have:=HS2.o.wp; omega
  clear HGV hvc hvm hown hrow hll hlt;go_wp2_with (with_reducible refine xD9 (some 21) ?_);obtain ⟨w3,HW3⟩:=hY (w2.setCell ⟨gv,a,none⟩ (.string val));rw [<- HW3.o];have HT3:=hI (zw l.has w2 w3) (by
   rw [HW3.o];exact (zw.refl _ w2).setCells (g:=gv) (.inl (.inr (.inl ⟨_,HGVV.o,rfl⟩))) a [.string val])
  have HS3:=Hi (HS2.o.step HT3.o (fun _ h=>h));have HV3:=hI (w3.ownsRow b 9 1 (.slice l.B x.vals.length l.cb) x.vals.length ((x.vals.set a val).map Value.string)) (by
   have:=HST.o.1;rw [HW3.o,HGVV.o,List.map_set];exact this)
  have HK3:=hI (w3.ownsRow b 3 1 (.slice l.A x.keys.length l.ca) x.keys.length (x.keys.map (Value.int .i64))) (zy HM2.o.k (M:=fun k=>gv = k) (by
   rw [HW3.o]; exact (zw.refl _ w2).setCells (g:=gv) (.inl rfl) a [.string val]) (fun g hg e=>by
    cases hA:l.A with
    | none=>rw [hA] at hg; cases hg
    | some c=>rw [hA] at hg; cases hg; exact HM2.o.akv c _ hA HGVV.o e.symm))
  have HC3:=hI (w3.ownsRow b 3 1 (.slice l.C x.kids.length l.cc) x.kids.length (x.kids.map (Value.int .i64))) (zy HM2.o.c (M:=fun k=>gv = k) (by
   rw [HW3.o]; exact (zw.refl _ w2).setCells (g:=gv) (.inl rfl) a [.string val]) (fun g hg e=>by
    cases hA:l.C with
    | none=>rw [hA] at hg; cases hg
    | some c=>rw [hA] at hg; cases hg; exact HM2.o.avc _ c HGVV.o hA e))
  have HX3:=hI (x' = ⟨x.keys,x.vals.set a val,x.kids⟩) HX'.o;have HM3:=hI (zo w3 b l x') (by
   rw [HX3.o];refine zo.of_own HK3.o (by rw [show (x.vals.set a val).length = x.vals.length from zg2 ..]; exact HV3.o) HC3.o HM2.o.akv HM2.o.akc HM2.o.avc (by show x.keys.length <= 100; have:=HSZ.o.1; omega) ?_ ?_ HM2.o.is.kw ?_ HM2.o.is.cw
   ·show (x.vals.set a val).length <= 100;rw [zg2]; have:=HSZ.o; omega
   ·show x.kids.length <= 101;have:=HSZ.o; omega
   ·intro v hv;rcases List.mem_or_eq_of_mem_set hv with h | h
    ·exact HM2.o.is.vw v h
    ·rw [h]; exact HVW.o)
  clear HST HRO HT3 HS2 HM2 HV3 HK3 HC3 hcv hfv c1 r1 hgp;refine zg Tryz.ndProg (by rfl) _ rfl p rfl l x HS3.o.bx ?_;have HBQ:=Hi HS3.o.bq;have f0:=HS3.o.fq 0;have f1:=HS3.o.fq 1;have f2:=HS3.o.fq 2;have d0:=HBQ.o.c0;have d1:=HBQ.o.c1;have d2:=HBQ.o.c2;obtain ⟨w4,HWw4⟩:=hY (((w3.setCell ⟨q,0,none⟩ (.slice l.A x.keys.length l.ca)).setCell ⟨q,1,none⟩ (.slice l.B x.vals.length l.cb)).setCell ⟨q,2,none⟩ (.slice l.C x.kids.length l.cc));have HSw4:=hI (w4 = zC w3 q l x) HWw4.o;have HXw4:=hI (zb w4 q l x) (by rw [HSw4.o]; exact zF HBQ.o);go_wp2_with fail;rw [<- HWw4.o];refine bodyPost_ret (ji Tryz.ndProg rfl _ _ q l x rfl HXw4.o) rfl ?_;have hnq:¬ l.has q:=fun h=>by have:=HS3.o.lw q h; have:=HS3.o.wq; omega
  refine ⟨l,?_,?_,?_,fun g hg=>.inl hg⟩
  ·rw [HX3.o];show Ending.returned (ndV l x) = .returned (.agg #[.slice l.A x.keys.length l.ca,.slice l.B (x.vals.set a val).length l.cb,.slice l.C x.kids.length l.cc]);rw [zg2]
  ·rw [HSw4.o]; exact vx HM3.o hnq
  ·have h3:=HS3.o.turn;rw [HSw4.o];exact ⟨h3.os,h3.tape,h3.output,by rw [zN]; exact h3.size,fun k hk=>(zj (by have:=HS3.o.wq; omega)).trans (h3.block k hk)⟩
 | false =>
  go_upto_region 5 with (fail)
  refine wp_region_held (S:=fun w9=>Xj p r l x key val w9) (by kernel_rfl) ?_;change wpAnyH _ _ _ _ _ _ _ _ w2.drew;obtain ⟨wa,HWA⟩:=hY (w2.drew);rw [<- HWA.o];have hdr:Below w2.1.size w2 wa:=by rw [HWA.o]; exact (Below.refl _ _).drew
  have hS:Xk w p r q l x key val wa:=HS2.o.step (M:=fun _=>False) (zw.of_below hdr) (fun _ h=>h.elim);have HKA:=Hi (zy HM2.o.k (M:=fun _=>False) (zw.of_below hdr) (fun _ _ h=>h.elim));have HVA:=Hi (zy HM2.o.v (M:=fun _=>False) (zw.of_below hdr) (fun _ _ h=>h.elim));have HGE:=hI (w.1.size <= wa.1.size) hS.turn.size;have HLW:=hI (∀ g,l.has g -> g < w.1.size) hS.lw;have HNE:=hI (∀ a c,l.A = some a -> l.B = some c -> a.block ≠ c.block) HM2.o.akv;have HIS:=hI (xF w2 l x) HM2.o.is;clear HWA hdr HS2 HM2;obtain ⟨ks,HKS⟩:=hY (x.keys.take a ++ key :: x.keys.drop a);obtain ⟨vs,HVS⟩:=hY (x.vals.take a ++ val :: x.vals.drop a);refine xA9 0 22 (.pointer (some ⟨p,0,none⟩)) hS.r ?_;refine xG9 1 23 (.slice l.A x.keys.length l.ca) rfl (.inl ⟨by rfl,fun _ h=>by have c0:=h.bx.c0; go_simp⟩) hS.r ?_;refine xA9 2 24 (.int .i64 (a:Int)) hS.r ?_;refine xA9 3 25 (.pointer (some ⟨r,0,none⟩)) hS.r ?_;refine xG9 4 26 (.int .i64 key) rfl (.inl ⟨by rfl,fun _ h=>by have c0:=h.c0; go_simp⟩) hS.r ?_;refine xA9 7 29 (.pointer (some ⟨p,1,none⟩)) hS.r ?_;refine xG9 8 30 (.slice l.B x.vals.length l.cb) rfl (.inl ⟨by rfl,fun _ h=>by have c0:=h.bx.c1; go_simp⟩) hS.r ?_;refine xA9 9 31 (.int .i64 (a:Int)) hS.r ?_;refine xA9 10 32 (.pointer (some ⟨r,1,none⟩)) hS.r ?_;refine xG9 11 33 (.string val) rfl (.inl ⟨by rfl,fun _ h=>by have c0:=h.c1; go_simp⟩) hS.r ?_;refine JI (i:=5) (j:=12) (oi:=⟨some 27,_,_,_,_,_⟩) (oj:=⟨some 34,_,_,_,_,_⟩) rfl rfl (by kernel_rfl) (fun K hK=>?_) (fun K hK=>?_)
  ·go_simp;obtain ⟨v1,Hv1⟩:=hY (wa.1.size);obtain ⟨wb1,HWwb1⟩:=hY (wa.alloc (.cells #[.int .i64 key] 3));rw [<- HWwb1.o,<- Hv1.o];have ht:zw (fun _=>False) wa wb1:=by rw [HWwb1.o]; exact (zw.refl _ _).alloc _
   have HKA:=Hi (zy HKA.o ht (fun _ _ h=>h.elim));have HVA:=Hi (zy HVA.o ht (fun _ _ h=>h.elim));have HR1:=hI (yf wb1 v1 3 [.int .i64 key]) (by rw [HWwb1.o,Hv1.o]; exact yf.made _ _ _);have HGv1:=hI (w.1.size <= v1) (by rw [Hv1.o]; exact hS.turn.size);have hS2:=hS.step ht (fun _ h=>h.elim);have HGE:=Hi (zfH HGE.o ht.size);clear ht hS HWwb1;refine hK.out _ _ hS2.r ?_;clear hK K;have hS:=hS2;clear hS2;refine JI (i:=6) (j:=12) (oi:=⟨some 28,_,_,_,_,_⟩) (oj:=⟨some 34,_,_,_,_,_⟩) rfl rfl (by kernel_rfl) (fun K hK=>?_) (fun K hK=>?_)
   ·go_simp;refine (Qt HKA.o HAL.o HR1.o (fun c e h=>by have:=HLW.o c.block (.inl ⟨c,e,rfl⟩); have:=HGv1.o; omega) (by have:=HSZ.o.1; omega) (zfH HBW.o HGE.o)).mono ?_;rintro e wb2 ⟨A2,cA,rfl,hown,hbl,ht⟩;rw [<- HKS.o] at hown ⊢;clear HKA;have HKN:=Hi hown;have HKB:=hI (∀ c,A2 = some c -> (l.A = some c \/ (w.1.size <= c.block /\ q < c.block)) /\ c.block < wb2.1.size) fun c e=>⟨(hbl c e).imp id fun h=>⟨zfH HGE.o h,zfG hS.bq.lt h⟩,(hown.lt c.block (by rw [e]; rfl)).2⟩
    have HVA:=Hi (zy HVA.o ht (fun g hg ⟨c,e1,e2⟩=>by cases hB:l.B with | none=>(rw [hB] at hg; cases hg) | some d=>(rw [hB] at hg; cases hg; exact HNE.o c d e1 hB e2)));have hS2:=hS.step ht (fun _ ⟨c,e1,e2⟩=>.inl ⟨c,e1,e2⟩);have HGE:=Hi (zfH HGE.o ht.size);clear ht hS hown hbl HR1;refine hK.out _ _ hS2.r ?_;clear hK K;have hS:=hS2;clear hS2;refine xJ9 12 (some 34) (fun K hK=>?_);go_simp;obtain ⟨v2,Hv2⟩:=hY (wb2.1.size);obtain ⟨wb3,HWwb3⟩:=hY (wb2.alloc (.cells #[.string val] 9));rw [<- HWwb3.o,<- Hv2.o];have ht:zw (fun _=>False) wb2 wb3:=by rw [HWwb3.o]; exact (zw.refl _ _).alloc _
    have HVA:=Hi (zy HVA.o ht (fun _ _ h=>h.elim));have HKN:=Hi (zy HKN.o ht (fun _ _ h=>h.elim));have HR2:=hI (yf wb3 v2 9 [.string val]) (by rw [HWwb3.o,Hv2.o]; exact yf.made _ _ _);have HGv2:=hI (w.1.size <= v2) (by rw [Hv2.o]; exact hS.turn.size);have hS2:=hS.step ht (fun _ h=>h.elim);have HGE:=Hi (zfH HGE.o ht.size);clear ht hS HWwb3;refine hK.out _ _ hS2.r ?_;clear hK K;have hS:=hS2;clear hS2;refine xJ9 13 (some 35) (fun K hK=>?_);go_simp;refine (Qv HVA.o (by rw [HSZ.o.2.1]; exact HAL.o) HR2.o (fun c e h=>by have:=HLW.o c.block (.inr (.inl ⟨c,e,rfl⟩)); have:=HGv2.o; omega) (by have:=HSZ.o; omega) (zfH HBW.o HGE.o)).mono ?_;rintro e wb4 ⟨B2,cB,rfl,hown,hbl,ht⟩;rw [<- HVS.o] at hown ⊢;clear HVA;have HVN:=Hi hown;have HKL:=hI (∀ c,A2 = some c -> c.block < wb3.1.size) fun c e=>(HKN.o.lt c.block (by rw [e]; rfl)).2
    have HDD:=hI (∀ c d,A2 = some c -> B2 = some d -> c.block ≠ d.block) (fun c d e1 e2=>by
       rcases hbl d e2 with h1 | h1
       ·rcases (HKB.o c e1).1 with h2 | h2
        ·exact HNE.o c d h2 h1
        ·have:=HLW.o d.block (.inr (.inl ⟨d,h1,rfl⟩)); omega
       ·have:=HKL.o c e1; omega)
    have HVB:=hI (∀ d,B2 = some d -> l.B = some d \/ (w.1.size <= d.block /\ q < d.block)) fun d e=>(hbl d e).imp id fun h=>⟨zfH HGE.o h,zfG hS.bq.lt h⟩
    have HKN:=Hi (zy HKN.o ht (fun g hg ⟨d,e1,e2⟩=>by cases hA:A2 with | none=>(rw [hA] at hg; cases hg) | some c=>(rw [hA] at hg; cases hg; rcases (HKB.o c hA).1 with h2 | h2; exact HNE.o c d h2 e1 e2.symm; have:=HLW.o d.block (.inr (.inl ⟨d,e1,rfl⟩)); omega)));have hS2:=hS.step ht (fun _ ⟨c,e1,e2⟩=>.inr (.inl ⟨c,e1,e2⟩));clear ht hS hown hbl HR2;refine hK.out _ _ hS2.r ?_;clear hK K;have hS:=hS2;clear hS2;refine xA9 14 36 (.agg #[.slice A2 ks.length cA,.slice B2 vs.length cB,.slice none 0 0]) hS.r ?_;refine xJ9 15 (none) (fun K hK=>?_);have HBQ:=Hi hS.bq;have f0:=hS.fq 0;have f1:=hS.fq 1;have f2:=hS.fq 2;obtain ⟨x2,HX2⟩:∃ x2:Nd,Hid (x2 = ⟨ks,vs,[]⟩):=Hy;have d0:=HBQ.o.c0;have d1:=HBQ.o.c1;have d2:=HBQ.o.c2;obtain ⟨w4,HWw4⟩:=hY (((wb4.setCell ⟨q,0,none⟩ (.slice A2 ks.length cA)).setCell ⟨q,1,none⟩ (.slice B2 vs.length cB)).setCell ⟨q,2,none⟩ (.slice none 0 0));have HSw4:=hI (w4 = zC wb4 q ⟨A2,B2,none,cA,cB,0⟩ x2) (by rw [HX2.o]; exact HWw4.o);have HXw4:=hI (zb w4 q ⟨A2,B2,none,cA,cB,0⟩ x2) (by rw [HSw4.o]; exact zF HBQ.o);go_simp;rw [<- HWw4.o];have hT4:zw (fun k=>k = q) wb4 w4:=⟨by rw [HSw4.o]; rfl,by rw [HSw4.o]; rfl,by rw [HSw4.o]; rfl,by rw [HSw4.o,zN]; exact zfI _,fun k hk=>by rw [HSw4.o]; exact zj hk.2⟩
    have HSS:=Hi hS;clear hS;have hpq:p ≠ q /\ r ≠ q:=HPQ.o;have hR4:Xj p r l x key val w4:=HSS.o.r.keep (by rw [HSw4.o]; exact zj hpq.1) (by rw [HSw4.o]; exact zj hpq.2);refine hK.out _ _ hR4 ?_;clear hK K;refine wpAnyH_done (by kernel_rfl) ?_ _;go_wp2_with fail;refine bodyPost_ret (ji Tryz.ndProg rfl _ _ q ⟨A2,B2,none,cA,cB,0⟩ x2 rfl HXw4.o) rfl ?_;have hqA:∀ c,A2 = some c -> c.block ≠ q:=fun c e h=>by
     rcases (HKB.o c e).1 with h3 | h3
     ·have:=HLW.o c.block (.inl ⟨c,h3,rfl⟩); have:=HSS.o.wq; omega
     ·have:=h3.2; omega
    have hqB:∀ c,B2 = some c -> c.block ≠ q:=fun c e h=>by
     rcases HVB.o c e with h3 | h3
     ·have:=HLW.o c.block (.inr (.inl ⟨c,h3,rfl⟩)); have:=HSS.o.wq; omega
     ·have:=h3.2; omega
    have hx:x' = x2:=by rw [HX'.o,HX2.o,HKS.o,HVS.o]; rfl
    rw [hx];refine ⟨_,rfl,?_,HSS.o.turn.trans (hT4.more fun k _ hk=>.inr (by rw [hk]; exact HSS.o.wq)),?_⟩
    ·rw [HX2.o];refine zo.of_own (zy HKN.o hT4 ?_) (zy HVN.o hT4 ?_) (World.ownsRow_nil _ _ _ _) HDD.o (fun _ _ _ h=>(by cases h)) (fun _ _ _ h=>(by cases h)) ?_ ?_ (Nat.zero_le _) ?_ ?_ (fun z hz=>(by cases hz))
     ·intro g hg e;cases hA:A2 with
      | none=>rw [hA] at hg; cases hg
      | some c=>rw [hA] at hg; cases hg; exact hqA c hA e
     ·intro g hg e;cases hA:B2 with
      | none=>rw [hA] at hg; cases hg
      | some c=>rw [hA] at hg; cases hg; exact hqB c hA e
     ·show ks.length <= 100;rw [HKS.o]; have:=HSZ.o; have:=HAL.o; simp; omega
     ·show vs.length <= 100;rw [HVS.o]; have:=HSZ.o; have:=HAL.o; simp; omega
     ·intro z hz;have hz2:z ∈ x.keys.take a ++ key :: x.keys.drop a:=by rw [<- HKS.o]; exact hz
      rcases zgf.1 hz2 with h | h
      ·exact HIS.o.kw z (zgu h)
      ·rcases zgz.1 h with h | h
       ·rw [h]; exact HKW.o
       ·exact HIS.o.kw z (zgv h)
     ·intro z hz;have hz2:z ∈ x.vals.take a ++ val :: x.vals.drop a:=by rw [<- HVS.o]; exact hz
      rcases zgf.1 hz2 with h | h
      ·exact HIS.o.vw z (zgu h)
      ·rcases zgz.1 h with h | h
       ·rw [h]; exact HVW.o
       ·exact HIS.o.vw z (zgv h)
    ·rintro g (⟨c,e,rfl⟩ | ⟨c,e,rfl⟩ | ⟨c,e,rfl⟩)
     ·rcases (HKB.o c e).1 with h3 | h3
      ·exact .inl (.inl ⟨c,h3,rfl⟩)
      ·exact .inr h3.1
     ·rcases HVB.o c e with h3 | h3
      ·exact .inl (.inr (.inl ⟨c,h3,rfl⟩))
      ·exact .inr h3.1
     ·cases e
   ·go_simp;obtain ⟨v2,Hv2⟩:=hY (wb1.1.size);obtain ⟨wb2,HWwb2⟩:=hY (wb1.alloc (.cells #[.string val] 9));rw [<- HWwb2.o,<- Hv2.o];have ht:zw (fun _=>False) wb1 wb2:=by rw [HWwb2.o]; exact (zw.refl _ _).alloc _
    have HKA:=Hi (zy HKA.o ht (fun _ _ h=>h.elim));have HVA:=Hi (zy HVA.o ht (fun _ _ h=>h.elim));have HR1:=Hi (ZF HR1.o ht (fun h=>h.elim));have HR2:=hI (yf wb2 v2 9 [.string val]) (by rw [HWwb2.o,Hv2.o]; exact yf.made _ _ _);have HGv2:=hI (w.1.size <= v2) (by rw [Hv2.o]; exact hS.turn.size);have hS2:=hS.step ht (fun _ h=>h.elim);have HGE:=Hi (zfH HGE.o ht.size);clear ht hS HWwb2;refine hK.out _ _ hS2.r ?_;clear hK K;have hS:=hS2;clear hS2;refine xJ9 6 (some 28) (fun K hK=>?_);go_simp;refine (Qt HKA.o HAL.o HR1.o (fun c e h=>by have:=HLW.o c.block (.inl ⟨c,e,rfl⟩); have:=HGv1.o; omega) (by have:=HSZ.o.1; omega) (zfH HBW.o HGE.o)).mono ?_;rintro e wb3 ⟨A2,cA,rfl,hown,hbl,ht⟩;rw [<- HKS.o] at hown ⊢;clear HKA;have HKN:=Hi hown;have HKB:=hI (∀ c,A2 = some c -> (l.A = some c \/ (w.1.size <= c.block /\ q < c.block)) /\ c.block < wb3.1.size) fun c e=>⟨(hbl c e).imp id fun h=>⟨zfH HGE.o h,zfG hS.bq.lt h⟩,(hown.lt c.block (by rw [e]; rfl)).2⟩
    have HVA:=Hi (zy HVA.o ht (fun g hg ⟨c,e1,e2⟩=>by cases hB:l.B with | none=>(rw [hB] at hg; cases hg) | some d=>(rw [hB] at hg; cases hg; exact HNE.o c d e1 hB e2)));have HR2:=Hi (ZF HR2.o ht (fun ⟨c,e1,e2⟩=>by have:=HLW.o c.block (.inl ⟨c,e1,rfl⟩); have:=HGv2.o; omega));have hS2:=hS.step ht (fun _ ⟨c,e1,e2⟩=>.inl ⟨c,e1,e2⟩);have HGE:=Hi (zfH HGE.o ht.size);clear ht hS hown hbl HR1;refine hK.out _ _ hS2.r ?_;clear hK K;have hS:=hS2;clear hS2;refine xJ9 13 (some 35) (fun K hK=>?_);go_simp;refine (Qv HVA.o (by rw [HSZ.o.2.1]; exact HAL.o) HR2.o (fun c e h=>by have:=HLW.o c.block (.inr (.inl ⟨c,e,rfl⟩)); have:=HGv2.o; omega) (by have:=HSZ.o; omega) (zfH HBW.o HGE.o)).mono ?_;rintro e wb4 ⟨B2,cB,rfl,hown,hbl,ht⟩;rw [<- HVS.o] at hown ⊢;clear HVA;have HVN:=Hi hown;have HKL:=hI (∀ c,A2 = some c -> c.block < wb3.1.size) fun c e=>(HKN.o.lt c.block (by rw [e]; rfl)).2
    have HDD:=hI (∀ c d,A2 = some c -> B2 = some d -> c.block ≠ d.block) (fun c d e1 e2=>by
       rcases hbl d e2 with h1 | h1
       ·rcases (HKB.o c e1).1 with h2 | h2
        ·exact HNE.o c d h2 h1
        ·have:=HLW.o d.block (.inr (.inl ⟨d,h1,rfl⟩)); omega
       ·have:=HKL.o c e1; omega)
    have HVB:=hI (∀ d,B2 = some d -> l.B = some d \/ (w.1.size <= d.block /\ q < d.block)) fun d e=>(hbl d e).imp id fun h=>⟨zfH HGE.o h,zfG hS.bq.lt h⟩
    have HKN:=Hi (zy HKN.o ht (fun g hg ⟨d,e1,e2⟩=>by cases hA:A2 with | none=>(rw [hA] at hg; cases hg) | some c=>(rw [hA] at hg; cases hg; rcases (HKB.o c hA).1 with h2 | h2; exact HNE.o c d h2 e1 e2.symm; have:=HLW.o d.block (.inr (.inl ⟨d,e1,rfl⟩)); omega)));have hS2:=hS.step ht (fun _ ⟨c,e1,e2⟩=>.inr (.inl ⟨c,e1,e2⟩));clear ht hS hown hbl HR2;refine hK.out _ _ hS2.r ?_;clear hK K;have hS:=hS2;clear hS2;refine xA9 14 36 (.agg #[.slice A2 ks.length cA,.slice B2 vs.length cB,.slice none 0 0]) hS.r ?_;refine xJ9 15 (none) (fun K hK=>?_);have HBQ:=Hi hS.bq;have f0:=hS.fq 0;have f1:=hS.fq 1;have f2:=hS.fq 2;obtain ⟨x2,HX2⟩:∃ x2:Nd,Hid (x2 = ⟨ks,vs,[]⟩):=Hy;have d0:=HBQ.o.c0;have d1:=HBQ.o.c1;have d2:=HBQ.o.c2;obtain ⟨w4,HWw4⟩:=hY (((wb4.setCell ⟨q,0,none⟩ (.slice A2 ks.length cA)).setCell ⟨q,1,none⟩ (.slice B2 vs.length cB)).setCell ⟨q,2,none⟩ (.slice none 0 0));have HSw4:=hI (w4 = zC wb4 q ⟨A2,B2,none,cA,cB,0⟩ x2) (by rw [HX2.o]; exact HWw4.o);have HXw4:=hI (zb w4 q ⟨A2,B2,none,cA,cB,0⟩ x2) (by rw [HSw4.o]; exact zF HBQ.o);go_simp;rw [<- HWw4.o];have hT4:zw (fun k=>k = q) wb4 w4:=⟨by rw [HSw4.o]; rfl,by rw [HSw4.o]; rfl,by rw [HSw4.o]; rfl,by rw [HSw4.o,zN]; exact zfI _,fun k hk=>by rw [HSw4.o]; exact zj hk.2⟩
    have HSS:=Hi hS;clear hS;have hpq:p ≠ q /\ r ≠ q:=HPQ.o;have hR4:Xj p r l x key val w4:=HSS.o.r.keep (by rw [HSw4.o]; exact zj hpq.1) (by rw [HSw4.o]; exact zj hpq.2);refine hK.out _ _ hR4 ?_;clear hK K;refine wpAnyH_done (by kernel_rfl) ?_ _;go_wp2_with fail;refine bodyPost_ret (ji Tryz.ndProg rfl _ _ q ⟨A2,B2,none,cA,cB,0⟩ x2 rfl HXw4.o) rfl ?_;have hqA:∀ c,A2 = some c -> c.block ≠ q:=fun c e h=>by
     rcases (HKB.o c e).1 with h3 | h3
     ·have:=HLW.o c.block (.inl ⟨c,h3,rfl⟩); have:=HSS.o.wq; omega
     ·have:=h3.2; omega
    have hqB:∀ c,B2 = some c -> c.block ≠ q:=fun c e h=>by
     rcases HVB.o c e with h3 | h3
     ·have:=HLW.o c.block (.inr (.inl ⟨c,h3,rfl⟩)); have:=HSS.o.wq; omega
     ·have:=h3.2; omega
    have hx:x' = x2:=by rw [HX'.o,HX2.o,HKS.o,HVS.o]; rfl
    rw [hx];refine ⟨_,rfl,?_,HSS.o.turn.trans (hT4.more fun k _ hk=>.inr (by rw [hk]; exact HSS.o.wq)),?_⟩
    ·rw [HX2.o];refine zo.of_own (zy HKN.o hT4 ?_) (zy HVN.o hT4 ?_) (World.ownsRow_nil _ _ _ _) HDD.o (fun _ _ _ h=>(by cases h)) (fun _ _ _ h=>(by cases h)) ?_ ?_ (Nat.zero_le _) ?_ ?_ (fun z hz=>(by cases hz))
     ·intro g hg e;cases hA:A2 with
      | none=>rw [hA] at hg; cases hg
      | some c=>rw [hA] at hg; cases hg; exact hqA c hA e
     ·intro g hg e;cases hA:B2 with
      | none=>rw [hA] at hg; cases hg
      | some c=>rw [hA] at hg; cases hg; exact hqB c hA e
     ·show ks.length <= 100;rw [HKS.o]; have:=HSZ.o; have:=HAL.o; simp; omega
     ·show vs.length <= 100;rw [HVS.o]; have:=HSZ.o; have:=HAL.o; simp; omega
     ·intro z hz;have hz2:z ∈ x.keys.take a ++ key :: x.keys.drop a:=by rw [<- HKS.o]; exact hz
      rcases zgf.1 hz2 with h | h
      ·exact HIS.o.kw z (zgu h)
      ·rcases zgz.1 h with h | h
       ·rw [h]; exact HKW.o
       ·exact HIS.o.kw z (zgv h)
     ·intro z hz;have hz2:z ∈ x.vals.take a ++ val :: x.vals.drop a:=by rw [<- HVS.o]; exact hz
      rcases zgf.1 hz2 with h | h
      ·exact HIS.o.vw z (zgu h)
      ·rcases zgz.1 h with h | h
       ·rw [h]; exact HVW.o
       ·exact HIS.o.vw z (zgv h)
    ·rintro g (⟨c,e,rfl⟩ | ⟨c,e,rfl⟩ | ⟨c,e,rfl⟩)
     ·rcases (HKB.o c e).1 with h3 | h3
      ·exact .inl (.inl ⟨c,h3,rfl⟩)
      ·exact .inr h3.1
     ·rcases HVB.o c e with h3 | h3
      ·exact .inl (.inr (.inl ⟨c,h3,rfl⟩))
      ·exact .inr h3.1
     ·cases e
  ·go_simp;obtain ⟨v2,Hv2⟩:=hY (wa.1.size);obtain ⟨wb1,HWwb1⟩:=hY (wa.alloc (.cells #[.string val] 9));rw [<- HWwb1.o,<- Hv2.o];have ht:zw (fun _=>False) wa wb1:=by rw [HWwb1.o]; exact (zw.refl _ _).alloc _
   have HKA:=Hi (zy HKA.o ht (fun _ _ h=>h.elim));have HVA:=Hi (zy HVA.o ht (fun _ _ h=>h.elim));have HR2:=hI (yf wb1 v2 9 [.string val]) (by rw [HWwb1.o,Hv2.o]; exact yf.made _ _ _);have HGv2:=hI (w.1.size <= v2) (by rw [Hv2.o]; exact hS.turn.size);have hS2:=hS.step ht (fun _ h=>h.elim);have HGE:=Hi (zfH HGE.o ht.size);clear ht hS HWwb1;refine hK.out _ _ hS2.r ?_;clear hK K;have hS:=hS2;clear hS2;refine xJ9 5 (some 27) (fun K hK=>?_);go_simp;obtain ⟨v1,Hv1⟩:=hY (wb1.1.size);obtain ⟨wb2,HWwb2⟩:=hY (wb1.alloc (.cells #[.int .i64 key] 3));rw [<- HWwb2.o,<- Hv1.o];have ht:zw (fun _=>False) wb1 wb2:=by rw [HWwb2.o]; exact (zw.refl _ _).alloc _
   have HKA:=Hi (zy HKA.o ht (fun _ _ h=>h.elim));have HVA:=Hi (zy HVA.o ht (fun _ _ h=>h.elim));have HR2:=Hi (ZF HR2.o ht (fun h=>h.elim));have HR1:=hI (yf wb2 v1 3 [.int .i64 key]) (by rw [HWwb2.o,Hv1.o]; exact yf.made _ _ _);have HGv1:=hI (w.1.size <= v1) (by rw [Hv1.o]; exact hS.turn.size);have hS2:=hS.step ht (fun _ h=>h.elim);have HGE:=Hi (zfH HGE.o ht.size);clear ht hS HWwb2;refine hK.out _ _ hS2.r ?_;clear hK K;have hS:=hS2;clear hS2;refine xJ9 6 (some 28) (fun K hK=>?_);go_simp;refine (Qt HKA.o HAL.o HR1.o (fun c e h=>by have:=HLW.o c.block (.inl ⟨c,e,rfl⟩); have:=HGv1.o; omega) (by have:=HSZ.o.1; omega) (zfH HBW.o HGE.o)).mono ?_;rintro e wb3 ⟨A2,cA,rfl,hown,hbl,ht⟩;rw [<- HKS.o] at hown ⊢;clear HKA;have HKN:=Hi hown;have HKB:=hI (∀ c,A2 = some c -> (l.A = some c \/ (w.1.size <= c.block /\ q < c.block)) /\ c.block < wb3.1.size) fun c e=>⟨(hbl c e).imp id fun h=>⟨zfH HGE.o h,zfG hS.bq.lt h⟩,(hown.lt c.block (by rw [e]; rfl)).2⟩
   have HVA:=Hi (zy HVA.o ht (fun g hg ⟨c,e1,e2⟩=>by cases hB:l.B with | none=>(rw [hB] at hg; cases hg) | some d=>(rw [hB] at hg; cases hg; exact HNE.o c d e1 hB e2)));have HR2:=Hi (ZF HR2.o ht (fun ⟨c,e1,e2⟩=>by have:=HLW.o c.block (.inl ⟨c,e1,rfl⟩); have:=HGv2.o; omega));have hS2:=hS.step ht (fun _ ⟨c,e1,e2⟩=>.inl ⟨c,e1,e2⟩);have HGE:=Hi (zfH HGE.o ht.size);clear ht hS hown hbl HR1;refine hK.out _ _ hS2.r ?_;clear hK K;have hS:=hS2;clear hS2;refine xJ9 13 (some 35) (fun K hK=>?_);go_simp;refine (Qv HVA.o (by rw [HSZ.o.2.1]; exact HAL.o) HR2.o (fun c e h=>by have:=HLW.o c.block (.inr (.inl ⟨c,e,rfl⟩)); have:=HGv2.o; omega) (by have:=HSZ.o; omega) (zfH HBW.o HGE.o)).mono ?_;rintro e wb4 ⟨B2,cB,rfl,hown,hbl,ht⟩;rw [<- HVS.o] at hown ⊢;clear HVA;have HVN:=Hi hown;have HKL:=hI (∀ c,A2 = some c -> c.block < wb3.1.size) fun c e=>(HKN.o.lt c.block (by rw [e]; rfl)).2
   have HDD:=hI (∀ c d,A2 = some c -> B2 = some d -> c.block ≠ d.block) (fun c d e1 e2=>by
      rcases hbl d e2 with h1 | h1
      ·rcases (HKB.o c e1).1 with h2 | h2
       ·exact HNE.o c d h2 h1
       ·have:=HLW.o d.block (.inr (.inl ⟨d,h1,rfl⟩)); omega
      ·have:=HKL.o c e1; omega)
   have HVB:=hI (∀ d,B2 = some d -> l.B = some d \/ (w.1.size <= d.block /\ q < d.block)) fun d e=>(hbl d e).imp id fun h=>⟨zfH HGE.o h,zfG hS.bq.lt h⟩
   have HKN:=Hi (zy HKN.o ht (fun g hg ⟨d,e1,e2⟩=>by cases hA:A2 with | none=>(rw [hA] at hg; cases hg) | some c=>(rw [hA] at hg; cases hg; rcases (HKB.o c hA).1 with h2 | h2; exact HNE.o c d h2 e1 e2.symm; have:=HLW.o d.block (.inr (.inl ⟨d,e1,rfl⟩)); omega)));have hS2:=hS.step ht (fun _ ⟨c,e1,e2⟩=>.inr (.inl ⟨c,e1,e2⟩));clear ht hS hown hbl HR2;refine hK.out _ _ hS2.r ?_;clear hK K;have hS:=hS2;clear hS2;refine xA9 14 36 (.agg #[.slice A2 ks.length cA,.slice B2 vs.length cB,.slice none 0 0]) hS.r ?_;refine xJ9 15 (none) (fun K hK=>?_);have HBQ:=Hi hS.bq;have f0:=hS.fq 0;have f1:=hS.fq 1;have f2:=hS.fq 2;obtain ⟨x2,HX2⟩:∃ x2:Nd,Hid (x2 = ⟨ks,vs,[]⟩):=Hy;have d0:=HBQ.o.c0;have d1:=HBQ.o.c1;have d2:=HBQ.o.c2;obtain ⟨w4,HWw4⟩:=hY (((wb4.setCell ⟨q,0,none⟩ (.slice A2 ks.length cA)).setCell ⟨q,1,none⟩ (.slice B2 vs.length cB)).setCell ⟨q,2,none⟩ (.slice none 0 0));have HSw4:=hI (w4 = zC wb4 q ⟨A2,B2,none,cA,cB,0⟩ x2) (by rw [HX2.o]; exact HWw4.o);have HXw4:=hI (zb w4 q ⟨A2,B2,none,cA,cB,0⟩ x2) (by rw [HSw4.o]; exact zF HBQ.o);go_simp;rw [<- HWw4.o];have hT4:zw (fun k=>k = q) wb4 w4:=⟨by rw [HSw4.o]; rfl,by rw [HSw4.o]; rfl,by rw [HSw4.o]; rfl,by rw [HSw4.o,zN]; exact zfI _,fun k hk=>by rw [HSw4.o]; exact zj hk.2⟩
   have HSS:=Hi hS;clear hS;have hpq:p ≠ q /\ r ≠ q:=HPQ.o;have hR4:Xj p r l x key val w4:=HSS.o.r.keep (by rw [HSw4.o]; exact zj hpq.1) (by rw [HSw4.o]; exact zj hpq.2);refine hK.out _ _ hR4 ?_;clear hK K;refine wpAnyH_done (by kernel_rfl) ?_ _;go_wp2_with fail;refine bodyPost_ret (ji Tryz.ndProg rfl _ _ q ⟨A2,B2,none,cA,cB,0⟩ x2 rfl HXw4.o) rfl ?_;have hqA:∀ c,A2 = some c -> c.block ≠ q:=fun c e h=>by
    rcases (HKB.o c e).1 with h3 | h3
    ·have:=HLW.o c.block (.inl ⟨c,h3,rfl⟩); have:=HSS.o.wq; omega
    ·have:=h3.2; omega
   have hqB:∀ c,B2 = some c -> c.block ≠ q:=fun c e h=>by
    rcases HVB.o c e with h3 | h3
    ·have:=HLW.o c.block (.inr (.inl ⟨c,h3,rfl⟩)); have:=HSS.o.wq; omega
    ·have:=h3.2; omega
   have hx:x' = x2:=by rw [HX'.o,HX2.o,HKS.o,HVS.o]; rfl
   rw [hx];refine ⟨_,rfl,?_,HSS.o.turn.trans (hT4.more fun k _ hk=>.inr (by rw [hk]; exact HSS.o.wq)),?_⟩
   ·rw [HX2.o];refine zo.of_own (zy HKN.o hT4 ?_) (zy HVN.o hT4 ?_) (World.ownsRow_nil _ _ _ _) HDD.o (fun _ _ _ h=>(by cases h)) (fun _ _ _ h=>(by cases h)) ?_ ?_ (Nat.zero_le _) ?_ ?_ (fun z hz=>(by cases hz))
    ·intro g hg e;cases hA:A2 with
     | none=>rw [hA] at hg; cases hg
     | some c=>rw [hA] at hg; cases hg; exact hqA c hA e
    ·intro g hg e;cases hA:B2 with
     | none=>rw [hA] at hg; cases hg
     | some c=>rw [hA] at hg; cases hg; exact hqB c hA e
    ·show ks.length <= 100;rw [HKS.o]; have:=HSZ.o; have:=HAL.o; simp; omega
    ·show vs.length <= 100;rw [HVS.o]; have:=HSZ.o; have:=HAL.o; simp; omega
    ·intro z hz;have hz2:z ∈ x.keys.take a ++ key :: x.keys.drop a:=by rw [<- HKS.o]; exact hz
     rcases zgf.1 hz2 with h | h
     ·exact HIS.o.kw z (zgu h)
     ·rcases zgz.1 h with h | h
      ·rw [h]; exact HKW.o
      ·exact HIS.o.kw z (zgv h)
    ·intro z hz;have hz2:z ∈ x.vals.take a ++ val :: x.vals.drop a:=by rw [<- HVS.o]; exact hz
     rcases zgf.1 hz2 with h | h
     ·exact HIS.o.vw z (zgu h)
     ·rcases zgz.1 h with h | h
      ·rw [h]; exact HVW.o
      ·exact HIS.o.vw z (zgv h)
   ·rintro g (⟨c,e,rfl⟩ | ⟨c,e,rfl⟩ | ⟨c,e,rfl⟩)
    ·rcases (HKB.o c e).1 with h3 | h3
     ·exact .inl (.inl ⟨c,h3,rfl⟩)
     ·exact .inr h3.1
    ·rcases HVB.o c e with h3 | h3
     ·exact .inl (.inr (.inl ⟨c,h3,rfl⟩))
     ·exact .inr h3.1
    ·cases e
end
section
open Go.RowKit
theorem JL {x:Nd} (hr:zM x = true) (hlf:x.kids.length = 0) (key:Int) (val:ByteArray):xL (qe x key val):=by
 obtain ⟨h1,h7,h3⟩:=zm hr;have hv:=(yh hr).leaf hlf;unfold qe;split
 ·exact ⟨fun _=>by simp [hv],fun h=>absurd hlf h,by show x.keys.length <= 100; omega⟩
 ·refine ⟨fun _=>?_,fun h=>absurd rfl h,?_⟩
  ·simp only [zf0,zfZ,zfJ,zf8]; omega
  ·simp only [zf0,zfZ,zfJ,zf8]; omega
theorem WF (x:Nd):(yw x).1.length = (yw x).2.length + 1:=by
 unfold yw;split
 ·rfl
 ·split
  ·simp only [zfJ,List.length_nil,zfZ,zf8]; omega
  ·simp only [zfJ,List.length_nil,zfZ,zf8]; omega
theorem vj (x:Nd):(yw x).2.length <= 1:=by
 have h1:=WF x;have h2:=Z2 x;omega
theorem Wi (n:Nat) (l:List Nd):∀ {S S1:TS} {ks:List Int},zY n S l = (.ok ks,S1) -> ks.length = l.length:=by
 induction l with
 | nil=>intro S S1 ks h; simp only [zY,zgY.injEq,Except.ok.injEq] at h; rw [<- h.1]; rfl
 | cons y l ih =>
  intro S S1 ks h;unfold zY at h;cases ha:xK n S y with
  | mk o S2 =>
   rw [ha] at h;cases o with
   | error c=>simp only [zgY.injEq] at h; cases h.1
   | ok k =>
    simp only at h;cases hb:zY n S2 l with
    | mk o2 S3 =>
     rw [hb] at h;cases o2 with
     | error c=>simp only [zgY.injEq] at h; cases h.1
     | ok ks2 =>
      simp only [zgY.injEq,Except.ok.injEq] at h;rw [<- h.1,zfJ,zfJ,ih hb]
theorem kF {n:Nat} {S S1:TS} {x:Nd} {old bk ks:List Int} (h:yt n S x old = (.ok (bk,ks),S1)):bk = (yw x).2 /\ ks.length = bk.length + 1:=by
 unfold yt at h;cases ha:zY n S (yw x).1 with
 | mk o S2 =>
  rw [ha] at h;cases o with
  | error c=>simp only [zgY.injEq] at h; cases h.1
  | ok ks2 =>
   simp only at h;cases hb:yo S2 old with
   | mk c S3 =>
    rw [hb] at h;simp only at h;split at h
    ·simp only [zgY.injEq,Except.ok.injEq] at h;obtain ⟨⟨rfl,rfl⟩,_⟩:=h;exact ⟨rfl,by rw [Wi n _ ha,WF]⟩
    ·simp only [zgY.injEq] at h; cases h.1
theorem vM {n:Nat} {S S1:TS} {x y z:Nd} {at_ many:Nat} (hr:zM x = true) (hk:x.kids.length ≠ 0) (hm:1 <= many) (hat:at_ + many <= x.kids.length) (h:zS n S x at_ many y = (.ok z,S1)):xL z:=by
 have h1:=(yh hr).inner hk;have h7:=(zm hr).2.1;unfold zS at h;cases hc:yt n S y ((x.kids.drop at_).take many) with
 | mk o S2 =>
  rw [hc] at h;cases o with
  | error c=>simp only [zgY.injEq] at h; cases h.1
  | ok r =>
   obtain ⟨bk,ks⟩:=r;simp only [zgY.injEq,Except.ok.injEq] at h;obtain ⟨rfl,_⟩:=h;obtain ⟨h2,h3⟩:=kF hc;have h4:=vj y;rw [<- h2] at h4;refine ⟨fun h0=>?_,fun _=>⟨rfl,?_⟩,?_⟩
   ·simp only [zf0,zfZ,zf8] at h0; omega
   ·simp only [zf0,zfZ,zf8]; omega
   ·simp only [zf0,zfZ,zf8]; omega
theorem WH {n:Nat} {key:Int} {val:ByteArray} (f:Nat):∀ {S S1:TS} {i:Int} {z:Nd},jg n f S i key val = (.ok z,S1) -> xL z:=by
 induction f with
 | zero=>intro S S1 i z h; simp only [jg,zgY.injEq] at h; cases h.1
 | succ f ih =>
  intro S S1 i z h;unfold jg at h;cases hl:yp S i (12 - f:Int) with
  | error c=>rw [hl] at h; simp only [zgY.injEq] at h; cases h.1
  | ok x =>
   rw [hl] at h;simp only at h;have hr:=xB hl;split at h
   ·rename_i h0
    simp only [zgY.injEq,Except.ok.injEq] at h;rw [<- h.1];exact JL hr h0 _ _
   ·rename_i h0
    split at h
    ·simp only [zgY.injEq] at h; cases h.1
    ·rename_i kid S2 hp
     exact vM hr h0 (zfI _) (kY hr h0 key) h
theorem QA (f:Int -> Int -> Int -> Except Int (List (Int × ByteArray))) (x:Nd) (a b:Int) (l:List Int):∀ {i:Nat} {m:List (Int × ByteArray)} (k:Int),xS f x a b i l = .ok m -> xS f x a b i (l ++ [k]) =
  if jG x (i + l.length) a < wI x (i + l.length) b then (match f k (jG x (i + l.length) a) (wI x (i + l.length) b) with | .error c=>.error c | .ok m2=>.ok (m ++ m2)) else .ok m:=by
 induction l with
 | nil =>
  intro i m k h;simp only [xS,Except.ok.injEq] at h;subst h;simp only [List.nil_append,xS,List.length_nil,Nat.add_zero];split
  ·cases f k (jG x i a) (wI x i b) with
   | error c=>rfl
   | ok m2=>simp
  ·rfl
 | cons y l ih =>
  intro i m k h;simp only [xS] at h;simp only [List.cons_append,xS,zfJ];rw [show i + (l.length + 1) = i + 1 + l.length by omega];split at h
  ·rename_i hc
   rw [if_pos hc];cases hf:f y (jG x i a) (wI x i b) with
   | error c=>rw [hf] at h; cases h
   | ok m1 =>
    rw [hf] at h;simp only at h ⊢;cases hk:xS f x a b (i + 1) l with
    | error c=>rw [hk] at h; cases h
    | ok m2 =>
     rw [hk] at h;simp only [Except.ok.injEq] at h;subst h;rw [ih k hk];by_cases hc2:jG x (i + 1 + l.length) a < wI x (i + 1 + l.length) b
     ·rw [if_pos hc2,if_pos hc2];cases f k (jG x (i + 1 + l.length) a) (wI x (i + 1 + l.length) b) with
      | error c=>rfl
      | ok m3=>simp
     ·rw [if_neg hc2,if_neg hc2]
  ·rename_i hc
   rw [if_neg hc];exact ih k h
theorem QB (f:Int -> Int -> Int -> Except Int (List (Int × ByteArray))) (x:Nd) (a b:Int) (l:List Int):∀ {i:Nat} {c:Int} (r:List Int),xS f x a b i l = .error c -> xS f x a b i (l ++ r) = .error c:=by
 induction l with
 | nil=>intro i c r h; simp [xS] at h
 | cons y l ih =>
  intro i c r h;simp only [xS] at h;simp only [List.cons_append,xS];split at h
  ·rename_i hc
   rw [if_pos hc];cases hf:f y (jG x i a) (wI x i b) with
   | error c2=>rw [hf] at h; exact h
   | ok m1 =>
    rw [hf] at h;simp only at h ⊢;cases hk:xS f x a b (i + 1) l with
    | error c2=>rw [hk] at h; simp only at h; rw [ih r hk]; exact h
    | ok m2=>rw [hk] at h; cases h
  ·rename_i hc
   rw [if_neg hc];exact ih r h
theorem zbp {keys:List Int} {vals:List ByteArray} {i:Nat} (hk:i < keys.length) (hv:i < vals.length) (p:Int × ByteArray -> Bool):((keys.zip vals).take (i + 1)).filter p = ((keys.zip vals).take i).filter p ++ if p (keys[i],vals[i]) = true then [(keys[i],vals[i])] else []:=by
 have hz:i < (keys.zip vals).length:=by rw [List.length_zip]; omega
 rw [List.take_add_one,zfM hz,List.filter_append,List.getElem_zip];congr 1;simp only [Option.toList,List.filter_cons,List.filter_nil]
end
