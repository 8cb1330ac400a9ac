/-
  Disks. Conditions: as said.
-/
import Derived.Test.YtafclmbecmgbnaaGreatDoorPacks
import Derived.Deep.MidRow
import Derived.Deep.DeepAppendWide
import Derived.Deep.WholeRow
import Derived.Laws.CopyRow
import Derived.Laws.Tables
import Derived.Great.BuildSlice
import Derived.StillTailTactics
import Derived.Deep.RegionHeld3
import Derived.Deep.DeepCutAuto
import Derived.Deep.CutBlock
import Derived.Deep.RegionWith
import Derived.Laws.StructEq
/-
 zE. Conditions: as each theorem says.
-/
set_option maxRecDepth 100000
set_option maxHeartbeats 2000000
open Nat renaming le_refl -> ze3,zero_add -> zfa
open Array renaming getElem?_eq_getElem -> ze9,getD_eq_getD_getElem? -> zfd,getElem?_eq_some_iff -> zfe
open List renaming getElem?_eq_getElem -> ze7,drop_succ_cons -> zfb,take_zero -> zfc,length_cons -> ze4,take_succ_cons -> zff,getElem?_eq_some_iff -> ze5
namespace Go.Proofs.YtafclmbecmgbnaaGreatDoor
open Go.RowKit
section
structure zh (K:Nat -> Prop) (w w':World):Prop where
 os:w'.os = w.os
 tape:w'.tape = w.tape
 output:w'.output = w.output
 size:w.1.size <= w'.1.size
 block:∀ k,K k -> w'.1[k]? = w.1[k]?
def zZ (K:Nat -> Prop) (w:World):Prop:=∀ k,K k -> k < w.1.size
theorem zh.refl (K:Nat -> Prop) (w:World):zh K w w:=⟨rfl,rfl,rfl,ze3 _,fun _ _=>rfl⟩
theorem zh.trans {K:Nat -> Prop} {a b c:World} (h:zh K a b) (k:zh K b c):zh K a c :=
 ⟨k.os.trans h.os,k.tape.trans h.tape,k.output.trans h.output,Nat.le_trans h.size k.size,fun i hi=>(k.block i hi).trans (h.block i hi)⟩
theorem zh.of_below {K:Nat -> Prop} {B:Nat} {w w':World} (h:Below B w w') (hK:∀ k,K k -> k < B):zh K w w':=⟨h.os,h.tape,h.output,h.size,fun k hk=>h.block k (hK k hk)⟩
theorem zh.below {K:Nat -> Prop} {B:Nat} {w w':World} (h:zh K w w') (hK:∀ k,k < B -> K k):Below B w w':=⟨h.os,h.tape,h.output,h.size,fun k hk=>h.block k (hK k hk)⟩
theorem zh.mono {K L:Nat -> Prop} {w w':World} (h:zh K w w') (hK:∀ k,L k -> K k):zh L w w':=⟨h.os,h.tape,h.output,h.size,fun k hk=>h.block k (hK k hk)⟩
theorem zh.drew {K:Nat -> Prop} {a w:World} (h:zh K a w):zh K a w.drew:=⟨h.os,h.tape,h.output,h.size,h.block⟩
theorem zh.setCell {K:Nat -> Prop} {a w:World} (h:zh K a w) {p:Addr} (hp:¬ K p.block) (u:Value):zh K a (w.setCell p u) :=
 h.trans ⟨rfl,rfl,rfl,by simp [World.setCell],fun k hk=>Below.heap_setCell _ _ _ _ (fun e=>hp (e ▸ hk))⟩
theorem vV (b:Nat):∀ (vs:List Value) (o:Nat) (w:World),(w.setCells b o vs).heap.size = w.1.size
 | [],_,_=>rfl
 | v :: r,o,w=>by rw [World.setCells,vV b r (o + 1)]; simp [World.setCell]
theorem wC (b:Nat) {k:Nat} (hk:k ≠ b):∀ (vs:List Value) (o:Nat) (w:World),(w.setCells b o vs).heap[k]? = w.1[k]?
 | [],_,_=>rfl
 | v :: r,o,w=>by rw [World.setCells,wC b hk r (o + 1),Below.heap_setCell _ _ _ _ hk]
theorem Zt (b:Nat):∀ (vs:List Value) (o:Nat) (w:World),(w.setCells b o vs).os = w.os /\ (w.setCells b o vs).tape = w.tape /\ (w.setCells b o vs).output = w.output
 | [],_,_=>⟨rfl,rfl,rfl⟩
 | v :: r,o,w=>by rw [World.setCells]; exact Zt b r (o + 1) (w.setCell ⟨b,o,none⟩ v)
theorem WC (K:Nat -> Prop) (w:World) {b:Nat} (hb:¬ K b) (o:Nat) (vs:List Value):zh K w (w.setCells b o vs) :=
 have h:=Zt b vs o w
 ⟨h.1,h.2.1,h.2.2,Nat.le_of_eq (vV b vs o w).symm,fun _ hk=>wC b (fun e=>hb (e ▸ hk)) vs o w⟩
theorem zh.setCells {K:Nat -> Prop} {a w:World} (h:zh K a w) {b:Nat} (hb:¬ K b) (o:Nat) (vs:List Value):zh K a (w.setCells b o vs):=h.trans (WC K w hb o vs)
theorem zh.alloc {K:Nat -> Prop} {a w:World} (h:zh K a w) (ht:zZ K w) (o:Obj):zh K a (w.alloc o) :=
 h.trans ⟨rfl,rfl,rfl,by simp,fun k hk=>Below.heap_alloc _ _ _ (ht k hk)⟩
theorem zh.grown {K:Nat -> Prop} {a w w':World} {row:Option Nat} (h:zh K a w) (ht:zZ K w) (hg:w.grownBy w' row) (hr:∀ k,row = some k -> ¬ K k):zh K a w' :=
 h.trans ⟨hg.os,hg.tape,hg.output,hg.size,fun k hk=>hg.block k (ht k hk) (fun e=>hr k e.symm hk)⟩
theorem zh.cell {K:Nat -> Prop} {w w':World} (h:zh K w w') {p:Addr} (hp:K p.block):w'.cell? p = w.cell? p:=World.cell?_of_block (w:=w) (h.block p.block hp)
theorem zZ.kept {K:Nat -> Prop} {w w':World} (h:zZ K w) (hk:zh K w w'):zZ K w':=fun k hk'=>Nat.lt_of_lt_of_le (h k hk') hk.size
theorem zZ.below {K:Nat -> Prop} {B:Nat} {w w':World} (h:zZ K w) (hb:Below B w w'):zZ K w':=fun k hk'=>Nat.lt_of_lt_of_le (h k hk') hb.size
def ze (p:Pg):List Value:=p.map (Value.int .u8)
def zD (p:Pg):Array Value:=(ze p).toArray
abbrev pgV (p:Pg):Value:=.agg (zD p)
theorem zv (p:Pg):(zD p).size = p.length:=by simp [zD,ze]
theorem zS (p:Pg):(ze p).length = p.length:=by simp [ze]
theorem qJ (p:Pg):∀ v ∈ ze p,v.oneCell' = true:=by
 intro v hv;obtain ⟨z,_,rfl⟩:=List.mem_map.1 hv;rfl
theorem yX (p:Pg):(zD p).all (·.oneCell') = true:=all_oneCell_toArray (qJ p)
def wN (w:World) (b:Nat) (ps:List Pg):Prop:=∀ i p,ps[i]? = some p -> p.length = 128 /\ w.rangeAt b (i * 128) (ze p)
theorem wN.at_ {w:World} {b:Nat} {ps:List Pg} (h:wN w b ps) {i:Nat} (hi:i < ps.length):(kD ps i).length = 128 /\ w.rangeAt b (i * 128) (ze (kD ps i)):=h i _ (zdN hi)
theorem wN.carry {w w':World} {b:Nat} {ps:List Pg} (h:wN w b ps) (hb:w'.1[b]? = w.1[b]?):wN w' b ps:=fun i p hp =>
 ⟨(h i p hp).1,fun j v hv=>(World.cell?_of_block (w:=w) (a:=⟨b,i * 128 + j,none⟩) hb).trans ((h i p hp).2 j v hv)⟩
theorem wN.lt {w:World} {b:Nat} {ps:List Pg} (h:wN w b ps) (hp:0 < ps.length):b < w.1.size:=by
 obtain ⟨h1,h2⟩:=h.at_ hp;have hl:0 < (ze (kD ps 0)).length:=by rw [zS]; omega
 have:=h2 0 _ (ze7 hl);exact yL this
theorem wN.there {w:World} {b:Nat} {ps:List Pg} (h:wN w b ps) (hf:∀ j,w.frozen? ⟨b,j,none⟩ = false) {i:Nat} (hi:i < ps.length):w.there b (i * 128) 128:=fun j hj=>by
 obtain ⟨h1,h2⟩:=h.at_ hi;refine ⟨?_,hf _⟩;exact World.rangeAt.isSome h2 j (by rw [zS]; omega)
theorem wN.store {w:World} {b:Nat} {ps:List Pg} (h:wN w b ps) (hf:∀ j,w.frozen? ⟨b,j,none⟩ = false) {i:Nat} (hi:i < ps.length) {q:Pg} (hq:q.length = 128) :
  wN (w.setCells b (i * 128) (ze q)) b (ps.set i q):=fun j p hp=>by
 rw [List.getElem?_set] at hp;split at hp
 ·rename_i e
  subst e;obtain rfl:q = p:=by simpa [hi] using hp
  refine ⟨hq,World.rangeAt_setCells_same w b _ _ ?_⟩;rw [zS,hq];exact h.there hf hi
 ·rename_i e
  refine ⟨(h j p hp).1,World.rangeAt_setCells_apart (h j p hp).2 _ _ _ (.inr ?_)⟩;rw [zS,zS,hq,(h j p hp).1];omega
theorem yO {w:World} {b:Nat} (hf:∀ j,w.frozen? ⟨b,j,none⟩ = false) (c o:Nat) (vs:List Value):∀ j,(w.setCells c o vs).frozen? ⟨b,j,none⟩ = false:=fun j=>by rw [World.frozen?_setCells]; exact hf j
def vC (x:Nat × Pg):List Value:=.int .i64 (x.1:Int) :: ze x.2
def wL (s:Vq):List Value:=s.flatMap vC
theorem Y0 {α β:Type} {f:α -> List β} {c:Nat}:∀ {l:List α},(∀ x ∈ l,(f x).length = c) -> (l.flatMap f).length = l.length * c
 | [],_=>by simp
 | x :: r,h=>by
  rw [List.flatMap_cons,List.length_append,h x (by simp),Y0 fun y hy=>h y (by simp [hy]),ze4,Nat.add_mul];omega
theorem VB {α β:Type} {f:α -> List β} {c:Nat}:∀ {l:List α} (_:∀ x ∈ l,(f x).length = c) {k j:Nat} {x:α} (_:l[k]? = some x) (_:j < c),(l.flatMap f)[k * c + j]? = (f x)[j]?
 | [],_,k,j,x,hx,_=>by simp at hx
 | y :: r,h,0,j,x,hx,hj=>by
  obtain rfl:y = x:=by simpa using hx
  rw [List.flatMap_cons,Nat.zero_mul,zfa,List.getElem?_append_left (by rw [h y (by simp)]; exact hj)]
 | y :: r,h,k + 1,j,x,hx,hj=>by
  have hy:=h y (by simp);rw [List.flatMap_cons,List.getElem?_append_right (by rw [hy,Nat.add_mul]; omega),hy,show (k + 1) * c + j - c = k * c + j by rw [Nat.add_mul]; omega];exact VB (fun z hz=>h z (by simp [hz])) (by simpa using hx) hj
theorem Ws {x:Nat × Pg} (h:x.2.length = 128):(vC x).length = 129:=by simp [vC,ze,h]
theorem Wk (s:Vq) (x:Nat × Pg):wL (s ++ [x]) = wL s ++ vC x:=by simp [wL]
structure yU (K:Nat -> Prop) (w:World) (D F S:Nat) (v:Value) (n:Nat) (d:Dk):Prop where
 ok:d.Ok n
 pos:1 <= n
 c0:w.cell? ⟨D,0,none⟩ = some (.slice (some ⟨F,0,none⟩) n n)
 c1:w.cell? ⟨D,1,none⟩ = some (.slice (some ⟨S,0,none⟩) n n)
 c2:w.cell? ⟨D,2,none⟩ = some v
 c3:w.cell? ⟨D,3,none⟩ = some (.bool d.down)
 fz:∀ j,w.frozen? ⟨D,j,none⟩ = false
 ff:∀ j,w.frozen? ⟨F,j,none⟩ = false
 fs:∀ j,w.frozen? ⟨S,j,none⟩ = false
 firm:wN w F d.firm
 seen:wN w S d.seen
 soft:w.ownsRow 0 130 129 v d.soft.length (wL d.soft)
 kd:¬ K D
 kf:¬ K F
 ks:¬ K S
 kv:∀ g,v.ownBlock = some g -> ¬ K g /\ g ≠ D /\ g ≠ F /\ g ≠ S
 df:D ≠ F
 ds:D ≠ S
 fsn:F ≠ S
def zE (K:Nat -> Prop) (w:World) (D n:Nat) (d:Dk):Prop:=∃ F S v,yU K w D F S v n d
theorem yU.carry {K:Nat -> Prop} {w w':World} {D F S:Nat} {v:Value} {n:Nat} {d:Dk} (h:yU K w D F S v n d) (hb:Below w.1.size w w'):yU K w' D F S v n d:=by
 have hD:D < w.1.size:=yL h.c0;have hF:=h.firm.lt (by rw [h.ok.firm]; exact h.pos);have hS:=h.seen.lt (by rw [h.ok.seen]; exact h.pos);refine ⟨h.ok,h.pos,(hb.cell (p:=⟨D,0,none⟩) hD).trans h.c0,(hb.cell (p:=⟨D,1,none⟩) hD).trans h.c1,(hb.cell (p:=⟨D,2,none⟩) hD).trans h.c2,(hb.cell (p:=⟨D,3,none⟩) hD).trans h.c3,
  fun j=>(hb.frozen (p:=⟨D,j,none⟩) hD).trans (h.fz j),fun j=>(hb.frozen (p:=⟨F,j,none⟩) hF).trans (h.ff j),fun j=>(hb.frozen (p:=⟨S,j,none⟩) hS).trans (h.fs j),
  h.firm.carry (hb.block F hF),h.seen.carry (hb.block S hS),?_,h.kd,h.kf,h.ks,h.kv,h.df,h.ds,h.fsn⟩
 obtain ⟨h1,h2⟩:=h.soft;refine ⟨h1,?_⟩;rcases h2 with h2 | ⟨g,cap,cur,e1,e2,e3,e4⟩
 ·exact .inl h2
 ·exact .inr ⟨g,cap,cur,e1,e2,by rw [hb.block g (zfe.1 e3).1]; exact e3,e4⟩
theorem zE.carry {K:Nat -> Prop} {w w':World} {D n:Nat} {d:Dk} (h:zE K w D n d) (hb:Below w.1.size w w'):zE K w' D n d:=by
 obtain ⟨F,S,v,h⟩:=h;exact ⟨F,S,v,h.carry hb⟩
theorem yU.more {K L:Nat -> Prop} {w w':World} {D F S:Nat} {v:Value} {n:Nat} {d:Dk} (h:yU K w D F S v n d) (hb:Below w.1.size w w') (hL:∀ k,L k -> K k \/ w.1.size <= k):yU L w' D F S v n d:=by
 have h':=h.carry hb;have hD:D < w.1.size:=yL h.c0;have hF:=h.firm.lt (by rw [h.ok.firm]; exact h.pos);have hS:=h.seen.lt (by rw [h.ok.seen]; exact h.pos);have hn:∀ k,k < w.1.size -> ¬ K k -> ¬ L k:=fun k h1 h2 h3=>by
  rcases hL k h3 with h4 | h4
  ·exact h2 h4
  ·omega
 exact { h' with kd:=hn D hD h.kd,kf:=hn F hF h.kf,ks:=hn S hS h.ks,kv:=fun g hg=>⟨hn g (h.soft.lt g hg).2 (h.kv g hg).1,(h.kv g hg).2⟩ }
theorem zE.more {K L:Nat -> Prop} {w w':World} {D n:Nat} {d:Dk} (h:zE K w D n d) (hb:Below w.1.size w w') (hL:∀ k,L k -> K k \/ w.1.size <= k):zE L w' D n d:=by
 obtain ⟨F,S,v,h⟩:=h;exact ⟨F,S,v,h.more hb hL⟩
theorem zE.ok {K:Nat -> Prop} {w:World} {D n:Nat} {d:Dk} (h:zE K w D n d):d.Ok n:=by
 obtain ⟨F,S,v,h⟩:=h;exact h.ok
def zbo (w:World) (c:Int) (v:Value):Prop:=(c = 0 /\ v = .nilIface) \/ ∃ l,vj w c v l
theorem zbo.nil (w:World):zbo w 0 .nilIface:=.inl ⟨rfl,rfl⟩
end
section
def vZ (w:World) (lo:Nat) (c:Int) (v:Value):Prop:=(c = 0 /\ v = .nilIface) \/
 (c ≠ 0 /\ ∃ b s,lo <= b /\ b < w.1.size /\ v = .iface 153 (.pointer (some ⟨b,0,none⟩)) /\ w.cell? ⟨b,0,none⟩ = some (.string s) /\ w.cell? ⟨b,1,none⟩ = some (.iface 109 (.int .i64 c)))
theorem vZ.zero {w:World} {lo:Nat} {v:Value} (h:vZ w lo 0 v):v = .nilIface:=by
 rcases h with ⟨_,h⟩ | ⟨h,_⟩
 ·exact h
 ·exact absurd rfl h
theorem vZ.some {w:World} {lo:Nat} {c:Int} {v:Value} (h:vZ w lo c v) (hc:c ≠ 0):∃ t x,v = .iface t x:=by
 rcases h with ⟨h,_⟩ | ⟨_,b,s,_,_,rfl,_⟩
 ·exact absurd h hc
 ·exact ⟨_,_,rfl⟩
theorem vZ.nil (w:World) (lo:Nat):vZ w lo 0 .nilIface:=.inl ⟨rfl,rfl⟩
theorem vZ.mono {w:World} {lo lo':Nat} {c:Int} {v:Value} (h:vZ w lo c v) (hl:lo' <= lo):vZ w lo' c v:=by
 rcases h with h | ⟨hc,b,s,h0,h1⟩
 ·exact .inl h
 ·exact .inr ⟨hc,b,s,by omega,h1⟩
def Vg (c:Int) (w:World) (e:Ending) (w':World):Prop:=∃ v,e = .returned v /\ vZ w' w.1.size c v /\ Below w.1.size w w'
theorem YB (c:Int) (hc:c ≠ 0) (w:World):Calls Tryz.prog 55 #[.int .i64 c] w (Vg c w):=by
 have H:=Hi hc;clear hc
 go_enter Tryz.func55,Tryz.ntmps55
 go_wp2_with (go_at_call 59; refine (XI _ _ _ _).mono ?_; rintro e w' ⟨rfl,rfl⟩)
 go_ret
 exact ⟨.iface 153 (.pointer (some ⟨w.1.size,0,none⟩)),rfl,.inr ⟨H.o,w.1.size,⟨#[100,105,115,107]⟩,ze3 _,by simp,rfl,by simp,by simp⟩,(Below.refl _ _).alloc (ze3 _) _⟩
def zeR (b:Bool):Int:=if b = true then 7 else 0
theorem We (D:Nat) (b:Bool) (w:World) (h:w.cell? ⟨D,3,none⟩ = some (.bool b)):Calls Tryz.prog 125 #[.pointer (some ⟨D,0,none⟩)] w (Vg (zeR b) w):=by
 cases b
 ·go_enter Tryz.func125,Tryz.ntmps125
  go_wp2_with fail
  go_ret
  exact ⟨_,rfl,vZ.nil _ _,Below.refl _ _⟩
 ·go_enter Tryz.func125,Tryz.ntmps125
  go_wp2_with fail;refine (YB 7 (by decide) _).mono ?_;rintro e w' ⟨v,rfl,h1,h4⟩;have H1:=Hi h1;have H4:=Hi h4;clear h1 h4;go_wp2_with fail
  go_ret
  exact ⟨v,rfl,H1.o,H4.o⟩
theorem vu (D:Nat) (w:World) (h:w.cell? ⟨D,3,none⟩ = some (.bool false)):Calls Tryz.prog 125 #[.pointer (some ⟨D,0,none⟩)] w fun e w'=>e = .returned .nilIface /\ w = w':=by
 go_enter Tryz.func125,Tryz.ntmps125
 go_wp2_with fail
 go_ret
 exact ⟨rfl,rfl⟩
def xF (b:Bool) (n:Nat) (i:Int):Int:=if b = true then 7 else if 0 <= i /\ i < n then 0 else 1
theorem qx {n:Nat} {i:Nat} (h:i < n):xF false n i = 0:=by
 unfold xF;rw [if_neg (by decide),if_pos (by omega)]
theorem XR {b:Bool} {n:Nat} {i:Int} (h:xF b n i = 0):b = false /\ ∃ k:Nat,i = k /\ k < n:=by
 unfold xF at h;cases b
 ·rw [if_neg (by decide)] at h;split at h
  ·exact ⟨rfl,i.toNat,by omega,by omega⟩
  ·cases h
 ·cases h
theorem ZH (D n i:Nat) (F:Addr) (w:World) (hi:i < n) (h0:w.cell? ⟨D,0,none⟩ = some (.slice (some F) n n)) (h3:w.cell? ⟨D,3,none⟩ = some (.bool false)) :
  Calls Tryz.prog 90 #[.pointer (some ⟨D,0,none⟩),.int .i64 i] w fun e w'=>e = .returned .nilIface /\ w = w':=by
 have hd:decide (i < n) = true:=by simpa using hi
 have hd2:decide (n <= i) = false:=by simpa using hi
 go_enter Tryz.func90,Tryz.ntmps90
 go_wp2_with fail;refine (vu D _ h3).mono ?_;rintro e w' ⟨rfl,rfl⟩;go_wp2_with fail
 go_ret
 exact ⟨rfl,rfl⟩
theorem Qg (D n:Nat) (i:Int) (b:Bool) (F:Addr) (w:World) (h0:w.cell? ⟨D,0,none⟩ = some (.slice (some F) n n)) (h3:w.cell? ⟨D,3,none⟩ = some (.bool b)) :
  Calls Tryz.prog 90 #[.pointer (some ⟨D,0,none⟩),.int .i64 i] w (Vg (xF b n i) w):=by
 by_cases hz:xF b n i = 0
 ·obtain ⟨rfl,k,rfl,hk⟩:=XR hz;rw [qx hk];exact (ZH D n k F w hk h0 h3).mono fun e w' ⟨he,hw⟩=>⟨_,he,by rw [<- hw]; exact vZ.nil _ _,by rw [<- hw]; exact Below.refl _ _⟩
 ·cases b
  ·have hc:xF false n i = 1:=by
    unfold xF at hz ⊢;rw [if_neg (by decide)] at hz ⊢;split
    ·rename_i h
     rw [if_pos h] at hz;exact absurd rfl hz
    ·rfl
   rw [hc];have hi:i < 0 \/ (n:Int) <= i:=by
    unfold xF at hc;rw [if_neg (by decide)] at hc;split at hc
    ·cases hc
    ·omega
   clear hc hz;rcases hi with hi | hi
   ·have hd:decide (i < 0) = true:=by simpa using hi
    go_enter Tryz.func90,Tryz.ntmps90
    go_wp2_with fail;refine (vu D _ h3).mono ?_;rintro e w' ⟨rfl,rfl⟩;go_wp2_with fail;refine (YB 1 (by decide) _).mono ?_;rintro e w' ⟨v,rfl,h1,h4⟩;have H1:=Hi h1;have H4:=Hi h4;clear h1 h4;go_wp2_with fail
    go_ret
    exact ⟨_,rfl,H1.o,H4.o⟩
   ·have hd:decide (i < 0) = false:=by simp; omega
    have hd2:decide ((n:Int) <= i) = true:=by simpa using hi
    go_enter Tryz.func90,Tryz.ntmps90
    go_wp2_with fail;refine (vu D _ h3).mono ?_;rintro e w' ⟨rfl,rfl⟩;go_wp2_with fail;refine (YB 1 (by decide) _).mono ?_;rintro e w' ⟨v,rfl,h1,h4⟩;have H1:=Hi h1;have H4:=Hi h4;clear h1 h4;go_wp2_with fail
    go_ret
    exact ⟨_,rfl,H1.o,H4.o⟩
  ·have hc:xF true n i = 7:=rfl;rw [hc]
   go_enter Tryz.func90,Tryz.ntmps90
   go_wp2_with fail;refine (We D true _ h3).mono ?_;rintro e w' ⟨v,rfl,h1,h4⟩;have H1:=hI (vZ w' w.1.size 7 v) h1;have H4:=Hi h4;obtain ⟨t,x,rfl⟩:=H1.o.some (by decide);clear h1 h4;go_wp2_with fail
   go_ret
   exact ⟨_,rfl,H1.o,H4.o⟩
theorem kL {K:Nat -> Prop} {D n:Nat} {d:Dk} {w:World} (h:zE K w D n d):Calls Tryz.prog 56 #[.pointer (some ⟨D,0,none⟩)] w fun e w'=>e = .returned (.int .i64 n) /\ w = w':=by
 obtain ⟨F,S,v,h⟩:=h;have h0:=h.c0;clear h
 go_enter Tryz.func56,Tryz.ntmps56
 go_wp2_with fail
 go_ret
 exact ⟨rfl,rfl⟩
theorem yU.stays {K:Nat -> Prop} {w w':World} {D F S:Nat} {v:Value} {n:Nat} {d:Dk} (h:yU K w D F S v n d) (hb:∀ k,k ≠ D -> w'.1[k]? = w.1[k]?) (d':Dk) (v':Value) (hd:d'.firm = d.firm) (hs:d'.seen = d.seen)
  (hv:(v' = v /\ d'.soft = d.soft) \/ (v' = .slice none 0 0 /\ d'.soft = []))
  (c0:w'.cell? ⟨D,0,none⟩ = some (.slice (some ⟨F,0,none⟩) n n)) (c1:w'.cell? ⟨D,1,none⟩ = some (.slice (some ⟨S,0,none⟩) n n)) (c2:w'.cell? ⟨D,2,none⟩ = some v') (c3:w'.cell? ⟨D,3,none⟩ = some (.bool d'.down))
  (fz:∀ j,w'.frozen? ⟨D,j,none⟩ = false):yU K w' D F S v' n d':=by
 have hF:=hb F (Ne.symm h.df);have hS:=hb S (Ne.symm h.ds);have hsoft:w'.ownsRow 0 130 129 v d.soft.length (wL d.soft):=by
  obtain ⟨h1,h2⟩:=h.soft;refine ⟨h1,?_⟩;rcases h2 with h2 | ⟨g,cap,cur,e1,e2,e3,e4⟩
  ·exact .inl h2
  ·exact .inr ⟨g,cap,cur,e1,e2,by rw [hb g (h.kv g (by rw [e1]; rfl)).2.1]; exact e3,e4⟩
 have hok:d'.Ok n:=by
  refine ⟨by rw [hd]; exact h.ok.firm,by rw [hs]; exact h.ok.seen,by rw [hd]; exact h.ok.wf,by rw [hs]; exact h.ok.ws,?_⟩;rcases hv with ⟨_,e⟩ | ⟨_,e⟩
  ·rw [e]; exact h.ok.fits
  ·rw [e]; exact Wv.nil _
 refine ⟨hok,h.pos,c0,c1,c2,c3,fz,fun j=>(World.frozen?_of_block (w:=w) (a:=⟨F,j,none⟩) hF).trans (h.ff j),fun j=>(World.frozen?_of_block (w:=w) (a:=⟨S,j,none⟩) hS).trans (h.fs j),
  by rw [hd]; exact h.firm.carry hF,by rw [hs]; exact h.seen.carry hS,?_,h.kd,h.kf,h.ks,?_,h.df,h.ds,h.fsn⟩
 ·rcases hv with ⟨rfl,e⟩ | ⟨rfl,e⟩
  ·rw [e]; exact hsoft
  ·rw [e]; exact World.ownsRow_nil w' _ _ _
 ·rcases hv with ⟨rfl,e⟩ | ⟨rfl,e⟩
  ·exact h.kv
  ·intro g hg; cases hg
theorem xN (w:World) (D j:Nat) (u:Value):∀ k,k ≠ D -> (w.setCell ⟨D,j,none⟩ u).heap[k]? = w.1[k]?:=fun k hk=>Below.heap_setCell w ⟨D,j,none⟩ u k hk
end
section
theorem Tryz.infoPage:(Tryz.prog.info? 87).map (fun i=>(i.zero,i.size)) = some (some (pgV zy),128):=by kernel_rfl
theorem Tryz.pageSize:(Tryz.prog.info? 87).map (·.size) = some 128:=by kernel_rfl
theorem Tryz.zeroPage (w:World):(zeroValue 87).run Tryz.prog w = .ok (pgV zy) w:=(zero_of_info Tryz.infoPage).1 w
def wH (p:Prop):Prop:=p
theorem zc {P:Program} {ops:Array Oper} {rest:List Oper} {o:Oper} {a:Act} {w:World} {Q:Exit -> Act -> World -> Prop} (h:wH (wpList P ops Q (o :: rest) a w)):wpList P ops Q (o :: rest) a w:=h
theorem xD9 (d:Option Nat) {P:Program} {ops:Array Oper} {rest:List Oper} {p1 p2 p3 p4 p5} {a:Act} {w:World} {Q:Exit -> Act -> World -> Prop} (h:wH (wpList P ops Q ((⟨d,p1,p2,p3,p4,p5⟩:Oper) :: rest) a w)):wpList P ops Q ((⟨d,p1,p2,p3,p4,p5⟩:Oper) :: rest) a w:=h
theorem zw {P:Program} {ops:Array Oper} {rest:List Oper} {o:Oper} {a:Act} {w:World} {Q:Exit -> Act -> World -> Prop} (hgd:o.guard = none) (t:TypeId) (x y:Operand) (ho:o.op = .store t x y)
  (c c':Array Value) (t':TypeId) (ht:t' = t) (hx:a.eval x = .pointer (some ⟨w.1.size,0,none⟩)) (hy:a.eval y = .agg c') (hi:(P.info? t).map (·.size) = some c'.size) (hs:c.size = c'.size) (h1:c'.all (·.oneCell') = true)
  (h:wpList P ops Q rest (a.put o.dst undef) (w.alloc (.cells c' t'))):wpList P ops Q (o :: rest) a (w.alloc (.cells c t')):=by
 subst ht;refine wpList_plain hgd fun K hK=>?_
 unfold Oper.wp execOp;simp only [ho,hx,hy,Instr.storeAt,Instr.sureAddr,Sem.run_bind,Sem.run_pure,Result.andThen_ok,run_storeVar_new w t' c c' hi hs h1];exact hK _ _ h
theorem xV {P:Program} {ops:Array Oper} {rest:List Oper} {o:Oper} {a:Act} {w:World} {Q:Exit -> Act -> World -> Prop} (hgd:o.guard = none) (t:TypeId) (x y:Operand) (ho:o.op = .store t x y)
  (g:Nat) (c:Array Value) (hg:w.1[g]? = some (.cells c t (0,0))) (hx:a.eval x = .pointer (some ⟨g,0,none⟩)) (hy:a.eval y = .agg c) (hi:(P.info? t).map (·.size) = some c.size) (h1:c.all (·.oneCell') = true)
  (h:wpList P ops Q rest (a.put o.dst undef) w):wpList P ops Q (o :: rest) a w:=by
 refine wpList_plain hgd fun K hK=>?_
 unfold Oper.wp execOp;simp only [ho,hx,hy,Instr.storeAt,Instr.sureAddr,Sem.run_bind,Sem.run_pure,Result.andThen_ok,run_storeVar_row w g t t c c hg hi rfl h1,setRow_self w g c t (0,0) hg];exact hK _ _ h
theorem xq {P:Program} {ops:Array Oper} {rest:List Oper} {o:Oper} {a:Act} {w:World} {Q:Exit -> Act -> World -> Prop} (hgd:o.guard = none) (t:TypeId) (ho:o.op = .build t #[]) (c:Array Value) (hb:P.built t [] = some c)
  (h:wpList P ops Q rest (a.put o.dst (.agg c)) w):wpList P ops Q (o :: rest) a w :=
 wpList_plain hgd fun _ hK=>wp_build t #[] ho (by simp [hb]) (hK _ _ (by simpa [hb] using h))
theorem wM {P:Program} {ops:Array Oper} {rest:List Oper} {op:Oper} {a:Act} {w:World} {Q:Exit -> Act -> World -> Prop} (hgd:op.guard = none) (ty:TypeId) (x:Operand) (ho:op.op = .load ty x)
  (b o:Nat) (hx:a.eval x = .pointer (some ⟨b,o,none⟩)) (p:Pg) (hl:p.length = 128) (hc:w.rangeAt b o (ze p)) (d:TypeDesc)
  (hu:P.underlying ty = some d) (hd:d.isRow = true) (hi:(P.info? ty).map (·.size) = some 128)
  (h:wpList P ops Q rest (a.put op.dst (pgV p)) w):wpList P ops Q (op :: rest) a w :=
 wpList_load_mid hgd ty x ho b o hx (ze p) d hc hu hd (by rw [zS,hl]; exact hi) h
theorem YH (w:World) (p:Pg) (hl:p.length = 128):(loadVar 87 ⟨w.1.size,0,none⟩).run Tryz.prog (w.alloc (.cells (zD p) 87)) = .ok (pgV p) (w.alloc (.cells (zD p) 87)) :=
 run_loadVar_new w _ _ 128 5 Tryz.underlying87 (by rw [zv,hl]; exact Tryz.pageSize)
theorem zby {D S n i:Nat} {F:Addr} {p:Pg} {w:World} (hi:i < n) (h0:w.cell? ⟨D,0,none⟩ = some (.slice (some F) n n)) (h1:w.cell? ⟨D,1,none⟩ = some (.slice (some ⟨S,0,none⟩) n n)) (h3:w.cell? ⟨D,3,none⟩ = some (.bool false))
  (hp:w.rangeAt S (i * 128) (ze p)) (hl:p.length = 128) :
  Calls Tryz.prog 47 #[.pointer (some ⟨D,0,none⟩),.int .i64 i] w fun e w'=>e = .returned (.tuple #[pgV p,.nilIface]) /\ Below w.1.size w w':=by
 have hz:=Tryz.zeroPage;have hD:D < w.1.size:=yL h0;have hc:=World.rangeAt_alloc hp (.cells (zD zy) 87);have HC:=Hi hc;have HL:=Hi hl;clear hp hc hl
 go_enter Tryz.func47,Tryz.ntmps47
 go_wp2_with fail;refine (ZH D n i F _ hi ?_ ?_).mono ?_
 ·rw [World.cell?_alloc_lt _ _ _ hD]; exact h0
 ·rw [World.cell?_alloc_lt _ _ _ hD]; exact h3
 rintro e w' ⟨rfl,rfl⟩;go_wp2_with (with_reducible refine xD9 (some 20) ?_);refine wM rfl _ _ rfl S (i * 128) rfl p HL.o HC.o _ Tryz.underlying87 rfl Tryz.pageSize ?_;refine zw rfl _ _ _ rfl (zD zy) (zD p) _ rfl rfl rfl (by rw [zv,HL.o]; exact Tryz.pageSize) (by rw [zv,zv,HL.o,zL]) (yX p) ?_;go_wp2_with fail;refine bodyPost_ret (v:=.tuple #[pgV p,.nilIface]) ?_ rfl ⟨rfl,(Below.refl _ _).alloc (ze3 _) _⟩;rw [results_cell_tmp rfl];simp [asAddr,Result.andThen,YH w p HL.o]
def ZY (c:Int) (p:Pg) (w:World) (e:Ending) (w':World):Prop:=∃ v,e = .returned (.tuple #[pgV p,v]) /\ vZ w' w.1.size c v /\ Below w.1.size w w'
theorem jK:Tryz.prog.built 87 [] = some (zD zy):=by kernel_rfl
theorem zdk {D n:Nat} {i:Int} {b:Bool} {F:Addr} {w:World} {c:Int} (hc:xF b n i = c) (h0c:c ≠ 0) (h0:w.cell? ⟨D,0,none⟩ = some (.slice (some F) n n)) (h3:w.cell? ⟨D,3,none⟩ = some (.bool b)) :
  Calls Tryz.prog 47 #[.pointer (some ⟨D,0,none⟩),.int .i64 i] w (ZY c zy w):=by
 have hz:=Tryz.zeroPage;have hD:D < w.1.size:=yL h0;have HCC:=Hi hc;have H0C:=Hi h0c;clear hc h0c
 go_enter Tryz.func47,Tryz.ntmps47
 go_wp2_with fail;refine (Qg D n i b F _ ?_ ?_).mono ?_
 ·rw [World.cell?_alloc_lt _ _ _ hD]; exact h0
 ·rw [World.cell?_alloc_lt _ _ _ hD]; exact h3
 rw [HCC.o];rintro e w' ⟨v,rfl,h1,h4⟩;have H1:=Hi h1;have H4:=Hi h4;obtain ⟨t,x,rfl⟩:=H1.o.some H0C.o;clear h1 h4;have hh:w'.1[w.1.size]? = some (.cells (zD zy) 87 (0,0)):=by
  rw [H4.o.block w.1.size (by simp)];exact heap_alloc_last w _
 have HH:=Hi hh;clear hh;go_wp2_with (with_reducible refine xD9 (some 12) ?_);refine xq rfl _ rfl _ jK ?_;go_wp2_with (with_reducible refine xD9 (none) ?_);refine xV rfl _ _ _ rfl w.1.size (zD zy) HH.o rfl rfl (by rw [zv,zL]; exact Tryz.pageSize) (yX _) ?_;go_wp2_with fail;refine bodyPost_ret (v:=.tuple #[pgV zy,.iface t x]) ?_ rfl ⟨_,rfl,H1.o.mono (by simp),((Below.refl _ _).alloc (ze3 _) _).trans (H4.o.mono (by simp))⟩;rw [results_cell_tmp rfl];simp [asAddr,Result.andThen,run_loadVar_row w' w.1.size 87 87 (zD zy) (0,0) _ HH.o Tryz.underlying87 rfl (by rw [zv,zL]; exact Tryz.pageSize)]
theorem ZZ {K:Nat -> Prop} {D n:Nat} {d:Dk} {w:World} (h:zE K w D n d) (i:Int) :
  Calls Tryz.prog 47 #[.pointer (some ⟨D,0,none⟩),.int .i64 i] w (ZY (xF d.down n i) (if xF d.down n i = 0 then kD d.seen i.toNat else zy) w):=by
 obtain ⟨F,S,v,h⟩:=h;by_cases hz:xF d.down n i = 0
 ·rw [if_pos hz];obtain ⟨hd,k,rfl,hk⟩:=XR hz;have hp:=h.seen.at_ (i:=k) (by rw [h.ok.seen]; exact hk);have h3:=h.c3;rw [hd] at h3;rw [hz];exact (zby hk h.c0 h.c1 h3 hp.2 hp.1).mono fun e w' ⟨he,hb⟩=>⟨_,he,vZ.nil _ _,hb⟩
 ·rw [if_neg hz];exact zdk rfl hz h.c0 h.c3
end
section
theorem zaW {α:Type} (L:List α) (i:Nat) (v:α) (h:i < L.length):L.set i v = L.take i ++ v :: L.drop (i + 1):=by
 induction L generalizing i with
 | nil=>simp at h
 | cons a r ih =>
  cases i with
  | zero=>simp
  | succ i=>simp only [List.set_cons_succ,zff,zfb,List.cons_append]; rw [ih i (by simpa using h)]
theorem Y1 (off:Nat):∀ (l:List Value) (k:Nat) (cs:Array Value),off + k + l.length <= cs.size ->
  ((l.zipIdx k).foldl (fun (cs:Array Value) (x:Value × Nat)=>cs.setIfInBounds (off + x.2) x.1) cs).toList = cs.toList.take (off + k) ++ (l ++ cs.toList.drop (off + k + l.length))
 | [],k,cs,_=>by simp
 | v :: r,k,cs,h=>by
  have hl:cs.toList.length = cs.size:=by simp
  simp only [ze4] at h;rw [List.zipIdx_cons,List.foldl_cons,Y1 off r (k + 1) _ (by simp; omega),Array.toList_setIfInBounds];show (cs.toList.set (off + k) v).take (off + (k + 1)) ++ (r ++ (cs.toList.set (off + k) v).drop (off + (k + 1) + r.length)) = _;rw [zaW _ _ _ (by rw [hl]; omega)];have hT:(cs.toList.take (off + k)).length = off + k:=by rw [List.length_take]; omega
  rw [show off + (k + 1) = (cs.toList.take (off + k)).length + 1 by rw [hT]; omega,List.take_length_add_append,
   show (cs.toList.take (off + k)).length + 1 + r.length = (cs.toList.take (off + k)).length + (r.length + 1) by omega,List.drop_length_add_append]
  simp only [zff,zfc,zfb,List.append_assoc,List.cons_append,List.nil_append,List.drop_drop,ze4];congr 4;omega
theorem vg (place:Nat -> Option (Nat × Nat)) (cells:Array Value) (i:Nat) (v:Value) (rest:List (Nat × Value)) (off size:Nat) (hp:place i = some (off,size)) (hs:v.cells.size = size) (hl:off + size <= cells.size) :
  Instr.fill place cells ((i,v) :: rest) = Instr.fill place (cells.toList.take off ++ (v.cells.toList ++ cells.toList.drop (off + size))).toArray rest:=by
 rw [Instr.fill,hp];simp only;rw [if_neg (by simp; omega)];congr 1;have h:=Y1 off v.cells.toList 0 cells (by simp; omega);rw [Nat.add_zero,show off + v.cells.toList.length = off + size by simp; omega] at h;rw [<- Array.toList_inj];rw [show (v.cells.zipIdx.foldl (fun cs (x:Value × Nat)=>cs.setIfInBounds (off + x.2) x.1) cells).toList = ((v.cells.toList.zipIdx 0).foldl (fun cs (x:Value × Nat)=>cs.setIfInBounds (off + x.2) x.1) cells).toList by rw [<- Array.foldl_toList,Array.toList_zipIdx]];exact h
theorem JK (size:Nat) (cells c:Array Value) (hc:c.size = size) (hl:cells.size = size):Instr.fill (fun i=>some (i * size,size)) cells [(0,.agg c)] = some c:=by
 rw [vg _ _ 0 (.agg c) [] (0 * size) size rfl hc (by omega)];rw [Instr.fill,Nat.zero_mul];simp only [zfc,List.nil_append,zfa];rw [List.drop_of_length_le (by simp; omega)];simp [Value.cells]
theorem ZK {P:Program} (w:World) (t e:TypeId) (c:Array Value) (hu:P.underlying t = some (.slice e)) (hz:((P.info? e).bind (·.zero)).isSome = true) (hi:(P.info? e).map (·.size) = some c.size) (h0:0 < c.size) (h24:c.size <= 2 ^ 24) :
  (Instr.buildSlice t 1 #[(0,.agg c)]).run P w = .ok (.slice (some ⟨w.1.size,0,none⟩) 1 1) (w.alloc (.cells c e)):=by
 cases hie:P.info? e with
 | none=>simp [hie] at hi
 | some ie =>
  simp only [hie,Option.map_some,Option.some.injEq,Option.bind_some] at hi hz;obtain ⟨z,hzz⟩:=Option.isSome_iff_exists.1 hz;refine run_buildSlice w t e 1 _ c ie z hu hie hzz (by rw [hi]; omega) (by rw [hi]; omega) ?_;exact JK ie.size _ c hi.symm (by simp)
theorem Tryz.writeInfo:(Tryz.prog.info? 130).map (·.size) = some 129:=by kernel_rfl
theorem Tryz.writeZero:((Tryz.prog.info? 130).bind (·.zero)).isSome = true:=by kernel_rfl
def Zv (i:Nat) (p:Pg):Array Value:=(vC (i,p)).toArray
theorem ZN {i:Nat} {p:Pg} (h:p.length = 128):(Zv i p).size = 129:=by simp [Zv,vC,ze,h]
theorem zbh (i:Nat) (p:Pg):∀ v ∈ vC (i,p),v.oneCell' = true:=by
 intro v hv;rcases List.mem_cons.1 hv with rfl | hv
 ·rfl
 ·exact qJ p v hv
theorem Tryz.built_parts (x y:Value):Tryz.prog.built 130 [(0,x),(1,y)] = Instr.fill ((#[(0,1),(1,128)]:Array (Nat × Nat))[·]?) ((Array.replicate 1 (.int .i64 0)) ++ (zD zy)) [(0,x),(1,y)]:=by kernel_rfl
theorem Kg (i:Nat) {p:Pg} (h:p.length = 128):Tryz.prog.built 130 [(0,.int .i64 (i:Int)),(1,pgV p)] = some (Zv i p):=by
 rw [Tryz.built_parts];have hz:(zD zy).size = 128:=by rw [zv,zL]
 rw [vg _ _ 0 _ _ 0 1 rfl rfl (by simp),vg _ _ 1 _ _ 1 128 rfl (by show (zD p).size = 128; rw [zv,h]) (by simp [hz,Value.cells]),Instr.fill];congr 1;simp only [Value.cells,zfc,List.nil_append];have hl2:(ze zy).length <= 128:=by rw [zS,zL]; exact ze3 _
 simp [Zv,vC,zD,hl2]
end
section
section
variable {P:Program} {ops:Array Oper} {md:Region.Mode} {Q:Exit -> Act -> World -> Prop} {S:World -> Prop}
def wQ (P:Program) (l:List Oper) (n:Nat) (Q:Exit -> Act -> World -> Prop):Exit -> Act -> World -> Prop
 | .normal,a,w=>wpList P l.toArray Q (l.drop n) a w
 | .exit i,a,w=>Q (.exit i) a w
 | .goto i,a,w=>Q (.goto i) a w
 | .ret,a,w=>Q .ret a w
 | .panic c,a,w=>Q (.panic c) a w
 | .outgrown,a,w=>Q .outgrown a w
theorem zaM {o:Oper} {a:Act} {w:World} {K:Act -> World -> Prop} {l:List Oper} {n:Nat} (hh:o.wp P a w K (wQ P l n Q)):o.wp P a w K Q:=by
 unfold Oper.wp at *;generalize (execOp a.eval o).run P w = r at *;cases r with
 | ok m w' =>
  cases m <;> simp only [Oper.upon] at hh ⊢ <;>
   first
    | exact hh
    | exact Calls.mono hh (fun e w'' he=>by cases e <;> exact he)
 | halt x w'=>cases x <;> simp only [Oper.upon] at hh ⊢ <;> exact hh
theorem zbf {i:Nat} {a:Act} {w:World} {K:Act -> World -> Prop} {l:List Oper} {n:Nat} (hh:wpOp P ops (wQ P l n Q) i K a w):wpOp P ops Q i K a w:=by
 unfold wpOp at *;split
 ·simpa [*] using hh
 ·rename_i o ho
  simp only [ho] at hh;split
  ·rename_i hw
   simp only [hw,if_true] at hh;exact hh.imp zaM fun ⟨h1,h2⟩=>⟨h1,h2⟩
  ·rename_i hw
   simp only [hw] at hh;exact hh
theorem Wp (k:Nat):∀ (l:List Oper) (p:Nat) (listed:Array Bool) (a:Act) (w:World),(∀ j,l[j]? = ops[p + j]?) ->
  Region.seqB md ops l.length p listed = true -> wpList P ops Q l a w -> wpAny P md ops Q (l.length + k) listed a w
 | [],p,listed,a,w,_,hB,h=>by
  have hr:Region.ready md ops listed = []:=by simpa [Region.seqB] using hB
  cases k with
  | zero=>exact ⟨hr,h⟩
  | succ k=>exact ⟨fun _=>h,fun i hi=>by rw [hr] at hi; cases hi⟩
 | o :: l,p,listed,a,w,hl,hB,h=>by
  have h0:ops[p]? = some o:=by simpa using (hl 0).symm
  simp only [ze4,Region.seqB,Bool.and_eq_true,decide_eq_true_eq] at hB;rw [show (o :: l).length + k = (l.length + k) + 1 by simp; omega];refine ⟨fun h1=>(by rw [hB.1] at h1; cases h1),fun i hi=>?_⟩;rw [hB.1] at hi;obtain rfl:i = p:=by simpa using hi
  have hw:wpOp P ops Q i (wpList P ops Q l) a w:=by unfold wpOp; simp only [h0]; exact h
  exact wpOp_mono (fun a' w' h'=>Wp k l (i + 1) _ a' w' (fun j=>by have:=hl (j + 1); simpa [Nat.add_assoc,Nat.add_comm 1 j] using this) hB.2 h') hw
def jt (m n:Nat):Array Bool:=((List.range m).map fun i=>decide (i < n)).toArray
def jB (m n:Nat):Array Bool:=((List.range m).map fun i=>decide (n <= i)).toArray
def QR (md:Region.Mode) (ops:Array Oper) (n:Nat):Bool :=
 decide (n < ops.size) && ((List.range ops.size).all fun j=>match ops[j]? with | some o=>o.after.all fun e=>decide (e.on < j) | none=>true) &&
 ((List.range n).all fun i=>Region.waitsFor md ops n i) && ((List.range ops.size).all fun t=>decide (t <= n) || Region.waitsFor md ops t (t - 1)) && Region.seqB md ops (ops.size - n) n (jt ops.size n)
structure Xz (ops:Array Oper) (n:Nat) (listed listedT:Array Bool):Prop where
 s1:listed.size = ops.size
 s2:listedT.size = ops.size
 same:∀ j,j < n -> listed[j]? = listedT[j]?
 tail:∀ j,n <= j -> j < ops.size -> listed[j]? = some false /\ listedT[j]? = some true
theorem Xz.set {n i:Nat} {listed listedT:Array Bool} (h:Xz ops n listed listedT) (hi:i < n):Xz ops n (listed.setIfInBounds i true) (listedT.setIfInBounds i true):=by
 refine ⟨by simp [h.s1],by simp [h.s2],fun j hj=>?_,fun j h1 h2=>?_⟩
 ·rw [Array.getElem?_setIfInBounds,Array.getElem?_setIfInBounds,h.same j hj,h.s1,h.s2]
 ·rw [Array.getElem?_setIfInBounds_ne (by omega),Array.getElem?_setIfInBounds_ne (by omega)];exact h.tail j h1 h2
theorem jL {l:Array Bool} {j:Nat} {b d:Bool} (h:l[j]? = some b):l.getD j d = b:=by
 rw [zfd,h]; rfl
theorem Wq {l:List Oper} {n:Nat} (hl:ops = l.toArray) (hB:QR md ops n = true) :
  ∀ (fuel:Nat) (listed listedT:Array Bool) (a:Act) (w:World),Xz ops n listed listedT -> wpAnyH P md ops (wQ P l n Q) S fuel listedT a w -> wpAny P md ops Q (fuel + (ops.size - n)) listed a w:=by
 simp only [QR,Bool.and_eq_true,decide_eq_true_eq] at hB;obtain ⟨⟨⟨⟨hn,hback⟩,hwait⟩,hchain⟩,hseq⟩:=hB;have back:∀ (j:Nat) (o:Oper),ops[j]? = some o -> ∀ e ∈ o.after,e.on < j:=fun j o ho e he=>by
  have hj:j < ops.size:=(zfe.1 ho).1;have h1:=List.all_eq_true.1 hback j (List.mem_range.2 hj);rw [ho] at h1;simpa using (Array.all_eq_true_iff_forall_mem.1 h1) e he
 have full:∀ (listed listedT:Array Bool),Xz ops n listed listedT -> Region.ready md ops listedT = [] -> listed = jt ops.size n:=by
  intro listed listedT hh hr;have all:∀ i,i < n -> listedT[i]? = some true:=by
   intro i;induction i using Nat.strongRecOn with
   | _ i ih =>
    intro hi;have hs:i < listedT.size:=by rw [hh.s2]; omega
    cases hv:listedT[i]? with
    | none=>rw [ze9 hs] at hv; cases hv
    | some b =>
     cases b with
     | true=>rfl
     | false =>
      have hm:i ∈ Region.ready md ops listedT:=mem_ready.2 ⟨jL hv,ops[i]'(by omega),ze9 (by omega),fun e he _=>jL (ih e.on (back i _ (ze9 (by omega)) e he) (by have:=back i _ (ze9 (by omega)) e he; omega))⟩;rw [hr] at hm;cases hm
  apply Array.ext_getElem?;intro i;by_cases h1:i < n
  ·rw [hh.same i h1,all i h1];simp [jt,h1,show i < ops.size by omega]
  ·by_cases h2:i < ops.size
   ·rw [(hh.tail i (by omega) h2).1];simp [jt,h1,h2]
   ·rw [Array.getElem?_eq_none (by rw [hh.s1]; omega),Array.getElem?_eq_none (by simp [jt]; omega)]
 have rest:∀ (fuel:Nat) (listed listedT:Array Bool) (a:Act) (w:World),Xz ops n listed listedT -> Region.ready md ops listedT = [] -> wQ P l n Q .normal a w -> wpAny P md ops Q (fuel + (ops.size - n)) listed a w:=by
  intro fuel listed listedT a w hh hr hq;rw [full listed listedT hh hr];have hlen:(l.drop n).length = ops.size - n:=by rw [hl]; simp
  have:=Wp (P:=P) (ops:=ops) (md:=md) (Q:=Q) fuel (l.drop n) n (jt ops.size n) a w (fun j=>by rw [hl,List.getElem?_drop]; simp) (by rw [hlen]; exact hseq) (by rw [hl]; exact hq);rw [hlen,Nat.add_comm] at this;exact this
 intro fuel;induction fuel with
 | zero=>intro listed listedT a w hh h; exact rest 0 listed listedT a w hh h.1 h.2
 | succ fuel ih =>
  intro listed listedT a w hh h;by_cases hr:Region.ready md ops listedT = []
  ·exact rest (fuel + 1) listed listedT a w hh hr (h.1 hr)
  ·-- an operation of the head that isn't listed
   have hsome:∃ i,i < n /\ listedT[i]? = some false:=by
    obtain ⟨i,hi⟩:=List.exists_mem_of_ne_nil _ hr;obtain ⟨h1,o,ho,_⟩:=mem_ready.1 hi;have hs:i < ops.size:=(zfe.1 ho).1;have hv:listedT[i]? = some false:=by
     cases hv:listedT[i]? with
     | none=>rw [ze9 (by rw [hh.s2]; exact hs)] at hv; cases hv
     | some b=>rw [jL hv] at h1; rw [h1]
    refine ⟨i,?_,hv⟩;rcases Nat.lt_or_ge i n with h2 | h2
    ·exact h2
    ·rw [(hh.tail i h2 hs).2] at hv; cases hv
   obtain ⟨k,hkn,hkv⟩:=hsome;have only:∀ i ∈ Region.ready md ops listed,i < n /\ i ∈ Region.ready md ops listedT:=by
    intro i hi;obtain ⟨h1,o,ho,h2⟩:=mem_ready.1 hi;have hs:i < ops.size:=(zfe.1 ho).1;have hin:i < n:=by
     rcases Nat.lt_or_ge i n with h3 | h3
     ·exact h3
     ·rcases Nat.eq_or_lt_of_le h3 with h4 | h4
      ·subst h4;obtain ⟨o',ho',e,he,hb,hon⟩:=Region.waitsFor_spec (List.all_eq_true.1 hwait k (List.mem_range.2 hkn));obtain rfl:o' = o:=Option.some.inj (ho'.symm.trans ho);have:=h2 e he hb;rw [hon,jL ((hh.same k hkn).trans hkv)] at this;cases this
      ·have h5:=List.all_eq_true.1 hchain i (List.mem_range.2 hs);simp only [Bool.or_eq_true,decide_eq_true_eq] at h5;rcases h5 with h5 | h5
       ·omega
       ·obtain ⟨o',ho',e,he,hb,hon⟩:=Region.waitsFor_spec h5;obtain rfl:o' = o:=Option.some.inj (ho'.symm.trans ho);have:=h2 e he hb;rw [hon,jL (hh.tail (i - 1) (by omega) (by omega)).1] at this;cases this
    refine ⟨hin,mem_ready.2 ⟨?_,o,ho,fun e he hb=>?_⟩⟩
    ·rw [zfd,<- hh.same i hin,<- zfd]; exact h1
    ·rw [zfd,<- hh.same e.on (by have:=back i o ho e he; omega),<- zfd]; exact h2 e he hb
   rw [show fuel + 1 + (ops.size - n) = (fuel + (ops.size - n)) + 1 by omega];refine ⟨fun h0=>?_,fun i hi=>?_⟩
   ·-- the least one that isn't listed is ready
    have least:∀ i,i < n -> listed[i]? = some false -> ∃ j,j ∈ Region.ready md ops listed:=by
     intro i;induction i using Nat.strongRecOn with
     | _ i ihi =>
      intro hin hv;have hs:i < ops.size:=by omega
      by_cases hall:∀ e ∈ (ops[i]).after,Region.binds md e = true -> listed.getD e.on false = true
      ·exact ⟨i,mem_ready.2 ⟨jL hv,ops[i],ze9 hs,hall⟩⟩
      ·have hex:∃ e,e ∈ (ops[i]).after /\ Region.binds md e = true /\ ¬ listed.getD e.on false = true:=by
        refine Classical.byContradiction fun hno=>hall fun e he hb=>?_
        exact Classical.byContradiction fun hx=>hno ⟨e,he,hb,hx⟩
       obtain ⟨e,he,_,hx⟩:=hex;have hlt:=back i _ (ze9 hs) e he;have hes:e.on < listed.size:=by rw [hh.s1]; omega
       cases hve:listed[e.on]? with
       | none=>rw [ze9 hes] at hve; cases hve
       | some b =>
        cases b with
        | true=>exact absurd (jL hve) hx
        | false=>exact ihi e.on hlt (by omega) hve
    obtain ⟨j,hj⟩:=least k hkn ((hh.same k hkn).trans hkv);rw [h0] at hj;cases hj
   ·obtain ⟨hin,hiT⟩:=only i hi;exact wpOp_mono (fun a' w' h'=>ih _ _ a' w' (hh.set hin) h'.2) (zbf (h.2 i hiT))
theorem wG {id:Nat} {a:Act} {w:World} {l:List Oper} (S:World -> Prop) (n:Nat) (hm:P.follows .mixedOrders = true) (hB:QR .any l.toArray n = true)
  (h:∀ w1,Hid (w1 = w.drew) -> wpAnyH P .any l.toArray (wQ P l n Q) S n (jB l.toArray.size n) a w1):(Code.region id l.toArray true).wp P Q a w:=by
 refine wp_region_any hm ?_;have hn:n < l.toArray.size:=by
  simp only [QR,Bool.and_eq_true,decide_eq_true_eq] at hB;exact hB.1.1.1.1
 have hh:Xz l.toArray n (Array.replicate l.toArray.size false) (jB l.toArray.size n):=by
  refine ⟨by simp,by simp [jB],fun j hj=>?_,fun j h1 h2=>?_⟩
  ·have h3:j < l.length:=by simp at hn; omega
   simp [jB,h3,show ¬ n <= j by omega]
  ·have h3:j < l.length:=by simpa using h2
   simp [jB,h3,h1]
 have:=Wq (Q:=Q) (S:=S) rfl hB n _ _ a _ hh (h _ rfl);rw [show n + (l.toArray.size - n) = l.toArray.size by omega] at this;exact this
theorem zeb {i:Nat} (t:Nat) {oi:Oper} {v:Value} {fuel:Nat} {listed:Array Bool} {a:Act} {w:World} (hi:ops[i]? = some oi)
  (hs:Region.noSelect ops = true) (hf:Region.free md ops listed i = true) (hr:(Region.ready md ops listed).contains i = true) (hd:oi.dst = some t)
  (hQ:∀ c a w,Q (.panic c) (a.put (some t) v) w -> Q (.panic c) a w) (hy:YieldsIf P ops S oi v a) (hS:S w)
  (h:wpAnyH P md ops Q S fuel (listed.setIfInBounds i true) (a.put (some t) v) w):wpAnyH P md ops Q S (fuel + 1) listed a w :=
 wpAnyH_take hi hs hf hr (by rw [hd]; exact hQ) hy hS (by rw [hd]; exact h)
theorem zg {i:Nat} (t:Nat) {oi:Oper} {v:Value} {fuel:Nat} {listed:Array Bool} {a:Act} {w:World} (hi:ops[i]? = some oi) (hd:oi.dst = some t) (hy:YieldsIf P ops S oi v a) (hS:S w)
  (h:wpAnyH P md ops Q S fuel (listed.setIfInBounds i true) (a.put (some t) v) w) (hs:Region.noSelect ops = true:=by kernel_rfl) (hf:Region.free md ops listed i = true:=by kernel_rfl) (hr:(Region.ready md ops listed).contains i = true:=by kernel_rfl)
  (hQ:∀ c a w,Q (.panic c) (a.put (some t) v) w -> Q (.panic c) a w:=by exact fun _ _ _ h=>h):wpAnyH P md ops Q S (fuel + 1) listed a w :=
 zeb t hi hs hf hr hd hQ hy hS h
theorem za {i:Nat} (t:Nat) {oi:Oper} {v:Value} {fuel:Nat} {listed:Array Bool} {a:Act} {w:World} (hi:ops[i]? = some oi) (hd:oi.dst = some t) (hS:S w)
  (h:wpAnyH P md ops Q S fuel (listed.setIfInBounds i true) (a.put (some t) v) w) (hs:Region.noSelect ops = true:=by kernel_rfl) (hf:Region.free md ops listed i = true:=by kernel_rfl) (hr:(Region.ready md ops listed).contains i = true:=by kernel_rfl)
  (hQ:∀ c a w,Q (.panic c) (a.put (some t) v) w -> Q (.panic c) a w:=by exact fun _ _ _ h=>h) (hy:YieldsIf P ops S oi v a:=by exact .inl ⟨by rfl,fun _ _=>by go_simp⟩):wpAnyH P md ops Q S (fuel + 1) listed a w :=
 zeb t hi hs hf hr hd hQ hy hS h
theorem xG9 (i t:Nat) (v:Value) {oi:Oper} {fuel:Nat} {listed:Array Bool} {a a':Act} {w:World} (hi:ops[i]? = some oi) (hy:YieldsIf P ops S oi v a) (hS:S w) (h:wpAnyH P md ops Q S fuel (listed.setIfInBounds i true) a' w)
  (hd:oi.dst = some t:=by rfl) (hs:Region.noSelect ops = true:=by kernel_rfl) (hf:Region.free md ops listed i = true:=by kernel_rfl) (hr:(Region.ready md ops listed).contains i = true:=by kernel_rfl)
  (hQ:∀ c a w,Q (.panic c) (a.put (some t) v) w -> Q (.panic c) a w:=by exact fun _ _ _ h=>h) (ha:a.put (some t) v = a':=by simp only [Act.put,pU]; rfl):wpAnyH P md ops Q S (fuel + 1) listed a w :=
 zg t hi hd hy hS (by rw [ha]; exact h) hs hf hr hQ
theorem xA9 (i t:Nat) (v:Value) {oi:Oper} {fuel:Nat} {listed:Array Bool} {a a':Act} {w:World} (hS:S w) (h:wpAnyH P md ops Q S fuel (listed.setIfInBounds i true) a' w)
  (hi:ops[i]? = some oi:=by rfl) (hd:oi.dst = some t:=by rfl) (hs:Region.noSelect ops = true:=by kernel_rfl) (hf:Region.free md ops listed i = true:=by kernel_rfl) (hr:(Region.ready md ops listed).contains i = true:=by kernel_rfl)
  (hQ:∀ c a w,Q (.panic c) (a.put (some t) v) w -> Q (.panic c) a w:=by exact fun _ _ _ h=>h) (hy:YieldsIf P ops S oi v a:=by exact .inl ⟨by rfl,fun _ _=>by go_simp⟩) (ha:a.put (some t) v = a':=by simp only [Act.put,pU]; rfl):wpAnyH P md ops Q S (fuel + 1) listed a w :=
 za t hi hd hS (by rw [ha]; exact h) hs hf hr hQ hy
theorem zI {i:Nat} {oi:Oper} {fuel:Nat} {listed:Array Bool} {a:Act} {w:World} (hi:ops[i]? = some oi) (hr:Region.ready md ops listed = [i])
  (h:∀ K:Act -> World -> Prop,Hid (∀ a w,S w -> wpAnyH P md ops Q S fuel (listed.setIfInBounds i true) a w -> K a w) -> if Region.wanted oi (yielded ops a.tmps) = true then Oper.wp P oi a w K Q else K (a.put oi.dst undef) w):wpAnyH P md ops Q S (fuel + 1) listed a w :=
 wpAnyH_ready hr (by simp) (AllReadyH.cons hi (fun K hK=>h K (fun a w h1 h2=>hK.out a w h1 fun _=>h2)) AllReadyH.nil)
theorem xJ9 (i:Nat) (d:Option Nat) {p1 p2 p3 p4 p5} {fuel:Nat} {listed:Array Bool} {a:Act} {w:World}
  (h:∀ K:Act -> World -> Prop,Hid (∀ a w,S w -> wpAnyH P md ops Q S fuel (listed.setIfInBounds i true) a w -> K a w) -> if Region.wanted (⟨d,p1,p2,p3,p4,p5⟩:Oper) (yielded ops a.tmps) = true then Oper.wp P ⟨d,p1,p2,p3,p4,p5⟩ a w K Q else K (a.put d undef) w)
  (hi:ops[i]? = some (⟨d,p1,p2,p3,p4,p5⟩:Oper):=by rfl) (hr:Region.ready md ops listed = [i]:=by kernel_rfl):wpAnyH P md ops Q S (fuel + 1) listed a w :=
 zI hi hr h
end
end
section
theorem Yt {P:Program} {ops:Array Oper} {w:World} {Q:Act -> Prop} {a:Act} {o:Oper} {rest:List Oper} (hgd:o.guard = none) (ty:TypeId) (x:Operand) (ho:o.op = .load ty x)
  (b off:Nat) (hx:a.eval x = .pointer (some ⟨b,off,none⟩)) (p:Pg) (hl:p.length = 128) (hc:w.rangeAt b off (ze p)) (d:TypeDesc)
  (hu:P.underlying ty = some d) (hd:d.isRow = true) (hi:(P.info? ty).map (·.size) = some 128)
  (h:wpStill P ops w Q rest (a.put o.dst (pgV p))):wpStill P ops w Q (o :: rest) a:=by
 refine wpStill_step fun K hK=>?_
 have hw:Region.wanted o (yielded ops a.tmps) = true:=by simp [Region.wanted,hgd]
 rw [if_pos hw];unfold Oper.still execOp;simp only [ho,hx,Instr.loadAt,Instr.sureAddr,Sem.run_bind,Sem.run_pure,Result.andThen_ok,run_loadVar_mid w b off ty (ze p) d hc hu hd (by rw [zS,hl]; exact hi),Oper.stillUpon_value];exact hK _ h
theorem ji {P:Program} {ops:Array Oper} {rest:List Oper} {op:Oper} {a:Act} {w:World} {Q:Exit -> Act -> World -> Prop} (hgd:op.guard = none) (ty:TypeId) (x y:Operand) (ho:op.op = .store ty x y)
  (b o:Nat) (p:Pg) (hl:p.length = 128) (hx:a.eval x = .pointer (some ⟨b,o,none⟩)) (hy:a.eval y = pgV p) (ht:w.there b o 128) (hi:(P.info? ty).map (·.size) = some 128)
  (h:∀ w2,Hid (w2 = w.setCells b o (ze p)) -> wpList P ops Q rest (a.put op.dst undef) w2):wpList P ops Q (op :: rest) a w :=
 wpList_store_mid hgd ty x y ho b o (zD p) hx hy (by rw [zv,hl]; exact ht) (by rw [zv,hl]; exact hi) (yX p) (h _ rfl)
theorem yT {w:World} {b c:Nat} (h:c ≠ b) (o j:Nat) (vs:List Value):(w.setCells b o vs).cell? ⟨c,j,none⟩ = w.cell? ⟨c,j,none⟩:=World.cell?_setCells_out b vs o w _ (fun e _=>absurd e h)
theorem yU.laid {K:Nat -> Prop} {w w2:World} {D F S:Nat} {v:Value} {n i:Nat} {d:Dk} {p:Pg} (h:yU K w D F S v n d) (hw:w2 = w.setCells S (i * 128) (ze p)) (hi:i < n) (hl:p.length = 128) :
  yU K w2 D F S v n ⟨d.firm,d.seen.set i p,d.soft,d.down⟩:=by
 subst hw;have hb:∀ k,k ≠ S -> (w.setCells S (i * 128) (ze p)).1[k]? = w.1[k]?:=fun k hk=>wC S hk _ _ _
 refine ⟨⟨h.ok.firm,by simp [h.ok.seen],h.ok.wf,h.ok.ws.set _ hl,h.ok.fits⟩,h.pos,by rw [yT h.ds]; exact h.c0,by rw [yT h.ds]; exact h.c1,by rw [yT h.ds]; exact h.c2,by rw [yT h.ds]; exact h.c3,
  yO h.fz _ _ _,yO h.ff _ _ _,yO h.fs _ _ _,h.firm.carry (hb F h.fsn),h.seen.store h.fs (by rw [h.ok.seen]; exact hi) hl,?_,h.kd,h.kf,h.ks,h.kv,h.df,h.ds,h.fsn⟩
 obtain ⟨h1,h2⟩:=h.soft;refine ⟨h1,?_⟩;rcases h2 with h2 | ⟨g,cap,cur,e1,e2,e3,e4⟩
 ·exact .inl h2
 ·exact .inr ⟨g,cap,cur,e1,e2,by rw [hb g (h.kv g (by rw [e1]; rfl)).2.2.2]; exact e3,e4⟩
theorem qT {P:Program} {id:Nat} {Q:Exit -> Act -> World -> Prop} {a:Act} {w:World} {l:List Oper} (n:Nat) (hm:P.follows .mixedOrders = true) (hB:Region.lexTailB .any l.toArray n = true)
  (h:∀ w1,Hid (w1 = w.drew) -> wpStill P l.toArray w1 (fun a'=>wpList P l.toArray Q (l.drop n) a' w1) (l.take n) a):(Code.region id l.toArray true).wp P Q a w:=wp_region_still_tail n hm hB (h _ rfl)
theorem Tryz.infoWrite:(Tryz.prog.info? 130).map (fun i=>(i.zero,i.size,i.bytes)) = some (some (.agg (#[.int .i64 0] ++ zD zy)),129,136):=by kernel_rfl
theorem Wt {P:Program} {ops:Array Oper} {S:World -> Prop} {op:Oper} {a:Act} (hw:Region.wanted op (yielded ops a.tmps) = true) (t:TypeId) (x y:Operand) (ho:op.op = .build t #[(0,x),(1,y)]) (u v:Value) (c:Array Value)
  (hx:a.eval x = u) (hy:a.eval y = v) (hb:P.built t [(0,u),(1,v)] = some c):YieldsIf P ops S op (.agg c) a :=
 .inl ⟨hw,fun w _=>by
  unfold execOp;simp only [ho,List.map_toArray,List.map_cons,List.map_nil,hx,hy,Sem.run_bind,run_build w t #[(0,u),(1,v)] c hb,Result.andThen_ok];rfl⟩
theorem Zl {P:Program} {w:World} {ops:Array Oper} {o:Oper} {a:Act} {K:Act -> World -> Prop} {Q:Exit -> Act -> World -> Prop} {E:Prop} (hgd:o.guard = none) (t e:TypeId) (x:Operand) (ho:o.op = .buildSlice t 1 #[(0,x)])
  (c:Array Value) (hx:a.eval x = .agg c) (hu:P.underlying t = some (.slice e)) (hz:((P.info? e).bind (·.zero)).isSome = true) (hi:(P.info? e).map (·.size) = some c.size) (h0:0 < c.size) (h24:c.size <= 2 ^ 24)
  (h:K (a.put o.dst (.slice (some ⟨w.1.size,0,none⟩) 1 1)) (w.alloc (.cells c e))):if Region.wanted o (yielded ops a.tmps) = true then Oper.wp P o a w K Q else E:=by
 have hw:Region.wanted o (yielded ops a.tmps) = true:=by simp [Region.wanted,hgd]
 rw [if_pos hw];unfold Oper.wp execOp;simp only [ho,List.map_toArray,List.map_cons,List.map_nil,hx,Sem.run_bind,ZK w t e c hu hz hi h0 h24,Result.andThen_ok];exact h
theorem zaO {w w3:World} {o:Obj} {row:Option Nat} {b:Nat} {cs:List Value} (hg:(w.alloc o).drew.grownBy w3 row) (hb:b < w.1.size) (hn:row ≠ some b) (hr:w.rangeAt b 0 cs):w3.rangeAt b 0 cs:=fun j v hv=>by
 rw [hg.cell_far _ (by show b < (w.alloc o).heap.size; simp; omega) (Ne.symm hn)];exact World.rangeAt_alloc hr o j v hv
theorem js {w w3:World} {o:Obj} {row:Option Nat} {b j:Nat} (hg:(w.alloc o).drew.grownBy w3 row) (hb:b < w.1.size) (hn:row ≠ some b):w3.cell? ⟨b,j,none⟩ = w.cell? ⟨b,j,none⟩ :=
 (hg.cell_far _ (by show b < (w.alloc o).heap.size; simp; omega) (Ne.symm hn)).trans (World.cell?_alloc_lt w o ⟨b,j,none⟩ hb)
theorem Y2 {w w3:World} {o:Obj} {row:Option Nat} {b j:Nat} (hg:(w.alloc o).drew.grownBy w3 row) (hb:b < w.1.size) (hn:row ≠ some b):w3.frozen? ⟨b,j,none⟩ = w.frozen? ⟨b,j,none⟩ :=
 (hg.frozen_far _ (by show b < (w.alloc o).heap.size; simp; omega) (Ne.symm hn)).trans (World.frozen?_alloc_old w o ⟨b,j,none⟩ (Nat.ne_of_lt hb))
theorem yU.pushed {K:Nat -> Prop} {w w3:World} {D F S:Nat} {v:Value} {n i gg cap:Nat} {d:Dk} {p:Pg} {o:Obj} (h:yU K w D F S v n d) (ht:zZ K w) (hg:(w.alloc o).drew.grownBy w3 v.ownBlock)
  (hown:w3.ownsRow 0 130 129 (.slice (some ⟨gg,0,none⟩) (d.soft.length + 1) cap) (d.soft.length + 1) (wL d.soft ++ vC (i,p))) (hat:v.ownBlock = some gg \/ gg = w.1.size + 1) (hi:i < n) (hl:p.length = 128) :
  yU K (w3.setCell ⟨D,2,none⟩ (.slice (some ⟨gg,0,none⟩) (d.soft.length + 1) cap)) D F S (.slice (some ⟨gg,0,none⟩) (d.soft.length + 1) cap) n ⟨d.firm,d.seen,d.soft ++ [(i,p)],d.down⟩:=by
 have hD:D < w.1.size:=yL h.c0;have hF:=h.firm.lt (by rw [h.ok.firm]; exact h.pos);have hS:=h.seen.lt (by rw [h.ok.seen]; exact h.pos);have nD:v.ownBlock ≠ some D:=fun e=>(h.kv D e).2.1 rfl
 have nF:v.ownBlock ≠ some F:=fun e=>(h.kv F e).2.2.1 rfl
 have nS:v.ownBlock ≠ some S:=fun e=>(h.kv S e).2.2.2 rfl
 have blk:∀ k,k < w.1.size -> v.ownBlock ≠ some k -> w3.1[k]? = w.1[k]?:=fun k hk hn =>
  (hg.block k (by show k < (w.alloc o).heap.size; simp; omega) (Ne.symm hn)).trans (Below.heap_alloc w o k hk)
 have bF:(w3.setCell ⟨D,2,none⟩ (.slice (some ⟨gg,0,none⟩) (d.soft.length + 1) cap)).1[F]? = w.1[F]?:=(xN w3 D 2 _ F (Ne.symm h.df)).trans (blk F hF nF);have bS:(w3.setCell ⟨D,2,none⟩ (.slice (some ⟨gg,0,none⟩) (d.soft.length + 1) cap)).1[S]? = w.1[S]?:=(xN w3 D 2 _ S (Ne.symm h.ds)).trans (blk S hS nS);have hgD:gg ≠ D /\ gg ≠ F /\ gg ≠ S /\ ¬ K gg:=by
  rcases hat with e | e
  ·have:=h.kv gg e;exact ⟨this.2.1,this.2.2.1,this.2.2.2,this.1⟩
  ·refine ⟨by omega,by omega,by omega,fun hk=>?_⟩;have:=ht gg hk;omega
 refine ⟨⟨h.ok.firm,h.ok.seen,h.ok.wf,h.ok.ws,h.ok.fits.snoc hi hl⟩,h.pos,?_,?_,?_,?_,fun j=>?_,fun j=>?_,fun j=>?_,h.firm.carry bF,h.seen.carry bS,?_,h.kd,h.kf,h.ks,?_,h.df,h.ds,h.fsn⟩
 ·rw [World.cell?_setCell_other _ _ _ _ (by simp),js hg hD nD]; exact h.c0
 ·rw [World.cell?_setCell_other _ _ _ _ (by simp),js hg hD nD]; exact h.c1
 ·exact World.cell?_setCell_same _ _ _ ((js hg hD nD).trans h.c2)
 ·rw [World.cell?_setCell_other _ _ _ _ (by simp),js hg hD nD]; exact h.c3
 ·rw [World.frozen?_setCell,Y2 hg hD nD]; exact h.fz j
 ·exact (World.frozen?_of_block (w:=w) (a:=⟨F,j,none⟩) bF).trans (h.ff j)
 ·exact (World.frozen?_of_block (w:=w) (a:=⟨S,j,none⟩) bS).trans (h.fs j)
 ·rw [List.length_append,List.length_singleton,Wk];obtain ⟨h1,h2⟩:=hown;refine ⟨h1,?_⟩;rcases h2 with ⟨e,_⟩ | ⟨g,cap',cur,e1,e2,e3,e4⟩
  ·cases e
  ·obtain ⟨rfl,rfl⟩:gg = g /\ cap = cap':=by
    injection e1 with e1 e5 e6
    injection e1 with e1
    injection e1 with e1
    exact ⟨e1,e6⟩
   exact .inr ⟨gg,cap,cur,rfl,e2,by rw [xN w3 D 2 _ gg hgD.1]; exact e3,e4⟩
 ·intro g e;obtain rfl:gg = g:=by injection e
  exact ⟨hgD.2.2.2,hgD.1,hgD.2.1,hgD.2.2.1⟩
theorem zac {K0:Nat -> Prop} {D n i:Nat} {d:Dk} {p:Pg} {w:World} (h:zE K0 w D n d) (ht:zZ K0 w) (hd:d.down = false) (hi:i < n) (hl:p.length = 128) (hs:d.soft.length <= 1000000) :
  Calls Tryz.prog 48 #[.pointer (some ⟨D,0,none⟩),.int .i64 i,pgV p] w fun e w'=>e = .returned .nilIface /\ zE K0 w' D n (d.write i p) /\ zh K0 w w':=by
 obtain ⟨F,S,v,h⟩:=h;have h0:=h.c0;have h1:=h.c1;have h2:=h.c2;have h3:=h.c3;rw [hd] at h3;have hD:D < w.1.size:=yL h0;have HD:=Hi h;have HL:=Hi hl;have HT:=Hi ht;have HS:=Hi hs;clear h hl ht hd hs;have hr:(w.alloc (.cells (zD p) 87)).drew.rangeAt w.1.size 0 (ze p):=by
  intro j u hu;have:=World.cell?_alloc_at (w:=w) (zD p) 87 w.1.size (0 + j) rfl;show (w.alloc (.cells (zD p) 87)).cell? _ = _;rw [this,zfa];simpa [zD] using hu
 have HR:=Hi hr;clear hr
 go_enter Tryz.func48,Tryz.ntmps48
 go_wp2_with fail;refine (ZH D n i ⟨F,0,none⟩ _ hi ?_ ?_).mono ?_
 ·rw [World.cell?_alloc_lt _ _ _ hD]; exact h0
 ·rw [World.cell?_alloc_lt _ _ _ hD]; exact h3
 rintro e w' ⟨rfl,rfl⟩;go_wp2_with fail;refine qT 6 (by kernel_rfl) (by kernel_rfl) (fun w1 HW1=>?_);simp only [zff,zfc,zfb,List.drop_zero];have h1':w1.cell? ⟨D,1,none⟩ = some (.slice (some ⟨S,0,none⟩) n n):=by rw [HW1.o]; show (w.alloc _).cell? _ = _; rw [World.cell?_alloc_lt _ _ _ hD]; exact h1
 have HR1:=hI (w1.rangeAt w.1.size 0 (ze p)) (by rw [HW1.o]; exact HR.o)
 iterate 5 still_step
 refine Yt rfl _ _ rfl w.1.size 0 rfl p HL.o HR1.o _ Tryz.underlying87 rfl Tryz.pageSize ?_;refine wpStill_nil ?_;go_wp2_with (with_reducible refine xD9 (none) ?_);have HD1:=hI (yU K0 w1 D F S v n d) (by rw [HW1.o]; exact HD.o.carry ((Below.refl _ _).alloc (ze3 _) _).drew);refine ji rfl _ _ _ rfl S (i * 128) p HL.o rfl rfl (HD1.o.seen.there HD1.o.fs (by rw [HD1.o.ok.seen]; exact hi)) Tryz.pageSize (fun w2 HW2=>?_);have hDS:=HD1.o.ds;have h2':w2.cell? ⟨D,2,none⟩ = some v:=by rw [HW2.o,yT hDS]; exact HD1.o.c2
 have hf2':w2.frozen? ⟨D,2,none⟩ = false:=by rw [HW2.o,World.frozen?_setCells]; exact HD1.o.fz 2
 have HD2:=hI (yU K0 w2 D F S v n ⟨d.firm,d.seen.set i p,d.soft,d.down⟩) (HD1.o.laid HW2.o hi HL.o);have hSb:S < w.1.size:=HD.o.seen.lt (by rw [HD.o.ok.seen]; exact HD.o.pos);have HR2:=hI (w2.rangeAt w.1.size 0 (ze p)) (by rw [HW2.o]; exact World.rangeAt_setCells_apart HR1.o _ _ _ (.inl (by omega)));have HK2:=hI (zh K0 w w2) (by
  rw [HW2.o,HW1.o];exact ((zh.refl K0 w).alloc HT.o _).drew.setCells HD.o.ks _ _)
 obtain ⟨b0,HB0⟩:=hY (w.1.size);rw [<- HB0.o] at HR2;have hr2:=HR2.o;have hb2:b0 < w2.1.size:=by have:=HK2.o.size; have:=(HW1.o ▸ ze3 w1.1.size); rw [HB0.o,HW2.o,vV,HW1.o]; show _ < (w.alloc _).heap.size; simp
 clear hDS HR HR1 h1' HD1 h0 h1 h2 h3;obtain ⟨i0,hi0,hz0,hz1,hz2⟩:=info_parts Tryz.infoWrite;have hun:Tryz.prog.underlying 87 = some (.array 128 5):=Tryz.underlying87;have hsz:(Tryz.prog.info? 87).map (·.size) = some (ze p).length:=by rw [zS,HL.o]; exact Tryz.pageSize
 have hDb:D ≠ b0:=by rw [HB0.o]; omega
 have HO:=hI (w2.ownsRow 0 130 129 v d.soft.length (wL d.soft)) HD2.o.soft;have hvD:v.ownBlock ≠ some D:=fun e=>(HD2.o.kv D e).2.1 rfl
 have hvb:v.ownBlock ≠ some b0:=fun e=>by have:=(HD.o.soft.lt b0 e).2; rw [HB0.o] at this; omega
 have hD2:D < w2.1.size:=by have:=HK2.o.size; omega
 rw [<- HB0.o];go_wp2_with fail;refine wG (fun w'=>w'.cell? ⟨D,2,none⟩ = some v /\ w'.rangeAt b0 0 (ze p)) 10 (by kernel_rfl) (by kernel_rfl) (fun w4 HW4=>?_);have hS:w4.cell? ⟨D,2,none⟩ = some v /\ w4.rangeAt b0 0 (ze p):=by rw [HW4.o]; exact ⟨h2',HR2.o⟩
 refine xA9 0 21 (.pointer (some ⟨D,0,none⟩)) hS ?_;refine xA9 1 22 (.pointer (some ⟨D,0,none⟩)) hS ?_;refine xA9 2 23 (.pointer (some ⟨D,0,none⟩)) hS ?_;refine xA9 3 24 (.pointer (some ⟨D,2,none⟩)) hS ?_;refine xG9 4 25 (v) rfl (.inl ⟨by rfl,fun _ hw=>by have hw1:=hw.1; go_simp⟩) hS ?_;refine xA9 5 26 (.int .i64 (i:Int)) hS ?_;refine xG9 6 27 (pgV p) rfl (yieldsIf_load_mid (by rfl) _ _ rfl b0 0 rfl (ze p) _ (fun _ hw=>hw.2) Tryz.underlying87 rfl hsz) hS ?_;refine xG9 7 28 (.agg (Zv i p)) rfl (Wt (by rfl) _ _ _ rfl (.int .i64 (i:Int)) (pgV p) _ rfl rfl (Kg i HL.o)) hS ?_;refine zI (i:=8) rfl (by kernel_rfl) (fun K hK=>?_);refine Zl (by rfl) _ 130 _ (by rfl) (Zv i p) (by rfl) Tryz.underlying111 Tryz.writeZero (by rw [ZN HL.o]; exact Tryz.writeInfo) (by rw [ZN HL.o]; decide) (by rw [ZN HL.o]; decide) ?_;refine hK.out _ _ ⟨(World.cell?_alloc_lt _ _ _ (by rw [HW4.o]; exact hD2)).trans hS.1,World.rangeAt_alloc hS.2 _⟩ ?_;clear hK K;simp only [Act.put,List.setIfInBounds_toArray];obtain ⟨w5,HW5⟩:=hY (w4.alloc (.cells (Zv i p) 130));have h45:w4.1.size = w2.1.size:=by rw [HW4.o]; rfl
 have HO5:=hI (w5.ownsRow 0 130 129 v d.soft.length (wL d.soft)) (by rw [HW5.o,HW4.o]; exact (HO.o.drew).alloc _);have hn5:∀ j u,(vC (i,p))[j]? = some u -> w5.cell? ((⟨w4.1.size,0,none⟩:Addr).add j) = some u:=by rw [HW5.o]; exact World.news_of_block (cs:=Zv i p) (heap_alloc_new w4 _)
 have hs5:w5.1.size = w2.1.size + 1:=by rw [HW5.o,<- h45]; simp
 rw [<- HW5.o];refine zI (i:=9) rfl (by kernel_rfl) (fun K hK=>?_);refine step_append_lies _ rfl _ _ _ rfl 0 130 i0 _ 129 136 Tryz.underlying111 hi0 hz0 hz1 hz2 rfl (by omega) v d.soft.length (wL d.soft) rfl HO5.o ⟨w4.1.size,0,none⟩ 1 1 (vC (i,p)) rfl (by rw [Ws HL.o]) hn5 (zbh i p)
  (by omega) (by have:=HS.o; unfold maxLen; omega) (by have:=HS.o; omega) (Nat.zero_le _) (w2.1.size + 1) hs5 ?_
 intro gg cap w3 hown3 hgrow hat hlt;have hgrow:(w2.alloc (.cells (Zv i p) 130)).drew.grownBy w3 v.ownBlock:=by
  have e:(w2.alloc (.cells (Zv i p) 130)).drew = w5:=by rw [HW5.o,HW4.o]; rfl
  rw [e];exact hgrow
 have cz:w3.cell? ⟨D,2,none⟩ = some v:=(js hgrow hD2 hvD).trans h2';have fz:w3.frozen? ⟨D,2,none⟩ = false:=(Y2 hgrow hD2 hvD).trans hf2';refine hK.out _ _ ⟨cz,zaO hgrow hb2 hvb HR2.o⟩ ?_;clear hK K;simp only [Act.put];refine wpAnyH_done (by kernel_rfl) ?_ _;unfold wQ;simp only [zfb,List.drop_zero];have HF:=hI (zE K0 (w3.setCell ⟨D,2,none⟩ (.slice (some ⟨gg,0,none⟩) (d.soft.length + 1) cap)) D n (d.write i p)) ⟨F,S,_,HD2.o.pushed (HT.o.kept HK2.o) hgrow hown3 hat hi HL.o⟩;have HKF:=hI (zh K0 w (w3.setCell ⟨D,2,none⟩ (.slice (some ⟨gg,0,none⟩) (d.soft.length + 1) cap))) (HK2.o.trans (((((zh.refl K0 w2).alloc (HT.o.kept HK2.o) _).drew.grown (fun k hk=>Nat.lt_of_lt_of_le (HT.o.kept HK2.o k hk) (by show w2.1.size <= (w2.alloc _).heap.size; simp)) hgrow (fun k hk=>(HD2.o.kv k hk).1)).setCell HD2.o.kd _)));clear hown3 hgrow hat hlt hsz hvD hvb hD2 h2' hf2' hb2 hn5 hs5 h45;go_wp2_with fail
 go_ret
 exact ⟨rfl,HF.o,HKF.o⟩
end
section
theorem WJ {P:Program} (w:World) (dT sT ty elem:TypeId) (size b o dLen dCap:Nat) (a:Addr) (sLen sCap:Nat) (cs:List Value)
  (hu:P.underlying dT = some (.slice elem)) (hs:(P.info? elem).map (·.size) = some size) (hn:cs.length = Nat.min sLen dLen * size)
  (hsrc:∀ j v,cs[j]? = some v -> w.cell? (a.add j) = some v) (hc:∀ j,j < cs.length -> (w.cell? ⟨b,o + j,none⟩).isSome = true) (hf:∀ j,j < cs.length -> w.frozen? ⟨b,o + j,none⟩ = false) (h1:∀ v ∈ cs,v.oneCell' = true) :
  (Builtin.copy_ #[dT,sT] ty #[.slice (some ⟨b,o,none⟩) dLen dCap,.slice (some a) sLen sCap]).run P w = .ok (goInt (Nat.min sLen dLen)) (w.setCells b o cs):=by
 have hl:=run_loadCells_list (P:=P) w a cs hsrc;have hst:=run_storeCells_cells (P:=P) b o cs 0 w (by simpa using hc) (by simpa using hf) h1;cases hq:P.info? elem with
 | none=>simp [hq] at hs
 | some i =>
  have hi:i.size = size:=by simpa [hq] using hs
  simp [Builtin.copy_,run_underlying hu,Builtin.lenOf,Builtin.firstCells,sizeOf,typeInfo,hq,hi,<- hn,hl,hst]
theorem kN (ps:List Pg) (h:Whole ps):(ps.flatMap ze).length = ps.length * 128:=Y0 fun p hp=>by rw [zS]; exact h p hp
theorem wN.cells {w:World} {b:Nat} {ps:List Pg} (h:wN w b ps) (hw:Whole ps):∀ j v,(ps.flatMap ze)[j]? = some v -> w.cell? ⟨b,j,none⟩ = some v:=fun j v hv=>by
 have hj:j < ps.length * 128:=by rw [<- kN ps hw]; exact (ze5.1 hv).1
 have hi:j / 128 < ps.length:=by omega
 have e:j = j / 128 * 128 + j % 128:=by omega
 have h1:=VB (f:=ze) (c:=128) (l:=ps) (fun p hp=>by rw [zS]; exact hw p hp) (ze7 hi) (Nat.mod_lt j (by decide:0 < 128));rw [<- e,hv] at h1;have h2:=(h (j / 128) _ (ze7 hi)).2 (j % 128) v h1.symm;rw [<- e] at h2;exact h2
theorem wN.of_range {w:World} {b:Nat} {ps:List Pg} (hw:Whole ps) (h:w.rangeAt b 0 (ps.flatMap ze)):wN w b ps:=fun i p hp=>by
 have hl:p.length = 128:=hw p (List.mem_of_getElem? hp);refine ⟨hl,fun j v hv=>?_⟩;have hj:j < 128:=by have:=(ze5.1 hv).1; rw [zS] at this; omega
 have h1:=VB (f:=ze) (c:=128) (l:=ps) (fun p hp=>by rw [zS]; exact hw p hp) hp hj;have h2:=h (i * 128 + j) v (h1.trans hv);rw [zfa] at h2;exact h2
theorem zbZ (ps:List Pg):∀ v ∈ ps.flatMap ze,v.oneCell' = true:=fun v hv=>by
 obtain ⟨p,_,h⟩:=List.mem_flatMap.1 hv;exact qJ p v h
theorem Yr {P:Program} {w:World} {ops:Array Oper} {rest:List Oper} {o:Oper} {a:Act} {Q:Exit -> Act -> World -> Prop} (hgd:o.guard = none) (d s:Operand) (dT sT:TypeId)
  (ho:o.op = .call { callee:=.builtin .copy,args:=#[d,s],argTypes:=#[dT,sT] }) (elem:TypeId) (hu:P.underlying dT = some (.slice elem)) (hsz:(P.info? elem).map (·.size) = some 128)
  (F S n:Nat) (fs ss:List Pg) (hf:fs.length = n) (hs:ss.length = n) (wf:Whole fs) (ws:Whole ss) (hF:wN w F fs) (hS:wN w S ss) (hz:∀ j,w.frozen? ⟨F,j,none⟩ = false)
  (hd:a.eval d = .slice (some ⟨F,0,none⟩) n n) (hx:a.eval s = .slice (some ⟨S,0,none⟩) n n)
  (h:∀ w2,Hid (w2 = w.setCells F 0 (ss.flatMap ze)) -> wpList P ops Q rest (a.put o.dst (goInt n)) w2):wpList P ops Q (o :: rest) a w:=by
 refine wpList_plain hgd fun K hK=>?_
 have hl:(ss.flatMap ze).length = n * 128:=by rw [kN ss ws,hs]
 have hrun:=WJ (P:=P) w dT sT o.type elem 128 F 0 n n ⟨S,0,none⟩ n n (ss.flatMap ze) hu hsz (by rw [hl,show Nat.min n n = n from Nat.min_self n])
  (fun j v hv=>by rw [Addr.add_mid,zfa]; exact hS.cells ws j v hv)
  (fun j hj=>by
   rw [zfa];have hj':j < (fs.flatMap ze).length:=by rw [kN fs wf,hf]; omega
   rw [hF.cells wf j _ (ze7 hj')];rfl)
  (fun j _=>hz _) (zbZ ss)
 rw [show Nat.min n n = n from Nat.min_self n] at hrun;unfold Oper.wp;simp [execOp,ho,resolve,invoke,builtin,hd,hx,hrun,Result.andThen];exact hK _ _ (h _ rfl)
theorem yU.firmed {K:Nat -> Prop} {w w2:World} {D F S:Nat} {v:Value} {n:Nat} {d:Dk} (h:yU K w D F S v n d) (hw:w2 = w.setCells F 0 (d.seen.flatMap ze)):yU K w2 D F S v n ⟨d.seen,d.seen,d.soft,d.down⟩:=by
 subst hw;have hb:∀ k,k ≠ F -> (w.setCells F 0 (d.seen.flatMap ze)).1[k]? = w.1[k]?:=fun k hk=>wC F hk _ _ _
 have hl:(d.seen.flatMap ze).length = n * 128:=by rw [kN _ h.ok.ws,h.ok.seen]
 refine ⟨⟨h.ok.seen,h.ok.seen,h.ok.ws,h.ok.ws,h.ok.fits⟩,h.pos,by rw [yT h.df]; exact h.c0,by rw [yT h.df]; exact h.c1,by rw [yT h.df]; exact h.c2,by rw [yT h.df]; exact h.c3,
  yO h.fz _ _ _,yO h.ff _ _ _,yO h.fs _ _ _,wN.of_range h.ok.ws (World.rangeAt_setCells_same w F 0 _ ?_),h.seen.carry (hb S (Ne.symm h.fsn)),?_,h.kd,h.kf,h.ks,h.kv,h.df,h.ds,h.fsn⟩
 ·intro j hj;rw [zfa];refine ⟨?_,h.ff j⟩;have hj':j < (d.firm.flatMap ze).length:=by rw [kN _ h.ok.wf,h.ok.firm]; omega
  rw [h.firm.cells h.ok.wf j _ (ze7 hj')];rfl
 ·obtain ⟨h1,h2⟩:=h.soft;refine ⟨h1,?_⟩;rcases h2 with h2 | ⟨g,cap,cur,e1,e2,e3,e4⟩
  ·exact .inl h2
  ·exact .inr ⟨g,cap,cur,e1,e2,by rw [hb g (h.kv g (by rw [e1]; rfl)).2.2.1]; exact e3,e4⟩
theorem yU.emptied {K:Nat -> Prop} {w:World} {D F S:Nat} {v:Value} {n:Nat} {d:Dk} (h:yU K w D F S v n d):yU K (w.setCell ⟨D,2,none⟩ (.slice none 0 0)) D F S (.slice none 0 0) n ⟨d.firm,d.seen,[],d.down⟩:=by
 refine h.stays (xN w D 2 _) _ _ rfl rfl (.inr ⟨rfl,rfl⟩) ?_ ?_ ?_ ?_ ?_
 ·rw [World.cell?_setCell_other _ _ _ _ (by simp)]; exact h.c0
 ·rw [World.cell?_setCell_other _ _ _ _ (by simp)]; exact h.c1
 ·exact World.cell?_setCell_same _ _ _ h.c2
 ·rw [World.cell?_setCell_other _ _ _ _ (by simp)]; exact h.c3
 ·intro j; rw [World.frozen?_setCell]; exact h.fz j
theorem WP {K:Nat -> Prop} {D n:Nat} {d:Dk} {w:World} (h:zE K w D n d) (hd:d.down = false) :
  Calls Tryz.prog 132 #[.pointer (some ⟨D,0,none⟩)] w fun e w'=>e = .returned .nilIface /\ zE K w' D n d.flush /\ zh K w w':=by
 obtain ⟨F,S,v,h⟩:=h;have h3:=h.c3;rw [hd] at h3;have HD:=Hi h;clear h hd
 go_enter Tryz.func132,Tryz.ntmps132
 go_wp2_with fail;refine (vu D _ h3).mono ?_;rintro e w' ⟨rfl,rfl⟩;go_wp2_with fail;refine qT 8 (by kernel_rfl) (by kernel_rfl) (fun w1 HW1=>?_);simp only [zff,zfc,zfb,List.drop_zero];have HD1:=hI (yU K w1 D F S v n d) (by rw [HW1.o]; exact HD.o.carry (Below.refl _ _).drew);have h0':=HD1.o.c0;have h1':=HD1.o.c1
 iterate 8 still_step
 refine wpStill_nil ?_;refine Yr rfl _ _ _ _ rfl _ Tryz.underlying110 Tryz.pageSize F S n d.firm d.seen HD1.o.ok.firm HD1.o.ok.seen HD1.o.ok.wf HD1.o.ok.ws HD1.o.firm HD1.o.seen HD1.o.ff rfl rfl (fun w2 HW2=>?_);have HD2:=hI (yU K w2 D F S v n ⟨d.seen,d.seen,d.soft,d.down⟩) (HD1.o.firmed HW2.o);have h2':=HD2.o.c2;have hf':=HD2.o.fz 2;have HK:=hI (zh K w (w2.setCell ⟨D,2,none⟩ (.slice none 0 0))) (by
  rw [HW2.o,HW1.o];exact (((zh.refl K w).drew.setCells HD.o.kf _ _)).setCell HD.o.kd _)
 clear h0' h1' h3;go_wp2_with fail
 go_ret
 exact ⟨rfl,⟨F,S,_,HD2.o.emptied⟩,HK.o⟩
end
section
end
section
def zdh (n:Nat) (w:World) (e:Ending) (w':World):Prop:=∃ D,e = .returned (.tuple #[.pointer (some ⟨D,0,none⟩),.nilIface]) /\ zE (· < w.1.size) w' D n (Dk.new n) /\ Below w.1.size w w'
theorem Tryz.infoPage3:(Tryz.prog.info? 87).map (fun i=>(i.zero,i.size,i.bytes)) = some (some (pgV zy),128,128):=by kernel_rfl
theorem X5 (n:Nat) {M:Array Value} (hM:M = madeCells (zD zy) (n * 128)) (w:World) (b:Nat) (fr:Nat × Nat) (hb:w.1[b]? = some (.cells M 87 fr)):wN w b (List.replicate n zy):=fun i p hp=>by
 have hi:i < n:=by have:=(ze5.1 hp).1; simpa using this
 obtain rfl:zy = p:=by simpa [hi] using hp
 refine ⟨zL,fun j v hv=>?_⟩;have hj:j < 128:=by have:=(ze5.1 hv).1; rw [zS,zL] at this; exact this
 have hs:(zD zy).size = 128:=by rw [zv,zL]
 rw [cell_of_row w b (i * 128 + j) M _ fr hb,hM];have hlt:i * 128 + j < n * 128:=by omega
 have e:(madeCells (zD zy) (n * 128))[i * 128 + j]? = some ((zD zy)[(i * 128 + j) % (zD zy).size]!):=by simp [madeCells,hlt]
 rw [e,hs,show (i * 128 + j) % 128 = j by omega,<- hv];rw [getElem!_pos (zD zy) j (by rw [hs]; exact hj)];rw [show (ze zy)[j]? = (zD zy)[j]? by simp [zD]];exact (ze9 _).symm
theorem KH (n:Nat) (h1:1 <= n) {M:Array Value} (hM:M = madeCells (zD zy) (n * 128)) (w:World) (F S:Nat) (h:(F = w.1.size /\ S = w.1.size + 1) \/ (F = w.1.size + 1 /\ S = w.1.size)) :
  zE (· < w.1.size) (((w.alloc (.cells M 87)).alloc (.cells M 87)).alloc (.cells #[.slice (some ⟨F,0,none⟩) n n,.slice (some ⟨S,0,none⟩) n n,.slice none 0 0,.bool false] 113)).drew (w.1.size + 2) n (Dk.new n):=by
 generalize hW:(((w.alloc (.cells M 87)).alloc (.cells M 87)).alloc (.cells #[.slice (some ⟨F,0,none⟩) n n,.slice (some ⟨S,0,none⟩) n n,.slice none 0 0,.bool false] 113)).drew = W;have b0:W.1[w.1.size]? = some (.cells M 87 (0,0)):=by
  rw [<- hW];show (((w.alloc _).alloc _).alloc _).heap[_]? = _;rw [Below.heap_alloc _ _ _ (by simp; omega),Below.heap_alloc _ _ _ (by simp)];exact heap_alloc_last w _
 have b1:W.1[w.1.size + 1]? = some (.cells M 87 (0,0)):=by
  rw [<- hW];show (((w.alloc _).alloc _).alloc _).heap[_]? = _;rw [Below.heap_alloc _ _ _ (by simp)];have:=heap_alloc_last (w.alloc (.cells M 87)) (.cells M 87);simpa using this
 have b2:W.1[w.1.size + 2]? = some (.cells #[.slice (some ⟨F,0,none⟩) n n,.slice (some ⟨S,0,none⟩) n n,.slice none 0 0,.bool false] 113 (0,0)):=by
  rw [<- hW];have:=heap_alloc_last ((w.alloc (.cells M 87)).alloc (.cells M 87)) (.cells #[.slice (some ⟨F,0,none⟩) n n,.slice (some ⟨S,0,none⟩) n n,.slice none 0 0,.bool false] 113);rw [show ((w.alloc (.cells M 87)).alloc (.cells M 87)).1.size = w.1.size + 2 by simp] at this;exact this
 have bF:W.1[F]? = some (.cells M 87 (0,0)):=by rcases h with ⟨rfl,_⟩ | ⟨rfl,_⟩ <;> assumption
 have bS:W.1[S]? = some (.cells M 87 (0,0)):=by rcases h with ⟨_,rfl⟩ | ⟨_,rfl⟩ <;> assumption
 refine ⟨F,S,.slice none 0 0,Dk.Ok.new n,h1,?_,?_,?_,?_,fun j=>frozen_of_row W _ j _ _ b2,fun j=>frozen_of_row W _ j _ _ bF,fun j=>frozen_of_row W _ j _ _ bS,X5 n hM W F _ bF,X5 n hM W S _ bS,World.ownsRow_nil W _ _ _,by simp,?_,?_,(fun g hg=>by cases hg),?_,?_,?_⟩
 ·rw [cell_of_row W _ 0 _ _ _ b2]; rfl
 ·rw [cell_of_row W _ 1 _ _ _ b2]; rfl
 ·rw [cell_of_row W _ 2 _ _ _ b2]; rfl
 ·rw [cell_of_row W _ 3 _ _ _ b2]; rfl
 all_goals omega
theorem QF (n:Nat) (h1:1 <= n) (h2:n <= 240) (w:World):Calls Tryz.prog 15 #[.int .i64 n] w (zdh n w):=by
 have hd:decide ((n:Int) < 1) = false:=by simp; omega
 have hd2:decide ((240:Int) < (n:Int)) = false:=by simp; omega
 go_enter Tryz.func15,Tryz.ntmps15
 go_wp2_with fail;obtain ⟨M,HM⟩:=hY (madeCells (zD zy) (n * 128));obtain ⟨i0,hi0,hz0,hz1,hz2⟩:=info_parts Tryz.infoPage3;have hmk:∀ w',(Instr.makeSlice 110 (.int .i64 (n:Int)) (.int .i64 (n:Int))).run Tryz.prog w' = .ok (.slice (some ⟨w'.1.size,0,none⟩) n n) (w'.alloc (.cells M 87)):=fun w'=>by
  have:=run_make (P:=Tryz.prog) w' 110 87 i0 _ Tryz.underlying110 hi0 hz0 .i64 .i64 n n (Int.natCast_nonneg n) (Int.le_refl _) (by rw [hz2]; omega) (by omega);rw [this,HM.o,hz1];rfl
 clear hi0 hz0 hz1 hz2;have H1:=Hi (KH n h1 HM.o w w.1.size (w.1.size + 1) (.inl ⟨rfl,rfl⟩));have H2:=Hi (KH n h1 HM.o w (w.1.size + 1) w.1.size (.inr ⟨rfl,rfl⟩))
 go_region
 ·go_wp2_with fail
  go_ret2
  exact ⟨w.1.size + 2,rfl,H1.o,((((Below.refl _ _).alloc (ze3 _) _).alloc (by simp) _).alloc (by simp; omega) _).drew⟩
 ·go_wp2_with fail
  go_ret2
  exact ⟨w.1.size + 2,rfl,H2.o,((((Below.refl _ _).alloc (ze3 _) _).alloc (by simp) _).alloc (by simp; omega) _).drew⟩
end
section
end
