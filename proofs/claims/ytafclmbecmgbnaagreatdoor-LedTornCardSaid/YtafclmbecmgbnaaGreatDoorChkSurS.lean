/-
 ChkSurS. Conditions: as each theorem says.
-/
import Derived.Test.YtafclmbecmgbnaaGreatDoorChkModel
import Derived.Test.YtafclmbecmgbnaaGreatDoorOwnAt
import Derived.Lib.SlKeysI
open Nat renaming lt_of_lt_of_le -> zfG,le_trans -> zfH
namespace Go.Proofs.YtafclmbecmgbnaaGreatDoor
open Go.RowKit Go.Maps
def Yd (w:World) (lo hi:Nat) (c:Int) (v:Value):Prop:=hi <= w.1.size /\ ∀ w',hi <= w'.1.size -> (∀ k,lo <= k -> k < hi -> w'.1[k]? = w.1[k]?) -> zi w' lo c v
theorem Yd.of {w:World} {lo:Nat} {c:Int} {v:Value} (h:zi w lo c v):Yd w lo w.1.size c v:=⟨Nat.le_refl _,fun _ hs hb=>h.carry hs hb⟩
theorem Yd.keep {w w':World} {lo hi:Nat} {c:Int} {v:Value} (h:Yd w lo hi c v) (hs:w.1.size <= w'.1.size) (hb:∀ k,lo <= k -> k < hi -> w'.1[k]? = w.1[k]?):Yd w' lo hi c v :=
 ⟨zfH h.1 hs,fun w2 h2 hb2=>h.2 w2 h2 fun k h3 h4=>(hb2 k h3 h4).trans (hb k h3 h4)⟩
theorem Yd.err {w:World} {lo hi:Nat} {c:Int} {v:Value} (h:Yd w lo hi c v):zi w lo c v:=h.2 w h.1 fun _ _ _=>rfl
structure XJ (w:World) (b:Nat) (l:List Int):Prop where
 own:∃ (k:Nat) (D:DataW Unit),k <= l.length /\ w.ownsMap Tryz.prog 3 (plainElem Tryz.prog 3) b k D /\ IsMap D /\ (∀ z,Maps.has D (.int .i64 z) = decide (z ∈ l)) /\ ∀ z,D.atKey (.int .i64 z) (.lit (.int .i64 0)) = .lit (.int .i64 (l.count z:Int))
theorem WD {w w':World} {k:TypeId} {R:Value -> Option (DataW Unit × List MemPlace)} {b n:Nat} {D:DataW Unit} (h:w.ownsMap Tryz.prog k R b n D) (hb:w'.1[b]? = w.1[b]?):w'.ownsMap Tryz.prog k R b n D:=by
 obtain ⟨es,clock,h1,h2⟩:=h;exact ⟨es,clock,hb.trans h1,h2⟩
theorem XJ.block {w w':World} {b:Nat} {l:List Int} (h:XJ w b l) (hb:w'.1[b]? = w.1[b]?):XJ w' b l:=by
 obtain ⟨k,D,h1,h2,h3,h4,h5⟩:=h.own;exact ⟨k,D,h1,WD h2 hb,h3,h4,h5⟩
theorem XJ.new (w:World):XJ (w.alloc (.map #[] 0)) w.1.size []:=⟨0,_,Nat.le_refl _,World.ownsMap_made _ _ _ _,isMap_empty,fun _=>rfl,fun _=>rfl⟩
def zfo (w:World) (M b:Nat) (vw:Value) (flt:List Int) (v:Value):Prop :=
 (flt = [] /\ v = .slice none 0 0) \/ ∃ c u g cap lo hi,flt = [c] /\ v = .slice (some ⟨g,0,none⟩) 1 cap /\ w.cell? ⟨g,0,none⟩ = some u /\ Yd w lo hi c u /\ M <= lo /\ b < lo /\ b < g /\ g < w.1.size /\ ∀ k,vw.ownBlock = some k -> k ≠ g /\ ¬ (lo <= k /\ k < hi)
structure SvS (M p b:Nat) (w w1:World) (st:List Nat) (s:Sv) (vw vf:Value) (wr:World):Prop where
 below:Below w.1.size w wr
 box:wr.1[p]? = w1.1[p]?
 size:w1.1.size <= wr.1.size
 wait:xd wr w1.1.size 176 4 vw s.wait.length (vT s.wait)
 met:XJ wr b s.met
 flt:zfo wr M b vw s.flt vf
theorem SvS.carry {M p b:Nat} {w w1 wr w':World} {st:List Nat} {s:Sv} {vw vf:Value} (h:SvS M p b w w1 st s vw vf wr) (hp:p < w1.1.size) (hb:b < w1.1.size) (h':Below wr.1.size wr w'):SvS M p b w w1 st s vw vf w':=by
 refine ⟨h.below.trans (h'.mono h.below.size),(h'.block p (zfG hp h.size)).trans h.box,zfH h.size h'.size,h.wait.block fun g hg=>h'.block g (h.wait.lt g hg).2,h.met.block (h'.block b (zfG hb h.size)),?_⟩;rcases h.flt with h1 | ⟨c,u,g,cap,lo,hi,h1,h2,h3,h4,h5,h6,h7,h8,h9⟩
 ·exact .inl h1
 ·exact .inr ⟨c,u,g,cap,lo,hi,h1,h2,(h'.cell (p:=⟨g,0,none⟩) h8).trans h3,h4.keep h'.size fun k _ hk=>h'.block k (zfG hk h4.1),h5,h6,h7,zfG h8 h'.size,h9⟩
theorem XJ.push {w2:World} {b k:Nat} {l:List Int} {D:DataW Unit} {z:Int} (hk:k <= l.length) (hm:IsMap D) (hh:∀ z,Maps.has D (.int .i64 z) = decide (z ∈ l)) (ha:∀ z,D.atKey (.int .i64 z) (.lit (.int .i64 0)) = .lit (.int .i64 (l.count z:Int)))
  (hown:w2.ownsMap Tryz.prog 3 (plainElem Tryz.prog 3) b (k + 1) (D.put (.int .i64 z) (.lit (.int .i64 ((l.count z:Int) + 1))))):XJ w2 b (l ++ [z]):=by
 refine ⟨k + 1,_,by simp; omega,hown,hm.put _ _,fun y=>?_,fun y=>?_⟩
 ·by_cases hy:y = z
  ·subst hy;rw [has_put_same (k:=.int .i64 y) hm trivial];simp
  ·rw [has_put_other (by simpa using hy),hh y];simp [hy]
 ·by_cases hy:y = z
  ·subst hy;rw [atKey_put_same (k:=.int .i64 y) hm trivial];simp
  ·rw [atKey_put_other (by simpa using hy),ha y];rw [List.count_append,show [z].count y = 0 from List.count_eq_zero.2 (by simpa using hy),Nat.add_zero]
theorem SvS.name {M p b:Nat} {w w1 wr w2:World} {st:List Nat} {s:Sv} {vw vf:Value} {met:List Int} (h:SvS M p b w w1 st s vw vf wr) (hb0:w.1.size <= b) (hpb:p < b) (hb:b < w1.1.size) (hg:wr.grownBy w2 (some b)) (hm:XJ w2 b met) :
  SvS M p b w w1 st ⟨s.wait,met,s.dep,s.flt⟩ vw vf w2:=by
 have hs:=h.size;refine ⟨h.below.grown hg h.below.size (fun g hg=>by cases hg; exact hb0),(hg.block p (by omega) (by simp; omega)).trans h.box,zfH h.size hg.size,h.wait.block fun g hg2=>?_,hm,?_⟩
 ·have:=h.wait.lt g hg2;exact hg.block g this.2 (by simp; omega)
 ·rcases h.flt with h1 | ⟨c,u,g,cap,lo,hi,h1,h2,h3,h4,h5,h6,h7,h8,h9⟩
  ·exact .inl h1
  ·refine .inr ⟨c,u,g,cap,lo,hi,h1,h2,(World.cell?_of_block (w:=wr) (a:=⟨g,0,none⟩) (hg.block g h8 (by simp; omega))).trans h3,h4.keep hg.size fun k hk1 hk2=>?_,h5,h6,h7,zfG h8 hg.size,h9⟩;have:=h4.1;exact hg.block k (by omega) (by simp; omega)
theorem Tryz.infoErr:(Tryz.prog.info? 27).map (fun i=>(i.zero,i.size,i.bytes)) = some (some .nilIface,1,16):=by kernel_rfl
theorem SvS.fault {M p b:Nat} {w w1 w2 w3 w4:World} {st:List Nat} {s:Sv} {vw vf v v':Value} {c:Int} (h:SvS M p b w w1 st s vw vf w2) (hM:M = w.1.size) (hp:p < w1.1.size) (hb:b < w1.1.size) (hf:s.flt = []) (h23:Below w2.1.size w2 w3) (he:zi w3 w2.1.size c v)
  (h34:Below w3.1.size w3 w4) (hr:w4.ownsRow w3.1.size 27 1 v' 1 [v]):SvS M p b w w1 st ⟨s.wait,s.met,s.dep,s.flt ++ [c]⟩ vw v' w4:=by
 have h2:=(h.carry hp hb h23).carry hp hb h34;have hs:=h.size;have hs2:=h23.size;have hs3:=h34.size;have hbs:=h.below.size;refine ⟨h2.below,h2.box,h2.size,h2.wait,h2.met,.inr ?_⟩;rcases hr.2 with ⟨_,h5⟩ | ⟨g,cap,cur,h5,h6,h7,h8,h9,h10,h11⟩
 ·cases h5
 ·have hg:g < w4.1.size:=(Array.getElem?_eq_some_iff.1 h7).1;refine ⟨c,v,g,cap,w2.1.size,w3.1.size,by rw [hf]; rfl,h5,hr.cells (by rw [h5]; rfl) 0 v rfl,(Yd.of he).keep h34.size fun k _ hk=>h34.block k hk,by omega,by omega,by omega,hg,fun k hk=>?_⟩;have:=(h.wait.lt k hk).2;exact ⟨by omega,by omega⟩
theorem Wu {S:TS} {root c:Int} {k N:Nat} {s:Sv} (hs:s = xj S k (yl root)) (hk:k < N) (hst:(yO S s).flt = s.flt ++ [c]) (h1:(xj S N (yl root)).flt.length <= 1):s.flt = []:=by
 have h2:=zbP S (N - (k + 1)) (xj S (k + 1) (yl root));rw [<- VP,show k + 1 + (N - (k + 1)) = N by omega,qB,<- hs,hst] at h2;have h3:=h2.length_le;rw [List.length_append,List.length_singleton] at h3;exact List.length_eq_zero_iff.1 (by omega)
theorem Kh {w:World} {M b:Nat} {vw v:Value} {flt:List Int} (h:zfo w M b vw flt v) (hf:flt = []):v = .slice none 0 0:=by
 rcases h with ⟨_,h⟩ | ⟨c,_,_,_,_,_,h,_⟩
 ·exact h
 ·rw [hf] at h; cases h
theorem SvS.next {M p b:Nat} {w w1 wr:World} {st:List Nat} {s:Sv} {vf:Value} {t:Sp} {rest:List Sp} {g off cap n:Nat} {A:Addr} (h:SvS M p b w w1 st s (.slice (some ⟨g,off,none⟩) n cap) vf wr) (hw:s.wait = t :: rest) (hn:n = rest.length + 1) (hA:A = (if cap = 1 then ⟨g,off,none⟩ else ⟨g,off + 4,none⟩)) :
  SvS M p b w w1 st ⟨rest,s.met,s.dep,s.flt⟩ (.slice (some A) rest.length (cap - 1)) vf wr:=by
 have hb:A.block = g:=by rw [hA]; split <;> rfl
 have ho:=h.wait;rw [hw] at ho;have ho2:xd wr w1.1.size 176 4 (.slice (some ⟨g,off,none⟩) n cap) (rest.length + 1) (vT (t :: rest)):=ho;refine ⟨h.below,h.box,h.size,ho2.tail (by rw [hn]) hA,h.met,?_⟩;rcases h.flt with h1 | ⟨c,u,g',cap',lo,hi,h1,h2,h3,h4,h5,h6,h7,h8,h9⟩
 ·exact .inl h1
 ·refine .inr ⟨c,u,g',cap',lo,hi,h1,h2,h3,h4,h5,h6,h7,h8,fun k hk=>h9 k ?_⟩;simp only [Value.ownBlock,Option.some.injEq] at hk ⊢;omega
theorem XQ {P:Program} {ops:Array Oper} {rest:List Oper} {o:Oper} {a:Act} {w:World} {Q:Exit -> Act -> World -> Prop} (hg:o.guard = none) (t e:TypeId) (k n:Nat) (parts:Array (Nat × Operand)) (ho:o.op = .buildSlice t n parts) (rows:List (List Value))
  (hu:P.underlying t = some (.slice e)) (hi:(P.info? e).map (·.size) = some k) (hz:((P.info? e).bind (·.zero)).isSome = true) (hn:rows.length = n) (h0:0 < n * k) (h24:n * k <= 2 ^ 24) (hk:∀ r ∈ rows,r.length = k)
  (hp:(parts.toList.map fun x=>(x.1,a.eval x.2)) = (rows.zipIdx 0).map fun x=>(x.2,Value.agg x.1.toArray))
  (h:∀ w2,Hid (w2 = w.alloc (.cells rows.flatten.toArray e)) -> wpList P ops Q rest (a.put o.dst (.slice (some ⟨w.1.size,0,none⟩) n n)) w2):wpList P ops Q (o :: rest) a w:=by
 cases hie:P.info? e with
 | none=>simp [hie] at hi
 | some ie =>
  simp only [hie,Option.map_some,Option.some.injEq,Option.bind_some] at hi hz;obtain ⟨z,hzz⟩:=Option.isSome_iff_exists.1 hz;refine wpList_buildSlice hg t e n parts ho rows.flatten.toArray ie z hu hie hzz (by rw [hi]; omega) (by rw [hi]; omega) ?_ ?_
  ·rw [Array.toList_map];rw [show (parts.toList.map fun (i,x)=>(i,a.eval x)) = parts.toList.map fun x=>(x.1,a.eval x.2) from rfl,hp,hi,ZY k rows 0 _ hk (by simp [hn])];congr 2;rw [Nat.zero_mul,List.take_zero,List.nil_append,Nat.zero_add,List.drop_of_length_le (by simp [hn]),List.append_nil]
  ·exact h _ (Hi rfl)
noncomputable def grt (p:Nat -> Prop):Nat -> Nat
 | 0=>0
 | n + 1=>@ite _ (p (n + 1)) (Classical.propDecidable _) (n + 1) (grt p n)
theorem zcL (p:Nat -> Prop):∀ n,grt p n <= n
 | 0=>Nat.le_refl _
 | n + 1=>by
  unfold grt;split
  ·exact Nat.le_refl _
  ·exact Nat.le_succ_of_le (zcL p n)
theorem zc1 {p:Nat -> Prop} {k:Nat} (hk:p k):∀ {n:Nat},k <= n -> k <= grt p n
 | 0,h=>by omega
 | n + 1,h=>by
  unfold grt;split
  ·exact h
  ·rename_i hn
   rcases Nat.lt_or_ge n k with h2 | h2
   ·obtain rfl:k = n + 1:=by omega
    exact absurd hk hn
   ·exact zc1 hk h2
theorem VC {p:Nat -> Prop}:∀ {n:Nat},(∃ k,k <= n /\ p k) -> p (grt p n)
 | 0,⟨k,h1,h2⟩=>by
  obtain rfl:k = 0:=by omega
  exact h2
 | n + 1,⟨k,h1,h2⟩=>by
  unfold grt;split
  ·assumption
  ·rename_i hn
   refine VC ⟨k,?_,h2⟩;rcases Nat.lt_or_ge n k with h3 | h3
   ·obtain rfl:k = n + 1:=by omega
    exact absurd h2 hn
   ·exact h3
def SvR (S:TS) (root:Int) (M p b:Nat) (w w1:World) (st:List Nat) (k:Nat) (vd vf vw:Value) (wr:World):Prop :=
 vd = .int .i64 (xj S k (yl root)).dep /\ SvS M p b w w1 st (xj S k (yl root)) vw vf wr
theorem YN {S:TS} {root:Int} {M p b:Nat} {w w1 w4:World} {st:List Nat} {k N:Nat} {s s':Sv} {vf:Value} {t:Sp} {rest:List Sp} {g off cap n:Nat} (hs:s = xj S k (yl root)) (hk:k < N) (h:SvS M p b w w1 st s' (.slice (some ⟨g,off,none⟩) n cap) vf w4) (hw:s'.wait = t :: rest) (hn:n = rest.length + 1)
  (hst:yO S s = ⟨rest,s'.met,s'.dep,s'.flt⟩) :
  (∃ k,k <= N /\ SvR S root M p b w w1 st k (.int .i64 s'.dep) vf (.slice (if cap = 1 then some ⟨g,off,none⟩ else some ⟨g,off + 4,none⟩) (n - 1) (cap - 1)) w4) /\
  N - grt (fun k=>SvR S root M p b w w1 st k (.int .i64 s'.dep) vf (.slice (if cap = 1 then some ⟨g,off,none⟩ else some ⟨g,off + 4,none⟩) (n - 1) (cap - 1)) w4) N < N - k:=by
 have h1:SvR S root M p b w w1 st (k + 1) (.int .i64 s'.dep) vf (.slice (if cap = 1 then some ⟨g,off,none⟩ else some ⟨g,off + 4,none⟩) (n - 1) (cap - 1)) w4:=by
  unfold SvR;rw [qB,<- hs,hst];refine ⟨rfl,?_⟩;have h2:=h.next hw hn (A:=if cap = 1 then ⟨g,off,none⟩ else ⟨g,off + 4,none⟩) rfl;rw [show n - 1 = rest.length by omega,show (if cap = 1 then some (⟨g,off,none⟩:Addr) else some ⟨g,off + 4,none⟩) = some (if cap = 1 then ⟨g,off,none⟩ else ⟨g,off + 4,none⟩) by split <;> rfl];exact h2
 refine ⟨⟨k + 1,hk,h1⟩,?_⟩;have:=zc1 (p:=fun k=>SvR S root M p b w w1 st k (.int .i64 s'.dep) vf (.slice (if cap = 1 then some ⟨g,off,none⟩ else some ⟨g,off + 4,none⟩) (n - 1) (cap - 1)) w4) h1 (show k + 1 <= N from hk);omega
theorem SvS.more {M p b:Nat} {w w1 wr w2:World} {st:List Nat} {s:Sv} {vw vw' vf:Value} {more:List Sp} (h:SvS M p b w w1 st s vw vf wr) (hM:w.1.size <= w1.1.size) (hp:p < w1.1.size) (hb:b < w1.1.size) (hg:wr.grownBy w2 vw.ownBlock) (ho:xd w2 w1.1.size 176 4 vw' (s.wait.length + more.length) (vT s.wait ++ vT more))
  (hblk:∀ g,vw'.ownBlock = some g -> vw.ownBlock = some g \/ wr.1.size <= g) (dep:Int):SvS M p b w w1 st ⟨s.wait ++ more,s.met,dep,s.flt⟩ vw' vf w2:=by
 have hs:=h.size;have hlt:=h.wait.lt;refine ⟨h.below.grown hg h.below.size fun g hg2=>zfH hM (hlt g hg2).1,?_,zfH h.size hg.size,?_,h.met.block (hg.block b (by omega) fun e=>?_),?_⟩
 ·exact (hg.block p (by omega) fun e=>by have:=hlt p e.symm; omega).trans h.box
 ·have e:vT (s.wait ++ more) = vT s.wait ++ vT more:=by simp [vT]
  show xd w2 w1.1.size _ 4 vw' (s.wait ++ more).length (vT (s.wait ++ more));rw [e,List.length_append];exact ho
 ·have:=hlt b e.symm; omega
 ·rcases h.flt with h1 | ⟨c,u,g,cap,lo,hi,h1,h2,h3,h4,h5,h6,h7,h8,h9⟩
  ·exact .inl h1
  ·have hng:∀ k,k < wr.1.size -> (k = g \/ (lo <= k /\ k < hi)) -> some k ≠ vw.ownBlock:=fun k _ hk e=>by
    have:=h9 k e.symm;omega
   have hhi:=h4.1;refine .inr ⟨c,u,g,cap,lo,hi,h1,h2,(World.cell?_of_block (w:=wr) (a:=⟨g,0,none⟩) (hg.block g h8 (hng g h8 (.inl rfl)))).trans h3,h4.keep hg.size fun k hk1 hk2=>hg.block k (by omega) (hng k (by omega) (.inr ⟨hk1,hk2⟩)),h5,h6,h7,zfG h8 hg.size,fun k hk=>?_⟩;rcases hblk k hk with h10 | h10
   ·exact h9 k h10
   ·exact ⟨by omega,by omega⟩
theorem SvS.set {M p b:Nat} {w w1 wr:World} {st:List Nat} {s:Sv} {vw vf:Value} (h:SvS M p b w w1 st s vw vf wr) (ho:yE w1 p st):yE wr p st :=
 ⟨fun j v hj=>(World.cell?_of_block (w:=w1) (a:=⟨p,0 + j,none⟩) h.box).trans (ho.at_ j v hj),fun j=>(World.frozen?_of_block (w:=w1) (a:=⟨p,j,none⟩) h.box).trans (ho.free j)⟩
structure SvL (M p b:Nat) (w w1:World) (st:List Nat) (s:Sv) (vw vf:Value) (q r:Nat) (l:zd) (x:Nd) (t:Sp) (wr:World):Prop where
 s:SvS M p b w w1 st s vw vf wr
 c:wE wr q (xD t)
 b:zb wr r l x
 is:xF wr l x
theorem SvL.carry {M p b:Nat} {w w1 wr w':World} {st:List Nat} {s:Sv} {vw vf:Value} {q r:Nat} {l:zd} {x:Nd} {t:Sp} (h:SvL M p b w w1 st s vw vf q r l x t wr) (hp:p < w1.1.size) (hb:b < w1.1.size) (h':Below wr.1.size wr w'):SvL M p b w w1 st s vw vf q r l x t w' :=
 ⟨h.s.carry hp hb h',h.c.carry h' (by simp [xD]),h.b.carry h' h.b.lt,h.is.carry h'⟩
theorem SvL.fault {M p b:Nat} {w w1 w2 w3 w4:World} {st:List Nat} {s:Sv} {vw vf v v':Value} {c:Int} {q r:Nat} {l:zd} {x:Nd} {t:Sp} (h:SvL M p b w w1 st s vw vf q r l x t w2) (hM:M = w.1.size) (hp:p < w1.1.size) (hb:b < w1.1.size) (hf:s.flt = []) (h23:Below w2.1.size w2 w3) (he:zi w3 w2.1.size c v)
  (h34:Below w3.1.size w3 w4) (hr:w4.ownsRow w3.1.size 27 1 v' 1 [v]):SvL M p b w w1 st ⟨s.wait,s.met,s.dep,s.flt ++ [c]⟩ vw v' q r l x t w4:=by
 have h2:=(h.carry hp hb h23).carry hp hb h34;exact ⟨h.s.fault hM hp hb hf h23 he h34 hr,h2.c,h2.b,h2.is⟩
theorem zc7 {w:World} {b k:Nat} {D:DataW Unit} {l:List Int} (hown:w.ownsMap Tryz.prog 3 (plainElem Tryz.prog 3) b k D) (hh:∀ z,Maps.has D (.int .i64 z) = decide (z ∈ l)) (hn:l.Nodup):l.Perm (intKeys D):=by
 obtain ⟨es,hD,hpw,_⟩:=hown.entries Tryz.keyInt;obtain ⟨es',hD',hko⟩:=hown.keysOf;obtain rfl:es = es':=by rw [hD] at hD'; simpa using hD'
 subst hD;exact perm_intKeys hpw (fun p hp=>by obtain ⟨v,hv⟩:=hko p hp; obtain ⟨x,_,hx,_⟩:=Maps.keyOf_i64 Tryz.underlying3 hv; exact ⟨x,hx⟩) hn (fun x=>by rw [hh x]; simp)
