/-
 OwnAt. Conditions: as each theorem says.
-/
import Derived.Test.YtafclmbecmgbnaaGreatDoorFillRows
import Derived.Laws.AppendOwn
open List renaming append_assoc -> zgh
namespace Go.Proofs.YtafclmbecmgbnaaGreatDoor
open Go.RowKit
def xd (w:World) (base:Nat) (e:TypeId) (size:Nat) (v:Value) (n:Nat) (xs:List Value):Prop :=
 xs.length = n * size /\
 ((v = .slice none 0 0 /\ n = 0) \/
  ∃ g off cap cur,v = .slice (some ⟨g,off,none⟩) n cap /\ base <= g /\ w.1[g]? = some (.cells cur e (0,0)) /\ n <= cap /\ cap <= maxLen /\ off + cap * size <= cur.size /\ (cur.toList.drop off).take (n * size) = xs)
section
variable {w w':World} {base:Nat} {e:TypeId} {size:Nat} {v:Value} {n:Nat} {xs:List Value}
theorem xd.of_row (h:w.ownsRow base e size v n xs):xd w base e size v n xs:=by
 obtain ⟨h1,h2⟩:=h;refine ⟨h1,?_⟩;rcases h2 with h2 | ⟨g,cap,cur,rfl,hb,hg,hn,hm,hs,ht⟩
 ·exact .inl h2
 ·exact .inr ⟨g,0,cap,cur,rfl,hb,hg,hn,hm,by omega,by simpa using ht⟩
theorem xd.lt (h:xd w base e size v n xs):∀ k,v.ownBlock = some k -> base <= k /\ k < w.1.size:=by
 intro k hk;rcases h.2 with ⟨rfl,_⟩ | ⟨g,off,cap,cur,rfl,hb,hg,_⟩
 ·simp [Value.ownBlock] at hk
 ·simp [Value.ownBlock] at hk;subst hk;exact ⟨hb,(Array.getElem?_eq_some_iff.1 hg).1⟩
theorem xd.block (h:xd w base e size v n xs) (hg:∀ g,v.ownBlock = some g -> w'.1[g]? = w.1[g]?):xd w' base e size v n xs:=by
 obtain ⟨h1,h2⟩:=h;refine ⟨h1,?_⟩;rcases h2 with h2 | ⟨g,off,cap,cur,rfl,hb,hgg,rest⟩
 ·exact .inl h2
 ·exact .inr ⟨g,off,cap,cur,rfl,hb,by rw [hg g rfl]; exact hgg,rest⟩
theorem xd.cells (h:xd w base e size v n xs) {A:Addr} {len cap:Nat} (hv:v = .slice (some A) len cap):∀ j u,xs[j]? = some u -> w.cell? (A.add j) = some u:=by
 intro j u hu;rcases h.2 with ⟨rfl,_⟩ | ⟨g,off,cap',cur,rfl,_,hgg,_,_,_,ht⟩
 ·cases hv
 ·simp only [Value.slice.injEq,Option.some.injEq] at hv;obtain ⟨rfl,_,_⟩:=hv;have hadd:(⟨g,off,none⟩:Addr).add j = ⟨g,off + j,none⟩:=by unfold Addr.add; split <;> simp_all
  rw [hadd,cell_of_row w g (off + j) cur e (0,0) hgg];rw [<- ht,List.getElem?_take] at hu;split at hu
  ·rw [List.getElem?_drop] at hu;simpa using hu
  ·cases hu
theorem xd.slice (h:xd w base e size v n xs) (h0:0 < n):∃ g off cap,v = .slice (some ⟨g,off,none⟩) n cap /\ n <= cap /\ cap <= maxLen:=by
 rcases h.2 with ⟨_,rfl⟩ | ⟨g,off,cap,cur,rfl,_,_,h1,h2,_⟩
 ·omega
 ·exact ⟨g,off,cap,rfl,h1,h2⟩
theorem xd.tail (h:xd w base e size v (n + 1) xs) {g off cap:Nat} (hv:v = .slice (some ⟨g,off,none⟩) (n + 1) cap) {A:Addr} (hA:A = (if cap = 1 then ⟨g,off,none⟩ else ⟨g,off + size,none⟩)) :
  xd w base e size (.slice (some A) n (cap - 1)) n (xs.drop size):=by
 obtain ⟨h1,h2⟩:=h;refine ⟨by rw [List.length_drop,h1,Nat.succ_mul]; omega,?_⟩;rcases h2 with ⟨rfl,h2⟩ | ⟨g',off',cap',cur,rfl,hb,hg,hn,hm,hs,ht⟩
 ·omega
 ·simp only [Value.slice.injEq,Option.some.injEq,Addr.mk.injEq,and_true,true_and] at hv;obtain ⟨⟨rfl,rfl⟩,rfl⟩:=hv;have hx:xs.drop size = ((cur.toList.drop (off' + size)).take (n * size)):=by
   rw [<- ht,List.drop_take,List.drop_drop];congr 1;rw [Nat.succ_mul]; omega
  by_cases hc:cap' = 1
  ·rw [if_pos hc] at hA;subst hA hc;obtain rfl:n = 0:=by omega
   refine .inr ⟨g',off',0,cur,rfl,hb,hg,Nat.le_refl _,Nat.zero_le _,by omega,?_⟩;rw [hx];simp
  ·rw [if_neg hc] at hA;subst hA;refine .inr ⟨g',off' + size,cap' - 1,cur,rfl,hb,hg,by omega,by omega,?_,hx.symm⟩;have:cap' * size = (cap' - 1) * size + size:=by rw [<- Nat.succ_mul]; congr 1; omega
   omega
end
section
variable {P:Program} (w:World)
theorem Z6 (t ty e:TypeId) (i:TypeInfo) (ht:P.underlying t = some (.slice e)) (hi:P.info? e = some i)
  (g off sLen sCap:Nat) (cur:Array Value) (hg:w.1[g]? = some (.cells cur e (0,0)))
  (a:Addr) (m c:Nat) (news:List Value) (hl:news.length = m * i.size) (hnews:∀ j u,news[j]? = some u -> w.cell? (a.add j) = some u) (h1:∀ u ∈ news,u.oneCell' = true)
  (hroom:sLen + m <= sCap) (hfit:off + sLen * i.size + news.length <= cur.size) :
  (Builtin.append_ #[t,t] ty #[.slice (some ⟨g,off,none⟩) sLen sCap,.slice (some a) m c]).run P w =
   .ok (.slice (some ⟨g,off,none⟩) (sLen + m) sCap) (w.setRow g (cur.toList.take (off + sLen * i.size) ++ news ++ cur.toList.drop (off + sLen * i.size + news.length)).toArray):=by
 have hf:=run_firstCells_some (P:=P) w i.size m a m c news hl hnews;have hst:=run_storeCells_at P g (off + sLen * i.size) e news 0 cur w hg (by simpa using hfit) h1;simp only [Nat.add_zero] at hst;simp [Builtin.append_,run_underlying ht,sizeOf,typeInfo,hi,Builtin.lenOf,hroom,hf,Addr.add_lit,hst]
theorem Vg (base:Nat) (t ty e:TypeId) (i:TypeInfo) (z:Value) (size bytes:Nat) (ht:P.underlying t = some (.slice e)) (hi:P.info? e = some i) (hz:i.zero = some z)
  (hsize:i.size = size) (hby:i.bytes = bytes) (hzs:z.cells.size = size) (_hsz:0 < size)
  (v:Value) (n:Nat) (xs:List Value) (hown:xd w base e size v n xs)
  (a:Addr) (m c:Nat) (news:List Value) (hl:news.length = m * size) (hnews:∀ j u,news[j]? = some u -> w.cell? (a.add j) = some u) (h1:∀ u ∈ news,u.oneCell' = true)
  (h63:n + m <= maxLen) (hbytes:(n + m) * bytes <= 140737488355328) (hbase:base <= w.1.size) :
  ∃ v' w',(Builtin.append_ #[t,t] ty #[v,.slice (some a) m c]).run P w = .ok v' w' /\ xd w' base e size v' (n + m) (xs ++ news) /\ w.grownBy w' v.ownBlock /\ ∀ g,v'.ownBlock = some g -> v.ownBlock = some g \/ w.1.size <= g:=by
 rcases hown.2 with ⟨rfl,rfl⟩ | ⟨g,off,cap,cur,rfl,hbg,hg,hnc,hcm,hcs,htake⟩
 ·have hx:xs = []:=List.eq_nil_of_length_eq_zero (by simpa using hown.1);subst hx;obtain ⟨v',w',r1,r2,r3,_⟩:=run_append_own (P:=P) w w.1.size t ty e i z size bytes ht hi hz hsize hby hzs _hsz _ 0 [] (World.ownsRow_nil w _ e size) a m c news hl hnews h1 h63 hbytes (Nat.le_refl _);refine ⟨v',w',r1,.of_row ?_,r3,fun g hg=>.inr (r2.lt g hg).1⟩;obtain ⟨q1,q2⟩:=r2;refine ⟨q1,?_⟩;rcases q2 with q2 | ⟨g,cap,cur,q2,q3,q4⟩
  ·exact .inl q2
  ·exact .inr ⟨g,cap,cur,q2,Nat.le_trans hbase q3,q4⟩
 ·subst hsize;subst hby;have hsmall:n + m <= 9223372036854775807:=by simp only [maxLen] at h63; omega
  have hlen:(xs ++ news).length = (n + m) * i.size:=by rw [List.length_append,hown.1,hl,Nat.add_mul]
  have hxl:xs.length = n * i.size:=hown.1;have hdl:n * i.size <= (cur.toList.drop off).length:=by rw [<- hxl,<- htake,List.length_take]; exact Nat.min_le_right _ _
  by_cases hroom:n + m <= cap
  ·have hmul:(n + m) * i.size <= cap * i.size:=Nat.mul_le_mul_right _ hroom;have hfit:off + n * i.size + news.length <= cur.size:=by rw [hl]; rw [Nat.add_mul] at hmul; omega
   have hr:=Z6 (P:=P) w t ty e i ht hi g off n cap cur hg a m c news hl hnews h1 hroom hfit;refine ⟨_,_,hr,⟨hlen,.inr ⟨g,off,cap,_,rfl,hbg,setRow_heap w g cur _ e _ hg,hroom,hcm,?_,?_⟩⟩,⟨rfl,rfl,rfl,by simp,fun k _ hk=>setRow_other w g k _ (fun e=>hk (by simp [Value.ownBlock,e]))⟩,fun g' hg'=>.inl hg'⟩
   ·simp only [List.size_toArray,List.length_append,List.length_take,List.length_drop,Array.length_toList];omega
   ·have hl1:(cur.toList.take (off + n * i.size)) = cur.toList.take off ++ xs:=by
     rw [<- htake,List.take_add]
    have hl2:(cur.toList.take off).length = off:=by rw [List.length_take,Array.length_toList]; omega
    show ((((cur.toList.take (off + n * i.size) ++ news ++ cur.toList.drop (off + n * i.size + news.length)).toArray).toList).drop off).take ((n + m) * i.size) = xs ++ news;rw [hl1,<- hlen];simp only [zgh];have e1:∀ (l r:List Value),l.length = off -> (l ++ r).drop off = r:=fun l r h=>by rw [<- h]; exact List.drop_left
    rw [e1 _ _ hl2,<- zgh];exact List.take_left
  ·have holds:∀ j u,xs[j]? = some u -> w.cell? ((⟨g,off,none⟩:Addr).add j) = some u:=hown.cells rfl;have hr:=run_append_grow (P:=P) w t ty e i z ht hi hz ⟨g,off,none⟩ n cap xs hown.1 holds a m c news hl hnews (by omega) (by omega) (growslice_fits (by omega) hbytes);have hge:=grownCap_ge w (n + m) cap e;have hcm:grownCap w (n + m) cap e <= maxLen:=grownCap_le_maxLen w (n + m) cap e h63;refine ⟨_,_,hr,⟨hlen,.inr ⟨w.1.size,0,_,_,rfl,hbase,heap_alloc_new w.drew _,hge,hcm,?_,?_⟩⟩,⟨rfl,rfl,rfl,by simp,fun k hk _=>heap_alloc_old w.drew _ hk⟩,fun g' hg'=>.inr (by simp only [Value.ownBlock,Option.some.injEq] at hg'; omega)⟩
   ·simp only [Array.size_append,List.size_toArray,size_zeroCells,hzs,hown.1,hl,<- Nat.add_mul,Nat.zero_add];apply Nat.mul_le_mul_right;omega
   ·simp only [Array.toList_append,zgh,List.drop_zero];rw [<- zgh,<- hlen];exact List.take_left
theorem Xe {ops:Array Oper} {rest:List Oper} {o:Oper} {a:Act} {Q:Exit -> Act -> World -> Prop} (hgd:o.guard = none) (s x:Operand) (t:TypeId)
  (ho:o.op = .call { callee:=.builtin .append,args:=#[s,x],argTypes:=#[t,t] })
  (base:Nat) (e:TypeId) (i:TypeInfo) (z:Value) (size bytes:Nat) (ht:P.underlying t = some (.slice e)) (hi:P.info? e = some i) (hz:i.zero = some z)
  (hsize:i.size = size) (hby:i.bytes = bytes) (hzs:z.cells.size = size) (hsz:0 < size)
  (v:Value) (n:Nat) (xs:List Value) (hs:a.eval s = v) (hown:xd w base e size v n xs)
  (ad:Addr) (m c:Nat) (news:List Value) (hx:a.eval x = .slice (some ad) m c) (hl:news.length = m * size) (hnews:∀ j u,news[j]? = some u -> w.cell? (ad.add j) = some u) (h1:∀ u ∈ news,u.oneCell' = true)
  (h63:n + m <= maxLen) (hbytes:(n + m) * bytes <= 140737488355328) (hbase:base <= w.1.size)
  (h:∀ v' w',xd w' base e size v' (n + m) (xs ++ news) -> w.grownBy w' v.ownBlock -> (∀ g,v'.ownBlock = some g -> v.ownBlock = some g \/ w.1.size <= g) -> wpList P ops Q rest (a.put o.dst v') w'):wpList P ops Q (o :: rest) a w:=by
 refine wpList_plain hgd fun K hK=>?_
 obtain ⟨v',w',hr,h2,h3,h4⟩:=Vg (P:=P) w base t o.type e i z size bytes ht hi hz hsize hby hzs hsz v n xs hown ad m c news hl hnews h1 h63 hbytes hbase;unfold Oper.wp execOp;simp only [ho,resolve,invoke,builtin,Sem.run_bind,Sem.run_pure,Result.andThen_ok,List.map_toArray,List.map_cons,List.map_nil,hs,hx,hr];exact hK _ _ (h v' w' h2 h3 h4)
theorem Z5 (base:Nat) (t ty e:TypeId) (i:TypeInfo) (size:Nat) (ht:P.underlying t = some (.slice e)) (hi:P.info? e = some i)
  (v:Value) (n:Nat) (xs:List Value) (hown:xd w base e size v n xs):(Builtin.append_ #[t,t] ty #[v,.slice none 0 0]).run P w = .ok v w:=by
 rcases hown.2 with ⟨rfl,rfl⟩ | ⟨g,off,cap,cur,rfl,hbg,hg,hnc,hcm,hcs,htake⟩
 ·simp [Builtin.append_,run_underlying ht,sizeOf,typeInfo,hi,Builtin.lenOf,Builtin.firstCells]
 ·simp [Builtin.append_,run_underlying ht,sizeOf,typeInfo,hi,Builtin.lenOf,Builtin.firstCells,hnc,storeCells]
theorem qQ {ops:Array Oper} {rest:List Oper} {o:Oper} {a:Act} {Q:Exit -> Act -> World -> Prop} (hgd:o.guard = none) (s x:Operand) (t:TypeId)
  (ho:o.op = .call { callee:=.builtin .append,args:=#[s,x],argTypes:=#[t,t] })
  (base:Nat) (e:TypeId) (i:TypeInfo) (size:Nat) (ht:P.underlying t = some (.slice e)) (hi:P.info? e = some i)
  (v:Value) (n:Nat) (xs:List Value) (hs:a.eval s = v) (hown:xd w base e size v n xs) (hx:a.eval x = .slice none 0 0)
  (h:wpList P ops Q rest (a.put o.dst v) w):wpList P ops Q (o :: rest) a w:=by
 refine wpList_plain hgd fun K hK=>?_
 have hrun:=Z5 (P:=P) w base t o.type e i size ht hi v n xs hown;unfold Oper.wp;simp [execOp,ho,resolve,invoke,builtin,hs,hx,hrun,Result.andThen];exact hK _ _ h
end
