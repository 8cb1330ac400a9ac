/-
 TrApp. Conditions: as each theorem says.
-/
import Derived.Test.YtafclmbecmgbnaaGreatDoorTy
namespace Go.Proofs.YtafclmbecmgbnaaGreatDoor
open Go.RowKit
theorem XS {o:Oper} {a:Act} {K:Act -> World -> Prop} {Q:Exit -> Act -> World -> Prop} {w:World} (s x:Operand) (t:TypeId)
  (ho:o.op = .call { callee:=.builtin .append,args:=#[s,x],argTypes:=#[t,t] })
  (e:TypeId) (i:TypeInfo) (z:Value) (bytes:Nat) (ht:Tryz.prog.underlying t = some (.slice e)) (hi:Tryz.prog.info? e = some i) (hz:i.zero = some z)
  (hsize:i.size = 1) (hby:i.bytes = bytes) (hzs:z.cells.size = 1) (hb24:bytes <= 24)
  {b b2 n m c d:Nat} {A B:Option Addr} {xs ys:List Value} (hs:a.eval s = .slice A n c) (hx:a.eval x = .slice B m d)
  (hown:w.ownsRow b e 1 (.slice A n c) n xs) (hsrc:w.ownsRow b2 e 1 (.slice B m d) m ys) (h1:∀ u ∈ ys,u.oneCell' = true) (hnm:n + m <= 1000) (hb:b <= w.1.size)
  (h:∀ A' c' w',w'.ownsRow b e 1 (.slice A' (n + m) c') (n + m) (xs ++ ys) -> zw (fun k=>∃ a,A = some a /\ a.block = k) w w' -> (∀ g,A' = some g -> A = some g \/ w.1.size <= g.block) -> K (a.put o.dst (.slice A' (n + m) c')) w'):o.wp Tryz.prog a w K Q:=by
 have hyl:=hsrc.1;rcases hsrc.2 with ⟨h2,h3⟩ | ⟨g,cap,cur,h2,_⟩
 ·simp only [Value.slice.injEq] at h2;obtain ⟨rfl,rfl,rfl⟩:=h2;obtain rfl:ys = []:=List.length_eq_zero_iff.1 (by omega);have hrun:=run_append_owned_none (P:=Tryz.prog) (w:=w) b t o.type e i 1 ht hi _ n xs hown;have hk:=h A c w (by rw [Nat.add_zero,List.append_nil]; exact hown) (zw.refl _ _) (fun g hg=>.inl hg);unfold Oper.wp execOp;simp only [ho,resolve,invoke,builtin,Sem.run_bind,Sem.run_pure,Result.andThen_ok,List.map_toArray,List.map_cons,List.map_nil,hs,hx,hrun];exact hk
 ·simp only [Value.slice.injEq] at h2;obtain ⟨rfl,-,rfl⟩:=h2;obtain ⟨v',w',hr,h4,h5,_,h6⟩:=run_append_own_at (P:=Tryz.prog) w b t o.type e i z 1 bytes ht hi hz hsize hby hzs (by decide) _ n xs hown ⟨g,0,none⟩ m d ys hyl (hsrc.cells (g:=g) rfl) h1 (by unfold maxLen; omega) (Nat.le_trans (Nat.mul_le_mul hnm hb24) (by decide)) hb;have ht2:zw (fun k=>∃ a,A = some a /\ a.block = k) w w':=⟨h5.os,h5.tape,h5.output,h5.size,fun k hk=>h5.block k hk.1 fun he=>hk.2 (by cases A with | none=>cases he | some q=>cases he; exact ⟨q,rfl,rfl⟩)⟩
  unfold Oper.wp execOp;simp only [ho,resolve,invoke,builtin,Sem.run_bind,Sem.run_pure,Result.andThen_ok,List.map_toArray,List.map_cons,List.map_nil,hs,hx,hr];rcases h4.2 with ⟨rfl,h0⟩ | ⟨g',cap',cur',rfl,_⟩
  ·have hk:=h none 0 w' (by rw [h0]; rw [h0] at h4; exact h4) ht2 (fun g hg=>by cases hg);rw [h0] at hk;exact hk
  ·refine h (some ⟨g',0,none⟩) cap' w' h4 ht2 fun q hq=>?_
   cases hq;rcases h6 with h6 | h6
   ·left;cases A with
    | none=>cases h6
    | some q =>
     rcases hown.2 with ⟨h7,_⟩ | ⟨g7,_,_,h7,_⟩
     ·cases h7
     ·cases h7;cases h6;rfl
   ·cases h6;exact .inr (Nat.le_refl _)
