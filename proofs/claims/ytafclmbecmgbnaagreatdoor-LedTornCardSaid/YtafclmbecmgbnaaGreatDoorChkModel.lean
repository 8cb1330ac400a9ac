/-
 ChkModel. Conditions: as each theorem says.
-/
import Derived.Test.YtafclmbecmgbnaaGreatDoorCka
namespace Go.Proofs.YtafclmbecmgbnaaGreatDoor
structure Sv where
 wait:List Sp
 met:List Int
 dep:Int
 flt:List Int
def YM (x:Nd) (lv dep:Int):Int:=if x.kids.length = 0 /\ dep = 0 then lv else dep
def JG (S:TS) (t:Sp) (x:Nd) (dep:Int):Bool:=(vH S.s.used t.at_ && Za x t.lv t.lo t.hi) && (decide (x.kids.length ≠ 0) || decide (YM x t.lv dep = t.lv))
def yO (S:TS) (s:Sv):Sv:=match s.wait with
 | []=>s
 | t :: rest =>
  if t.at_ ∈ s.met then ⟨rest,s.met ++ [t.at_],s.dep,s.flt ++ [2]⟩
  else match yp S t.at_ t.lv with
   | .error c=>⟨rest,s.met ++ [t.at_],s.dep,s.flt ++ [c]⟩
   | .ok x=>⟨rest ++ xG x t.lv t.lo t.hi,s.met ++ [t.at_],YM x t.lv s.dep,if JG S t x s.dep = true then s.flt else s.flt ++ [2]⟩
def xj (S:TS):Nat -> Sv -> Sv
 | 0,s=>s
 | n + 1,s=>xj S n (yO S s)
def yl (root:Int):Sv:=⟨[⟨root,1,0,4294967296⟩],[],0,[]⟩
theorem Q7 (S:TS) (n:Nat):∀ {s:Sv},s.wait = [] -> xj S n s = s:=by
 induction n with
 | zero=>intro s _; rfl
 | succ n ih =>
  intro s h;have h1:yO S s = s:=by unfold yO; rw [h]
  show xj S n (yO S s) = s;rw [h1];exact ih h
theorem qB (S:TS) (n:Nat):∀ s:Sv,xj S (n + 1) s = yO S (xj S n s):=by
 induction n with
 | zero=>intro s; rfl
 | succ n ih=>intro s; exact ih (yO S s)
theorem Q8 (S:TS) (s:Sv):s.flt <+: (yO S s).flt:=by
 unfold yO;split
 ·exact List.prefix_refl _
 ·split
  ·exact List.prefix_append _ _
  ·split
   ·exact List.prefix_append _ _
   ·simp only;split
    ·exact List.prefix_refl _
    ·exact List.prefix_append _ _
theorem zbP (S:TS) (n:Nat):∀ s:Sv,s.flt <+: (xj S n s).flt:=by
 induction n with
 | zero=>intro s; exact List.prefix_refl _
 | succ n ih=>intro s; exact (Q8 S s).trans (ih _)
theorem VP (S:TS) (n m:Nat):∀ s:Sv,xj S (n + m) s = xj S m (xj S n s):=by
 induction n with
 | zero=>intro s; rw [Nat.zero_add]; rfl
 | succ n ih=>intro s; rw [Nat.succ_add]; exact ih _
theorem zaa (S:TS) (s:Sv):(yO S s).met.length <= s.met.length + 1:=by
 unfold yO;split
 ·omega
 ·split
  ·simp
  ·split <;> simp
theorem Xc (S:TS) (n:Nat):∀ s:Sv,(xj S n s).met.length <= s.met.length + n:=by
 induction n with
 | zero=>intro s; exact Nat.le_refl _
 | succ n ih=>intro s; have:=ih (yO S s); have:=zaa S s; show (xj S n (yO S s)).met.length <= _; omega
theorem zc3 {S:TS} {i lv c:Int} (h:yp S i lv = .error c):c ≠ 0:=by
 unfold yp at h;split at h
 ·cases h; decide
 ·split at h
  ·split at h
   ·cases h
   ·cases h; decide
  ·cases h; decide
theorem zbR (S:TS) {s:Sv} (h:∀ c ∈ s.flt,c ≠ 0):∀ c ∈ (yO S s).flt,c ≠ 0:=by
 have h2:∀ (c0:Int),c0 ≠ 0 -> ∀ c ∈ s.flt ++ [c0],c ≠ 0:=fun c0 h0 c hc=>by
  rcases List.mem_append.1 hc with hc | hc
  ·exact h c hc
  ·rw [List.mem_singleton.1 hc]; exact h0
 unfold yO;split
 ·exact h
 ·split
  ·exact h2 2 (by decide)
  ·split
   ·rename_i c hc
    exact h2 c (zc3 hc)
   ·simp only;split
    ·exact h
    ·exact h2 2 (by decide)
theorem zdz (S:TS) (n:Nat):∀ {s:Sv},(∀ c ∈ s.flt,c ≠ 0) -> ∀ c ∈ (xj S n s).flt,c ≠ 0:=by
 induction n with
 | zero=>intro s h; exact h
 | succ n ih=>intro s h; exact ih (zbR S h)
