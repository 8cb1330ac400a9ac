/-
 ChkModel. Conditions: as each theorem says.
-/
import Derived.Test.YtafclmbecmgbnaaGreatDoorCka
namespace Go.Proofs.YtafclmbecmgbnaaGreatDoor
structure Sv where
 wait:List Sp
 met:List Int
 dep:Int
 flt:List Int
def Yn (x:Nd) (lv dep:Int):Int:=if x.kids.length = 0 /\ dep = 0 then lv else dep
def K6 (S:TS) (t:Sp) (x:Nd) (dep:Int):Bool:=(vD S.s.used t.at_ && qA x t.lv t.lo t.hi) && (decide (x.kids.length ≠ 0) || decide (Yn x t.lv dep = t.lv))
def yJ (S:TS) (s:Sv):Sv:=match s.wait with
 | []=>s
 | t :: rest =>
  if t.at_ ∈ s.met then ⟨rest,s.met ++ [t.at_],s.dep,s.flt ++ [2]⟩
  else match yk S t.at_ t.lv with
   | .error c=>⟨rest,s.met ++ [t.at_],s.dep,s.flt ++ [c]⟩
   | .ok x=>⟨rest ++ xw x t.lv t.lo t.hi,s.met ++ [t.at_],Yn x t.lv s.dep,if K6 S t x s.dep = true then s.flt else s.flt ++ [2]⟩
def xe (S:TS):Nat -> Sv -> Sv
 | 0,s=>s
 | n + 1,s=>xe S n (yJ S s)
def yh (root:Int):Sv:=⟨[⟨root,1,0,4294967296⟩],[],0,[]⟩
theorem Qs (S:TS) (n:Nat):∀ {s:Sv},s.wait = [] -> xe S n s = s:=by
 induction n with
 | zero=>intro s _; rfl
 | succ n ih =>
  intro s h;have h1:yJ S s = s:=by unfold yJ; rw [h]
  show xe S n (yJ S s) = s;rw [h1];exact ih h
theorem jS (S:TS) (n:Nat):∀ s:Sv,xe S (n + 1) s = yJ S (xe S n s):=by
 induction n with
 | zero=>intro s; rfl
 | succ n ih=>intro s; exact ih (yJ S s)
theorem Qt (S:TS) (s:Sv):s.flt <+: (yJ S s).flt:=by
 unfold yJ;split
 ·exact List.prefix_refl _
 ·split
  ·exact List.prefix_append _ _
  ·split
   ·exact List.prefix_append _ _
   ·simp only;split
    ·exact List.prefix_refl _
    ·exact List.prefix_append _ _
theorem za4 (S:TS) (n:Nat):∀ s:Sv,s.flt <+: (xe S n s).flt:=by
 induction n with
 | zero=>intro s; exact List.prefix_refl _
 | succ n ih=>intro s; exact (Qt S s).trans (ih _)
theorem Vc (S:TS) (n m:Nat):∀ s:Sv,xe S (n + m) s = xe S m (xe S n s):=by
 induction n with
 | zero=>intro s; rw [Nat.zero_add]; rfl
 | succ n ih=>intro s; rw [Nat.succ_add]; exact ih _
theorem Qv (S:TS) (s:Sv):(yJ S s).met.length <= s.met.length + 1:=by
 unfold yJ;split
 ·omega
 ·split
  ·simp
  ·split <;> simp
theorem YM (S:TS) (n:Nat):∀ s:Sv,(xe S n s).met.length <= s.met.length + n:=by
 induction n with
 | zero=>intro s; exact Nat.le_refl _
 | succ n ih=>intro s; have:=ih (yJ S s); have:=Qv S s; show (xe S n (yJ S s)).met.length <= _; omega
theorem zci {S:TS} {i lv c:Int} (h:yk S i lv = .error c):c ≠ 0:=by
 unfold yk at h;split at h
 ·cases h; decide
 ·split at h
  ·split at h
   ·cases h
   ·cases h; decide
  ·cases h; decide
theorem za6 (S:TS) {s:Sv} (h:∀ c ∈ s.flt,c ≠ 0):∀ c ∈ (yJ S s).flt,c ≠ 0:=by
 have h2:∀ (c0:Int),c0 ≠ 0 -> ∀ c ∈ s.flt ++ [c0],c ≠ 0:=fun c0 h0 c hc=>by
  rcases List.mem_append.1 hc with hc | hc
  ·exact h c hc
  ·rw [List.mem_singleton.1 hc]; exact h0
 unfold yJ;split
 ·exact h
 ·split
  ·exact h2 2 (by decide)
  ·split
   ·rename_i c hc
    exact h2 c (zci hc)
   ·simp only;split
    ·exact h
    ·exact h2 2 (by decide)
theorem zcQ (S:TS) (n:Nat):∀ {s:Sv},(∀ c ∈ s.flt,c ≠ 0) -> ∀ c ∈ (xe S n s).flt,c ≠ 0:=by
 induction n with
 | zero=>intro s h; exact h
 | succ n ih=>intro s h; exact ih (za6 S h)
