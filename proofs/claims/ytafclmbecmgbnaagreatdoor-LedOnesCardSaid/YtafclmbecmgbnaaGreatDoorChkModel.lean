/-
 ChkModel. Conditions: as each theorem says.
-/
import Derived.Test.YtafclmbecmgbnaaGreatDoorCka
namespace Go.Proofs.YtafclmbecmgbnaaGreatDoor
structure Sv where
 wait : List Sp
 met : List Int
 dep : Int
 flt : List Int
def Yt (x : Nd) (lv dep : Int) : Int := if x.kids.length = 0 /\ dep = 0 then lv else dep
def Jb (S : TS) (t : Sp) (x : Nd) (dep : Int) : Bool := (vq S.s.used t.at_ && qJ x t.lv t.lo t.hi) && (decide (x.kids.length ≠ 0) || decide (Yt x t.lv dep = t.lv))
def yI (S : TS) (s : Sv) : Sv := match s.wait with
 | [] => s
 | t :: rest =>
  if t.at_ ∈ s.met then ⟨rest, s.met ++ [t.at_], s.dep, s.flt ++ [2]⟩
  else match yi S t.at_ t.lv with
   | .error c => ⟨rest, s.met ++ [t.at_], s.dep, s.flt ++ [c]⟩
   | .ok x => ⟨rest ++ xw x t.lv t.lo t.hi, s.met ++ [t.at_], Yt x t.lv s.dep, if Jb S t x s.dep = true then s.flt else s.flt ++ [2]⟩
def xe (S : TS) : Nat -> Sv -> Sv
 | 0, s => s
 | n + 1, s => xe S n (yI S s)
def yg (root : Int) : Sv := ⟨[⟨root, 1, 0, 4294967296⟩], [], 0, []⟩
theorem Qz (S : TS) (n : Nat) : ∀ {s : Sv}, s.wait = [] -> xe S n s = s := by
 induction n with
 | zero => intro s _; rfl
 | succ n ih =>
  intro s h;have h1 : yI S s = s := by unfold yI; rw [h]
  show xe S n (yI S s) = s;rw [h1];exact ih h
theorem jX (S : TS) (n : Nat) : ∀ s : Sv, xe S (n + 1) s = yI S (xe S n s) := by
 induction n with
 | zero => intro s; rfl
 | succ n ih => intro s; exact ih (yI S s)
theorem QA (S : TS) (s : Sv) : s.flt <+: (yI S s).flt := by
 unfold yI;split
 ·exact List.prefix_refl _
 ·split
  ·exact List.prefix_append _ _
  ·split
   ·exact List.prefix_append _ _
   ·simp only;split
    ·exact List.prefix_refl _
    ·exact List.prefix_append _ _
theorem zbc (S : TS) (n : Nat) : ∀ s : Sv, s.flt <+: (xe S n s).flt := by
 induction n with
 | zero => intro s; exact List.prefix_refl _
 | succ n ih => intro s; exact (QA S s).trans (ih _)
theorem Vf (S : TS) (n m : Nat) : ∀ s : Sv, xe S (n + m) s = xe S m (xe S n s) := by
 induction n with
 | zero => intro s; rw [Nat.zero_add]; rfl
 | succ n ih => intro s; rw [Nat.succ_add]; exact ih _
theorem QC (S : TS) (s : Sv) : (yI S s).met.length <= s.met.length + 1 := by
 unfold yI;split
 ·omega
 ·split
  ·simp
  ·split <;> simp
theorem YS (S : TS) (n : Nat) : ∀ s : Sv, (xe S n s).met.length <= s.met.length + n := by
 induction n with
 | zero => intro s; exact Nat.le_refl _
 | succ n ih => intro s; have := ih (yI S s); have := QC S s; show (xe S n (yI S s)).met.length <= _; omega
theorem zcp {S : TS} {i lv c : Int} (h : yi S i lv = .error c) : c ≠ 0 := by
 unfold yi at h;split at h
 ·cases h; decide
 ·split at h
  ·split at h
   ·cases h
   ·cases h; decide
  ·cases h; decide
theorem zbe (S : TS) {s : Sv} (h : ∀ c ∈ s.flt, c ≠ 0) : ∀ c ∈ (yI S s).flt, c ≠ 0 := by
 have h2 : ∀ (c0 : Int), c0 ≠ 0 -> ∀ c ∈ s.flt ++ [c0], c ≠ 0 := fun c0 h0 c hc => by
  rcases List.mem_append.1 hc with hc | hc
  ·exact h c hc
  ·rw [List.mem_singleton.1 hc]; exact h0
 unfold yI;split
 ·exact h
 ·split
  ·exact h2 2 (by decide)
  ·split
   ·rename_i c hc
    exact h2 c (zcp hc)
   ·simp only;split
    ·exact h
    ·exact h2 2 (by decide)
theorem zcV (S : TS) (n : Nat) : ∀ {s : Sv}, (∀ c ∈ s.flt, c ≠ 0) -> ∀ c ∈ (xe S n s).flt, c ≠ 0 := by
 induction n with
 | zero => intro s h; exact h
 | succ n ih => intro s h; exact ih (zbe S h)
