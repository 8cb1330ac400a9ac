/-
 ChkModel. Conditions: as each theorem says.
-/
import Derived.Test.YtafclmbecmgbnaaGreatDoorCka
namespace Go.Proofs.YtafclmbecmgbnaaGreatDoor
structure Sv where
 wait : List Sp
 met : List Int
 dep : Int
 flt : List Int
def Z9 (x : Nd) (lv dep : Int) : Int := if x.kids.length = 0 /\ dep = 0 then lv else dep
def KH (S : TS) (t : Sp) (x : Nd) (dep : Int) : Bool := (vJ S.s.used t.at_ && qp x t.lv t.lo t.hi) && (decide (x.kids.length ≠ 0) || decide (Z9 x t.lv dep = t.lv))
def yG (S : TS) (s : Sv) : Sv := match s.wait with
 | [] => s
 | t :: rest =>
  if t.at_ ∈ s.met then ⟨rest, s.met ++ [t.at_], s.dep, s.flt ++ [2]⟩
  else match yt S t.at_ t.lv with
   | .error c => ⟨rest, s.met ++ [t.at_], s.dep, s.flt ++ [c]⟩
   | .ok x => ⟨rest ++ xq x t.lv t.lo t.hi, s.met ++ [t.at_], Z9 x t.lv s.dep, if KH S t x s.dep = true then s.flt else s.flt ++ [2]⟩
def xd (S : TS) : Nat -> Sv -> Sv
 | 0, s => s
 | n + 1, s => xd S n (yG S s)
def yd (root : Int) : Sv := ⟨[⟨root, 1, 0, 4294967296⟩], [], 0, []⟩
theorem JZ (S : TS) (n : Nat) : ∀ {s : Sv}, s.wait = [] -> xd S n s = s := by
 induction n with
 | zero => intro s _; rfl
 | succ n ih =>
  intro s h;have h1 : yG S s = s := by unfold yG; rw [h]
  show xd S n (yG S s) = s;rw [h1];exact ih h
theorem jO (S : TS) (n : Nat) : ∀ s : Sv, xd S (n + 1) s = yG S (xd S n s) := by
 induction n with
 | zero => intro s; rfl
 | succ n ih => intro s; exact ih (yG S s)
theorem J0 (S : TS) (s : Sv) : s.flt <+: (yG S s).flt := by
 unfold yG;split
 ·exact List.prefix_refl _
 ·split
  ·exact List.prefix_append _ _
  ·split
   ·exact List.prefix_append _ _
   ·simp only;split
    ·exact List.prefix_refl _
    ·exact List.prefix_append _ _
theorem zau (S : TS) (n : Nat) : ∀ s : Sv, s.flt <+: (xd S n s).flt := by
 induction n with
 | zero => intro s; exact List.prefix_refl _
 | succ n ih => intro s; exact (J0 S s).trans (ih _)
theorem WX (S : TS) (n m : Nat) : ∀ s : Sv, xd S (n + m) s = xd S m (xd S n s) := by
 induction n with
 | zero => intro s; rw [Nat.zero_add]; rfl
 | succ n ih => intro s; rw [Nat.succ_add]; exact ih _
theorem J2 (S : TS) (s : Sv) : (yG S s).met.length <= s.met.length + 1 := by
 unfold yG;split
 ·omega
 ·split
  ·simp
  ·split <;> simp
theorem Yy (S : TS) (n : Nat) : ∀ s : Sv, (xd S n s).met.length <= s.met.length + n := by
 induction n with
 | zero => intro s; exact Nat.le_refl _
 | succ n ih => intro s; have := ih (yG S s); have := J2 S s; show (xd S n (yG S s)).met.length <= _; omega
theorem zbD {S : TS} {i lv c : Int} (h : yt S i lv = .error c) : c ≠ 0 := by
 unfold yt at h;split at h
 ·cases h; decide
 ·split at h
  ·split at h
   ·cases h
   ·cases h; decide
  ·cases h; decide
theorem zaw (S : TS) {s : Sv} (h : ∀ c ∈ s.flt, c ≠ 0) : ∀ c ∈ (yG S s).flt, c ≠ 0 := by
 have h2 : ∀ (c0 : Int), c0 ≠ 0 -> ∀ c ∈ s.flt ++ [c0], c ≠ 0 := fun c0 h0 c hc => by
  rcases List.mem_append.1 hc with hc | hc
  ·exact h c hc
  ·rw [List.mem_singleton.1 hc]; exact h0
 unfold yG;split
 ·exact h
 ·split
  ·exact h2 2 (by decide)
  ·split
   ·rename_i c hc
    exact h2 c (zbD hc)
   ·simp only;split
    ·exact h
    ·exact h2 2 (by decide)
theorem zb8 (S : TS) (n : Nat) : ∀ {s : Sv}, (∀ c ∈ s.flt, c ≠ 0) -> ∀ c ∈ (xd S n s).flt, c ≠ 0 := by
 induction n with
 | zero => intro s h; exact h
 | succ n ih => intro s h; exact ih (zaw S h)
end Go.Proofs.YtafclmbecmgbnaaGreatDoor
