/-
 ChkModel. Conditions: as each theorem says.
-/
import Derived.Test.YtafclmbecmgbnaaGreatDoorTrModel
import Derived.Test.YtafclmbecmgbnaaGreatDoorCka
namespace Go.Proofs.YtafclmbecmgbnaaGreatDoor
structure Sv where
 wait : List Sp
 met : List Int
 dep : Int
 flt : List Int
def svDep (x : Nd) (lv dep : Int) : Int := if x.kids.length = 0 ∧ dep = 0 then lv else dep
def svOk (S : TS) (t : Sp) (x : Nd) (dep : Int) : Bool := (hasI S.s.used t.at_ && fitsN x t.lv t.lo t.hi) && (decide (x.kids.length ≠ 0) || decide (svDep x t.lv dep = t.lv))
def svStep (S : TS) (s : Sv) : Sv := match s.wait with
 | [] => s
 | t :: rest =>
  if t.at_ ∈ s.met then ⟨rest, s.met ++ [t.at_], s.dep, s.flt ++ [2]⟩
  else match loadM S t.at_ t.lv with
   | .error c => ⟨rest, s.met ++ [t.at_], s.dep, s.flt ++ [c]⟩
   | .ok x => ⟨rest ++ belowN x t.lv t.lo t.hi, s.met ++ [t.at_], svDep x t.lv s.dep, if svOk S t x s.dep = true then s.flt else s.flt ++ [2]⟩
def svRun (S : TS) : Nat → Sv → Sv
 | 0, s => s
 | n + 1, s => svRun S n (svStep S s)
def svBegin (root : Int) : Sv := ⟨[⟨root, 1, 0, 4294967296⟩], [], 0, []⟩
theorem svRun_done (S : TS) (n : Nat) : ∀ {s : Sv}, s.wait = [] → svRun S n s = s := by
 induction n with
 | zero => intro s _; rfl
 | succ n ih =>
  intro s h
  have h1 : svStep S s = s := by unfold svStep; rw [h]
  show svRun S n (svStep S s) = s
  rw [h1]
  exact ih h
theorem svRun_snoc (S : TS) (n : Nat) : ∀ s : Sv, svRun S (n + 1) s = svStep S (svRun S n s) := by
 induction n with
 | zero => intro s; rfl
 | succ n ih => intro s; exact ih (svStep S s)
theorem svStep_flt (S : TS) (s : Sv) : s.flt <+: (svStep S s).flt := by
 unfold svStep
 split
 ·exact List.prefix_refl _
 ·split
  ·exact List.prefix_append _ _
  ·split
   ·exact List.prefix_append _ _
   ·simp only
    split
    ·exact List.prefix_refl _
    ·exact List.prefix_append _ _
theorem svRun_flt (S : TS) (n : Nat) : ∀ s : Sv, s.flt <+: (svRun S n s).flt := by
 induction n with
 | zero => intro s; exact List.prefix_refl _
 | succ n ih => intro s; exact (svStep_flt S s).trans (ih _)
theorem svRun_add (S : TS) (n m : Nat) : ∀ s : Sv, svRun S (n + m) s = svRun S m (svRun S n s) := by
 induction n with
 | zero => intro s; rw [Nat.zero_add]; rfl
 | succ n ih => intro s; rw [Nat.succ_add]; exact ih _
theorem svStep_met (S : TS) (s : Sv) : (svStep S s).met.length ≤ s.met.length + 1 := by
 unfold svStep
 split
 ·omega
 ·split
  ·simp
  ·split <;> simp
theorem svRun_met (S : TS) (n : Nat) : ∀ s : Sv, (svRun S n s).met.length ≤ s.met.length + n := by
 induction n with
 | zero => intro s; exact Nat.le_refl _
 | succ n ih => intro s; have := ih (svStep S s); have := svStep_met S s; show (svRun S n (svStep S s)).met.length ≤ _; omega
theorem loadM_nz {S : TS} {i lv c : Int} (h : loadM S i lv = .error c) : c ≠ 0 := by
 unfold loadM at h
 split at h
 ·cases h; decide
 ·split at h
  ·split at h
   ·cases h
   ·cases h; decide
  ·cases h; decide
theorem svStep_nz (S : TS) {s : Sv} (h : ∀ c ∈ s.flt, c ≠ 0) : ∀ c ∈ (svStep S s).flt, c ≠ 0 := by
 have h2 : ∀ (c0 : Int), c0 ≠ 0 → ∀ c ∈ s.flt ++ [c0], c ≠ 0 := fun c0 h0 c hc => by
  rcases List.mem_append.1 hc with hc | hc
  ·exact h c hc
  ·rw [List.mem_singleton.1 hc]; exact h0
 unfold svStep
 split
 ·exact h
 ·split
  ·exact h2 2 (by decide)
  ·split
   ·rename_i c hc
    exact h2 c (loadM_nz hc)
   ·simp only
    split
    ·exact h
    ·exact h2 2 (by decide)
theorem svRun_nz (S : TS) (n : Nat) : ∀ {s : Sv}, (∀ c ∈ s.flt, c ≠ 0) → ∀ c ∈ (svRun S n s).flt, c ≠ 0 := by
 induction n with
 | zero => intro s h; exact h
 | succ n ih => intro s h; exact ih (svStep_nz S h)
end Go.Proofs.YtafclmbecmgbnaaGreatDoor
