/-
 ChkCalls. Conditions: as each theorem says.
-/
import Derived.Test.YtafclmbecmgbnaaGreatDoorSm
import Derived.Test.YtafclmbecmgbnaaGreatDoorChkSurvey
import Derived.Test.YtafclmbecmgbnaaGreatDoorSets
namespace Go.Proofs.YtafclmbecmgbnaaGreatDoor
open Go.RowKit Go.Maps
def Svd (S : TS) (root : Int) (s : Sv) : Prop :=
 (root = 0 ∧ s = ⟨[], [], 0, []⟩) ∨ (root ≠ 0 ∧ (-9223372036854775808 ≤ root ∧ root ≤ 9223372036854775807) ∧ s.wait = [] ∧ s.flt.length ≤ 1 ∧ (s.flt = [] → s.met.Nodup) ∧ ∃ N, N ≤ 3000 ∧ svRun S N (svBegin root) = s)
def fltZ (s : Sv) : Int := s.flt.headD 0
def depZ (s : Sv) : Int := if s.flt = [] then s.dep else 0
def sortZ (l : List Int) : List Int := l.mergeSort fun x y => decide (x ≤ y)
def PgsIs (w' : World) (b : Nat) (s : Sv) (v : Value) : Prop := (s.flt = [] → w'.ownsRow b 3 1 v s.met.length ((sortZ s.met).map (Value.int .i64))) ∧ (s.flt ≠ [] → v = .slice none 0 0)
def SvdPost (w : World) (s : Sv) (e : Ending) (w' : World) : Prop :=
 ∃ v u, e = .returned (.tuple #[v, .int .i64 (depZ s), u]) ∧ ErrFrom w' w.heap.size (fltZ s) u ∧ PgsIs w' w.heap.size s v ∧ Below w.heap.size w w'
section
variable {O : PgOwn} (H : PgSpec O)
include H
theorem survey_is {w0 : World} {K : Nat → Prop} {w : World} {P D n : Nat} {S : TS} {firm : Nat → List UInt8} (hl : LawT O w0 K w P D n S firm) (hg : Laid2 w0) {root : Int} {s : Sv} (h : Svd S root s) : Calls Tryz.prog 80 #[ptr P, .int .i64 root] w (SvdPost w s) := by
 rcases h with ⟨rfl, rfl⟩ | ⟨h0, h1, h2, h3, h4, N, h5, rfl⟩
 ·clear hl hg
  go_enter Tryz.func80, Tryz.ntmps80
  go_wp2_with fail
  go_ret3
  exact ⟨.slice none 0 0, .nilIface, rfl, .nil _ _, ⟨fun _ => by rw [show sortZ [] = [] by simp [sortZ]]; exact World.ownsRow_nil _ _ _ _, fun h => absurd rfl h⟩, Below.refl _ _⟩
 ·refine (survey_any H hl hg root h0 h1 N h5 h2 h3 h4).mono ?_
  rintro e w' ⟨hb, hp⟩
  obtain ⟨s, hs⟩ : ∃ s, s = svRun S N (svBegin root) := ⟨_, rfl⟩
  rw [← hs] at hp h4 h3 ⊢
  unfold SvdPost fltZ depZ PgsIs
  cases hf : s.flt with
  | nil =>
   rw [hf] at hp
   obtain ⟨v, rfl, h6⟩ := hp
   exact ⟨v, _, by rw [if_pos rfl], .nil _ _, ⟨fun _ => h6 (h4 hf), fun h => absurd rfl h⟩, hb⟩
  | cons c l =>
   rw [hf] at hp
   obtain ⟨v, rfl, h6⟩ := hp
   exact ⟨_, v, by rw [if_neg (by simp)], h6, ⟨(fun h => by cases h), fun _ => rfl⟩, hb⟩
theorem chkSound_is {w0 : World} {K : Nat → Prop} {w : World} {P D n : Nat} {S : TS} {firm : Nat → List UInt8} (hl : LawT O w0 K w P D n S firm) (hg : Laid2 w0) {root : Int} {s : Sv} (h : Svd S root s) : Calls Tryz.prog 31 #[ptr P, .int .i64 root] w (FromPost (fltZ s) w.heap.size w) := by
 have HC := Hi (survey_is H hl hg h)
 clear hl hg h
 go_enter Tryz.func31, Tryz.ntmps31
 go_wp2_with fail
 refine HC.out.mono ?_
 rintro e w' ⟨v, u, rfl, he, hp, hb⟩
 have HE := Hi he
 have HB := Hi hb
 clear he hb hp HC
 dsimp only
 go_wp2_with fail
 go_ret
 exact ⟨u, rfl, HE.out, HB.out⟩
theorem chkPages_is {w0 : World} {K : Nat → Prop} {w : World} {P D n : Nat} {S : TS} {firm : Nat → List UInt8} (hl : LawT O w0 K w P D n S firm) (hg : Laid2 w0) {root : Int} {s : Sv} (h : Svd S root s) : Calls Tryz.prog 32 #[ptr P, .int .i64 root] w
  fun e w' => ∃ v u, e = .returned (.tuple #[v, u]) ∧ ErrFrom w' w.heap.size (fltZ s) u ∧ PgsIs w' w.heap.size s v ∧ Below w.heap.size w w' := by
 have HC := Hi (survey_is H hl hg h)
 clear hl hg h
 go_enter Tryz.func32, Tryz.ntmps32
 go_wp2_with fail
 refine HC.out.mono ?_
 rintro e w' ⟨v, u, rfl, he, hp, hb⟩
 have HE := Hi he
 have HB := Hi hb
 have HP := Hi hp
 clear he hb hp HC
 dsimp only
 go_wp2_with fail
 go_ret2
 exact ⟨v, u, rfl, HE.out, HP.out, HB.out⟩
theorem chkDepth_is {w0 : World} {K : Nat → Prop} {w : World} {P D n : Nat} {S : TS} {firm : Nat → List UInt8} (hl : LawT O w0 K w P D n S firm) (hg : Laid2 w0) {root : Int} {s : Sv} (h : Svd S root s) : Calls Tryz.prog 33 #[ptr P, .int .i64 root] w
  fun e w' => ∃ u, e = .returned (.tuple #[.int .i64 (depZ s), u]) ∧ ErrFrom w' w.heap.size (fltZ s) u ∧ Below w.heap.size w w' := by
 have HC := Hi (survey_is H hl hg h)
 clear hl hg h
 go_enter Tryz.func33, Tryz.ntmps33
 go_wp2_with fail
 refine HC.out.mono ?_
 rintro e w' ⟨v, u, rfl, he, hp, hb⟩
 have HE := Hi he
 have HB := Hi hb
 clear he hb hp HC
 dsimp only
 go_wp2_with fail
 go_ret2
 exact ⟨u, rfl, HE.out, HB.out⟩
end
def setOfL (l : List Int) : List Nat := l.foldl withZ zeroSt
def wholeZ (S : TS) (s : Sv) : Int := if s.flt = [] then (if S.s.used = setOfL (sortZ s.met) then 0 else 2) else fltZ s
structure WhS (w : World) (b q : Nat) (v : Value) (l : List Int) (k : Nat) (wr : World) : Prop where
 set : SOwn wr q (setOfL (l.take k))
 row : wr.ownsRow b 3 1 v l.length (l.map (Value.int .i64))
 far : ∀ g, v.ownBlock = some g → g ≠ q
 below : Below w.heap.size w wr
 low : w.heap.size ≤ q
section
variable {O : PgOwn} (H : PgSpec O)
include H
end
end Go.Proofs.YtafclmbecmgbnaaGreatDoor
