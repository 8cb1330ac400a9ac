/-
  Td: several texts in one file. Conditions: as each part says.
-/
import Derived.Test.YtafclmbecmgbnaaGreatDoorTm
import Derived.Test.YtafclmbecmgbnaaGreatDoorTa
/-
 TrCommMath. Conditions: as each theorem says.
-/
namespace Go.Proofs.YtafclmbecmgbnaaGreatDoor
def Dc (x : Sb) (firm : Nat → List UInt8) (k : Int) : Option Nd := if hasI x.used k = true then readN (firm k.toNat) else none
theorem Dc_Dm {n : Nat} {S : TS} {firm : Nat → List UInt8} (h : OkT n S firm) {k : Int} (hk : hasI S.s.sup.used k = true) : Dm S k = Dc S.s.sup firm k := by
 obtain ⟨j, rfl, hj, hh⟩ := hasI_yes hk
 unfold Dm Dc
 rw [if_pos hk, Int.toNat_natCast, inZ_nat hj, if_pos (by unfold Pst.isIn; rw [hh, Bool.true_or]), h.same j hj hh]
structure ComT (x : Sb) (firm : Nat → List UInt8) (root : Int) (ps : List Pr) (qs : List Int) : Prop where
 rt : Rt (Dc x firm) root ps qs
 nodup : qs.Nodup
 used : ∀ q ∈ qs, hasI x.used q = true
theorem ComT.here {n : Nat} {S : TS} {firm : Nat → List UInt8} {root : Int} {ps : List Pr} {qs : List Int} (hc : ComT S.s.sup firm root ps qs) (h : OkT n S firm) : Rt (Dm S) root ps qs :=
 hc.rt.imp fun q hq => Dc_Dm h (hc.used q hq)
def TS.commit (S : TS) (r : Int) : TS := ⟨switchD S.d (S.s.next r), S.s.commit r, S.data⟩
def TS.abort (S : TS) : TS := ⟨S.d, S.s.abort, S.data⟩
theorem Rt.rootOk {S : TS} {r : Int} {ps : List Pr} {qs : List Int} (ht : Rt (Dm S) r ps qs) (hu : ∀ q ∈ qs, usd S q) : rootOk S.s r = true := by
 unfold Go.Proofs.YtafclmbecmgbnaaGreatDoor.rootOk
 rcases ht with ⟨rfl, _, _⟩ | ⟨hh, ht⟩
 ·simp
 ·obtain ⟨x, qt, _, rfl⟩ := ht.head
  have := hu r List.mem_cons_self
  simp [show hasI S.s.used r = true from this]
end Go.Proofs.YtafclmbecmgbnaaGreatDoor

/-
 TrFullMath. Conditions: as each theorem says.
-/
namespace Go.Proofs.YtafclmbecmgbnaaGreatDoor
open Go.RowKit
structure FuM (n : Nat) (S : TS) (firm : Nat → List UInt8) (ps : List Pr) (qs : List Int) (k : Nat) : Prop where
 new : S.s.new = noSt
 gone : S.s.gone = noSt
 com : ComT S.s.sup firm S.s.sup.root ps qs
 rise : Rise ps
 low : ∀ p ∈ ps, 0 ≤ p.1 ∧ p.1 < 256
 few : ps.length ≤ k
 gen : S.s.sup.gen ≤ k + 1
 soft : S.d.soft.length ≤ 30 * k + 30
theorem FuM.rt {n : Nat} {S : TS} {firm : Nat → List UInt8} {ps : List Pr} {qs : List Int} {k : Nat} (hm : FuM n S firm ps qs k) (h : OkT n S firm) : Rt (Dm S) S.s.sup.root ps qs := hm.com.here h
theorem first_put {n : Nat} {S : TS} {firm : Nat → List UInt8} (h : OkT n S firm) {k : Nat} (hf : S.s.first n = some k) {key : Int} (hk : 0 ≤ key ∧ key ≤ 4294967295) {val : ByteArray} (hv : val.size = 12) : ∃ S', putTop n S 0 key val = (.ok (k : Int), S') ∧ OkT n S' firm ∧ Tr (Dm S') 0 1 0 4294967296 k [(key, val)] [(k : Int)] ∧ usd S' (k : Int) ∧ getTop S' k key = .ok val := by
 have hn : Nv (Dm S) 0 0 4294967296 ⟨[key], [val], []⟩ (insP [] key val) [] := ⟨rfl, rfl, by simp, fun z hz => by obtain rfl := List.mem_singleton.1 hz; omega, fun v hv2 => by rw [List.mem_singleton.1 hv2]; exact hv, by simp [insP], rfl⟩
 have hpt : putTop n S 0 key val = addM n S ⟨[key], [val], []⟩ := by unfold putTop; rw [if_neg (by omega), if_pos rfl]
 have hr : rightN ⟨[key], [val], []⟩ = true := hn.right (by simp) (by simp) (Int.le_refl _) (Int.le_refl _) (by simp) fun k y hk => Dm_range h hk
 obtain ⟨S', he⟩ : ∃ S', addM n S ⟨[key], [val], []⟩ = (.ok (k : Int), S') := by
  unfold addM
  rw [if_neg (by rw [hr]; decide), hf]
  exact ⟨_, rfl⟩
 obtain ⟨_, ho, _, hu, hd⟩ := addM_ok h he
 have ht : Tr (Dm S') 0 1 0 4294967296 k [(key, val)] [(k : Int)] := by
  have := hn.laid (mn := 1) hd (fun _ h => by cases h) (Nat.le_refl _) (by simp)
  simpa [insP] using this
 have hk0 : ¬ (k : Int) = 0 := by have := (Dm_range ho hd).1; omega
 refine ⟨S', by rw [hpt, he], ho, ht, hu, ?_⟩
 unfold getTop
 rw [if_neg hk0]
 exact get_ok 0 ht (List.mem_singleton.2 rfl) (by decide) (Nat.le_refl _)
end Go.Proofs.YtafclmbecmgbnaaGreatDoor
