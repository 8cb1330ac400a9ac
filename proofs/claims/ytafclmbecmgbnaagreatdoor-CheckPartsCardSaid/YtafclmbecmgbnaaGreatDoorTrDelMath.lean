/-
 TrDelMath. Conditions: as each theorem says.
-/
import Derived.Test.YtafclmbecmgbnaaGreatDoorTrCutMath
import Derived.Test.YtafclmbecmgbnaaGreatDoorTd
namespace Go.Proofs.YtafclmbecmgbnaaGreatDoor
structure WhM (n : Nat) (S : TS) (firm : Nat → List UInt8) (ps : List Pr) (qs : List Int) (k : Nat) : Prop where
 ok : OkT n S firm
 new : S.s.new = noSt
 gone : S.s.gone = noSt
 com : ComT S.s.sup firm S.s.sup.root ps qs
 all : ∀ j, hasI S.s.sup.used j = true → j ∈ qs
 few : ps.length ≤ k
 gen : S.s.sup.gen ≤ k + 1
 soft : S.d.soft.length ≤ 27 * k
theorem usd_plain {n : Nat} {S : TS} {firm : Nat → List UInt8} (h : OkT n S firm) (hn : S.s.new = noSt) {j : Int} (hu : usd S j) : hasI S.s.sup.used j = true := by
 obtain ⟨k, rfl, hk, hh⟩ := usd_out hu
 rw [h.has_used hk] at hh
 unfold Pst.isIn at hh
 rw [hn, has_noSt, Bool.or_false] at hh
 have := (Bool.and_eq_true_iff.1 hh).1
 unfold hasI
 rw [decide_eq_true (by omega), Bool.true_and, Int.toNat_natCast]
 exact this
theorem WhM.used {n : Nat} {S : TS} {firm : Nat → List UInt8} {ps : List Pr} {qs : List Int} {k : Nat} (h : WhM n S firm ps qs k) : (∀ q ∈ qs, usd S q) ∧ ∀ j, usd S j → j ∈ qs :=
 ⟨fun q hq => used_plain h.ok h.gone (h.com.used q hq), fun j hj => h.all j (usd_plain h.ok h.new hj)⟩
theorem WhM.rt {n : Nat} {S : TS} {firm : Nat → List UInt8} {ps : List Pr} {qs : List Int} {k : Nat} (h : WhM n S firm ps qs k) : Rt (Dm S) S.s.sup.root ps qs := h.com.here h.ok
theorem WhM.start {n : Nat} (h3 : 3 ≤ n) (hn : n ≤ 240) : WhM n ⟨switchD (Dk.new n) (Sb.bare 1), Pst.opened (Sb.bare 1), fun _ => []⟩ (fun _ => []) [] [] 0 :=
 ⟨PInv.start h3 hn _, rfl, rfl, comT_none _ _, (fun j hj => by
  obtain ⟨k, rfl, hk, hh⟩ := hasI_yes hj
  have h2 : Bits.has (Sb.bare 1).used k = true := hh
  rw [show Bits.has (Sb.bare 1).used k = false from has_none k] at h2
  cases h2), Nat.le_refl _, Nat.le_refl _, Nat.zero_le _⟩
end Go.Proofs.YtafclmbecmgbnaaGreatDoor
