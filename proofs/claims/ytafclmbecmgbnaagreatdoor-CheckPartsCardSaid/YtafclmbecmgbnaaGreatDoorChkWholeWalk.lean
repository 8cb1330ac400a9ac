/-
 ChkWholeWalk. Conditions: as each theorem says.
-/
import Derived.Test.YtafclmbecmgbnaaGreatDoorChkAwake
import Derived.Test.YtafclmbecmgbnaaGreatDoorTrDelMath
import Derived.Test.YtafclmbecmgbnaaGreatDoorTrKeepLaw
import Derived.Test.YtafclmbecmgbnaaGreatDoorTt
import Derived.Test.YtafclmbecmgbnaaGreatDoorTrVal
import Derived.Test.YtafclmbecmgbnaaGreatDoorPgOpened
namespace Go.Proofs.YtafclmbecmgbnaaGreatDoor
open Go.RowKit
section
variable {O : PgOwn} (H : PgSpec O)
include H
theorem whole_any {w0 : World} {K : Nat → Prop} {w : World} {P D n : Nat} {S : TS} {firm : Nat → List UInt8} (hl : LawT O w0 K w P D n S firm) (hg : Laid2 w0) {ps : List Pr} {qs : List Int} {k : Nat} (h : WhM n S firm ps qs k) (hk : k ≤ 400) :
  Calls Tryz.prog 24 #[ptr P] w fun e w' => e = .returned .nilIface ∧ Below w.heap.size w w' := by
 obtain ⟨s, h1, h2⟩ := whole_rt h.ok h.rt h.used.1 h.com.nodup (by have := h.few; omega) rfl h.used.2
 refine (chkWhole_is H hl hg h1).mono ?_
 rintro e w' ⟨v, rfl, he, hb⟩
 rw [h2] at he
 rw [he.zero]
 exact ⟨rfl, hb⟩
end
end Go.Proofs.YtafclmbecmgbnaaGreatDoor
