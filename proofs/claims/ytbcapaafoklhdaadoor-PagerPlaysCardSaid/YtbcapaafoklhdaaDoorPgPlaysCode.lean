/-
  The pieces of PagerPlays' code that are walked one by one. Conditions: none beyond the premises of each theorem.
-/
import Derived.Test.YtbcapaafoklhdaaDoorPgPlaysSt
import Derived.Deep.CutBlock
import Derived.Deep.DeepCutAuto
namespace Go.Proofs.YtbcapaafoklhdaaDoor
open Go.RowKit

/-- a block, by its number -/
def findB (n : Nat) : Code → Option Code
  | .block m c => if m = n then some (.block m c) else findB n c
  | .seq a b => (findB n a).or (findB n b)
  | .cond _ a b => (findB n a).or (findB n b)
  | .loop c => findB n c
  | _ => none
/-- what begins with a region, by its number -/
def fromR (n : Nat) : Code → Option Code
  | .seq (.region m o x) b => if m = n then some (.seq (.region m o x) b) else fromR n b
  | .seq a b => (fromR n a).or (fromR n b)
  | .block _ c => fromR n c
  | .cond _ a b => (fromR n a).or (fromR n b)
  | .loop c => fromR n c
  | _ => none
theorem go_on {P : Program} {K : Act → World → Prop} {c : Code} {Q : Exit → Act → World → Prop} {a : Act} {w : World} (h : ∀ a w, Code.wp P c Q a w → K a w) (hw : Code.wp P c Q a w) : K a w := h a w hw
/-- the switch -/
noncomputable def swCode : Code := (findB 2 (Tryd.f3.body.getD .skip)).getD .skip
/-- what is looked at behind it -/
noncomputable def tailCode : Code := (fromR 63 (Tryd.f3.body.getD .skip)).getD .skip
end Go.Proofs.YtbcapaafoklhdaaDoor
