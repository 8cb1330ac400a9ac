/-
 Strs. Conditions: as each theorem says.
-/
import Derived.Test.YtafclmbecmgbnaaGreatDoorOpen
import Derived.Deep.Strs
namespace Go.Proofs.YtafclmbecmgbnaaGreatDoor
open Go.ChangeShapes Go.WideShapes Go.ChangeAt Go.RowKit
def Strs (w:World) (A:Option Addr) (len:Nat) (ss:List ByteArray):Prop :=
 ss.length = len /\ (0 < len -> ∃ a,A = some a /\ a.block < w.1.size /\ ∀ i s,ss[i]? = some s -> w.cell? (a.add i) = some (.string s))
theorem Strs.below {w w':World} {A:Option Addr} {len:Nat} {ss:List ByteArray} (h:Strs w A len ss) (hb:Below w.1.size w w'):Strs w' A len ss :=
 ⟨h.1,fun hp=>by
  obtain ⟨a,e,hlt,hc⟩:=h.2 hp;exact ⟨a,e,Nat.lt_of_lt_of_le hlt hb.size,fun i s hs=>(hb.cell (by rw [yK]; exact hlt)).trans (hc i s hs)⟩⟩
