/-
  Short names for what the texts say hundreds of times. Conditions: none beyond the premises of each theorem.
-/
import Derived.Test.YtafclmbecmgbnaaGreatDoorRows
import Derived.WalkKit
import Derived.Lib.Hide
namespace Go.Proofs.YtafclmbecmgbnaaGreatDoor
theorem _root_.Go.RowKit.Hid.o {p:Prop} (h:Go.RowKit.Hid p):p:=h
open Go.RowKit
theorem Hi {p:Prop} (h:p):Hid p:=Lib.hid h
theorem Hy {α:Type _} {a:α}:∃ x,Hid (x = a):=⟨a,Lib.hid rfl⟩
theorem pU {α:Type _}:(∀ (l:List α) (i:Nat) (a:α),l.toArray.setIfInBounds i a = (l.set i a).toArray) /\ (∀ (x:α) (xs:List α) (a:α),(x :: xs).set 0 a = a :: xs) /\ ∀ (x:α) (xs:List α) (n:Nat) (a:α),(x :: xs).set (n + 1) a = x :: xs.set n a :=
 ⟨fun _ _ _=>List.setIfInBounds_toArray ..,fun _ _ _=>List.set_cons_zero,fun _ _ _ _=>List.set_cons_succ⟩
theorem hI (p:Prop) (h:p):Hid p:=Lib.hid h
theorem hY {α:Type _} (a:α):∃ x,Hid (x = a):=⟨a,Lib.hid rfl⟩
theorem bA {w:World} {o:Obj}:Below w.heap.size w (w.alloc o):=(Below.refl _ _).alloc (Nat.le_refl _) _
