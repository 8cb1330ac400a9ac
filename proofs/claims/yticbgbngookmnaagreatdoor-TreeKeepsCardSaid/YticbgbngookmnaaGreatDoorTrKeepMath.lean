/-
 TrKeepMath. Conditions: as each theorem says.
-/
import Derived.Test.YticbgbngookmnaaGreatDoorTrDelModel
import Derived.Test.YticbgbngookmnaaGreatDoorTd
namespace Go.Proofs.YticbgbngookmnaaGreatDoor
structure KAct where
 kind : Nat
 key : Int
 val : ByteArray
def keepCall (n : Nat) (S : TS) (now : Int) (a : KAct) : Except Int Int × TS := if a.kind % 5 = 3 then delTop n S now a.key else putTop n S now a.key a.val
def keepNow (now : Int) (o : Except Int Int) : Int := match o with
 | .ok r => r
 | .error _ => now
def keepAll (n : Nat) : TS → Int → List KAct → TS × Int
 | S, now, [] => (S, now)
 | S, now, a :: l => keepAll n (keepCall n S now a).2 (keepNow now (keepCall n S now a).1) l
theorem ComT.stay {n m : Nat} {S S' : TS} {firm : Nat → List UInt8} {root : Int} {ps : List Pr} {qs : List Int} (hc : ComT S.s.sup firm root ps qs) (h : Stay n firm S S' m) : ComT S'.s.sup firm root ps qs ∧ Rt (Dm S') root ps qs := by
 have h1 : ComT S'.s.sup firm root ps qs := by rw [h.sup]; exact hc
 exact ⟨h1, h1.here h.ok⟩
theorem ComT.opened {n : Nat} {x : Sb} {d : Dk} {firm : Nat → List UInt8} {root : Int} {ps : List Pr} {qs : List Int} (hc : ComT x firm root ps qs) (h : OkT n ⟨d, Pst.opened x, firm⟩ firm) : Rt (Dm ⟨d, Pst.opened x, firm⟩) root ps qs :=
 ComT.here (S := ⟨d, Pst.opened x, firm⟩) hc h
end Go.Proofs.YticbgbngookmnaaGreatDoor
