/-
  The contracts of bits.isNumber and bits.bit. Conditions: none beyond the premises of each theorem.
-/
import Derived.Test.YtaolkmlgdhnhaaaDoorBitsMath
import Derived.Test.YtaolkmlgdhnhaaaDoorNums
import Derived.IntWalk
import Derived.BigQuiet
import Derived.Laws.BitsAllLaws
namespace Go.Proofs.YtaolkmlgdhnhaaaDoor
open Go.RowKit

/-- may a set have this number? -/
def isNum (n : Int) : Bool := decide (0 ≤ n ∧ n < 240)
theorem isNum_true {n : Int} (h : isNum n = true) : ∃ m : Nat, n = (m : Int) ∧ m < 240 := by
  have := of_decide_eq_true h
  exact ⟨n.toNat, by omega, by omega⟩
theorem isNum_nat {m : Nat} (h : m < 240) : isNum (m : Int) = true := decide_eq_true (by omega)
theorem set_bool {a b : Bool} (h : a = b) : Ending.returned (.bool a) = .returned (.bool b) := by rw [h]
theorem isNumber_any (n : Int) (w : World) : Calls Tryd.prog 48 #[.int .i64 n] w fun e w' => e = .returned (.bool (isNum n)) ∧ w = w' := by
  go_enter Tryd.func48, Tryd.ntmps48
  go_wp2
  all_goals go_ret
  all_goals exact ⟨set_bool (by simp [isNum]; try omega), rfl⟩
theorem bit_any (n : Nat) (w : World) : Calls Tryd.prog 49 #[.int .i64 n] w fun e w' => e = .returned (.int .u8 ((2 ^ (n % 8) : Nat) : Int)) ∧ w = w' := by
  go_enter Tryd.func49, Tryd.ntmps49
  go_wp2
  go_ret
  refine ⟨?_, rfl⟩
  show Ending.returned (Value.int IntKind.u8 (2 ^ (n % 8) % 256)) = _
  have h := Bits.pow_lt n
  have e : (2 : Int) ^ (n % 8) = ((2 ^ (n % 8) : Nat) : Int) := by simp
  rw [e]
  generalize 2 ^ (n % 8) = m at h ⊢
  rw [show (m : Int) % 256 = (m : Int) by omega]
end Go.Proofs.YtaolkmlgdhnhaaaDoor
