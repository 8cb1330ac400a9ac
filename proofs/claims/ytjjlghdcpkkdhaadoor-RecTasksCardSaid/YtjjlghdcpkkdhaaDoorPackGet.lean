/-
  The contracts of pack.read, pack.fault and pack.Get: the number of bytes, the highest first; which error a call answers. Conditions: none beyond the premises of each theorem.
-/
import Derived.Test.YtjjlghdcpkkdhaaDoorPackPut
import Derived.Test.YtjjlghdcpkkdhaaDoorTagNum
namespace Go.Proofs.YtjjlghdcpkkdhaaDoor
open Go.RowKit

theorem i64_or_nat (a b : Nat) (ha : a < 4611686018427387904) (hb : b < 4611686018427387904) : bits .or .i64 (a : Int) (b : Int) = ((a ||| b : Nat) : Int) := by
  have hx : a ||| b < 2 ^ 62 := Nat.or_lt_two_pow (by omega) (by omega)
  show IntKind.i64.wrap ((BitVec.ofInt 64 (a : Int) ||| BitVec.ofInt 64 (b : Int)).toNat : Int) = _
  rw [BitVec.toNat_or, ofInt_u64 a (by omega), ofInt_u64 b (by omega)]
  exact IntWalk.i64_in _ (by omega)
theorem join_byte (m : Nat) (c : UInt8) (hm : m < 16777216) : bits .or .i64 ((m : Int) * 256) (wrap64 (c.toNat : Int)) = ((256 * m + c.toNat : Nat) : Int) := by
  have hc := c.toNat_lt
  have e1 : wrap64 (c.toNat : Int) = (c.toNat : Int) := by unfold wrap64; omega
  have e2 : (m : Int) * 256 = ((256 * m : Nat) : Int) := by omega
  rw [e1, e2, i64_or_nat _ _ (by omega) (by omega), nat_join 8 (256 * m) c.toNat (by omega) (by omega)]
def ReadRel (s : ByteArray) (n i : Value) : Prop := ∃ k : Nat, k ≤ s.size ∧ i = .int .i64 (k : Int) ∧ n = .int .i64 (num (s.data.toList.take k) : Int)
set_option maxHeartbeats 1000000 in
theorem read_any (s : ByteArray) (w : World) (h4 : s.size ≤ 4) : Calls Tryd.prog 50 #[.string s] w fun e w' => e = .returned (.int .i64 (num s.data.toList : Int)) ∧ w = w' := by
  go_enter Tryd.func50, Tryd.ntmps50
  go_wp2
  go_loop [3, 7] (fun n i => ReadRel s n i) (fun _ i => s.size - (intOf i).toNat)
  case atStart => exact ⟨0, Nat.zero_le _, rfl, rfl⟩
  case round =>
    obtain ⟨k, hk, rfl, rfl⟩ := hrel
    by_cases hlt : k < s.size
    · obtain ⟨m, HM⟩ : ∃ m, Hid (m = num (s.data.toList.take k)) := ⟨_, Lib.hid rfl⟩
      have hm : m < 16777216 := by
        have h1 := num_take_lt s.data.toList k
        have h2 : 256 ^ k ≤ 256 ^ 3 := Nat.pow_le_pow_right (by decide) (by omega)
        rw [HM.out]
        exact Nat.lt_of_lt_of_le h1 h2
      rw [← HM.out]
      go_wp2
      go_round
      case rel =>
        refine ⟨k + 1, hlt, by go_num, ?_⟩
        rw [join_byte m _ hm, num_take (by rw [Array.length_toList]; exact hlt), ← HM.out]
        rfl
      case measure => simp [intOf]; omega
    · obtain rfl : k = s.size := by omega
      go_wp2
      go_ret
      exact ⟨ret_int (by rw [List.take_of_length_le (by rw [Array.length_toList]; exact Nat.le_refl _)]), rfl⟩

/-- an error that has this number -/
def FaultPost (n : Int) (w : World) (e : Ending) (w' : World) : Prop := ∃ v l, e = .returned v ∧ Chain w' n v l ∧ Below w.heap.size w w'
theorem packFault_any (n : Int) (w : World) : Calls Tryd.prog 43 #[.int .i64 n] w (FaultPost n w) := by
  go_enter Tryd.func43, Tryd.ntmps43
  go_wp2_with fail
  refine (Tag_chain _ n _ [] w .base).mono ?_
  rintro e w' ⟨rfl, hc, hb⟩
  have HC := Lib.hid hc
  have HB := Lib.hid hb
  clear hc hb
  go_wp2_with fail
  go_ret
  exact ⟨_, _, rfl, HC.out, HB.out⟩

/-- nothing but an error that has this number -/
def GetFault (x : Value) (n : Int) (w : World) (e : Ending) (w' : World) : Prop := ∃ v l, e = .returned (.tuple #[x, v]) ∧ Chain w' n v l ∧ Below w.heap.size w w'
theorem extract_list (s : ByteArray) (a b : Nat) : (s.extract a b).data.toList = (s.data.toList.drop a).take (b - a) := by simp
theorem extract_head (s : ByteArray) (k : Nat) : (s.extract 0 k).data.toList = s.data.toList.take k := by simp
end Go.Proofs.YtjjlghdcpkkdhaaDoor
