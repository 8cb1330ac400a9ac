/-
  The contracts of the document's own answers for layer 3: Fits, Put, Get and Size. Conditions: none beyond the premises of each theorem.
-/
import Derived.Test.YtkdofddhijcahaaDoorPackAny
namespace Go.Proofs.YtkdofddhijcahaaDoor
open Go.RowKit

theorem RefFits_width (m n : Int) (w : World) (h : m < 1 ∨ 4 < m) : Calls Tryd.prog 12 #[.int .i64 m, .int .i64 n] w fun e w' => e = .returned (.bool false) ∧ w = w' := by
  rcases h with h | h
  · go_enter Tryd.func12, Tryd.ntmps12
    go_wp2
    go_ret
    exact ⟨rfl, rfl⟩
  · have h1 : ¬ m < 1 := by omega
    go_enter Tryd.func12, Tryd.ntmps12
    go_wp2
    go_ret
    exact ⟨rfl, rfl⟩
theorem RefFits_neg (m n : Int) (w : World) (h1 : 1 ≤ m) (h4 : m ≤ 4) (hn : n < 0) : Calls Tryd.prog 12 #[.int .i64 m, .int .i64 n] w fun e w' => e = .returned (.bool false) ∧ w = w' := by
  go_enter Tryd.func12, Tryd.ntmps12
  go_wp2
  go_ret
  exact ⟨rfl, rfl⟩
def FitsRel (k n : Nat) (x i : Value) : Prop := ∃ j : Nat, j ≤ k ∧ i = .int .i64 (j : Int) ∧ x = .int .i64 ((n / 256 ^ j : Nat) : Int)
theorem div_fits (k n : Nat) : (((n / 256 ^ k : Nat) : Int) == 0) = fitB k n := by
  have hp : 0 < 256 ^ k := Nat.pow_pos (by decide)
  rw [Bool.eq_iff_iff, fitB_true, beq_iff_eq, ← cast_pow]
  have h := Nat.div_eq_zero_iff_lt (x := n) hp
  omega
set_option maxHeartbeats 1000000 in
theorem RefFits_nat (k n : Nat) (w : World) (h1 : 1 ≤ k) (h4 : k ≤ 4) (hn : n ≤ 9223372036854775807) : Calls Tryd.prog 12 #[.int .i64 k, .int .i64 n] w fun e w' => e = .returned (.bool (fitB k n)) ∧ w = w' := by
  go_enter Tryd.func12, Tryd.ntmps12
  go_wp2
  go_loop [1, 5] (fun x i => FitsRel k n x i) (fun _ i => k - (intOf i).toNat)
  case atStart => exact ⟨0, Nat.zero_le _, rfl, by simp⟩
  case round =>
    obtain ⟨j, hj, rfl, rfl⟩ := hrel
    obtain ⟨x, HX⟩ : ∃ x, Hid (x = n / 256 ^ j) := ⟨_, Lib.hid rfl⟩
    have hx : x ≤ 9223372036854775807 := by rw [HX.out]; exact Nat.le_trans (Nat.div_le_self _ _) hn
    rw [← HX.out]
    by_cases hlt : j < k
    · go_wp2
      go_round
      case rel =>
        refine ⟨j + 1, hlt, by go_num, ?_⟩
        rw [Nat.pow_succ, ← Nat.div_div_eq_div_mul, ← HX.out]
        go_num
      case measure => simp [intOf]; omega
    · obtain rfl : j = k := by omega
      go_wp2
      go_ret
      exact ⟨ret_bool (by rw [HX.out]; exact div_fits j n), rfl⟩
theorem RefFits_any (m n : Int) (w : World) (hn : n ≤ 9223372036854775807) : Calls Tryd.prog 12 #[.int .i64 m, .int .i64 n] w fun e w' => e = .returned (.bool (fitZ m n)) ∧ w = w' := by
  by_cases hm : m < 1 ∨ 4 < m
  · rw [fitZ_width hm]
    exact RefFits_width m n w hm
  · obtain ⟨k, rfl⟩ : ∃ k : Nat, m = k := ⟨m.toNat, by omega⟩
    rw [fitZ_nat (by omega) (by omega)]
    by_cases h0 : n < 0
    · rw [fitB_false.2 (fun h => by omega)]
      exact RefFits_neg k n w (by omega) (by omega) h0
    · obtain ⟨x, rfl⟩ : ∃ x : Nat, n = x := ⟨n.toNat, by omega⟩
      exact RefFits_nat k x w (by omega) (by omega) (by omega)

/-- a text of one byte -/
theorem one_text (w : World) (c : UInt8) : (convert 22 9 (.slice (some ⟨w.heap.size, 0, none⟩) 1 1)).run Tryd.prog (w.alloc (.cells #[.int .u8 (c.toNat : Int)] 5)) = .ok (.string ⟨#[c]⟩) (w.alloc (.cells #[.int .u8 (c.toNat : Int)] 5)) := by
  have hr : Row (w.alloc (.cells #[.int .u8 (c.toNat : Int)] 5)) w.heap.size [c] := by
    intro i hi
    obtain rfl : i = 0 := by simp at hi; omega
    exact ⟨by simp, by simp⟩
  exact hr.text 1 1 rfl
def RefPutRel (B k n : Nat) (w : World) (x s i : Value) (wr : World) : Prop := ∃ j : Nat, j ≤ k ∧ i = .int .i64 (j : Int) ∧ x = .int .i64 ((n / 256 ^ j : Nat) : Int) ∧ s = .string ⟨(be j n).toArray⟩ ∧ Below B w wr
set_option maxHeartbeats 1000000 in
theorem RefPut_nat (k n : Nat) (w : World) (h4 : k ≤ 4) (hn : n < 4294967296) : Calls Tryd.prog 13 #[.int .i64 k, .int .i64 n] w fun e w' => e = .returned (.string ⟨(be k n).toArray⟩) ∧ Below w.heap.size w w' := by
  go_enter Tryd.func13, Tryd.ntmps13
  go_wp2
  go_loopw [1, 5, 6] (fun x s i wr => RefPutRel w.heap.size k n w x s i wr) (fun _ _ i _ => k - (intOf i).toNat)
  case atStart => exact ⟨0, Nat.zero_le _, rfl, by simp, rfl, Below.refl _ _⟩
  case round =>
    obtain ⟨j, hj, rfl, rfl, rfl, hb⟩ := hrel
    have HB := Lib.hid hb
    clear hb
    obtain ⟨x, HX⟩ : ∃ x, Hid (x = n / 256 ^ j) := ⟨_, Lib.hid rfl⟩
    have hx : x < 4294967296 := by rw [HX.out]; exact Nat.lt_of_le_of_lt (Nat.div_le_self _ _) hn
    obtain ⟨s, HS⟩ : ∃ s : ByteArray, Hid (s = ⟨(be j n).toArray⟩) := ⟨_, Lib.hid rfl⟩
    have hs : s.size ≤ 4 := by rw [HS.out]; show (be j n).length ≤ 4; rw [be_length]; omega
    rw [← HX.out, ← HS.out]
    by_cases hlt : j < k
    · obtain ⟨c, HC⟩ : ∃ c : UInt8, Hid (c = UInt8.ofNat x) := ⟨_, Lib.hid rfl⟩
      have hcv := one_text wr c
      have hcat : ∀ w, (Op.stringOp .add ⟨#[c]⟩ s).run Tryd.prog w = .ok (.string (⟨#[c]⟩ ++ s)) w := fun w => run_string_add_sum w _ _ (by
        have e : (⟨#[c]⟩ : ByteArray).size = 1 := rfl
        omega)
      have hcx : (x : Int) % 256 = (c.toNat : Int) := by rw [HC.out, UInt8.toNat_ofNat']; omega
      go_wp2_with fail
      go_roundw
      case rel =>
        refine ⟨j + 1, hlt, by go_num, ?_, ?_, HB.out.alloc HB.out.size _⟩
        · rw [Nat.pow_succ, ← Nat.div_div_eq_div_mul, ← HX.out]; go_num
        · rw [be_cons, ← HX.out, ← HC.out, HS.out]
          congr 1
      case measure => simp [intOf]; omega
    · obtain rfl : j = k := by omega
      go_wp2
      go_ret
      exact ⟨by rw [← HS.out]; rfl, HB.out⟩
theorem RefPut_any (m n : Int) (w : World) (h : fitZ m n = true) : Calls Tryd.prog 13 #[.int .i64 m, .int .i64 n] w fun e w' => e = .returned (.string (putZ m n)) ∧ Below w.heap.size w w' := by
  obtain ⟨k, x, rfl, rfl, h1, h4, hx⟩ := fitZ_true h
  rw [putZ_nat h]
  exact RefPut_nat k x w h4 (Nat.lt_of_lt_of_le hx (pow_le4 h4))

theorem add_byte (m : Nat) (c : UInt8) (hm : m < 16777216) : wrap64 (256 * (m : Int) + wrap64 (c.toNat : Int)) = ((256 * m + c.toNat : Nat) : Int) := by
  have hc := c.toNat_lt
  have e1 : wrap64 (c.toNat : Int) = (c.toNat : Int) := by unfold wrap64; omega
  rw [e1]
  unfold wrap64
  omega
def RefGetRel (s : ByteArray) (k : Nat) (n i : Value) : Prop := ∃ j : Nat, j ≤ k ∧ i = .int .i64 (j : Int) ∧ n = .int .i64 (num (s.data.toList.take j) : Int)
set_option maxHeartbeats 1000000 in
theorem RefGet_nat (s : ByteArray) (k : Nat) (w : World) (h4 : k ≤ 4) (hs : k ≤ s.size) : Calls Tryd.prog 17 #[.string s, .int .i64 k] w fun e w' => e = .returned (.int .i64 (num (s.data.toList.take k) : Int)) ∧ w = w' := by
  go_enter Tryd.func17, Tryd.ntmps17
  go_wp2
  go_loop [5, 6] (fun n i => RefGetRel s k n i) (fun _ i => k - (intOf i).toNat)
  case atStart => exact ⟨0, Nat.zero_le _, rfl, rfl⟩
  case round =>
    obtain ⟨j, hj, rfl, rfl⟩ := hrel
    obtain ⟨m, HM⟩ : ∃ m, Hid (m = num (s.data.toList.take j)) := ⟨_, Lib.hid rfl⟩
    rw [← HM.out]
    by_cases hlt : j < k
    · have hlt2 : j < s.size := by omega
      have hm : m < 16777216 := by
        have h1 := num_take_lt s.data.toList j
        have h2 : 256 ^ j ≤ 256 ^ 3 := Nat.pow_le_pow_right (by decide) (by omega)
        rw [HM.out]
        exact Nat.lt_of_lt_of_le h1 h2
      go_wp2
      go_round
      case rel =>
        refine ⟨j + 1, hlt, by go_num, ?_⟩
        rw [num_take (by rw [Array.length_toList]; exact hlt2), ← HM.out]
        exact congrArg (Value.int .i64) (add_byte m _ hm)
      case measure => simp [intOf]; omega
    · obtain rfl : j = k := by omega
      go_wp2
      go_ret
      exact ⟨ret_int (by rw [HM.out]), rfl⟩

set_option maxHeartbeats 1000000 in
theorem RefSize_yes (ws : List Nat) (A : Option Addr) (cap : Nat) (w : World) (hw : Widths ws) (hn : Nums w .i64 A (ints ws)) :
    Calls Tryd.prog 16 #[.slice A ws.length cap] w fun e w' => e = .returned (.int .i64 (ws.sum : Int)) ∧ w = w' := by
  have HW := Lib.hid hw
  have HN := Lib.hid hn
  have h40 := hw.1
  have hsum := hw.sum
  clear hw hn
  have hl : decide ((ws.length : Int) > 40) = false := by simp; omega
  go_enter Tryd.func16, Tryd.ntmps16
  go_wp2
  go_loop [3, 4] (fun s i => SizeRel ws s i) (fun _ i => ws.length - (intOf i).toNat)
  case atStart => exact ⟨0, Nat.zero_le _, rfl, rfl⟩
  case round =>
    obtain ⟨k, hk, rfl, rfl⟩ := hrel
    by_cases hlt : k < ws.length
    · obtain ⟨a, rfl, hc⟩ := HN.out.at_ (ints_at hlt)
      obtain ⟨n, HE⟩ : ∃ n, Hid (n = ws[k]) := ⟨_, Lib.hid rfl⟩
      obtain ⟨s, HS⟩ : ∃ s, Hid (s = (ws.take k).sum) := ⟨_, Lib.hid rfl⟩
      have hs : s ≤ 160 := by have := sum_take_le ws k; rw [HS.out]; omega
      rw [← HE.out] at hc
      rw [← HS.out]
      have h1 : 1 ≤ n := by rw [HE.out]; exact (HW.out.at_ hlt).1
      have h4 : n ≤ 4 := by rw [HE.out]; exact (HW.out.at_ hlt).2
      go_wp2
      go_round
      case rel =>
        refine ⟨k + 1, hlt, by go_num, ?_⟩
        rw [sum_take_succ hlt, ← HS.out, ← HE.out]
        go_num
      case measure => simp [intOf]; omega
    · obtain rfl : k = ws.length := by omega
      go_wp2
      go_ret
      exact ⟨rfl, rfl⟩
set_option maxHeartbeats 1000000 in
theorem RefSize_long (zs : List Int) (A : Option Addr) (cap : Nat) (w : World) (h : 40 < zs.length) (hn : Nums w .i64 A zs) :
    Calls Tryd.prog 16 #[.slice A zs.length cap] w fun e w' => e = .returned (.int .i64 (-1)) ∧ w = w' := by
  have HN := Lib.hid hn
  clear hn
  go_enter Tryd.func16, Tryd.ntmps16
  go_wp2
  go_loop [3, 4] (fun s i => WrongRel 0 s i) (fun _ i => zs.length - (intOf i).toNat)
  case atStart => exact ⟨0, 0, Nat.zero_le _, Nat.zero_le _, rfl, rfl⟩
  case round =>
    obtain ⟨k, t, hk, ht, rfl, rfl⟩ := hrel
    obtain rfl : k = 0 := by omega
    obtain ⟨z, hz⟩ : ∃ z, zs[0]? = some z := ⟨zs[0]'(by omega), List.getElem?_eq_getElem (by omega)⟩
    obtain ⟨a, rfl, hc0⟩ := HN.out.at_ hz
    have hc : w.cell? a = some (.int .i64 z) := by simpa [Addr.add] using hc0
    clear hz
    have h0 : 0 < zs.length := by omega
    by_cases h1 : z < 1
    · go_wp2
      go_ret
      exact ⟨rfl, rfl⟩
    · by_cases h4 : 4 < z
      · go_wp2
        go_ret
        exact ⟨rfl, rfl⟩
      · go_wp2
        go_ret
        exact ⟨rfl, rfl⟩
set_option maxHeartbeats 1000000 in
theorem RefSize_wrong (zs : List Int) (q : Nat) (A : Option Addr) (cap : Nat) (w : World) (hq : WrongAt zs q) (h40 : zs.length ≤ 40) (hn : Nums w .i64 A zs) :
    Calls Tryd.prog 16 #[.slice A zs.length cap] w fun e w' => e = .returned (.int .i64 (-1)) ∧ w = w' := by
  obtain ⟨hql, hqi, z, hqz, hzz⟩ := hq
  have HI := Lib.hid hqi
  have HZ := Lib.hid hqz
  have HN := Lib.hid hn
  have HZZ := Lib.hid hzz
  clear hqi hqz hn hzz
  have hl : decide ((zs.length : Int) > 40) = false := by simp; omega
  go_enter Tryd.func16, Tryd.ntmps16
  go_wp2
  go_loop [3, 4] (fun s i => WrongRel q s i) (fun _ i => zs.length - (intOf i).toNat)
  case atStart => exact ⟨0, 0, Nat.zero_le _, Nat.zero_le _, rfl, rfl⟩
  case round =>
    obtain ⟨k, t, hk, ht, rfl, rfl⟩ := hrel
    by_cases hlt : k < q
    · obtain ⟨n, hz, h1, h4⟩ := HI.out k hlt
      obtain ⟨a, rfl, hc⟩ := HN.out.at_ hz
      clear hz
      have hlt2 : k < zs.length := by omega
      go_wp2
      go_round
      case rel => exact ⟨k + 1, t + n, hlt, by omega, by go_num, by go_num⟩
      case measure => simp [intOf]; omega
    · obtain rfl : q = k := by omega
      obtain ⟨a, rfl, hc⟩ := HN.out.at_ HZ.out
      rcases HZZ.out with h1 | h4
      · go_wp2
        go_ret
        exact ⟨rfl, rfl⟩
      · have h1 : ¬ z < 1 := by omega
        go_wp2
        go_ret
        exact ⟨rfl, rfl⟩
theorem RefSize_any (zs : List Int) (A : Option Addr) (cap : Nat) (w : World) (hn : Nums w .i64 A zs) : Calls Tryd.prog 16 #[.slice A zs.length cap] w fun e w' => e = .returned (.int .i64 (sizeZ zs)) ∧ w = w' := by
  cases h : okW zs with
  | true =>
    obtain ⟨ws, rfl, hw⟩ := okW_true h
    rw [sizeZ_ints hw, ints_length]
    exact RefSize_yes ws A cap w hw hn
  | false =>
    rw [sizeZ_bad h]
    rcases okW_false h hn with h1 | ⟨h1, h2, q, h3⟩
    · exact RefSize_long zs A cap w h1 hn
    · exact RefSize_wrong zs q A cap w h3 h1 h2
end Go.Proofs.YtkdofddhijcahaaDoor
