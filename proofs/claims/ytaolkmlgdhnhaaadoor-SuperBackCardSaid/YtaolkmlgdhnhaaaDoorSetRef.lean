/-
  The contract of the document's own Has for layer 6; arrays of 30 bytes, loaded and built. Conditions: none beyond the premises of each theorem.
-/
import Derived.Test.YtaolkmlgdhnhaaaDoorSetHas
import Derived.Deep.DeepCutAuto
namespace Go.Proofs.YtaolkmlgdhnhaaaDoor
open Go.RowKit
open Bits (Ok has with_ without count countBelow first both)

theorem Tryd.builtSet : Tryd.prog.built 31 [] = some (stArr zeroSt) := by kernel_rfl
theorem zeroSt_ok : Ok zeroSt := ⟨zeroSt_length, fun b hb => by rw [(List.mem_replicate.1 hb).2]; decide⟩
/-- a literal without parts -/
theorem wpList_build_set {ops : Array Oper} {rest : List Oper} {o : Oper} {a : Act} {w : World} {Q : Exit → Act → World → Prop} (hgd : o.guard = none) (ho : o.op = .build 31 #[])
    (h : wpList Tryd.prog ops Q rest (a.put o.dst (stV zeroSt)) w) : wpList Tryd.prog ops Q (o :: rest) a w :=
  wpList_plain hgd fun _ hK => wp_build 31 #[] ho (by simp [Tryd.builtSet]) (hK _ _ (by simpa [Tryd.builtSet] using h))
theorem Tryd.arr30Size : (Tryd.prog.info? 23).map (·.size) = some 30 := by kernel_rfl
/-- a load of an array of 30 bytes -/
theorem wpList_load_arr {ops : Array Oper} {rest : List Oper} {op : Oper} {a : Act} {w : World} {Q : Exit → Act → World → Prop} (hw : Region.wanted op (yielded ops a.tmps) = true) (x : Operand) (ho : op.op = .load 23 x)
    (b : Nat) (hx : a.eval x = .pointer (some ⟨b, 0, none⟩)) (s : List Nat) (hl : s.length = 30) (hc : w.rangeAt b 0 (stCells s))
    (h : wpList Tryd.prog ops Q rest (a.put op.dst (stV s)) w) : wpList Tryd.prog ops Q (op :: rest) a w :=
  wpList_step fun _ hK => by
    rw [if_pos hw]
    exact wp_load_mid 23 x ho b 0 hx (stCells s) _ hc Tryd.underlying23 rfl (by rw [stCells_length, hl]; exact Tryd.arr30Size) (hK _ _ h)
def HasRel (a j : Nat) (x i : Value) : Prop := ∃ k : Nat, k ≤ j ∧ i = .int .i64 (k : Int) ∧ x = .int .u8 ((a / 2 ^ k : Nat) : Int)
set_option maxRecDepth 100000 in
theorem RefHas_yes (s : List Nat) (h : Ok s) (m : Nat) (hm : m < 240) (w : World) :
    Calls Tryd.prog 31 #[stV s, .int .i64 m] w fun e w' => e = .returned (.bool (has s m)) ∧ Below w.heap.size w w' := by
  obtain ⟨w1, HW⟩ : ∃ w1, Hid (w1 = w.alloc (.cells (stArr s) 23)) := ⟨_, Lib.hid rfl⟩
  have hr : w1.rangeAt w.heap.size 0 (stCells s) := by rw [HW.out]; exact (SOwn.new _).at_
  have hc := set_at hr (i := m / 8) (by rw [h.len]; omega)
  have hb : Below w.heap.size w w1 := by rw [HW.out]; exact (Below.refl _ _).alloc (Nat.le_refl _) _
  have HB := Lib.hid hb
  have hd : Bits.at_ s (m / 8) < 256 := Bits.at_lt h _
  obtain ⟨a, HA⟩ : ∃ a, Hid (a = Bits.at_ s (m / 8)) := ⟨_, Lib.hid rfl⟩
  have HV : Hid (has s m = decide (a / 2 ^ (m % 8) % 2 = 1)) := Lib.hid (by rw [HA.out]; exact Bits.has_div s m)
  rw [← HA.out] at hc hd
  obtain ⟨i, HI⟩ : ∃ i, Hid (i = m / 8) := ⟨_, Lib.hid rfl⟩
  rw [← HI.out] at hc
  have hmi : (m : Int) / 8 = (i : Int) := by rw [HI.out]; omega
  have hi2 : (i : Int) < 30 := by have := HI.out; omega
  obtain ⟨q, HQ⟩ : ∃ q, Hid (q = m % 8) := ⟨_, Lib.hid rfl⟩
  have hmq : (m : Int) % 8 = (q : Int) := by rw [HQ.out]; omega
  have hm1 : (0 : Int) ≤ (m : Int) := by omega
  have hm2 : (m : Int) ≤ 239 := by omega
  clear hb hr
  go_enter Tryd.func31, Tryd.ntmps31
  go_upto_region 1 with (fail)
  rw [← HW.out]
  go_wp2_with fail
  go_loop [5, 6] (fun x j => HasRel a q x j) (fun _ j => q - (intOf j).toNat)
  case atStart => exact ⟨0, Nat.zero_le _, rfl, by simp⟩
  case round =>
    obtain ⟨k, hk, rfl, rfl⟩ := hrel
    obtain ⟨x, HX⟩ : ∃ x, Hid (x = a / 2 ^ k) := ⟨_, Lib.hid rfl⟩
    have hx : x < 256 := by rw [HX.out]; exact Nat.lt_of_le_of_lt (Nat.div_le_self _ _) hd
    rw [← HX.out]
    by_cases hlt : k < q
    · go_wp2
      go_round
      case rel =>
        refine ⟨k + 1, hlt, by go_num, ?_⟩
        rw [Nat.pow_succ, ← Nat.div_div_eq_div_mul, ← HX.out]
        go_num
      case measure => simp [intOf]; omega
    · obtain rfl : k = q := by omega
      go_wp2
      go_ret
      refine ⟨?_, HB.out⟩
      rw [HV.out, ← HQ.out, ← HX.out]
      refine set_bool ?_
      rw [Bool.eq_iff_iff]
      simp
      omega
set_option maxRecDepth 100000 in
theorem RefHas_no (s : List Nat) (n : Int) (hn : isNum n = false) (w : World) :
    Calls Tryd.prog 31 #[stV s, .int .i64 n] w fun e w' => e = .returned (.bool false) ∧ Below w.heap.size w w' := by
  have hn' : ¬ (0 ≤ n ∧ n < 240) := of_decide_eq_false hn
  rcases (show n < 0 ∨ 0 ≤ n by omega) with h1 | h1
  · go_enter Tryd.func31, Tryd.ntmps31
    go_wp2_with fail
    go_ret
    exact ⟨rfl, (Below.refl _ _).alloc (Nat.le_refl _) _⟩
  · have h2 : 239 < n := by omega
    go_enter Tryd.func31, Tryd.ntmps31
    go_wp2_with fail
    go_ret
    exact ⟨rfl, (Below.refl _ _).alloc (Nat.le_refl _) _⟩
theorem RefHas_any (s : List Nat) (h : Ok s) (n : Int) (w : World) :
    Calls Tryd.prog 31 #[stV s, .int .i64 n] w fun e w' => e = .returned (.bool (hasZ s n)) ∧ Below w.heap.size w w' := by
  cases hn : isNum n with
  | true =>
    obtain ⟨m, rfl, hm⟩ := isNum_true hn
    rw [hasZ_nat hm]
    exact RefHas_yes s h m hm w
  | false =>
    have e : hasZ s n = false := by unfold hasZ; rw [hn, Bool.false_and]
    rw [e]
    exact RefHas_no s n hn w
end Go.Proofs.YtaolkmlgdhnhaaaDoor
