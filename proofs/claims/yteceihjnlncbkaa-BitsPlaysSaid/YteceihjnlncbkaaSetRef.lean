/-
  The contracts of the document's own Has for layer 6, and of the chapter's example. Conditions: none beyond the premises of each theorem.
-/
import Derived.Test.YteceihjnlncbkaaSetCount
import Derived.Deep.DeepCutAuto
namespace Go.Proofs.Yteceihjnlncbkaa
open Go.RowKit
open Bits (Ok has with_ without count countBelow first both)

theorem Try.builtSet : Try.prog.built 28 [] = some (stArr zeroSt) := by kernel_rfl
theorem zeroSt_ok : Ok zeroSt := ⟨zeroSt_length, fun b hb => by rw [(List.mem_replicate.1 hb).2]; decide⟩
theorem awake_first : firstZ (withZ (withZ zeroSt 0) 1) 0 240 = some 2 := by decide +kernel
/-- a literal without parts -/
theorem wpList_build_set {ops : Array Oper} {rest : List Oper} {o : Oper} {a : Act} {w : World} {Q : Exit → Act → World → Prop} (hgd : o.guard = none) (ho : o.op = .build 28 #[])
    (h : wpList Try.prog ops Q rest (a.put o.dst (stV zeroSt)) w) : wpList Try.prog ops Q (o :: rest) a w :=
  wpList_plain hgd fun _ hK => wp_build 28 #[] ho (by simp [Try.builtSet]) (hK _ _ (by simpa [Try.builtSet] using h))
set_option maxRecDepth 100000 in
theorem awake_any (w : World) : Calls Try.prog 8 #[] w fun e w' => e = .returned (.bool true) ∧ Below w.heap.size w w' := by
  go_enter Try.func8, Try.ntmps8
  go_wp2_with (with_reducible refine set_stop (o := ⟨some 4, _, _, _, _, _⟩) ?_)
  refine wpList_build_set rfl rfl ?_
  go_wp2_with fail
  refine (With_any zeroSt zeroSt_ok 0 _).mono ?_
  obtain ⟨s1, H1⟩ : ∃ s1, Hid (s1 = withZ zeroSt 0) := ⟨_, Lib.hid rfl⟩
  have HO1 : Hid (Ok s1) := Lib.hid (by rw [H1.out]; exact withZ_ok zeroSt_ok 0)
  rw [← H1.out]
  rintro e w1 ⟨rfl, hb⟩
  have HB1 := Lib.hid hb
  clear hb
  go_wp2_with fail
  refine (With_any s1 HO1.out 1 _).mono ?_
  obtain ⟨s2, H2⟩ : ∃ s2, Hid (s2 = withZ s1 1) := ⟨_, Lib.hid rfl⟩
  have HO2 : Hid (Ok s2) := Lib.hid (by rw [H2.out]; exact withZ_ok HO1.out 1)
  rw [← H2.out]
  rintro e w2 ⟨rfl, hb⟩
  have HB2 := Lib.hid (HB1.out.trans (hb.mono HB1.out.size))
  clear hb
  go_wp2_with fail
  refine (First_any s2 HO2.out 0 240 _).mono ?_
  rw [H2.out, H1.out, awake_first]
  rintro e w3 ⟨rfl, hb⟩
  have HB3 := Lib.hid (HB2.out.trans (hb.mono HB2.out.size))
  clear hb
  unfold firstV
  go_wp2_with fail
  go_ret
  exact ⟨rfl, HB3.out⟩

theorem Try.arrSize : (Try.prog.info? 22).map (·.size) = some 30 := by kernel_rfl
/-- a load of an array of 30 bytes -/
theorem wpList_load_arr {ops : Array Oper} {rest : List Oper} {op : Oper} {a : Act} {w : World} {Q : Exit → Act → World → Prop} (hw : Region.wanted op (yielded ops a.tmps) = true) (x : Operand) (ho : op.op = .load 22 x)
    (b : Nat) (hx : a.eval x = .pointer (some ⟨b, 0, none⟩)) (s : List Nat) (hl : s.length = 30) (hc : w.rangeAt b 0 (stCells s))
    (h : wpList Try.prog ops Q rest (a.put op.dst (stV s)) w) : wpList Try.prog ops Q (op :: rest) a w :=
  wpList_step fun _ hK => by
    rw [if_pos hw]
    exact wp_load_mid 22 x ho b 0 hx (stCells s) _ hc Try.underlying22 rfl (by rw [stCells_length, hl]; exact Try.arrSize) (hK _ _ h)
def HasRel (a j : Nat) (x i : Value) : Prop := ∃ k : Nat, k ≤ j ∧ i = .int .i64 (k : Int) ∧ x = .int .u8 ((a / 2 ^ k : Nat) : Int)
set_option maxRecDepth 100000 in
theorem RefHas_yes (s : List Nat) (h : Ok s) (m : Nat) (hm : m < 240) (w : World) :
    Calls Try.prog 11 #[stV s, .int .i64 m] w fun e w' => e = .returned (.bool (has s m)) ∧ Below w.heap.size w w' := by
  obtain ⟨w1, HW⟩ : ∃ w1, Hid (w1 = w.alloc (.cells (stArr s) 22)) := ⟨_, Lib.hid rfl⟩
  have hr : w1.rangeAt w.heap.size 0 (stCells s) := by rw [HW.out]; exact (SOwn.new _).at_
  have hc := set_at hr (i := m / 8) (by rw [h.len]; omega)
  have hb : Below w.heap.size w w1 := by rw [HW.out]; exact (Below.refl _ _).alloc (Nat.le_refl _) _
  have HB := Lib.hid hb
  have hd : Bits.at_ s (m / 8) < 256 := Bits.at_lt h _
  obtain ⟨a, HA⟩ : ∃ a, Hid (a = Bits.at_ s (m / 8)) := ⟨_, Lib.hid rfl⟩
  have HV : Hid (has s m = decide (a / 2 ^ (m % 8) % 2 = 1)) := Lib.hid (by rw [HA.out]; exact Bits.has_div s m)
  rw [← HA.out] at hc hd
  obtain ⟨i, HI⟩ : ∃ i, Hid (i = m / 8) := ⟨_, Lib.hid rfl⟩
  rw [← HI.out] at hc
  have hmi : (m : Int) / 8 = (i : Int) := by rw [HI.out]; omega
  have hi2 : (i : Int) < 30 := by have := HI.out; omega
  obtain ⟨q, HQ⟩ : ∃ q, Hid (q = m % 8) := ⟨_, Lib.hid rfl⟩
  have hmq : (m : Int) % 8 = (q : Int) := by rw [HQ.out]; omega
  have hm1 : (0 : Int) ≤ (m : Int) := by omega
  have hm2 : (m : Int) ≤ 239 := by omega
  clear hb hr
  go_enter Try.func11, Try.ntmps11
  go_upto_region 1 with (fail)
  rw [← HW.out]
  go_wp2_with fail
  go_loop [5, 6] (fun x j => HasRel a q x j) (fun _ j => q - (intOf j).toNat)
  case atStart => exact ⟨0, Nat.zero_le _, rfl, by simp⟩
  case round =>
    obtain ⟨k, hk, rfl, rfl⟩ := hrel
    obtain ⟨x, HX⟩ : ∃ x, Hid (x = a / 2 ^ k) := ⟨_, Lib.hid rfl⟩
    have hx : x < 256 := by rw [HX.out]; exact Nat.lt_of_le_of_lt (Nat.div_le_self _ _) hd
    rw [← HX.out]
    by_cases hlt : k < q
    · go_wp2
      go_round
      case rel =>
        refine ⟨k + 1, hlt, by go_num, ?_⟩
        rw [Nat.pow_succ, ← Nat.div_div_eq_div_mul, ← HX.out]
        go_num
      case measure => simp [intOf]; omega
    · obtain rfl : k = q := by omega
      go_wp2
      go_ret
      refine ⟨?_, HB.out⟩
      rw [HV.out, ← HQ.out, ← HX.out]
      refine set_bool ?_
      rw [Bool.eq_iff_iff]
      simp
      omega
set_option maxRecDepth 100000 in
theorem RefHas_no (s : List Nat) (n : Int) (hn : isNum n = false) (w : World) :
    Calls Try.prog 11 #[stV s, .int .i64 n] w fun e w' => e = .returned (.bool false) ∧ Below w.heap.size w w' := by
  have hn' : ¬ (0 ≤ n ∧ n < 240) := of_decide_eq_false hn
  rcases (show n < 0 ∨ 0 ≤ n by omega) with h1 | h1
  · go_enter Try.func11, Try.ntmps11
    go_wp2_with fail
    go_ret
    exact ⟨rfl, (Below.refl _ _).alloc (Nat.le_refl _) _⟩
  · have h2 : 239 < n := by omega
    go_enter Try.func11, Try.ntmps11
    go_wp2_with fail
    go_ret
    exact ⟨rfl, (Below.refl _ _).alloc (Nat.le_refl _) _⟩
theorem RefHas_any (s : List Nat) (h : Ok s) (n : Int) (w : World) :
    Calls Try.prog 11 #[stV s, .int .i64 n] w fun e w' => e = .returned (.bool (hasZ s n)) ∧ Below w.heap.size w w' := by
  cases hn : isNum n with
  | true =>
    obtain ⟨m, rfl, hm⟩ := isNum_true hn
    rw [hasZ_nat hm]
    exact RefHas_yes s h m hm w
  | false =>
    have e : hasZ s n = false := by unfold hasZ; rw [hn, Bool.false_and]
    rw [e]
    exact RefHas_no s n hn w
end Go.Proofs.Yteceihjnlncbkaa
