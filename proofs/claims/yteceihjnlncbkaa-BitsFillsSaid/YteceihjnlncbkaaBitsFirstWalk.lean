/-
  The walk of BitsFirst: First's answer is the least number that isn't in the set. Conditions: none beyond the premises of each theorem.
-/
import Derived.Test.YteceihjnlncbkaaSetRef
namespace Go.Proofs.Yteceihjnlncbkaa
open Go.RowKit
open Bits (Ok has with_ without count countBelow first both)

/-- all numbers from x on, below y and below k, are in it -/
def AllIn (s : List Nat) (x y : Int) (k : Nat) : Prop := ∀ i : Nat, i < k → x ≤ (i : Int) → (i : Int) < y → has s i = true
theorem AllIn.snoc {s : List Nat} {x y : Int} {k : Nat} (h : AllIn s x y k) (hk : x ≤ (k : Int) → (k : Int) < y → has s k = true) : AllIn s x y (k + 1) := fun i hi h1 h2 => by
  rcases Nat.lt_or_ge i k with h3 | h3
  · exact h i h3 h1 h2
  · obtain rfl : i = k := by omega
    exact hk h1 h2
/-- what First answers, if k is the first that isn't in it -/
theorem firstZ_at {s : List Nat} {x y : Int} {k : Nat} (hk : k < 240) (h1 : x ≤ (k : Int)) (h2 : (k : Int) < y) (h3 : has s k = false) (h : AllIn s x y k) : firstZ s x y = some k := by
  unfold firstZ
  exact Bits.first_of (by omega) (by omega) h3 fun m hm hm2 => h m hm2 (by omega) (by omega)
theorem firstZ_none {s : List Nat} {x y : Int} (h : AllIn s x y 240) : firstZ s x y = none := by
  unfold firstZ
  cases e : first s (max x 0).toNat (min y 240 - max x 0).toNat with
  | none => rfl
  | some n =>
    obtain ⟨h1, h2, h3, _⟩ := Bits.first_some e
    have := h n (by omega) (by omega) (by omega)
    rw [h3] at this
    cases this
/-- First's two answers -/
def firstN (o : Option Nat) : Int := match o with | some n => n | none => 0
def firstB (o : Option Nat) : Bool := o.isSome
theorem firstV_eq (o : Option Nat) : firstV o = .tuple #[.int .i64 (firstN o), .bool (firstB o)] := by cases o <;> rfl
/-- how far the walk has come -/
def FirstAt (w : World) (b : Nat) (s : List Nat) (x y : Int) (i : Value) (wr : World) : Prop :=
  ∃ k : Nat, k ≤ 240 ∧ i = .int .i64 k ∧ AllIn s x y k ∧ wr.rangeAt b 0 (stCells s) ∧ Below w.heap.size w wr
set_option maxRecDepth 100000 in
theorem first_walk (s : List Nat) (hok : Ok s) (x y : Int) (w : World) :
    Calls Try.prog 4 #[stV s, .int .i64 x, .int .i64 y] w fun e w' => e = .returned (.bool true) ∧ Below w.heap.size w w' := by
  obtain ⟨w1, HW⟩ : ∃ w1, Hid (w1 = w.alloc (.cells (stArr s) 22)) := ⟨_, Lib.hid rfl⟩
  obtain ⟨b, HBB⟩ : ∃ b, Hid (b = w.heap.size) := ⟨_, Lib.hid rfl⟩
  have HR1 : Hid (w1.rangeAt b 0 (stCells s)) := Lib.hid (by rw [HW.out, HBB.out]; exact (SOwn.new _).at_)
  have HB1 : Hid (Below w.heap.size w w1) := Lib.hid (by rw [HW.out]; exact (Below.refl _ _).alloc (Nat.le_refl _) _)
  go_enter Try.func4, Try.ntmps4
  go_wp2_with fail
  rw [← HW.out, ← HBB.out]
  refine (awake_any _).mono ?_
  rintro e w2 ⟨rfl, hb⟩
  have HB2 := Lib.hid (HB1.out.trans (hb.mono HB1.out.size))
  have HR2 := Lib.hid (range_carry HR1.out hb)
  clear hb HB1 HR1
  go_wp2_with (with_reducible refine set_stop (o := ⟨some 13, _, _, _, _, _⟩) ?_)
  refine wpList_load_arr rfl _ rfl b rfl s hok.len HR2.out ?_
  go_wp2_with fail
  refine (First_any s hok x y _).mono ?_
  rw [firstV_eq]
  obtain ⟨n, HN⟩ : ∃ n, Hid (n = firstN (firstZ s x y)) := ⟨_, Lib.hid rfl⟩
  obtain ⟨v, HV⟩ : ∃ v, Hid (v = firstB (firstZ s x y)) := ⟨_, Lib.hid rfl⟩
  rw [← HN.out, ← HV.out]
  rintro e w3 ⟨rfl, hb⟩
  have HB3 := Lib.hid (HB2.out.trans (hb.mono HB2.out.size))
  have HR3 := Lib.hid (range_carry HR2.out hb)
  clear hb HB2 HR2
  go_wp2_with fail
  go_loopw [9] (fun i wr => FirstAt w b s x y i wr) (fun i _ => 240 - (intOf i).toNat)
  case atStart => exact ⟨0, by decide, rfl, fun i hi => absurd hi (Nat.not_lt_zero i), HR3.out, HB3.out⟩
  case round =>
    obtain ⟨k, hk, rfl, hall, hr, hb⟩ := hrel
    have HR := Lib.hid hr
    have HB := Lib.hid hb
    have HA := Lib.hid hall
    clear hr hb HR3 HB3 hall
    by_cases hlt : k < 240
    · have hlt2 : (k : Int) < 240 := by omega
      by_cases hx : x ≤ (k : Int)
      · by_cases hy : (k : Int) < y
        · go_wp2_with (with_reducible refine set_stop (o := ⟨some 32, _, _, _, _, _⟩) ?_)
          refine wpList_load_arr (by rfl) _ rfl b rfl s hok.len HR.out ?_
          go_wp2_with fail
          refine (RefHas_yes s hok k hlt _).mono ?_
          obtain ⟨u, HU⟩ : ∃ u, Hid (u = has s k) := ⟨_, Lib.hid rfl⟩
          rw [← HU.out]
          rintro e w4 ⟨rfl, hb⟩
          have HB4 := Lib.hid (HB.out.trans (hb.mono HB.out.size))
          have HR4 := Lib.hid (range_carry HR.out hb)
          clear hb HB HR
          cases u with
          | true =>
            go_wp2_with fail
            go_roundw
            case rel => exact ⟨k + 1, hlt, by go_num, HA.out.snoc fun _ _ => HU.out.symm, HR4.out, HB4.out⟩
            case measure => simp [intOf]; omega
          | false =>
            have hf := firstZ_at hlt hx hy HU.out.symm HA.out
            obtain rfl : n = (k : Int) := by rw [HN.out, hf]; rfl
            obtain rfl : v = true := by rw [HV.out, hf]; rfl
            go_wp2_with fail
            go_ret
            exact ⟨rfl, HB4.out⟩
        · have hy2 : decide ((k : Int) < y) = false := decide_eq_false hy
          go_wp2_with fail
          go_roundw
          case rel => exact ⟨k + 1, hlt, by go_num, HA.out.snoc fun _ h => absurd h hy, HR.out, HB.out⟩
          case measure => simp [intOf]; omega
      · have hx2 : decide (x ≤ (k : Int)) = false := decide_eq_false hx
        go_wp2_with fail
        go_roundw
        case rel => exact ⟨k + 1, hlt, by go_num, HA.out.snoc fun h _ => absurd h hx, HR.out, HB.out⟩
        case measure => simp [intOf]; omega
    · obtain rfl : k = 240 := by omega
      have hf := firstZ_none HA.out
      obtain rfl : n = 0 := by rw [HN.out, hf]; rfl
      obtain rfl : v = false := by rw [HV.out, hf]; rfl
      go_wp2_with fail
      go_ret
      exact ⟨rfl, HB.out⟩
end Go.Proofs.Yteceihjnlncbkaa
