/-
  The document's own Read (layer 14). Conditions: none beyond the premises of each theorem.
-/
import Derived.Test.YtoempilmofbhdaaDoorGridLayMath
import Derived.Test.YtoempilmofbhdaaDoorGridRefRight
namespace Go.Proofs.YtoempilmofbhdaaDoor
open Go Go.RowKit Go.Shelf

theorem layRows_snoc (l : List (List UInt8)) (r : List UInt8) : Grid.layRows (l ++ [r]) = Grid.layRows l ++ r ++ [10] := by
  unfold Grid.layRows
  rw [List.flatMap_append]
  simp
theorem rows_app : ∀ {l : List (List UInt8)} {rest : List UInt8}, (∀ r ∈ l, ∀ c ∈ r, c ≠ 10) → Grid.rows (Grid.layRows l ++ rest) = (Grid.rows rest).map (l ++ ·)
  | [], rest, _ => by
    show Grid.rows rest = _
    cases Grid.rows rest <;> rfl
  | r :: l, rest, h => by
    have ih := rows_app (l := l) (rest := rest) fun x hx => h x (by simp [hx])
    have e : Grid.layRows (r :: l) ++ rest = r ++ 10 :: (Grid.layRows l ++ rest) := by
      unfold Grid.layRows
      rw [List.flatMap_cons]
      simp
    rw [e, Grid.rows_row (h r (by simp)), ih]
    cases Grid.rows rest <;> rfl
/-- what is read of the first i signs: l, the rows; the rest is behind from -/
structure Part (xs : List UInt8) (i frm : Nat) (l : List (List UInt8)) : Prop where
  le : frm ≤ i
  lei : i ≤ xs.length
  pre : xs.take frm = Grid.layRows l
  no : ∀ r ∈ l, ∀ c ∈ r, c ≠ 10
  even : Even l
  rest : ∀ c ∈ (xs.drop frm).take (i - frm), c ≠ 10
theorem Part.start (xs : List UInt8) : Part xs 0 0 [] := ⟨Nat.le_refl _, Nat.zero_le _, rfl, (fun r hr => by cases hr), (fun r hr => by cases hr), (fun c hc => by simp at hc)⟩
theorem take_one {xs : List UInt8} {i frm : Nat} (h : frm ≤ i) (hi : i < xs.length) : (xs.drop frm).take (i + 1 - frm) = (xs.drop frm).take (i - frm) ++ [xs[i]] := by
  rw [show i + 1 - frm = (i - frm) + 1 by omega, List.take_succ_eq_append_getElem (by rw [List.length_drop]; omega)]
  congr 2
  rw [List.getElem_drop]
  congr 1
  omega
theorem Part.skip {xs : List UInt8} {i frm : Nat} {l : List (List UInt8)} (h : Part xs i frm l) (hi : i < xs.length) (hc : xs[i] ≠ 10) : Part xs (i + 1) frm l :=
  ⟨by have := h.le; omega, hi, h.pre, h.no, h.even, fun c hm => by
    rw [take_one h.le hi] at hm
    rcases List.mem_append.1 hm with hm | hm
    · exact h.rest c hm
    · rw [List.mem_singleton.1 hm]; exact hc⟩
/-- the row that ends at i -/
def rowAt (xs : List UInt8) (frm i : Nat) : List UInt8 := (xs.drop frm).take (i - frm)
theorem rowAt_length {xs : List UInt8} {frm i : Nat} (hi : i ≤ xs.length) : (rowAt xs frm i).length = i - frm := by
  unfold rowAt; rw [List.length_take, List.length_drop]; omega
theorem Part.lays {xs : List UInt8} {i frm : Nat} {l : List (List UInt8)} (h : Part xs i frm l) (hi : i < xs.length) (hc : xs[i] = 10) : xs.take (i + 1) = Grid.layRows (l ++ [rowAt xs frm i]) := by
  rw [layRows_snoc, ← h.pre, show i + 1 = frm + (i + 1 - frm) by have := h.le; omega, List.take_add, take_one h.le hi, hc, List.append_assoc]
  rfl
theorem Part.line {xs : List UInt8} {i frm : Nat} {l : List (List UInt8)} (h : Part xs i frm l) (hi : i < xs.length) (hc : xs[i] = 10) (hw : l = [] ∨ i - frm = wid l) : Part xs (i + 1) (i + 1) (l ++ [rowAt xs frm i]) := by
  have hlen := rowAt_length (frm := frm) (Nat.le_of_lt hi)
  refine ⟨Nat.le_refl _, hi, h.lays hi hc, fun r hr => ?_, fun r hr => ?_, fun c hm => by simp at hm⟩
  · rcases List.mem_append.1 hr with hr | hr
    · exact h.no r hr
    · rw [List.mem_singleton.1 hr]; exact h.rest
  · by_cases hn : l = []
    · subst hn
      rw [List.nil_append, List.mem_singleton] at hr
      subst hr
      rfl
    · rw [wid_append _ _ hn]
      rcases List.mem_append.1 hr with hr | hr
      · exact h.even r hr
      · rw [List.mem_singleton.1 hr, hlen]
        exact hw.resolve_left hn
open Classical in
theorem parse_uneven {xs : List UInt8} {l : List (List UInt8)} {rest : List UInt8} (hx : xs = Grid.layRows l ++ rest) (hno : ∀ r ∈ l, ∀ c ∈ r, c ≠ 10) (hne : ∀ m, ¬ Even (l ++ m)) : parseM xs = none := by
  unfold parseM
  split
  · rw [hx, rows_app hno]
    cases Grid.rows rest with
    | none => rfl
    | some m =>
      show (if Even (l ++ m) ∧ _ then _ else none) = _
      rw [if_neg fun h => hne m h.1]
  · rfl
theorem Part.bad {xs : List UInt8} {i frm : Nat} {l : List (List UInt8)} (h : Part xs i frm l) (hi : i < xs.length) (hc : xs[i] = 10) (hn : l ≠ []) (hw : i - frm ≠ wid l) : parseM xs = none := by
  have hlen := rowAt_length (frm := frm) (Nat.le_of_lt hi)
  refine parse_uneven (l := l ++ [rowAt xs frm i]) (rest := xs.drop (i + 1)) (by rw [← h.lays hi hc, List.take_append_drop]) (fun r hr => ?_) fun m he => ?_
  · rcases List.mem_append.1 hr with hr | hr
    · exact h.no r hr
    · rw [List.mem_singleton.1 hr]; exact h.rest
  · have h1 := he (rowAt xs frm i) (by simp)
    rw [List.append_assoc, wid_append _ _ hn, hlen] at h1
    exact hw h1
open Classical in
theorem Part.open_ {xs : List UInt8} {frm : Nat} {l : List (List UInt8)} (h : Part xs xs.length frm l) (hf : frm ≠ xs.length) : parseM xs = none := by
  have hx : xs = Grid.layRows l ++ xs.drop frm := by rw [← h.pre, List.take_append_drop]
  have hr : Grid.rows (xs.drop frm) = none := Grid.rows_none (fun c hm => h.rest c (by rw [List.take_of_length_le (by rw [List.length_drop]; exact Nat.le_refl _)]; exact hm)) (by
    intro e
    have h1 := congrArg List.length e
    rw [List.length_drop, List.length_nil] at h1
    have h2 := h.le
    omega)
  have h2 : Grid.rows xs = none := by rw [hx, rows_app h.no, hr]; rfl
  unfold parseM
  rw [h2]
  split <;> rfl
theorem Part.whole {xs : List UInt8} {l : List (List UInt8)} (h : Part xs xs.length xs.length l) : parseM xs = if Grid.rightB (wid l : Int) (l.length : Int) l.flatten = true then some (wid l, l.length, l.flatten) else none := by
  have hx : xs = Grid.layRows l := by rw [← h.pre, List.take_length]
  have hrows : Grid.rows xs = some l := by rw [hx]; exact Grid.rows_lay h.no
  by_cases h72 : xs.length ≤ 72
  · exact parse_good h72 (rows_lines.1 hrows).1 h.no h.even
  · unfold parseM
    rw [if_neg h72]
    split
    · rename_i hr
      exfalso
      have hr2 := Grid.rightB_iff.1 hr
      obtain ⟨a, h9, ha, hh, _, h8, _, hh8, hn, _⟩ := Grid.sized_nat hr2.1
      have hlen : (layOf l.flatten (wid l) (List.range l.length)).length = xs.length := by rw [flat_lay fun r hr => h.even r hr, hx]
      have ha2 : wid l = a := by omega
      have hh2 : l.length = h9 := by omega
      rw [layOf_length (a := wid l) (h := l.length) (by rw [ha2, hh2]; exact hn) _ (fun k hk => List.mem_range.1 hk), List.length_range] at hlen
      have := Nat.mul_le_mul (show l.length ≤ 8 by omega) (show wid l + 1 ≤ 9 by omega)
      omega
    · rfl
end Go.Proofs.YtoempilmofbhdaaDoor
