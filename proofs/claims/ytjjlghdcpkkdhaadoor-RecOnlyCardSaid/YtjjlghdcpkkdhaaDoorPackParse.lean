/-
  The contract of pack.Parse where the widths may be, and the text has as many bytes: the numbers, one behind the other. Conditions: none beyond the premises of each theorem.
-/
import Derived.Test.YtjjlghdcpkkdhaaDoorPackFields
namespace Go.Proofs.YtjjlghdcpkkdhaaDoor
open Go.RowKit

/-- the numbers of bytes, by widths -/
def splits : List Nat → List UInt8 → List Nat
  | [], _ => []
  | k :: r, s => num (s.take k) :: splits r (s.drop k)
theorem splits_length (ws : List Nat) (s : List UInt8) : (splits ws s).length = ws.length := by
  induction ws generalizing s with
  | nil => rfl
  | cons k r ih => simp [splits, ih]
theorem splits_at {ws : List Nat} (s : List UInt8) {j : Nat} (h : j < ws.length) : (splits ws s)[j]'(by rw [splits_length]; exact h) = num ((s.drop (ws.take j).sum).take ws[j]) := by
  induction ws generalizing s j with
  | nil => simp at h
  | cons k r ih =>
    cases j with
    | zero => simp [splits]
    | succ j =>
      simp only [splits, List.getElem_cons_succ, List.take_succ_cons, List.sum_cons]
      rw [ih _ (by simpa using h), List.drop_drop]
theorem splits_lays {ws ns : List Nat} (hl : ns.length = ws.length) (hf : FitAll ws ns) : splits ws (lays (ws.zip ns)) = ns := by
  induction ws generalizing ns with
  | nil =>
    obtain rfl := List.eq_nil_of_length_eq_zero hl
    rfl
  | cons k r ih =>
    cases ns with
    | nil => simp at hl
    | cons n q =>
      have h0 : n < 256 ^ k := hf 0 (by simp) (by simp)
      have e1 : (be k n ++ lays (r.zip q)).take k = be k n := by
        rw [List.take_append_of_le_length (by rw [be_length]; exact Nat.le_refl _), be_full]
      have e2 : (be k n ++ lays (r.zip q)).drop k = lays (r.zip q) := by
        rw [List.drop_append_of_le_length (by rw [be_length]; exact Nat.le_refl _), List.drop_of_length_le (by rw [be_length]; exact Nat.le_refl _)]
        rfl
      show num ((be k n ++ lays (r.zip q)).take k) :: splits r ((be k n ++ lays (r.zip q)).drop k) = n :: q
      rw [e1, e2, num_be h0, ih (by simpa using hl) (fun i h1 h2 => hf (i + 1) (Nat.succ_lt_succ h1) (Nat.succ_lt_succ h2))]

/-- the first j of them, the others still 0 -/
def partly (l : List Nat) (j : Nat) : List Nat := l.take j ++ List.replicate (l.length - j) 0
theorem partly_length (l : List Nat) {j : Nat} (h : j ≤ l.length) : (partly l j).length = l.length := by
  simp [partly]
  omega
theorem partly_set {l : List Nat} {j : Nat} (h : j < l.length) : (partly l j).set j l[j] = partly l (j + 1) := by
  unfold partly
  have e : l.length - j = (l.length - (j + 1)) + 1 := by omega
  rw [List.set_append_right _ _ (by rw [List.length_take]; omega), List.length_take, Nat.min_eq_left (by omega), Nat.sub_self, e, List.replicate_succ, List.set_cons_zero, List.take_add_one, List.getElem?_eq_getElem h, List.append_assoc]
  rfl
theorem partly_all (l : List Nat) : partly l l.length = l := by simp [partly]
def numCells (l : List Nat) : List Value := (ints l).map (Value.int .i64)
theorem numCells_set (l : List Nat) (j x : Nat) : (numCells l).set j (.int .i64 (x : Int)) = numCells (l.set j x) := by simp [numCells, ints, List.map_set]
theorem Tryd.infoInt : (Tryd.prog.info? 3).map (fun i => (i.zero, i.size, i.bytes)) = some (some (.int .i64 0), 1, 8) := by kernel_rfl
theorem made_nums (n : Nat) (l : List Nat) (h : l.length = n) : (madeCells (Value.int .i64 0).cells (n * 1)).toList = numCells (partly l 0) := by
  have e : (Value.int .i64 0).cells = #[.int .i64 0] := rfl
  rw [e, Nat.mul_one, toList_madeCells_one]
  simp [numCells, ints, partly, h]

def ParseRel (g : Nat) (ws : List Nat) (s : List UInt8) (w : World) (t i : Value) (wr : World) : Prop :=
  ∃ j : Nat, j ≤ ws.length ∧ i = .int .i64 (j : Int) ∧ t = .int .i64 ((ws.take j).sum : Int) ∧ wr.ownsRow w.heap.size 3 1 (.slice (some ⟨g, 0, none⟩) ws.length ws.length) ws.length (numCells (partly (splits ws s) j)) ∧ Below w.heap.size w wr
/-- the numbers lie in a row of the call's own -/
def ParseOwn (l : List Nat) (w : World) (e : Ending) (w' : World) : Prop := ∃ g cap : Nat, w.heap.size ≤ g ∧ e = .returned (.tuple #[.slice (some ⟨g, 0, none⟩) l.length cap, .nilIface]) ∧ Nums w' .i64 (some ⟨g, 0, none⟩) (ints l) ∧ Below w.heap.size w w'
def ParsePost (l : List Nat) (w : World) (e : Ending) (w' : World) : Prop := ∃ A cap, e = .returned (.tuple #[.slice A l.length cap, .nilIface]) ∧ Nums w' .i64 A (ints l) ∧ Below w.heap.size w w'

set_option maxHeartbeats 2000000 in
set_option maxRecDepth 100000 in
theorem Parse_own (ws : List Nat) (s : ByteArray) (A : Option Addr) (cap : Nat) (w : World) (hw : Widths ws) (hn : Nums w .i64 A (ints ws)) (hl : s.size = ws.sum) :
    Calls Tryd.prog 41 #[.slice A ws.length cap, .string s] w (ParseOwn (splits ws s.data.toList) w) := by
  obtain ⟨i0, hi, hz0, hz1, hz2⟩ := info_parts Tryd.infoInt
  have HW := Lib.hid hw
  have HN := Lib.hid hn
  have HL := Lib.hid hl
  have hl1 : ((s.size : Int) != (ws.sum : Int)) = false := by simp; omega
  have hsum := hw.sum
  have h40 := hw.1
  clear hw hn hl
  go_enter Tryd.func41, Tryd.ntmps41
  go_wp2_with fail
  refine (Size_yes ws A cap _ HW.out HN.out).mono ?_
  rintro e w' ⟨rfl, rfl⟩
  go_wp2_with (at_make; refine wpList_make_full _ rfl _ _ 62 rfl w.heap.size 3 i0 (.int .i64 0) 1 Tryd.underlying62 hi hz0 hz1 .i64 .i64 _ _ ws.length rfl rfl rfl rfl (by rw [hz2]; omega) (by unfold maxLen; omega) (Nat.le_refl _) ?_; intro w1 hown1 hgrow1)
  rw [made_nums ws.length (splits ws s.data.toList) (splits_length _ _)] at hown1
  have HO := Lib.hid hown1
  have HB := Lib.hid ((Below.refl w.heap.size w).grown hgrow1 (Nat.le_refl _) (fun _ h => by cases h))
  clear hown1 hgrow1 hi hz0 hz1 hz2
  obtain ⟨g, HG⟩ : ∃ g, Hid (g = w.heap.size) := ⟨_, Lib.hid rfl⟩
  rw [← HG.out] at HO ⊢
  go_loopw [8, 26] (fun t i wr => ParseRel g ws s.data.toList w t i wr) (fun _ i _ => ws.length - (intOf i).toNat)
  case atStart => exact ⟨0, Nat.zero_le _, rfl, rfl, by rw [← HG.out]; exact HO.out, HB.out⟩
  case round =>
    obtain ⟨j, hj, rfl, rfl, ho, hb⟩ := hrel
    have HO' := Lib.hid ho
    have HB' := Lib.hid hb
    clear ho hb HO HB
    obtain ⟨t, HT⟩ : ∃ t, Hid (t = (ws.take j).sum) := ⟨_, Lib.hid rfl⟩
    have ht : t ≤ 160 := by have := sum_take_le ws j; rw [HT.out]; omega
    rw [← HT.out]
    by_cases hlt : j < ws.length
    · obtain ⟨a, rfl, hc⟩ := (HN.out.carry HB'.out).at_ (ints_at hlt)
      obtain ⟨k, HK⟩ : ∃ k, Hid (k = ws[j]) := ⟨_, Lib.hid rfl⟩
      rw [← HK.out] at hc
      have h1 : 1 ≤ k := by rw [HK.out]; exact (HW.out.at_ hlt).1
      have h4 : k ≤ 4 := by rw [HK.out]; exact (HW.out.at_ hlt).2
      have hts : t + k ≤ s.size := by
        have e1 := sum_take_succ hlt
        have e2 := sum_take_le ws (j + 1)
        have e3 := HL.out
        rw [HK.out, HT.out]
        omega
      have hsp : j < (splits ws s.data.toList).length := by rw [splits_length]; exact hlt
      have hpl : (partly (splits ws s.data.toList) j).length = ws.length := by rw [partly_length _ (by omega), splits_length]
      obtain ⟨old, hcg⟩ : ∃ old : Nat, wr.cell? ⟨g, j, none⟩ = some (.int .i64 (old : Int)) :=
        ⟨(partly (splits ws s.data.toList) j)[j]'(by rw [hpl]; exact hlt), by rw [HO'.out.cellAt j (by omega)]; simp [numCells, ints, hpl, hlt]⟩
      have hfg : wr.frozen? ⟨g, j, none⟩ = false := HO'.out.frozenAt j
      clear hpl
      go_wp2_with fail
      refine (read_any (s.extract t (t + k)) _ (by rw [ByteArray.size_extract]; omega)).mono ?_
      have ex : num (s.extract t (t + k)).data.toList = (splits ws s.data.toList)[j] := by
        rw [splits_at _ hlt, extract_list, Nat.add_sub_cancel_left, ← HT.out, ← HK.out]
      obtain ⟨x, HX⟩ : ∃ x, Hid (x = (splits ws s.data.toList)[j]) := ⟨_, Lib.hid rfl⟩
      rw [ex, ← HX.out]
      clear ex
      rintro e w' ⟨rfl, rfl⟩
      go_wp2_with fail
      go_roundw
      case rel =>
        refine ⟨j + 1, hlt, by go_num, ?_, ?_, HB'.out.setCell (by rw [HG.out]; exact Nat.le_refl _) _⟩
        · rw [sum_take_succ hlt, ← HT.out, ← HK.out]; go_num
        · have e := (HO'.out.stored j (.int .i64 (x : Int))).1
          rw [numCells_set, HX.out, partly_set hsp] at e
          rw [← HX.out] at e
          exact e
      case measure => simp [intOf]; omega
    · obtain rfl : j = ws.length := by omega
      go_wp2_with fail
      go_ret2
      refine ⟨g, ws.length, by rw [HG.out]; exact Nat.le_refl _, ?_, ?_, HB'.out⟩
      · rw [splits_length]; rfl
      · have e := HO'.out
        have e2 := partly_all (splits ws s.data.toList)
        rw [splits_length] at e2
        rw [e2] at e
        exact Nums.own e
theorem Parse_yes (ws : List Nat) (s : ByteArray) (A : Option Addr) (cap : Nat) (w : World) (hw : Widths ws) (hn : Nums w .i64 A (ints ws)) (hl : s.size = ws.sum) :
    Calls Tryd.prog 41 #[.slice A ws.length cap, .string s] w (ParsePost (splits ws s.data.toList) w) := (Parse_own ws s A cap w hw hn hl).mono fun _ _ ⟨_, _, _, h1, h2, h3⟩ => ⟨_, _, h1, h2, h3⟩
end Go.Proofs.YtjjlghdcpkkdhaaDoor
