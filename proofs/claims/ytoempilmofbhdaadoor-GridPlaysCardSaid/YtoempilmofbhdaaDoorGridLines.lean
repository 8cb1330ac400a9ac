/-
  strings.Lines (an iterator that keeps the rest of the text in a variable of its own): the lines of a text, each with its end. Conditions: none beyond the premises of each theorem.
-/
import Derived.Test.YtoempilmofbhdaaDoorSeqBox
import Derived.Test.YtoempilmofbhdaaDoorGridShelf
import Derived.Test.YtoempilmofbhdaaDoorRegionHead
import Derived.Test.YtoempilmofbhdaaDoorStop
import Derived.Deep.Cut
import Derived.Deep.DeepCutAuto
import Derived.Lib.Hide
import Derived.Shelf.Abstract
import Derived.Shelf.RegionOpen
import Derived.WalkKit
import Derived.Lib.IndexBytes
import Derived.OwnWalkIn
import Derived.TacticsInMore
import Derived.LoopNIn
import Derived.LoopIn
namespace Go.Proofs.YtoempilmofbhdaaDoor
open Go Go.RowKit Go.Shelf

attribute [local go_sem] Oper.semAt_some

/-- a text's lines, each with its end, if it has one -/
def lines : List UInt8 → List (List UInt8)
  | [] => []
  | c :: s => if c = 10 then [10] :: lines s else match lines s with
    | [] => [[c]]
    | r :: l => (c :: r) :: l
theorem lines_ne (s : List UInt8) (h : s ≠ []) : lines s ≠ [] := by
  cases s with
  | nil => exact absurd rfl h
  | cons c s =>
    unfold lines
    split
    · simp
    · split <;> simp
theorem lines_row {r s : List UInt8} (h : ∀ c ∈ r, c ≠ 10) : lines (r ++ 10 :: s) = (r ++ [10]) :: lines s := by
  induction r with
  | nil => simp [lines]
  | cons c r ih =>
    rw [List.cons_append, lines, if_neg (h c (by simp)), ih fun d hd => h d (by simp [hd])]
    rfl
theorem lines_last {r : List UInt8} (h : ∀ c ∈ r, c ≠ 10) (h0 : r ≠ []) : lines r = [r] := by
  induction r with
  | nil => exact absurd rfl h0
  | cons c r ih =>
    rw [lines, if_neg (h c (by simp))]
    cases r with
    | nil => rfl
    | cons d r => rw [ih (fun e he => h e (by simp [he])) (by simp)]
theorem lines_length (s : List UInt8) : (lines s).length ≤ s.length := by
  induction s with
  | nil => simp [lines]
  | cons c s ih =>
    unfold lines
    split
    · simp; exact ih
    · split
      · simp
      · rename_i r l e
        rw [e] at ih
        simp at ih ⊢
        omega
theorem index_some : ∀ (l : List UInt8) (i : Nat), Lib.indexByte l 10 = (i : Int) → i < l.length ∧ (∀ c ∈ l.take i, c ≠ 10) ∧ l[i]? = some 10
  | [], i, h => by
    unfold Lib.indexByte at h
    omega
  | c :: l, i, h => by
    unfold Lib.indexByte at h
    have hg := Lib.indexByte_ge l 10
    by_cases e : c = 10
    · subst e
      simp at h
      obtain rfl : i = 0 := by omega
      simp
    · have e' : (c == 10) = false := by simpa using e
      rw [e'] at h
      simp only [Bool.false_eq_true, if_false] at h
      by_cases e2 : Lib.indexByte l 10 = -1
      · rw [e2] at h; simp at h
      · have e3 : (Lib.indexByte l 10 == -1) = false := by simpa using e2
        rw [e3] at h
        simp only [Bool.false_eq_true, if_false] at h
        obtain ⟨j, hj⟩ : ∃ j : Nat, Lib.indexByte l 10 = (j : Int) := ⟨(Lib.indexByte l 10).toNat, by omega⟩
        obtain ⟨h1, h2, h3⟩ := index_some l j hj
        obtain rfl : i = j + 1 := by omega
        refine ⟨by simp; omega, fun d hd => ?_, by simpa using h3⟩
        simp only [List.take_succ_cons, List.mem_cons] at hd
        rcases hd with rfl | hd
        · exact e
        · exact h2 d hd
theorem index_none : ∀ (l : List UInt8), Lib.indexByte l 10 < 0 → ∀ c ∈ l, c ≠ 10
  | [], _, c, hc => by cases hc
  | d :: l, h, c, hc => by
    unfold Lib.indexByte at h
    by_cases e : d = 10
    · subst e; simp at h
    · have e' : (d == 10) = false := by simpa using e
      rw [e'] at h
      simp only [Bool.false_eq_true, if_false] at h
      have hg := Lib.indexByte_ge l 10
      by_cases e2 : Lib.indexByte l 10 = -1
      · rcases List.mem_cons.1 hc with rfl | hc
        · exact e
        · exact index_none l (by omega) c hc
      · have e3 : (Lib.indexByte l 10 == -1) = false := by simpa using e2
        rw [e3] at h
        simp only [Bool.false_eq_true, if_false] at h
        omega
theorem lines_cut {l : List UInt8} {i : Nat} (h : Lib.indexByte l 10 = (i : Int)) : lines l = l.take (i + 1) :: lines (l.drop (i + 1)) := by
  obtain ⟨h1, h2, h3⟩ := index_some l i h
  have e1 : l.take (i + 1) = l.take i ++ [10] := by rw [List.take_add_one, h3]; rfl
  conv => lhs; rw [← List.take_append_drop (i + 1) l, e1, List.append_assoc]
  rw [List.singleton_append, lines_row h2, e1]
theorem cut_head (r : ByteArray) (k : Nat) : (⟨(r.data.toList.take k).toArray⟩ : ByteArray) = r.extract 0 k := by
  apply ByteArray.ext
  apply Array.ext'
  rw [Lib.extract_data]
  simp
theorem cut_tail (r : ByteArray) (k : Nat) : (r.extract k r.size).data.toList = r.data.toList.drop k := Lib.extract_to_end r k
/-- lines as texts -/
def texts (l : List (List UInt8)) : List ByteArray := l.map fun r => ⟨r.toArray⟩
set_option maxRecDepth 100000 in
theorem Lines_any (s : ByteArray) (w : World) : Calls Tryd.prog 25 #[.string s] w fun e w' => e = .returned (.func (.func 36) #[] #[.pointer (some ⟨w.heap.size, 0, none⟩)]) ∧ w' = w.alloc (.cells #[.string s] 9) := by
  go_enter Tryd.func25, Tryd.ntmps25
  go_wp2
  go_ret
  exact ⟨rfl, rfl⟩
/-- how long the rest is -/
def restLen (q : Nat) (w : World) : Nat := match w.cell? ⟨q, 0, none⟩ with | some (.string r) => r.size | _ => 0
theorem restLen_of {q : Nat} {w : World} {r : ByteArray} (h : w.cell? ⟨q, 0, none⟩ = some (.string r)) : restLen q w = r.size := by unfold restLen; rw [h]
def KeepBox (q : Nat) (w w' : World) : Prop := w'.heap[q]? = w.heap[q]?
set_option maxRecDepth 100000 in
set_option maxHeartbeats 2000000 in
theorem lines_in (l q : Nat) (s : ByteArray) (hs : s.size ≤ maxLen) (J Jx : List ByteArray → World → Prop)
    (hJs : ∀ p U v, J p U → J p (U.setCell ⟨q, 0, none⟩ v)) (hJd : ∀ p U, J p U → J p U.drew)
    (hY : ∀ pre (x : ByteArray) U, J pre U → pre.length < s.size → x.size ≤ s.size → YieldAt Fence.wide 2 Tryd.prog l #[.string x] U fun e U' => (e = .returned (.bool true) ∧ J (pre ++ [x]) U' ∧ KeepBox q U U') ∨ (e = .returned (.bool false) ∧ Jx (pre ++ [x]) U'))
    (V : World) (hq : Boxed V q 9 (.string s)) (h0 : J [] V) :
    CallsIn Fence.wide 3 Tryd.prog 36 #[.func (.yield l) #[] #[], .pointer (some ⟨q, 0, none⟩)] V fun e U => (∃ v, e = .returned v) ∧
      ((∃ xs, xs = texts (lines s.data.toList) ∧ J xs U) ∨ (∃ pre, pre <+: texts (lines s.data.toList) ∧ Jx pre U)) := by
  unfold maxLen at hs
  refine callsIn_of_wp Tryd.func36 rfl trivial ?_ rfl
  simp only [Tryd.ntmps36, List.size_toArray, List.length_cons, List.length_nil, Nat.reduceAdd, Nat.reduceSub, Array.replicate_succ, Array.replicate_zero, List.push_toArray, List.append_toArray, List.nil_append, List.cons_append]
  gi_wp2
  gi_loopw [] (fun wr => ∃ (pre : List ByteArray) (r : ByteArray), texts (lines s.data.toList) = pre ++ texts (lines r.data.toList) ∧ pre.length + r.size ≤ s.size ∧ Boxed wr q 9 (.string r) ∧ J pre wr) (fun wr => restLen q wr)
  case atStart => exact ⟨[], s, rfl, by simp, hq, h0⟩
  case round =>
    obtain ⟨pre, r, hx, hl, hb, hJ⟩ := hrel
    have c0 := hb.cell
    have f0 := hb.frozen
    have HX := Lib.hid hx
    have HBX := Lib.hid hb
    have HJ := Lib.hid hJ
    have hm := restLen_of c0
    have HM := Lib.hid hm
    clear hx hb hJ hm
    by_cases hr0 : r.size = 0
    · have HE : Hid (texts (lines r.data.toList) = []) := Lib.hid (by
        have : r.data.toList = [] := List.eq_nil_of_length_eq_zero (by rw [Array.length_toList]; exact hr0)
        rw [this]
        rfl)
      gi_wp2
      go_end0
      exact ⟨⟨_, rfl⟩, .inl ⟨pre, by rw [HX.out, HE.out, List.append_nil], HJ.out⟩⟩
    · obtain ⟨z, HZ⟩ : ∃ z, Hid (z = Lib.indexByte r.data.toList 10) := ⟨_, Lib.hid rfl⟩
      have hpos : 0 < r.size := by omega
      clear hr0
      refine wpIn_wide.2 ?_
      by_cases hz : 0 ≤ z
      · obtain ⟨i, rfl⟩ := Int.eq_ofNat_of_zero_le hz
        obtain ⟨hi1, hi2, hi3⟩ := index_some r.data.toList i HZ.out.symm
        rw [Array.length_toList] at hi1
        have hi4 : i < r.size := hi1
        go_upto_region 4 with (go_at_call 37; refine (Any.strings_IndexByte indexL r 10 _).mono ?_; rw [show ((10 : Int).toNat.toUInt8) = 10 from rfl, ← HZ.out]; rintro e w9 ⟨rfl, hw⟩; have hw := hw.symm; subst hw)
        refine wp_region_head (fun w9 => w9.cell? ⟨q, 0, none⟩ = some (.string r)) 9 (by kernel_rfl) (by kernel_rfl) (fun wa HWA => ?_)
        have hS : wa.cell? ⟨q, 0, none⟩ = some (.string r) := by rw [HWA.out]; exact c0
        obtain ⟨x1, HX1⟩ : ∃ x1 : ByteArray, Hid (x1 = r.extract 0 (i + 1)) := ⟨_, Lib.hid rfl⟩
        obtain ⟨x2, HX2⟩ : ∃ x2 : ByteArray, Hid (x2 = r.extract (i + 1) r.size) := ⟨_, Lib.hid rfl⟩
        have fa : wa.frozen? ⟨q, 0, none⟩ = false := by rw [HWA.out]; exact f0
        have HJA : Hid (J pre wa) := Lib.hid (by rw [HWA.out]; exact hJd _ _ HJ.out)
        have HBA : Hid (Boxed wa q 9 (.string r)) := Lib.hid (by rw [HWA.out]; exact HBX.out)
        clear HWA
        have hx1 : r.extract 0 (i + 1) = x1 := HX1.out.symm
        have hx2 : r.extract (i + 1) r.size = x2 := HX2.out.symm
        have hw1 : IntKind.i64.wrap ((i : Int) + 1) = (i : Int) + 1 := by rw [IntKind.wrap_i64]; omega
        have hb1 : 0 ≤ (i : Int) + 1 := by omega
        have hb2 : (i : Int) + 1 ≤ (r.size : Int) := by omega
        -- region 4
        refine takeH (i := 0) 12 (v := .string r) rfl (by kernel_rfl) (by kernel_rfl) (by kernel_rfl) rfl (fun _ _ _ h => h) (.inl ⟨by rfl, fun _ h => by have c0 := h; go_simp⟩) hS ?_
        simp only [Act.put, List.setIfInBounds_toArray, List.set_cons_zero, List.set_cons_succ]
        refine takeH (i := 1) 13 (v := .int .i64 (i : Int)) rfl (by kernel_rfl) (by kernel_rfl) (by kernel_rfl) rfl (fun _ _ _ h => h) (.inl ⟨by rfl, fun _ _ => by go_simp⟩) hS ?_
        simp only [Act.put, List.setIfInBounds_toArray, List.set_cons_zero, List.set_cons_succ]
        refine takeH (i := 2) 14 (v := .int .i64 ((i : Int) + 1)) rfl (by kernel_rfl) (by kernel_rfl) (by kernel_rfl) rfl (fun _ _ _ h => h) (.inl ⟨by rfl, fun _ _ => by go_simp⟩) hS ?_
        simp only [Act.put, List.setIfInBounds_toArray, List.set_cons_zero, List.set_cons_succ]
        refine takeH (i := 3) 15 (v := .string x1) rfl (by kernel_rfl) (by kernel_rfl) (by kernel_rfl) rfl (fun _ _ _ h => h) (.inl ⟨by rfl, fun _ _ => by go_simp⟩) hS ?_
        simp only [Act.put, List.setIfInBounds_toArray, List.set_cons_zero, List.set_cons_succ]
        refine takeH (i := 4) 16 (v := .string r) rfl (by kernel_rfl) (by kernel_rfl) (by kernel_rfl) rfl (fun _ _ _ h => h) (.inl ⟨by rfl, fun _ h => by have c0 := h; go_simp⟩) hS ?_
        simp only [Act.put, List.setIfInBounds_toArray, List.set_cons_zero, List.set_cons_succ]
        refine takeH (i := 5) 17 (v := .int .i64 (i : Int)) rfl (by kernel_rfl) (by kernel_rfl) (by kernel_rfl) rfl (fun _ _ _ h => h) (.inl ⟨by rfl, fun _ _ => by go_simp⟩) hS ?_
        simp only [Act.put, List.setIfInBounds_toArray, List.set_cons_zero, List.set_cons_succ]
        refine takeH (i := 6) 18 (v := .int .i64 ((i : Int) + 1)) rfl (by kernel_rfl) (by kernel_rfl) (by kernel_rfl) rfl (fun _ _ _ h => h) (.inl ⟨by rfl, fun _ _ => by go_simp⟩) hS ?_
        simp only [Act.put, List.setIfInBounds_toArray, List.set_cons_zero, List.set_cons_succ]
        refine takeH (i := 7) 19 (v := .string x2) rfl (by kernel_rfl) (by kernel_rfl) (by kernel_rfl) rfl (fun _ _ _ h => h) (.inl ⟨by rfl, fun _ _ => by go_simp⟩) hS ?_
        simp only [Act.put, List.setIfInBounds_toArray, List.set_cons_zero, List.set_cons_succ]
        refine takeH (i := 8) 3 (v := .string x1) rfl (by kernel_rfl) (by kernel_rfl) (by kernel_rfl) rfl (fun _ _ _ h => h) (.inl ⟨by rfl, fun _ _ => by go_simp⟩) hS ?_
        simp only [Act.put, List.setIfInBounds_toArray, List.set_cons_zero, List.set_cons_succ]
        refine wpAnyH_done (by kernel_rfl) ?_ _
        -- behind region 4
        unfold HeadPost
        simp only [List.drop_succ_cons, List.drop_zero]
        obtain ⟨w5, HW5⟩ : ∃ w5, Hid (w5 = wa.setCell ⟨q, 0, none⟩ (.string x2)) := ⟨_, Lib.hid rfl⟩
        have HLN : Hid (texts (lines r.data.toList) = x1 :: texts (lines x2.data.toList)) := Lib.hid (by
          rw [lines_cut HZ.out.symm, HX1.out, HX2.out]
          unfold texts
          rw [List.map_cons]
          congr 1
          · exact cut_head r (i + 1)
          · rw [cut_tail r (i + 1)])
        have HSZ : Hid (x2.size < r.size) := Lib.hid (by rw [HX2.out, ByteArray.size_extract]; omega)
        have HX1S : Hid (x1.size ≤ r.size) := Lib.hid (by rw [HX1.out, ByteArray.size_extract]; omega)
        go_upto_region 6 with (fail)
        rw [← HW5.out]
        clear hS fa hx1 hx2 hw1 hb1 hb2 c0 f0
        have HJ5 : Hid (J pre w5) := Lib.hid (by rw [HW5.out]; exact hJs _ _ _ HJA.out)
        have HB5 : Hid (Boxed w5 q 9 (.string x2)) := Lib.hid (by rw [HW5.out]; exact HBA.out.set _)
        clear HW5
        rename_i hKc
        have HKC := Lib.hid hKc
        clear hKc
        refine (wpIn_wide (n := 3)).1 ?_
        obtain ⟨fn, tmps, assign, body, hy, hR⟩ := hY pre x1 w5 HJ5.out (by omega) (by have := HX1S.out; omega)
        have HTX : Hid (texts (lines s.data.toList) = pre ++ x1 :: texts (lines x2.data.toList)) := Lib.hid (by rw [HX.out, HLN.out])
        gi_wp2
        refine hR.mono ?_
        rintro e w6 (⟨rfl, hj6, hk6⟩ | ⟨rfl, hj6⟩)
        · have HJ6 := Lib.hid hj6
          have HB6 : Hid (Boxed w6 q 9 (.string x2)) := Lib.hid (hk6.trans HB5.out)
          clear hj6 hk6 hy
          gi_wp2
          refine HKC.out _ _ ?_
          go_wp2_with fail
          go_roundw
          case rel => exact ⟨pre ++ [x1], x2, by rw [HTX.out, List.append_assoc]; rfl, by rw [List.length_append, List.length_singleton]; have := HSZ.out; omega, HB6.out, HJ6.out⟩
          case measure => rw [HM.out, restLen_of HB6.out.cell]; exact HSZ.out
        · gi_wp2
          refine HKC.out _ _ ?_
          go_wp2_with fail
          refine bodyPost_ret (results_none rfl _ _ _) rfl ?_
          refine ⟨⟨_, rfl⟩, .inr ⟨pre ++ [x1], ?_, hj6⟩⟩
          rw [HTX.out]
          exact ⟨texts (lines x2.data.toList), by rw [List.append_assoc]; rfl⟩
      · go_upto_region 5 with (go_at_call 37; refine (Any.strings_IndexByte indexL r 10 _).mono ?_; rw [show ((10 : Int).toNat.toUInt8) = 10 from rfl, ← HZ.out]; rintro e w9 ⟨rfl, hw⟩; have hw := hw.symm; subst hw)
        obtain ⟨x1, HX1⟩ : ∃ x1 : ByteArray, Hid (x1 = r) := ⟨_, Lib.hid rfl⟩
        obtain ⟨x2, HX2⟩ : ∃ x2 : ByteArray, Hid (x2 = ⟨#[]⟩) := ⟨_, Lib.hid rfl⟩
        obtain ⟨w5, HW5⟩ : ∃ w5, Hid (w5 = wr.setCell ⟨q, 0, none⟩ (.string x2)) := ⟨_, Lib.hid rfl⟩
        have HLN : Hid (texts (lines r.data.toList) = x1 :: texts (lines x2.data.toList)) := Lib.hid (by
          rw [lines_last (index_none _ (by rw [← HZ.out]; omega)) (fun e => by
            have h9 : r.data.toList.length = r.size := by rw [Array.length_toList]; rfl
            rw [e] at h9
            simp at h9
            omega), HX1.out, HX2.out]
          rfl)
        have HSZ : Hid (x2.size < r.size) := Lib.hid (by rw [HX2.out]; exact hpos)
        have HX1S : Hid (x1.size ≤ r.size) := Lib.hid (by rw [HX1.out]; exact Nat.le_refl _)
        have HJA := HJ
        have HBA := HBX
        go_upto_region 6 with (fail)
        rw [← HX2.out, ← HW5.out, ← HX1.out]
        clear c0 f0
        have HJ5 : Hid (J pre w5) := Lib.hid (by rw [HW5.out]; exact hJs _ _ _ HJA.out)
        have HB5 : Hid (Boxed w5 q 9 (.string x2)) := Lib.hid (by rw [HW5.out]; exact HBA.out.set _)
        clear HW5
        rename_i hKc
        have HKC := Lib.hid hKc
        clear hKc
        refine (wpIn_wide (n := 3)).1 ?_
        obtain ⟨fn, tmps, assign, body, hy, hR⟩ := hY pre x1 w5 HJ5.out (by omega) (by have := HX1S.out; omega)
        have HTX : Hid (texts (lines s.data.toList) = pre ++ x1 :: texts (lines x2.data.toList)) := Lib.hid (by rw [HX.out, HLN.out])
        gi_wp2
        refine hR.mono ?_
        rintro e w6 (⟨rfl, hj6, hk6⟩ | ⟨rfl, hj6⟩)
        · have HJ6 := Lib.hid hj6
          have HB6 : Hid (Boxed w6 q 9 (.string x2)) := Lib.hid (hk6.trans HB5.out)
          clear hj6 hk6 hy
          gi_wp2
          refine HKC.out _ _ ?_
          go_wp2_with fail
          go_roundw
          case rel => exact ⟨pre ++ [x1], x2, by rw [HTX.out, List.append_assoc]; rfl, by rw [List.length_append, List.length_singleton]; have := HSZ.out; omega, HB6.out, HJ6.out⟩
          case measure => rw [HM.out, restLen_of HB6.out.cell]; exact HSZ.out
        · gi_wp2
          refine HKC.out _ _ ?_
          go_wp2_with fail
          refine bodyPost_ret (results_none rfl _ _ _) rfl ?_
          refine ⟨⟨_, rfl⟩, .inr ⟨pre ++ [x1], ?_, hj6⟩⟩
          rw [HTX.out]
          exact ⟨texts (lines x2.data.toList), by rw [List.append_assoc]; rfl⟩
end Go.Proofs.YtoempilmofbhdaaDoor
