/-
  slices.Chunk of bytes, n at a time, where the length is a multiple of n (layer 14's Lay). Conditions: none beyond the premises of each theorem.
-/
import Derived.Test.YtoempilmofbhdaaDoorGridParse
namespace Go.Proofs.YtoempilmofbhdaaDoor
open Go Go.RowKit Go.Shelf

attribute [local go_sem] Oper.semAt_some

set_option maxRecDepth 100000 in
theorem Chunk_any (B cap n a : Nat) (h1 : 1 ≤ a) (w : World) : Calls Tryd.prog 23 #[.slice (some ⟨B, 0, none⟩) n cap, .int .i64 (a : Int)] w fun e w' => e = .returned (.func (.func 33) #[] #[.pointer (some ⟨w.heap.size, 0, none⟩), .pointer (some ⟨w.heap.size + 1, 0, none⟩)]) ∧
    w' = (w.alloc (.cells #[.slice (some ⟨B, 0, none⟩) n cap] 46)).alloc (.cells #[.int .i64 (a : Int)] 3) := by
  go_enter Tryd.func23, Tryd.ntmps23
  go_wp2
  go_ret
  exact ⟨rfl, rfl⟩
/-- neither box turns -/
def KeepTwo (q r : Nat) (w w' : World) : Prop := w'.heap[q]? = w.heap[q]? ∧ w'.heap[r]? = w.heap[r]?
/-- which chunk -/
abbrev Chk (h : Nat) := { x : Nat // x < h }
def chkV (B a : Nat) {h : Nat} (x : Chk h) : Array Value := #[.slice (some ⟨B, x.1 * a, none⟩) a a]
set_option maxRecDepth 100000 in
set_option maxHeartbeats 2000000 in
theorem chunk_in (l q r B a h n cap : Nat) (h1 : 1 ≤ a) (h8 : a ≤ 8) (hh8 : h ≤ 8) (hn : n = a * h) (hcap : n ≤ cap) (J Jx : List (Chk h) → World → Prop)
    (hJd : ∀ p U, J p U → J p U.drew)
    (hY : ∀ pre x U, J pre U → pre.length < h → YieldAt Fence.wide 2 Tryd.prog l (chkV B a x) U fun e U' => (e = .returned (.bool true) ∧ J (pre ++ [x]) U' ∧ KeepTwo q r U U') ∨ (e = .returned (.bool false) ∧ Jx (pre ++ [x]) U'))
    (V : World) (hq : Boxed V q 46 (.slice (some ⟨B, 0, none⟩) n cap)) (hr : Boxed V r 3 (.int .i64 (a : Int))) (h0 : J [] V) :
    CallsIn Fence.wide 3 Tryd.prog 33 #[.func (.yield l) #[] #[], .pointer (some ⟨q, 0, none⟩), .pointer (some ⟨r, 0, none⟩)] V fun e U => (∃ v, e = .returned v) ∧
      ((∃ xs, xs.map (·.1) = List.range h ∧ J xs U) ∨ (∃ pre, pre.map (·.1) <+: List.range h ∧ Jx pre U)) := by
  have HN := Lib.hid hn
  clear hn
  refine callsIn_of_wp Tryd.func33 rfl trivial ?_ rfl
  simp only [Tryd.ntmps33, List.size_toArray, List.length_cons, List.length_nil, Nat.reduceAdd, Nat.reduceSub, Array.replicate_succ, Array.replicate_zero, List.push_toArray, List.append_toArray, List.nil_append, List.cons_append]
  gi_wp2
  gi_loopw [4] (fun i wr => ∃ (pre : List (Chk h)) (k : Nat), k ≤ h ∧ i = .int .i64 ((k * a : Nat) : Int) ∧ pre.map (·.1) = List.range k ∧ Boxed wr q 46 (.slice (some ⟨B, 0, none⟩) n cap) ∧ Boxed wr r 3 (.int .i64 (a : Int)) ∧ J pre wr) (fun i _ => n - (intOf i).toNat)
  case atStart => exact ⟨[], 0, Nat.zero_le _, by simp, rfl, hq, hr, h0⟩
  case round =>
    obtain ⟨pre, k, hk, rfl, hp, hbq, hbr, hJ⟩ := hrel
    have HBQ := Lib.hid hbq
    have HBR := Lib.hid hbr
    have HJ := Lib.hid hJ
    have c0 := hbq.cell
    have c1 := hbr.cell
    clear hbq hbr hJ
    obtain ⟨i, HI⟩ : ∃ i, Hid (i = k * a) := ⟨_, Lib.hid rfl⟩
    rw [← HI.out]
    by_cases hkh : k < h
    · have hin : i + a ≤ n := by
        rw [HI.out, HN.out, ← Nat.succ_mul, Nat.mul_comm a h]
        exact Nat.mul_le_mul_right a hkh
      have hn64 : n ≤ 64 := by rw [HN.out]; exact Nat.mul_le_mul h8 hh8
      refine wpIn_wide.2 ?_
      go_upto_region 3 with (fail)
      refine wp_region_held (S := fun w9 => w9.cell? ⟨q, 0, none⟩ = some (.slice (some ⟨B, 0, none⟩) n cap) ∧ w9.cell? ⟨r, 0, none⟩ = some (.int .i64 (a : Int))) (by kernel_rfl) ?_
      change wpAnyH _ _ _ _ _ _ _ _ wr.drew
      obtain ⟨wa, HWA⟩ : ∃ wa, Hid (wa = wr.drew) := ⟨_, Lib.hid rfl⟩
      rw [← HWA.out]
      have hS : wa.cell? ⟨q, 0, none⟩ = some (.slice (some ⟨B, 0, none⟩) n cap) ∧ wa.cell? ⟨r, 0, none⟩ = some (.int .i64 (a : Int)) := by rw [HWA.out]; exact ⟨c0, c1⟩
      have HBQ2 : Hid (Boxed wa q 46 (.slice (some ⟨B, 0, none⟩) n cap)) := Lib.hid (by rw [HWA.out]; exact HBQ.out)
      have HBR2 : Hid (Boxed wa r 3 (.int .i64 (a : Int))) := Lib.hid (by rw [HWA.out]; exact HBR.out)
      have HJ2 : Hid (J pre wa) := Lib.hid (by rw [HWA.out]; exact hJd _ _ HJ.out)
      clear HWA HBQ HBR HJ c0 c1
      have g1 : ¬ cap = i := by omega
      have g2 : i ≤ n := by omega
      have g3 : i ≤ cap := by omega
      have g4 : min (a : Int) ((n - i : Nat) : Int) = (a : Int) := by omega
      have g5 : ¬ (n : Int) < (i : Int) := by omega
      -- region 3
      refine takeH (i := 0) 13 (v := .int .i64 (a : Int)) rfl (by kernel_rfl) (by kernel_rfl) (by kernel_rfl) rfl (fun _ _ _ h => h) (.inl ⟨by rfl, fun _ h => by have c0 := h.2; go_simp⟩) hS ?_
      simp only [Act.put, List.setIfInBounds_toArray, List.set_cons_zero, List.set_cons_succ]
      refine takeH (i := 1) 14 (v := .slice (some ⟨B, 0, none⟩) n cap) rfl (by kernel_rfl) (by kernel_rfl) (by kernel_rfl) rfl (fun _ _ _ h => h) (.inl ⟨by rfl, fun _ h => by have c0 := h.1; go_simp⟩) hS ?_
      simp only [Act.put, List.setIfInBounds_toArray, List.set_cons_zero, List.set_cons_succ]
      refine takeH (i := 2) 15 (v := .int .i64 (i : Int)) rfl (by kernel_rfl) (by kernel_rfl) (by kernel_rfl) rfl (fun _ _ _ h => h) (.inl ⟨by rfl, fun _ _ => by go_simp⟩) hS ?_
      simp only [Act.put, List.setIfInBounds_toArray, List.set_cons_zero, List.set_cons_succ]
      refine takeH (i := 3) 16 (v := .slice (some ⟨B, i, none⟩) (n - i) (cap - i)) rfl (by kernel_rfl) (by kernel_rfl) (by kernel_rfl) rfl (fun _ _ _ h => h) (.inl ⟨by rfl, fun _ _ => by go_simp⟩) hS ?_
      simp only [Act.put, List.setIfInBounds_toArray, List.set_cons_zero, List.set_cons_succ]
      refine takeH (i := 4) 17 (v := .int .i64 ((n - i : Nat) : Int)) rfl (by kernel_rfl) (by kernel_rfl) (by kernel_rfl) rfl (fun _ _ _ h => h) (.inl ⟨by rfl, fun _ _ => by go_simp⟩) hS ?_
      simp only [Act.put, List.setIfInBounds_toArray, List.set_cons_zero, List.set_cons_succ]
      refine oneH (i := 5) (oi := ⟨some 18, _, _, _, _, _⟩) rfl (by kernel_rfl) (fun K hK => ?_)
      go_simp
      refine hK.out _ _ hS ?_
      clear hK K
      refine takeH (i := 6) 5 (v := .int .i64 (a : Int)) rfl (by kernel_rfl) (by kernel_rfl) (by kernel_rfl) rfl (fun _ _ _ h => h) (.inl ⟨by rfl, fun _ _ => by go_simp⟩) hS ?_
      simp only [Act.put, List.setIfInBounds_toArray, List.set_cons_zero, List.set_cons_succ]
      refine wpAnyH_done (by kernel_rfl) ?_ _
      -- behind region 3
      clear hS g4
      have c0 := HBQ2.out.cell
      have c1 := HBR2.out.cell
      have g6 : ¬ cap < i + a := by omega
      have g7 : IntKind.i64.wrap ((i : Int) + (a : Int)) = (i : Int) + (a : Int) := by rw [IntKind.wrap_i64]; omega
      go_upto_region 4 with (fail)
      rename_i hKc
      have HKC := Lib.hid hKc
      clear hKc
      refine (wpIn_wide (n := 3)).1 ?_
      have hpl : pre.length = k := by have := congrArg List.length hp; simpa using this
      obtain ⟨fn, tmps, assign, body, hy, hR⟩ := hY pre ⟨k, hkh⟩ wa HJ2.out (by omega)
      unfold chkV at hy
      rw [← HI.out] at hy
      gi_wp2
      refine hR.mono ?_
      rintro e w6 (⟨rfl, hj6, hk6⟩ | ⟨rfl, hj6⟩)
      · have HJ6 := Lib.hid hj6
        have HQ6 : Hid (Boxed w6 q 46 (.slice (some ⟨B, 0, none⟩) n cap)) := Lib.hid (hk6.1.trans HBQ2.out)
        have HR6 : Hid (Boxed w6 r 3 (.int .i64 (a : Int))) := Lib.hid (hk6.2.trans HBR2.out)
        clear hj6 hk6 hy c0 c1
        have c1 := HR6.out.cell
        gi_wp2
        refine HKC.out _ _ ?_
        go_wp2_with fail
        go_roundw
        case rel =>
          refine ⟨pre ++ [⟨k, hkh⟩], k + 1, hkh, ?_, by rw [List.map_append, hp, List.range_succ]; rfl, HQ6.out, HR6.out, HJ6.out⟩
          rw [HI.out, Nat.succ_mul]
          rfl
        case measure => simp [intOf]; omega
      · gi_wp2
        refine HKC.out _ _ ?_
        go_wp2_with fail
        refine bodyPost_ret (results_none rfl _ _ _) rfl ?_
        refine ⟨⟨_, rfl⟩, .inr ⟨pre ++ [⟨k, hkh⟩], ?_, hj6⟩⟩
        rw [List.map_append, hp]
        obtain ⟨d, rfl⟩ : ∃ d, h = k + 1 + d := ⟨h - (k + 1), by omega⟩
        rw [List.range_add, List.range_succ]
        exact ⟨_, rfl⟩
    · obtain rfl : k = h := by omega
      have : i = n := by rw [HI.out, HN.out, Nat.mul_comm]
      subst this
      gi_wp2
      go_end0
      exact ⟨⟨_, rfl⟩, .inl ⟨pre, hp, HJ.out⟩⟩
theorem chunk_stops (q r B a h n cap : Nat) (h1 : 1 ≤ a) (h8 : a ≤ 8) (hh8 : h ≤ 8) (hn : n = a * h) (hcap : n ≤ cap) (w : World) (hq : Boxed w q 46 (.slice (some ⟨B, 0, none⟩) n cap)) (hr : Boxed w r 3 (.int .i64 (a : Int))) :
    SeqBox Fence.wide 3 Tryd.prog 33 #[.pointer (some ⟨q, 0, none⟩), .pointer (some ⟨r, 0, none⟩)] (fun x : Chk h => chkV B a x) (KeepTwo q r) (fun ys => ys.map (·.1) = List.range h) (fun pre => pre.map (·.1) <+: List.range h) h q w := by
  intro l J Jx V hV hJ _ hY h0
  exact chunk_in l q r B a h n cap h1 h8 hh8 hn hcap J Jx (fun p U h => hJ p U U.drew none h ⟨rfl, rfl, rfl, Nat.le_refl _, fun _ _ _ => rfl⟩ (fun r e => by cases e)) hY V ((hV.block q hq.lt).trans hq) ((hV.block r hr.lt).trans hr) h0
end Go.Proofs.YtoempilmofbhdaaDoor
