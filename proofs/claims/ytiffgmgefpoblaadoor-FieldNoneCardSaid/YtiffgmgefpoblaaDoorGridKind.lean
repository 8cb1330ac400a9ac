/-
  The contract of Kind (layer 14): the cells of a sign. Conditions: none beyond the premises of each theorem.
-/
import Derived.Test.YtiffgmgefpoblaaDoorGridCalls
namespace Go.Proofs.YtiffgmgefpoblaaDoor
open Go.RowKit

def kindsTo (xs : List UInt8) (k : UInt8) (n : Nat) : List Nat := (List.range n).filter fun i => match xs[i]? with | some c => c == k | none => false
theorem kindsTo_le (xs : List UInt8) (k : UInt8) (n : Nat) : (kindsTo xs k n).length ≤ n := by
  unfold kindsTo
  have := List.length_filter_le (fun i => match xs[i]? with | some c => c == k | none => false) (List.range n)
  simpa using this
theorem byte_eq_int (s : ByteArray) (k : Nat) (hk : k < s.size) (c : UInt8) : (((s[k]).toNat : Int) == (c.toNat : Int)) = decide (s.data.toList[k]'(by rw [size_list]; exact hk) = c) := by
  have e : s[k] = s.data.toList[k]'(by rw [size_list]; exact hk) := by simp; rfl
  rw [e]
  generalize s.data.toList[k]'_ = x
  rw [Bool.eq_iff_iff, beq_iff_eq, decide_eq_true_eq]
  constructor
  · intro h; exact UInt8.toNat_inj.1 (by omega)
  · rintro rfl; rfl
theorem kindsTo_succ {s : ByteArray} {k : UInt8} {n : Nat} (hn : n < s.size) : kindsTo s.data.toList k (n + 1) = kindsTo s.data.toList k n ++ (if s.data.toList[n]'(by rw [size_list]; exact hn) = k then [n] else []) :=
  Grid.kinds_snoc (by rw [size_list]; exact hn)
structure KindSt (w0 : World) (q : Nat) (W H : Int) (s : ByteArray) (k : UInt8) (n : Nat) (v : Value) (w : World) : Prop where
  at_ : MapAt w q W H s
  row : w.ownsRow w0.heap.size 3 1 v (kindsTo s.data.toList k n).length (numCells (kindsTo s.data.toList k n))
  below : Below w0.heap.size w0 w
set_option maxRecDepth 100000 in
theorem Kind_any (W H : Int) (s : ByteArray) (k : UInt8) (hs : s.size ≤ maxLen) (w : World) :
    Calls Tryd.prog 20 #[.agg #[.int .i64 W, .int .i64 H, .string s], .int .u8 (k.toNat : Int)] w (ListPost (kindM W H s k) w) := by
  have HSM := Lib.hid hs
  obtain ⟨ii, hi0, hi1, hi2, hi3⟩ := info_parts Tryd.infoNum
  obtain ⟨w1, HW1⟩ : ∃ w1, Hid (w1 = w.alloc (.cells #[.int .i64 W, .int .i64 H, .string s] 30)) := ⟨_, Lib.hid rfl⟩
  obtain ⟨q, HQ⟩ : ∃ q, Hid (q = w.heap.size) := ⟨_, Lib.hid rfl⟩
  have HM : Hid (MapAt w1 q W H s) := Lib.hid (by rw [HW1.out, HQ.out]; exact heap_alloc_new w _)
  have HB : Hid (Below w.heap.size w w1) := Lib.hid (by rw [HW1.out]; exact (Below.refl _ _).alloc (Nat.le_refl _) _)
  have HQL : Hid (w.heap.size ≤ q) := Lib.hid (by rw [HQ.out]; exact Nat.le_refl _)
  clear hs
  obtain ⟨l, HL⟩ : ∃ l, Hid (l = kindM W H s k) := ⟨_, Lib.hid rfl⟩
  rw [← HL.out]
  go_enter Tryd.func20, Tryd.ntmps20
  go_upto_region 1 with (fail)
  rw [← HQ.out, ← HW1.out]
  clear HW1 HQ
  have c0 := HM.out.w_
  have c1 := HM.out.h_
  have c2 := HM.out.s_
  go_wp2_with fail
  refine (Right_any W H s HSM.out w1).mono ?_
  obtain ⟨z, HZ⟩ : ∃ z, Hid (z = rightM W H s) := ⟨_, Lib.hid rfl⟩
  rw [← HZ.out]
  rintro e w2 ⟨rfl, hb2⟩
  have HB2 := Lib.hid (HB.out.trans (hb2.mono HB.out.size))
  have HM2 : Hid (MapAt w2 q W H s) := Lib.hid ((hb2.block q HM.out.lt).trans HM.out)
  clear hb2 c0 c1 c2
  cases z with
  | false =>
    have hl : l = [] := by rw [HL.out]; unfold kindM; rw [← HZ.out]; rfl
    subst hl
    go_wp2_with fail
    go_ret
    exact ⟨none, 0, rfl, Nums.none_ _ _ _, HB2.out⟩
  | true =>
    have hr := HZ.out.symm
    have hr2 := Grid.rightB_iff.1 hr
    obtain ⟨_, _, _, _, _, _, _, _, _, h64⟩ := Grid.sized_nat hr2.1
    rw [size_list] at h64
    have HLE : Hid (l = kindsTo s.data.toList k s.size) := Lib.hid (by
      rw [HL.out]
      unfold kindM
      rw [← HZ.out, if_pos rfl]
      unfold Grid.kinds kindsTo
      rw [size_list]
      rfl)
    clear hr hr2
    have c2 := HM2.out.s_
    go_wp2_with fail
    go_loopw [5, 13] (fun v i wr => ∃ n : Nat, n ≤ s.size ∧ i = .int .i64 (n : Int) ∧ KindSt w q W H s k n v wr) (fun _ i _ => s.size - (intOf i).toNat)
    case atStart => exact ⟨0, Nat.zero_le _, rfl, HM2.out, World.ownsRow_nil _ _ _ _, HB2.out⟩
    case round =>
      obtain ⟨n, hn, rfl, hst⟩ := hrel
      have HST := Lib.hid hst
      clear hst c2
      have c2 := HST.out.at_.s_
      by_cases hlt : n < s.size
      · have hbe := byte_eq_int s n hlt k
        obtain ⟨b, HBB⟩ : ∃ b, Hid (b = decide (s.data.toList[n]'(by rw [size_list]; exact hlt) = k)) := ⟨_, Lib.hid rfl⟩
        rw [← HBB.out] at hbe
        have HSUC := Lib.hid (kindsTo_succ (k := k) hlt)
        have hkl := kindsTo_le s.data.toList k n
        cases b with
        | false =>
          have hne := of_decide_eq_false HBB.out.symm
          have HS2 : Hid (kindsTo s.data.toList k (n + 1) = kindsTo s.data.toList k n) := Lib.hid (by rw [HSUC.out, if_neg hne, List.append_nil])
          clear hne
          go_wp2_with fail
          go_roundw
          case rel => exact ⟨n + 1, hlt, by go_num, HST.out.at_, by rw [HS2.out]; exact HST.out.row, HST.out.below⟩
          case measure => simp [intOf]; omega
        | true =>
          have he := of_decide_eq_true HBB.out.symm
          have HS2 : Hid (kindsTo s.data.toList k (n + 1) = kindsTo s.data.toList k n ++ [n]) := Lib.hid (by rw [HSUC.out, if_pos he])
          clear he
          go_wp2_with (with_reducible refine stop_at (o := ⟨some 25, _, _, _, _, _⟩) ?_)
          have hn9 : ∀ (j : Nat) u, ([.int .i64 (n : Int)] : List Value)[j]? = some u → (wr.alloc (.cells #[.int .i64 (n : Int)] 3)).cell? ((⟨wr.heap.size, 0, none⟩ : Addr).add j) = some u := World.news_of_block (cs := #[.int .i64 (n : Int)]) (heap_alloc_last wr _)
          refine wpList_append_lies _ rfl _ _ 24 rfl w.heap.size 3 ii _ 1 8 Tryd.underlying24 hi0 hi1 hi2 hi3 rfl (by decide) u5 (kindsTo s.data.toList k n).length (numCells (kindsTo s.data.toList k n)) rfl (HST.out.row.alloc _) ⟨wr.heap.size, 0, none⟩ 1 1 [.int .i64 (n : Int)] rfl rfl hn9 (fun u hu => by rw [List.mem_singleton.1 hu]; rfl) (by decide) (by unfold maxLen; omega) (by omega) (by have := HST.out.below.size; simp; omega) (wr.heap.size + 1) (by simp) ?_
          intro g cap w3 hown hgrow _ _
          have HS3 : Hid (KindSt w q W H s k (n + 1) (.slice (some ⟨g, 0, none⟩) ((kindsTo s.data.toList k n).length + 1) cap) w3) := Lib.hid (by
            have hrow := HST.out.row
            refine ⟨?_, ?_, ?_⟩
            · refine (hgrow.block q (HST.out.at_.alloc _).lt fun e => ?_).trans (HST.out.at_.alloc _)
              rcases hrow.2 with ⟨rfl, _⟩ | ⟨g', cap', cur, rfl, _, hgb, _⟩
              · simp [Value.ownBlock] at e
              · obtain rfl : q = g' := by simpa [Value.ownBlock] using e
                rw [show wr.heap[q]? = _ from HST.out.at_] at hgb
                injection hgb with hgb
                injection hgb with _ e2
                exact absurd e2 (by decide)
            · rw [HS2.out, List.length_append, List.length_singleton]
              unfold numCells at hown ⊢
              rw [List.map_append]
              exact hown
            · have h0 := HST.out.below.alloc HST.out.below.size (.cells #[.int .i64 (n : Int)] 3)
              exact h0.grown hgrow h0.size (fun j e => (hrow.lt j e).1))
          clear hown hgrow hn9
          go_wp2_with fail
          go_roundw
          case rel => exact ⟨n + 1, hlt, by go_num, HS3.out⟩
          case measure => simp [intOf]; omega
      · obtain rfl : n = s.size := by omega
        obtain ⟨A, cap, hv, hnums⟩ := ListBox.nums HST.out.row
        have HN := Lib.hid hnums
        clear hnums
        subst hv
        go_wp2_with fail
        go_ret
        refine ⟨A, cap, ?_, ?_, HST.out.below⟩
        · rw [HLE.out]; rfl
        · rw [HLE.out]; exact HN.out
end Go.Proofs.YtiffgmgefpoblaaDoor
