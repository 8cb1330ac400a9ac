/-
  The contract of rec.LayAll. Conditions: none beyond the premises of each theorem.
-/
import Derived.Test.YtjjlghdcpkkdhaaDoorRecLayR
import Derived.Deep.MidRow
import Derived.Deep.AppendLies
namespace Go.Proofs.YtjjlghdcpkkdhaaDoor
open Go.RowKit

/-- eight bytes as cells -/
def offCells (l : List Nat) : List Value := l.map fun n : Nat => .int .u8 (n : Int)
def offArr (l : List Nat) : Array Value := (offCells l).toArray
def alsArr (x : Als) : Array Value := (.int .i64 x.tick :: offCells x.off).toArray
def alsV (x : Als) : Value := .agg (alsArr x)
theorem offCells_at {l : List Nat} {i : Nat} (h : i < l.length) : (offCells l)[i]? = some (.int .u8 ((l[i] : Nat) : Int)) := by simp [offCells, h]
theorem offArr_at {l : List Nat} {i : Nat} (h : i < l.length) : (offArr l)[i]? = some (.int .u8 ((l[i] : Nat) : Int)) := by
  unfold offArr
  rw [List.getElem?_toArray]
  exact offCells_at h
theorem offArr_size (l : List Nat) : (offArr l).size = l.length := by simp [offArr, offCells]
structure AlsAt (w : World) (b : Nat) (x : Als) : Prop where
  c0 : w.cell? ⟨b, 0, none⟩ = some (.int .i64 x.tick)
  off : w.rangeAt b 1 (offCells x.off)
theorem AlsAt.carry {w w' : World} {b : Nat} {x : Als} (h : AlsAt w b x) (hb : Below w.heap.size w w') : AlsAt w' b x :=
  have hl : b < w.heap.size := below_block h.c0
  ⟨(hb.cell (p := ⟨b, 0, none⟩) hl).trans h.c0, fun j v hv => (hb.cell (p := ⟨b, 1 + j, none⟩) hl).trans (h.off j v hv)⟩
theorem AlsAt.new {w : World} {x : Als} (ty : TypeId) : AlsAt (w.alloc (.cells (alsArr x) ty)) w.heap.size x := by
  have hh : (w.alloc (.cells (alsArr x) ty)).heap[w.heap.size]? = some (.cells (alsArr x) ty (0, 0)) := heap_alloc_new w _
  refine ⟨?_, fun j v hv => ?_⟩
  · rw [cell_of_row _ w.heap.size _ _ _ _ hh]; rfl
  · rw [cell_of_row _ w.heap.size _ _ _ _ hh]
    show (alsArr x)[1 + j]? = some v
    rw [Nat.add_comm]
    simpa [alsArr] using hv
def prtsA (x : Als) : List Prt := [⟨x.tick, 0, 2147483647⟩]
theorem prtsA_ok (x : Als) : (prtsA x).all Prt.ok = rightA x := by
  simp only [prtsA, List.all_cons, List.all_nil, Prt.ok, rightA, Bool.and_true]
theorem Tryd.off8 : (Tryd.prog.info? 38).map (·.size) = some 8 := by kernel_rfl
theorem wpList_load_off {ops : Array Oper} {rest : List Oper} {op : Oper} {a : Act} {w : World} {Q : Exit → Act → World → Prop} (hw : Region.wanted op (yielded ops a.tmps) = true) (x : Operand) (ho : op.op = .load 38 x)
    (b o : Nat) (hx : a.eval x = .pointer (some ⟨b, o, none⟩)) (l : List Nat) (hl : l.length = 8) (hc : w.rangeAt b o (offCells l))
    (h : wpList Tryd.prog ops Q rest (a.put op.dst (.agg (offArr l))) w) : wpList Tryd.prog ops Q (op :: rest) a w :=
  wpList_step fun _ hK => by
    rw [if_pos hw]
    exact wp_load_mid 38 x ho b o hx (offCells l) _ hc Tryd.underlying38 rfl (by rw [show (offCells l).length = 8 by simp [offCells, hl]]; exact Tryd.off8) (hK _ _ h)
theorem index_off (w : World) {arr : Array Value} {j : Nat} {v : Value} (h : arr[j]? = some v) (hj : j < 8) : (Instr.index 38 (.agg arr) (.int .i64 (j : Int))).run Tryd.prog w = .ok v w := by
  have hi : ((0 : Int) ≤ (j : Int) ∧ (j : Int) < ((8 : Nat) : Int)) := by omega
  cases hie : Tryd.prog.info? 5 with
  | none => exact absurd hie (by intro h; have := Tryd.infoByte; rw [h] at this; cases this)
  | some ie =>
    have hs : ie.size = 1 := by
      have := Tryd.infoByte
      rw [hie] at this
      simp only [Option.map_some, Option.some.injEq, Prod.mk.injEq] at this
      exact this.2.1
    simp only [Instr.index, asIntOf, Sem.run_bind, Sem.run_pure, Result.andThen_ok, run_underlying Tryd.underlying38, hi, and_self, if_true]
    simp [sizeOf, typeInfo, hie, hs, part, isAgg, run_underlying Tryd.underlying5, h]
/-- the numbers so far lie in a row of the call's own -/
def LARel (x : Als) (w : World) (ns i : Value) (wr : World) : Prop :=
  ∃ (j g cap : Nat), j ≤ 8 ∧ i = .int .i64 (j : Int) ∧ ns = .slice (some ⟨g, 0, none⟩) (j + 1) cap ∧ wr.ownsRow w.heap.size 3 1 (.slice (some ⟨g, 0, none⟩) (j + 1) cap) (j + 1) (numCells ((numsA x).take (j + 1))) ∧ Below w.heap.size w wr
set_option maxRecDepth 100000 in
theorem LayAll_any (x : Als) (hx : x.Ok) (w : World) : Calls Tryd.prog 16 #[alsV x] w (RecLayPost (rightA x) (layA x) w) := by
  obtain ⟨b, HB⟩ : ∃ b, Hid (b = w.heap.size) := ⟨_, Lib.hid rfl⟩
  have HX := Lib.hid hx
  clear hx
  unfold alsV
  go_enter Tryd.func16, Tryd.ntmps16
  go_upto_region 1 with (fail)
  obtain ⟨w1, HW⟩ : ∃ w1, Hid (w1 = w.alloc (.cells (alsArr x) 44)) := ⟨_, Lib.hid rfl⟩
  rw [← HW.out, ← HB.out]
  have HO : Hid (AlsAt w1 b x) := Lib.hid (by rw [HW.out, HB.out]; exact AlsAt.new _)
  have HBL : Hid (Below w.heap.size w w1) := Lib.hid (by rw [HW.out]; exact (Below.refl _ _).alloc (Nat.le_refl _) _)
  clear HW
  have c0 := HO.out.c0
  go_wp2_with (with_reducible refine stop_at (o := ⟨some 10, _, _, _, _, _⟩) ?_)
  refine wpList_prts rfl 1 _ rfl (prtsA x) rfl (by decide) (by decide) rfl ?_
  intro w2 B2 HE2 HP2 HB2 HL2
  have HO2 := Lib.hid (HO.out.carry HB2.out)
  have HBL2 := Lib.hid (HBL.out.trans (HB2.out.mono HBL.out.size))
  clear HO HBL HB2 c0
  go_wp2_with fail
  refine (mayBe_any (prtsA x) B2 1 w2 HP2.out HL2.out (by decide : (1 : Nat) ≤ 100)).mono ?_
  rw [prtsA_ok]
  rintro e w3 ⟨rfl, hb⟩
  have HO3 := Lib.hid (HO2.out.carry (hb))
  have HBL3 := Lib.hid (HBL2.out.trans (hb.mono HBL2.out.size))
  clear hb HO2 HBL2 HP2 HL2 HE2
  cases hr : rightA x with
  | false =>
    have HNo : Hid (∀ v w', ErrFrom w' w.heap.size 8 v → Below w.heap.size w w' → RecLayPost (rightA x) (layA x) w (.returned (.tuple #[.string ⟨#[]⟩, v])) w') := Lib.hid fun v w' h1 h2 => by rw [hr]; exact ⟨v, rfl, h1, h2⟩
    clear hr
    go_wp2_with fail
    refine (RecFault_any 8 (by decide) _).mono ?_
    rintro e w4 ⟨v, rfl, he, hb⟩
    have HE := Lib.hid (he.mono HBL3.out.size)
    have HB4 := Lib.hid (HBL3.out.trans (hb.mono HBL3.out.size))
    clear he hb
    go_wp2_with fail
    go_ret2
    exact HNo.out v _ HE.out HB4.out
  | true =>
    have HR := Lib.hid hr
    have HY := Lib.hid (recLay_yes wsA (numsA x) · · · · · widthsA · · (lenA HX.out) (fitA HX.out hr))
    obtain ⟨s, HS⟩ : ∃ s : ByteArray, Hid (s = ⟨(layA x).toArray⟩) := ⟨_, Lib.hid rfl⟩
    have HPost : Hid (∀ w', Below w.heap.size w w' → RecLayPost (rightA x) (layA x) w (.returned (.tuple #[.string s, .nilIface])) w') := Lib.hid fun w' h => by rw [hr]; exact ⟨_, by rw [HS.out]; rfl, .nil _ _, h⟩
    clear hr
    obtain ⟨i0, hi, hz0, hz1, hz2⟩ := info_parts Tryd.infoInt
    have c0 := HO3.out.c0
    go_wp2_with (with_reducible refine stop_at (o := ⟨some 18, _, _, _, _, _⟩) ?_)
    refine wpList_load_off rfl _ rfl b 1 rfl x.off HX.out.len (fun j v hv => ?_) ?_
    · have hl : b < w3.heap.size := below_block HO3.out.c0
      exact (((Below.refl w3.heap.size w3).alloc (Nat.le_refl _) _).cell (p := ⟨b, 1 + j, none⟩) hl).trans (HO3.out.off j v hv)
    have HO4 : Hid ((w3.alloc (.cells #[.int .i64 x.tick] 3)).ownsRow w.heap.size 3 1 (.slice (some ⟨w3.heap.size, 0, none⟩) 1 1) 1 (numCells ((numsA x).take 1))) := Lib.hid (by
      have h := World.ownsRow_lit (base := w.heap.size) (e := 3) (size := 1) w3 #[.int .i64 x.tick] 1 HBL3.out.size (by decide) rfl
      have h9 := of_decide_eq_true HR.out
      have e : numCells ((numsA x).take 1) = [.int .i64 x.tick] := by
        simp only [numsA, List.take_succ_cons, List.take_zero, numCells, ints, List.map_cons, List.map_nil, List.cons.injEq, Value.int.injEq, and_true, true_and]
        omega
      rw [e]
      exact h)
    have HB4 : Hid (Below w.heap.size w (w3.alloc (.cells #[.int .i64 x.tick] 3))) := Lib.hid (HBL3.out.alloc HBL3.out.size _)
    obtain ⟨arr, HARR⟩ : ∃ arr, Hid (arr = offArr x.off) := ⟨_, Lib.hid rfl⟩
    have hasz : arr.size = 8 := by rw [HARR.out, offArr_size, HX.out.len]
    rw [← HARR.out]
    obtain ⟨w4, HW4⟩ : ∃ w4, Hid (w4 = w3.alloc (.cells #[.int .i64 x.tick] 3)) := ⟨_, Lib.hid rfl⟩
    obtain ⟨g4, HG4⟩ : ∃ g4, Hid (g4 = w3.heap.size) := ⟨_, Lib.hid rfl⟩
    rw [← HW4.out, ← HG4.out] at HO4 ⊢
    rw [← HW4.out] at HB4
    clear HW4 HG4 HO3 HBL3 c0
    go_wp2_with fail
    go_loopw [4, 19] (fun ns i wr => LARel x w ns i wr) (fun _ i _ => 8 - (intOf i).toNat)
    case atStart => exact ⟨0, g4, 1, by decide, rfl, rfl, HO4.out, HB4.out⟩
    case round =>
      obtain ⟨j, g, cap, hj, rfl, rfl, ho, hb⟩ := hrel
      have HO5 := Lib.hid ho
      have HB5 := Lib.hid hb
      clear ho hb HO4 HB4
      by_cases hlt : j < 8
      · have hl8 : j < x.off.length := by rw [HX.out.len]; exact hlt
        obtain ⟨c, HC⟩ : ∃ c : Nat, Hid (c = x.off[j]) := ⟨_, Lib.hid rfl⟩
        have harr : arr[j]? = some (.int .u8 (c : Int)) := by rw [HARR.out, HC.out]; exact offArr_at hl8
        have hc8 : c < 256 := by rw [HC.out]; exact HX.out.small _ (List.getElem_mem hl8)
        have hix : ∀ w : World, (Instr.index 38 (.agg arr) (.int .i64 (j : Int))).run Tryd.prog w = .ok (.int .u8 (c : Int)) w := fun w => index_off w harr hlt
        go_wp2_with (at_builtin; refine wpList_append_lies _ rfl _ _ 62 rfl w.heap.size 3 i0 (.int .i64 0) 1 8 Tryd.underlying62 hi hz0 hz1 hz2 rfl (by decide) (.slice (some ⟨g, 0, none⟩) (j + 1) cap) (j + 1) _ rfl (HO5.out.alloc _) ⟨wr.heap.size, 0, none⟩ 1 1 [.int .i64 (c : Int)] rfl rfl (news_one wr 3 _ rfl).1 (news_one wr 3 _ rfl).2 (by decide) (by unfold maxLen; omega) (by omega) (by have := HB5.out.size; simp; omega) (wr.heap.size + 1) (by simp) ?_; intro g6 cap6 w6 hown6 hgrow6 hat6 hg6)
        go_roundw
        case rel =>
          refine ⟨j + 1, g6, cap6, hlt, by go_num, rfl, ?_, HB5.out.alloc HB5.out.size _ |>.grown hgrow6 (by have := HB5.out.size; simp; omega) (fun k hk => (HO5.out.lt k hk).1)⟩
          have e : numCells ((numsA x).take (j + 1 + 1)) = numCells ((numsA x).take (j + 1)) ++ [.int .i64 (c : Int)] := by
            have h9 : j + 1 < (numsA x).length := by show j + 1 < x.off.length + 1; omega
            rw [List.take_add_one, List.getElem?_eq_getElem h9]
            rw [HC.out]
            simp only [numCells, ints, List.map_append]
            rfl
          rw [e]
          exact hown6
        case measure => simp [intOf]; omega
      · obtain rfl : j = 8 := by omega
        have hl9 : (numsA x).length = 9 := by show x.off.length + 1 = 9; rw [HX.out.len]
        go_wp2_with fail
        refine (allWidths_any _).mono ?_
        rintro e w6 ⟨B6, rfl, hn, hb⟩
        have HN6 := Lib.hid hn
        have HB6 := Lib.hid (HB5.out.trans (hb.mono HB5.out.size))
        have HNN := Lib.hid ((Nums.own (k := .i64) (zs := ints ((numsA x).take 9)) HO5.out).carry hb)
        clear hn hb
        go_wp2_with fail
        have HZ := HY.out (some ⟨B6, 0, none⟩) (some ⟨g, 0, none⟩) 9 cap w6 HN6.out (by have h := HNN.out; rw [List.take_of_length_le (by omega)] at h; exact h)
        rw [hl9, show lays (wsA.zip (numsA x)) = layA x from rfl] at HZ
        refine HZ.mono ?_
        unfold FieldsPost
        rw [← HS.out]
        rintro e w7 ⟨rfl, hb⟩
        have HB7 := Lib.hid (HB6.out.trans (hb.mono HB6.out.size))
        clear hb HZ
        go_wp2_with fail
        go_ret2
        exact HPost.out _ HB7.out
end Go.Proofs.YtjjlghdcpkkdhaaDoor
