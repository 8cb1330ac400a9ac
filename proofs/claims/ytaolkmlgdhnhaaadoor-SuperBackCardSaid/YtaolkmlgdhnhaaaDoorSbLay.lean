/-
  The contract of super.Lay. Conditions: none beyond the premises of each theorem.
-/
import Derived.Test.YtaolkmlgdhnhaaaDoorSbRight
import Derived.Test.YtaolkmlgdhnhaaaDoorFrPage
import Derived.Test.YtaolkmlgdhnhaaaDoorPackParse
import Derived.Great.BuildSlice
namespace Go.Proofs.YtaolkmlgdhnhaaaDoor
open Go.RowKit

theorem stCells_pg {s : List Nat} (h : ∀ b ∈ s, b < 256) : stCells s = pgCells (pgB (setB s)) := by
  simp only [stCells, pgCells, pgB, setB, List.map_map]
  refine List.map_congr_left fun b hb => ?_
  have := h b hb
  show Value.int .u8 (b : Int) = Value.int .u8 ((UInt8.ofNat b).toNat : Int)
  rw [UInt8.toNat_ofNat', Nat.mod_eq_of_lt (by omega)]
theorem set_text {w : World} {b o n cap : Nat} {s : List Nat} (h : w.rangeAt b o (stCells s)) (hs : ∀ b ∈ s, b < 256) (hn : s.length = n) :
    (convert 65 9 (.slice (some ⟨b, o, none⟩) n cap)).run Tryd.prog w = .ok (.string ⟨(setB s).toArray⟩) w := by
  rw [stCells_pg hs] at h
  exact range_text h (by rw [setB_length, hn])
/-- two numbers in a row of their own -/
theorem nums_two {w : World} {a c : Int} (t : TypeId) : Nums (w.alloc (.cells #[.int .i64 a, .int .i64 c] t)) .i64 (some ⟨w.heap.size, 0, none⟩) [a, c] := fun _ => ⟨_, rfl, by simp, fun i z hz => by
  match i, hz with
  | 0, hz => simp at hz; simp [hz, Addr.add]
  | 1, hz => simp at hz; simp [hz, Addr.add]⟩
/-- a slice literal of two numbers -/
theorem wpList_two {ops : Array Oper} {rest : List Oper} {o : Oper} {a : Act} {w : World} {Q : Exit → Act → World → Prop} (hg : o.guard = none) (x y : Operand) (ho : o.op = .buildSlice 63 2 #[(0, x), (1, y)]) (m n : Int)
    (hx : a.eval x = .int .i64 m) (hy : a.eval y = .int .i64 n)
    (h : ∀ w2 B, Hid (B = w.heap.size) → Hid (Nums w2 .i64 (some ⟨B, 0, none⟩) [m, n]) → Hid (Below w.heap.size w w2) → wpList Tryd.prog ops Q rest (a.put o.dst (.slice (some ⟨B, 0, none⟩) 2 2)) w2) : wpList Tryd.prog ops Q (o :: rest) a w := by
  obtain ⟨i0, hi, hz0, hz1, _⟩ := info_parts Tryd.infoInt
  have hp : (#[(0, x), (1, y)].map fun (i, x) => (i, a.eval x)).toList = [(0, .int .i64 m), (1, .int .i64 n)] := by simp only [List.map_toArray, List.map_cons, List.map_nil, hx, hy]
  refine wpList_buildSlice hg 63 3 2 _ ho #[.int .i64 m, .int .i64 n] i0 (.int .i64 0) Tryd.underlying63 hi hz0 (by rw [hz1]; decide) (by rw [hz1]; decide) ?_ ?_
  · rw [hp, hz1]
    exact Great.fill_flat [.int .i64 m, .int .i64 n] _ (fun v hv => by
      simp only [List.mem_cons, List.not_mem_nil, or_false] at hv
      rcases hv with rfl | rfl <;> rfl) (by simp)
  · exact h _ _ (Lib.hid rfl) (Lib.hid (nums_two _)) (Lib.hid ((Below.refl _ _).alloc (Nat.le_refl _) _))
theorem widths_super : Widths [4, 1] := ⟨by decide, by decide⟩
theorem fit_super {g r : Nat} (hg : g < 4294967296) (hr : r < 256) : FitAll [4, 1] [g, r] := fun i h1 h2 => by
  match i, h1, h2 with
  | 0, _, _ => exact hg
  | 1, _, _ => exact hr
theorem lays_super (g r : Nat) (u : List UInt8) : lays ([4, 1].zip [g, r]) ++ u = be 4 g ++ UInt8.ofNat r :: u := by
  have h0 : lays ([4, 1].zip [g, r]) = be 4 g ++ (be 1 r ++ lays []) := rfl
  have h1 : be 1 r = [UInt8.ofNat r] := by
    simp [be]
  rw [h0, h1]
  show (be 4 g ++ ([UInt8.ofNat r] ++ [])) ++ u = _
  simp
/-- what Lay answers -/
def SbLayPost (x : Sb) (w : World) (e : Ending) (w' : World) : Prop :=
  ∃ v, e = .returned (.tuple #[.string (if rightB x = true then ⟨(layS x).toArray⟩ else ⟨#[]⟩), v]) ∧ ErrFrom w' w.heap.size (if rightB x = true then 0 else 1) v ∧ Below w.heap.size w w'
set_option maxRecDepth 100000 in
theorem Lay_any (x : Sb) (hx : x.Ok) (w : World) : Calls Tryd.prog 9 #[sbV x] w (SbLayPost x w) := by
  have HX := Lib.hid hx
  clear hx
  obtain ⟨b, HB⟩ : ∃ b, Hid (b = w.heap.size) := ⟨_, Lib.hid rfl⟩
  obtain ⟨w1, HW⟩ : ∃ w1, Hid (w1 = w.alloc (.cells (sbArr x) 33)) := ⟨_, Lib.hid rfl⟩
  have HO : Hid (BOwn w1 b x) := Lib.hid (by rw [HW.out, HB.out]; exact BOwn.new _)
  have HBL : Hid (Below w.heap.size w w1) := Lib.hid (by rw [HW.out]; exact (Below.refl _ _).alloc (Nat.le_refl _) _)
  go_enter Tryd.func9, Tryd.ntmps9
  go_upto_region 1 with (fail)
  rw [← HW.out, ← HB.out]
  clear HW
  go_wp2_with (with_reducible refine stop_at (o := ⟨some 6, _, _, _, _, _⟩) ?_)
  refine wpList_load_sb Tryd.sbProg rfl _ rfl b rfl x HX.out HO.out.at_ ?_
  go_wp2_with fail
  refine (Right_any x HX.out _).mono ?_
  rintro e w2 ⟨rfl, hb⟩
  have HO2 := Lib.hid (HO.out.below hb HO.out.lt)
  have HB2 : Hid (Below w.heap.size w w2) := Lib.hid (HBL.out.trans (hb.mono HBL.out.size))
  clear hb HO HBL
  cases hr : rightB x with
  | false =>
    have HR := Lib.hid hr
    clear hr
    go_wp2_with fail
    refine (SbFault_any 1 (by decide) _).mono ?_
    rintro e w3 ⟨v, rfl, he, hb⟩
    have HE := Lib.hid he
    have HB3 := Lib.hid hb
    clear he hb
    go_wp2_with fail
    go_ret2
    refine ⟨v, by rw [HR.out]; rfl, ?_, HB2.out.trans (HB3.out.mono HB2.out.size)⟩
    rw [HR.out]
    exact HE.out.mono HB2.out.size
  | true =>
    have HR := Lib.hid hr
    obtain ⟨r, hroot, hrlt⟩ := rightB_root hr
    have c0 := HO2.out.gen
    have c1 := HO2.out.root
    rw [hroot] at c1
    obtain ⟨g, HG⟩ : ∃ g, Hid (g = x.gen) := ⟨_, Lib.hid rfl⟩
    rw [← HG.out] at c0
    have HRT := Lib.hid hroot
    have hg : (g : Int) < 4294967296 := by have := HX.out.gen; rw [HG.out]; omega
    clear hr hroot
    go_wp2_with (with_reducible refine stop_at (o := ⟨some 11, _, _, _, _, _⟩) ?_)
    refine wpList_two rfl _ _ rfl 4 1 rfl rfl ?_
    intro w3 B3 HBE3 HN3 HBL3
    have HO3 := Lib.hid (HO2.out.below HBL3.out HO2.out.lt)
    have c0 := HO3.out.gen
    have c1 := HO3.out.root
    rw [HRT.out] at c1
    rw [← HG.out] at c0
    have hcv : IntKind.i64.wrap (g : Int) = (g : Int) := IntWalk.i64_in _ (by omega)
    go_wp2_with (with_reducible refine stop_at (o := ⟨some 17, _, _, _, _, _⟩) ?_)
    refine wpList_two rfl _ _ rfl (g : Int) (r : Int) rfl rfl ?_
    intro w4 B4 HBE4 HN4 HBL4
    have HO4 := Lib.hid (HO3.out.below HBL4.out HO3.out.lt)
    have HB4 : Hid (Below w.heap.size w w4) := Lib.hid ((HB2.out.trans (HBL3.out.mono HB2.out.size)).trans (HBL4.out.mono (Nat.le_trans HB2.out.size HBL3.out.size)))
    have HN3' := Lib.hid (HN3.out.carry HBL4.out)
    clear c0 c1 hcv
    go_wp2_with fail
    refine (Fields_yes [4, 1] [g, r] (some ⟨B3, 0, none⟩) (some ⟨B4, 0, none⟩) 2 2 w4 widths_super HN3'.out HN4.out rfl (fit_super (by omega) (by omega))).mono ?_
    rintro e w5 ⟨rfl, hb⟩
    have HO5 := Lib.hid (HO4.out.below hb HO4.out.lt)
    have HB5 : Hid (Below w.heap.size w w5) := Lib.hid (HB4.out.trans (hb.mono HB4.out.size))
    obtain ⟨t, HT⟩ : ∃ t, Hid (t = lays ([4, 1].zip [g, r])) := ⟨_, Lib.hid rfl⟩
    rw [← HT.out]
    have hcv := set_text (cap := 30) HO5.out.used HX.out.used.small HX.out.used.len
    clear hb
    obtain ⟨p, HP⟩ : ∃ p : ByteArray, Hid (p = ⟨t.toArray⟩) := ⟨_, Lib.hid rfl⟩
    obtain ⟨q, HQ⟩ : ∃ q : ByteArray, Hid (q = ⟨(setB x.used).toArray⟩) := ⟨_, Lib.hid rfl⟩
    rw [← HP.out]
    rw [← HQ.out] at hcv
    have HL : Hid (t ++ setB x.used = layS x) := Lib.hid (by rw [HT.out, lays_super, HG.out]; unfold layS; rw [HRT.out, Int.toNat_natCast])
    have hps : p.size ≤ 100 := by
      have := congrArg List.length HL.out
      rw [List.length_append, layS_length HX.out] at this
      rw [HP.out, toArr_size]
      omega
    have hqs : q.size ≤ 100 := by rw [HQ.out, toArr_size, setB_length, HX.out.used.len]; decide
    have hsum : p.size + q.size ≤ maxLen := by unfold maxLen; omega
    go_wp2_with fail
    go_ret2
    have hpq : p ++ q = ⟨(layS x).toArray⟩ := by
      apply ByteArray.ext
      apply Array.toList_inj.1
      rw [HP.out, HQ.out, ← HL.out]
      simp
    refine ⟨.nilIface, ?_, ?_, HB5.out⟩
    · rw [HR.out, if_pos rfl, ← hpq]
      rfl
    · rw [HR.out, if_pos rfl]
      exact .nil _ _
end Go.Proofs.YtaolkmlgdhnhaaaDoor
