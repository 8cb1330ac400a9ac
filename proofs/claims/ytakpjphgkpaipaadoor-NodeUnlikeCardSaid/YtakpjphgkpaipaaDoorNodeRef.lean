/-
  The contracts of the statements' own Few, Of, ints, Same. Conditions: none beyond the premises of each theorem.
-/
import Derived.Test.YtakpjphgkpaipaaDoorNodeAt
import Derived.Test.YtakpjphgkpaipaaDoorErrFrom
import Derived.Deep.DeepCutAuto
import Derived.Deep.RegionHeld3
namespace Go.Proofs.YtakpjphgkpaipaaDoor
open Go.RowKit

theorem nums_cell {w : World} {A : Option Addr} {zs : List Int} (h : Nums w .i64 A zs) {i : Nat} (hi : i < zs.length) : ∃ a, A = some a ∧ w.cell? (a.add i) = some (.int .i64 zs[i]) := h.at_ (List.getElem?_eq_getElem hi)
theorem strs_cell {w : World} {A : Option Addr} {n : Nat} {ss : List ByteArray} (h : Strs w A n ss) {i : Nat} (hi : i < ss.length) : ∃ a, A = some a ∧ w.cell? (a.add i) = some (.string ss[i]) := by
  obtain ⟨a, e, _, hc⟩ := h.2 (by have := h.1; omega)
  exact ⟨a, e, hc i _ (List.getElem?_eq_getElem hi)⟩
/-- is a node of a size that is looked at? -/
def fewB (x : Nd) : Bool := decide (x.keys.length ≤ 20) && decide (x.vals.length ≤ 20) && decide (x.kids.length ≤ 20) && x.vals.all fun v => decide (v.size ≤ 50)
def fewZ (x : Nd) : Int := if fewB x = true then 1 else 0
theorem few_long {x : Nd} (h : ¬ (x.keys.length ≤ 20 ∧ x.vals.length ≤ 20 ∧ x.kids.length ≤ 20)) : fewZ x = 0 := by
  unfold fewZ fewB
  rw [if_neg]
  simp only [Bool.and_eq_true, decide_eq_true_eq]
  rintro ⟨⟨⟨h1, h2⟩, h3⟩, _⟩
  exact h ⟨h1, h2, h3⟩
theorem few_wide {x : Nd} {k : Nat} (hk : k < x.vals.length) (h : 50 < x.vals[k].size) : fewZ x = 0 := by
  unfold fewZ fewB
  rw [if_neg]
  simp only [Bool.and_eq_true, List.all_eq_true, decide_eq_true_eq]
  rintro ⟨_, h4⟩
  have := h4 _ (List.getElem_mem hk)
  omega
theorem few_yes {x : Nd} (h : x.keys.length ≤ 20 ∧ x.vals.length ≤ 20 ∧ x.kids.length ≤ 20) (hv : ∀ j (hx : j < x.vals.length), x.vals[j].size ≤ 50) : fewZ x = 1 := by
  unfold fewZ fewB
  rw [if_pos]
  simp only [Bool.and_eq_true, List.all_eq_true, decide_eq_true_eq]
  refine ⟨⟨⟨h.1, h.2.1⟩, h.2.2⟩, fun v hm => ?_⟩
  obtain ⟨i, hi, rfl⟩ := List.mem_iff_getElem.1 hm
  exact hv i hi
def FewRel (vals : List ByteArray) (i : Value) : Prop := ∃ k : Nat, k ≤ vals.length ∧ i = .int .i64 (k : Int) ∧ ∀ j (_ : j < k) (hx : j < vals.length), vals[j].size ≤ 50
set_option maxRecDepth 100000 in
theorem Few_any {w : World} {l : Lay3} {x : Nd} (h : NdIs w l x) : Calls Tryd.prog 9 #[ndV l x] w fun e w' => e = .returned (.int .i64 (fewZ x)) ∧ Below w.heap.size w w' := by
  obtain ⟨A, B, C, ca, cb, cc⟩ := l
  obtain ⟨b, HB⟩ : ∃ b, Hid (b = w.heap.size) := ⟨_, Lib.hid rfl⟩
  obtain ⟨w1, HW⟩ : ∃ w1, Hid (w1 = w.alloc (.cells #[.slice A x.keys.length ca, .slice B x.vals.length cb, .slice C x.kids.length cc] 25)) := ⟨_, Lib.hid rfl⟩
  have HX : Hid (NdBox w1 b ⟨A, B, C, ca, cb, cc⟩ x) := Lib.hid (by rw [HW.out, HB.out]; exact NdBox.new (l := ⟨A, B, C, ca, cb, cc⟩) (x := x) _)
  have HBL : Hid (Below w.heap.size w w1) := Lib.hid (by rw [HW.out]; exact (Below.refl _ _).alloc (Nat.le_refl _) _)
  have HV : Hid (Strs w1 B x.vals.length x.vals) := Lib.hid (h.vals.below HBL.out)
  clear h
  have c0 : w1.cell? ⟨b, 0, none⟩ = some (.slice A x.keys.length ca) := HX.out.c0
  have c1 : w1.cell? ⟨b, 1, none⟩ = some (.slice B x.vals.length cb) := HX.out.c1
  have c2 : w1.cell? ⟨b, 2, none⟩ = some (.slice C x.kids.length cc) := HX.out.c2
  clear HX
  by_cases hs : x.keys.length ≤ 20 ∧ x.vals.length ≤ 20 ∧ x.kids.length ≤ 20
  · obtain ⟨h1, h2, h3⟩ := hs
    have g1 : ¬ (20 : Int) < (x.keys.length : Int) := by omega
    have g2 : ¬ (20 : Int) < (x.vals.length : Int) := by omega
    have g3 : ¬ (20 : Int) < (x.kids.length : Int) := by omega
    have HS : Hid (x.keys.length ≤ 20 ∧ x.vals.length ≤ 20 ∧ x.kids.length ≤ 20) := Lib.hid ⟨h1, h2, h3⟩
    clear h1 h2 h3
    go_enter Tryd.func9, Tryd.ntmps9
    go_upto_region 1 with (fail)
    rw [← HW.out, ← HB.out]
    clear HW HB
    go_wp2_with fail
    go_loop [3] (fun i => FewRel x.vals i) (fun i => x.vals.length - (intOf i).toNat)
    case atStart => exact ⟨0, Nat.zero_le _, rfl, fun j hj => absurd hj (Nat.not_lt_zero j)⟩
    case round =>
      obtain ⟨k, hk, rfl, hall⟩ := hrel
      have HALL := Lib.hid hall
      clear hall
      by_cases hlt : k < x.vals.length
      · obtain ⟨a, rfl, hc⟩ := strs_cell HV.out hlt
        obtain ⟨v, HVV⟩ : ∃ v, Hid (v = x.vals[k]) := ⟨_, Lib.hid rfl⟩
        rw [← HVV.out] at hc
        by_cases hv : 50 < v.size
        · have hv2 : (50 : Int) < (v.size : Int) := by omega
          have HZ : Hid (fewZ x = 0) := Lib.hid (few_wide hlt (by rw [← HVV.out]; exact hv))
          clear hv
          go_wp2_with fail
          go_ret
          exact ⟨by rw [HZ.out]; rfl, HBL.out⟩
        · have hv2 : ¬ (50 : Int) < (v.size : Int) := by omega
          have HVL : Hid (v.size ≤ 50) := Lib.hid (by omega)
          clear hv
          go_wp2_with fail
          go_round
          case rel =>
            refine ⟨k + 1, hlt, by go_num, fun j hj hx => ?_⟩
            rcases Nat.lt_or_ge j k with h | h
            · exact HALL.out j h hx
            · obtain rfl : j = k := by omega
              rw [← HVV.out]
              exact HVL.out
          case measure => simp [intOf]; omega
      · obtain rfl : k = x.vals.length := by omega
        have HZ : Hid (fewZ x = 1) := Lib.hid (few_yes HS.out fun j hx => HALL.out j hx hx)
        go_wp2_with fail
        go_ret
        exact ⟨by rw [HZ.out]; rfl, HBL.out⟩
  · have HZ := Lib.hid (few_long hs)
    have key : (20 : Int) < (x.keys.length : Int) ∨ (¬ (20 : Int) < (x.keys.length : Int) ∧ (20 : Int) < (x.vals.length : Int)) ∨ (¬ (20 : Int) < (x.keys.length : Int) ∧ ¬ (20 : Int) < (x.vals.length : Int) ∧ (20 : Int) < (x.kids.length : Int)) := by omega
    clear hs
    rcases key with g1 | ⟨g1, g2⟩ | ⟨g1, g2, g3⟩
    all_goals
      go_enter Tryd.func9, Tryd.ntmps9
      go_upto_region 1 with (fail)
      rw [← HW.out, ← HB.out]
      clear HW HB
      go_wp2_with fail
      go_ret
      exact ⟨by rw [HZ.out]; rfl, HBL.out⟩
theorem Tryd.zeroNode (w : World) : (zeroValue 32).run Tryd.prog w = .ok (.agg #[.slice none 0 0, .slice none 0 0, .slice none 0 0]) w := by kernel_rfl
theorem Tryd.zeroRefNode (w : World) : (zeroValue 25).run Tryd.prog w = .ok (.agg #[.slice none 0 0, .slice none 0 0, .slice none 0 0]) w := by kernel_rfl
theorem Tryd.nodeThree (x y z : Value) : Tryd.prog.built 32 [(0, x), (1, y), (2, z)] = Instr.fill ((#[(0, 1), (1, 1), (2, 1)] : Array (Nat × Nat))[·]?) #[.slice none 0 0, .slice none 0 0, .slice none 0 0] [(0, x), (1, y), (2, z)] := by kernel_rfl
theorem built_node (A B C : Option Addr) (a b c ca cb cc : Nat) : Tryd.prog.built 32 [(0, .slice A a ca), (1, .slice B b cb), (2, .slice C c cc)] = some #[.slice A a ca, .slice B b cb, .slice C c cc] := by
  rw [Tryd.nodeThree]
  rfl
/-- a type of nodes -/
structure NdType (T : TypeId) : Prop where
  und : ∃ d, Tryd.prog.underlying T = some d ∧ d.isRow = true
  size : (Tryd.prog.info? T).map (·.size) = some 3
theorem Tryd.ndProg : NdType 32 := ⟨⟨_, Tryd.underlying32, rfl⟩, by kernel_rfl⟩
theorem Tryd.ndRef : NdType 25 := ⟨⟨_, Tryd.underlying25, rfl⟩, by kernel_rfl⟩
theorem NdBox.range {w : World} {b : Nat} {l : Lay3} {x : Nd} (h : NdBox w b l x) : w.rangeAt b 0 (ndCells l x) := fun j v hv => by
  unfold ndCells at hv
  match j with
  | 0 => exact h.c0.trans hv
  | 1 => exact h.c1.trans hv
  | 2 => exact h.c2.trans hv
  | j + 3 => simp at hv
theorem loadNd {T : TypeId} (hT : NdType T) {w : World} {b : Nat} {l : Lay3} {x : Nd} (h : NdBox w b l x) : (loadVar T ⟨b, 0, none⟩).run Tryd.prog w = .ok (ndV l x) w := by
  obtain ⟨d, hu, hd⟩ := hT.und
  exact run_loadVar_mid w b 0 T (ndCells l x) _ h.range hu hd hT.size
theorem wpList_load_nd {T : TypeId} (hT : NdType T) {ops : Array Oper} {rest : List Oper} {op : Oper} {a : Act} {w : World} {Q : Exit → Act → World → Prop} (hw : Region.wanted op (yielded ops a.tmps) = true) (y : Operand) (ho : op.op = .load T y)
    (b : Nat) (hx : a.eval y = .pointer (some ⟨b, 0, none⟩)) (l : Lay3) (x : Nd) (hc : NdBox w b l x)
    (h : wpList Tryd.prog ops Q rest (a.put op.dst (ndV l x)) w) : wpList Tryd.prog ops Q (op :: rest) a w :=
  wpList_step fun _ hK => by
    obtain ⟨d, hu, hd⟩ := hT.und
    rw [if_pos hw]
    exact wp_load_mid T y ho b 0 hx (ndCells l x) _ hc.range hu hd hT.size (hK _ _ h)
theorem yieldsIf_nd {T : TypeId} (hT : NdType T) {ops : Array Oper} {S : World → Prop} {op : Oper} {a : Act} (hw : Region.wanted op (yielded ops a.tmps) = true) (y : Operand) (ho : op.op = .load T y)
    (b : Nat) (hx : a.eval y = .pointer (some ⟨b, 0, none⟩)) (l : Lay3) (x : Nd) (hS : ∀ w, S w → NdBox w b l x) : YieldsIf Tryd.prog ops S op (ndV l x) a := by
  obtain ⟨d, hu, hd⟩ := hT.und
  exact yieldsIf_load_mid hw _ y ho b 0 hx (ndCells l x) _ (fun w h => (hS w h).range) hu hd hT.size
theorem results_nd {T : TypeId} (hT : NdType T) {fn : Func} {p : Tmp} (h : fn.results = #[.cell p T]) (tmps : Array Value) (w : World) (b : Nat) (l : Lay3) (x : Nd)
    (hp : tmps.getD p undef = .pointer (some ⟨b, 0, none⟩)) (hc : NdBox w b l x) : (results fn tmps).run Tryd.prog w = .ok (ndV l x) w := by
  have hp' : tmps[p]?.getD undef = .pointer (some ⟨b, 0, none⟩) := by simpa using hp
  simp [results, h, hp', asAddr, loadNd hT hc]
theorem results_nd2 {T : TypeId} (hT : NdType T) {fn : Func} {p q : Tmp} (h : fn.results = #[.cell p T, .tmp q]) (tmps : Array Value) (w : World) (b : Nat) (l : Lay3) (x : Nd) (v : Value)
    (hp : tmps.getD p undef = .pointer (some ⟨b, 0, none⟩)) (hq : tmps.getD q undef = v) (hc : NdBox w b l x) : (results fn tmps).run Tryd.prog w = .ok (.tuple #[ndV l x, v]) w := by
  rw [results_cell_tmp h, hp, hq]
  simp [asAddr, Result.andThen, loadNd hT hc]
theorem NdBox.set3 {w : World} {b : Nat} {l : Lay3} {x : Nd} {u0 u1 u2 : Value} (d0 : w.cell? ⟨b, 0, none⟩ = some u0) (d1 : w.cell? ⟨b, 1, none⟩ = some u1) (d2 : w.cell? ⟨b, 2, none⟩ = some u2) :
    NdBox (((w.setCell ⟨b, 0, none⟩ (.slice l.A x.keys.length l.ca)).setCell ⟨b, 1, none⟩ (.slice l.B x.vals.length l.cb)).setCell ⟨b, 2, none⟩ (.slice l.C x.kids.length l.cc)) b l x := by
  have n01 : (⟨b, 0, none⟩ : Addr) ≠ ⟨b, 1, none⟩ := by simp
  have n02 : (⟨b, 0, none⟩ : Addr) ≠ ⟨b, 2, none⟩ := by simp
  have n12 : (⟨b, 1, none⟩ : Addr) ≠ ⟨b, 2, none⟩ := by simp
  refine ⟨?_, ?_, ?_⟩
  · rw [World.cell?_setCell_other _ _ _ _ (Ne.symm n02), World.cell?_setCell_other _ _ _ _ (Ne.symm n01), World.cell?_setCell_same _ _ _ d0]
  · rw [World.cell?_setCell_other _ _ _ _ (Ne.symm n12), World.cell?_setCell_same _ _ _ ((World.cell?_setCell_other _ _ _ _ n01).trans d1)]
  · rw [World.cell?_setCell_same _ _ _ ((World.cell?_setCell_other _ _ _ _ n12).trans ((World.cell?_setCell_other _ _ _ _ n02).trans d2))]
set_option maxRecDepth 100000 in
theorem Of_any {w : World} (l : Lay3) (x : Nd) : Calls Tryd.prog 11 #[ndV l x] w fun e w' => e = .returned (ndV l x) ∧ Below w.heap.size w w' := by
  obtain ⟨A, B, C, ca, cb, cc⟩ := l
  have hz := Tryd.zeroNode
  have hbt := built_node
  obtain ⟨b, HB⟩ : ∃ b, Hid (b = w.heap.size) := ⟨_, Lib.hid rfl⟩
  obtain ⟨w1, HW⟩ : ∃ w1, Hid (w1 = (w.alloc (.cells #[.slice A x.keys.length ca, .slice B x.vals.length cb, .slice C x.kids.length cc] 25)).alloc (.cells #[.slice none 0 0, .slice none 0 0, .slice none 0 0] 32)) := ⟨_, Lib.hid rfl⟩
  have HBL : Hid (Below w.heap.size w w1) := Lib.hid (by rw [HW.out]; exact ((Below.refl _ _).alloc (Nat.le_refl _) _).alloc (by simp) _)
  have c0 : w1.cell? ⟨b, 0, none⟩ = some (.slice A x.keys.length ca) := by rw [HW.out, HB.out]; simp
  have c1 : w1.cell? ⟨b, 1, none⟩ = some (.slice B x.vals.length cb) := by rw [HW.out, HB.out]; simp
  have c2 : w1.cell? ⟨b, 2, none⟩ = some (.slice C x.kids.length cc) := by rw [HW.out, HB.out]; simp
  have d0 : w1.cell? ⟨b + 1, 0, none⟩ = some (.slice none 0 0) := by rw [HW.out, HB.out]; simp
  have d1 : w1.cell? ⟨b + 1, 1, none⟩ = some (.slice none 0 0) := by rw [HW.out, HB.out]; simp
  have d2 : w1.cell? ⟨b + 1, 2, none⟩ = some (.slice none 0 0) := by rw [HW.out, HB.out]; simp
  have f0 : w1.frozen? ⟨b + 1, 0, none⟩ = false := by rw [HW.out, HB.out]; simp
  have f1 : w1.frozen? ⟨b + 1, 1, none⟩ = false := by rw [HW.out, HB.out]; simp
  have f2 : w1.frozen? ⟨b + 1, 2, none⟩ = false := by rw [HW.out, HB.out]; simp
  obtain ⟨w2, HW2⟩ : ∃ w2, Hid (w2 = ((w1.setCell ⟨b + 1, 0, none⟩ (.slice A x.keys.length ca)).setCell ⟨b + 1, 1, none⟩ (.slice B x.vals.length cb)).setCell ⟨b + 1, 2, none⟩ (.slice C x.kids.length cc)) := ⟨_, Lib.hid rfl⟩
  have HBX : Hid (NdBox w2 (b + 1) ⟨A, B, C, ca, cb, cc⟩ x) := Lib.hid (by rw [HW2.out]; exact NdBox.set3 (l := ⟨A, B, C, ca, cb, cc⟩) (x := x) d0 d1 d2)
  have HB2 : Hid (Below w.heap.size w w2) := Lib.hid (by
    have hle : w.heap.size ≤ b + 1 := by rw [HB.out]; omega
    rw [HW2.out]
    exact ((HBL.out.setCell hle _).setCell hle _).setCell hle _)
  go_enter Tryd.func11, Tryd.ntmps11
  go_upto_region 1 with (fail)
  rw [← HW.out, ← HB.out]
  go_wp2_with fail
  rw [← HW2.out]
  exact bodyPost_ret (results_nd Tryd.ndProg rfl _ _ (b + 1) ⟨A, B, C, ca, cb, cc⟩ x rfl HBX.out) rfl ⟨rfl, HB2.out⟩
end Go.Proofs.YtakpjphgkpaipaaDoor
