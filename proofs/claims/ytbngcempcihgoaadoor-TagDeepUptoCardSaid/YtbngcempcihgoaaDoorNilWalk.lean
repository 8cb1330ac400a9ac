/-
  The contracts at a nil *Tagged and at a tag around nil, and the walk of the statement TagNil: for every name it answers true, and no memory that was there has turned. Conditions: the package variable errors.errorType holds the handle of the type error; the name is shorter than 2^47 bytes.
-/
import Derived.Test.YtbngcempcihgoaaDoorUnlikeWalk
namespace Go.Proofs.YtbngcempcihgoaaDoor
open Go.RowKit Go.Extern.Stop Go.Stop Go.Extern

theorem unwrap_none (w : World) : Calls Tryd.prog 17 #[.pointer none] w fun e w' => e = .returned .nilIface ∧ w = w' := by
  go_enter Tryd.func17, Tryd.ntmps17
  go_wp2
  go_ret
  exact ⟨rfl, rfl⟩

set_option maxHeartbeats 4000000 in
set_option maxRecDepth 100000 in
theorem error_none (w : World) : Calls Tryd.prog 16 #[.pointer none] w fun e w' => e = .returned (.string ⟨#[]⟩) ∧ Below w.heap.size w w' := by
  have hbu := Lib.hid (Lib.fresh_isBuilder 52 5 w)
  have hbw := Lib.hid ((Below.refl w.heap.size w).alloc (Nat.le_refl _) (.cells #[.pointer none, .slice none 0 0] 52))
  go_enter Tryd.func16, Tryd.ntmps16
  go_wp2
  refine wp_loop_rounds 1 ?_
  rw [rounds_succ]
  go_wp2_with fail
  refine (Tryd.Builder_String_any w.heap.size w.heap.size [] _ hbu.out (by simp)).mono ?_
  rintro e w1 ⟨rfl, hb1⟩
  have HB1 := Lib.hid (hbw.out.trans hb1)
  clear hb1
  go_wp2
  go_ret
  exact ⟨rfl, HB1.out⟩

set_option maxHeartbeats 4000000 in
set_option maxRecDepth 100000 in
theorem error_bare (p : Nat) (s : ByteArray) (w : World) (h0 : w.cell? ⟨p, 0, none⟩ = some (.string s)) (h1 : w.cell? ⟨p, 1, none⟩ = some .nilIface) (hlen : s.size + 1 ≤ 140737488355328) :
    Calls Tryd.prog 16 #[.pointer (some ⟨p, 0, none⟩)] w fun e w' => e = .returned (.string ⟨(s.data.toList ++ [46]).toArray⟩) ∧ Below w.heap.size w w' := by
  have a3 := Tryd.isTagNil
  have hlt : p < w.heap.size := lt_of_cell h0
  have HL := Lib.hid hlen
  have hbu := Lib.hid (Lib.fresh_isBuilder 52 5 w)
  have hbw := Lib.hid ((Below.refl w.heap.size w).alloc (Nat.le_refl _) (.cells #[.pointer none, .slice none 0 0] 52))
  clear hlen
  go_enter Tryd.func16, Tryd.ntmps16
  go_wp2
  refine wp_loop_rounds 2 ?_
  rw [rounds_succ]
  have k0 : (w.alloc (.cells #[.pointer none, .slice none 0 0] 52)).cell? ⟨p, 0, none⟩ = some (.string s) := (hbw.out.cell (p := ⟨p, 0, none⟩) hlt).trans h0
  go_wp2_with fail
  refine (writeStr w.heap.size w.heap.size [] s _ hbu.out (by have := HL.out; simp only [List.length_nil]; omega) (by simp)).mono ?_
  rintro e w1 ⟨rfl, hu1, hb1⟩
  have HB1 := Lib.hid (hbw.out.trans hb1)
  have HU1 := Lib.hid hu1
  clear hb1 hu1 hbu hbw k0
  go_wp2_with fail
  refine (writeDot w.heap.size w.heap.size ([] ++ s.data.toList) w1 HU1.out (by have := HL.out; rw [List.length_append, lenS, List.length_nil]; omega) HB1.out.size).mono ?_
  rintro e w2 ⟨rfl, hu2, hb2⟩
  have HB2 := Lib.hid (HB1.out.trans hb2)
  have HU2 := Lib.hid hu2
  have k1 : w2.cell? ⟨p, 1, none⟩ = some .nilIface := (HB2.out.cell (p := ⟨p, 1, none⟩) hlt).trans h1
  clear hb2 hu2 HB1 HU1
  go_wp2_with fail
  refine (textOf_nil w2).mono ?_
  rintro e w' ⟨rfl, rfl⟩
  go_wp2_with fail
  refine (writeStr w.heap.size w.heap.size ([] ++ s.data.toList ++ [46]) ⟨#[]⟩ w2 HU2.out (by have := HL.out; simp only [List.length_append, lenS, List.length_nil, List.length_cons]; have e : (⟨#[]⟩ : ByteArray).size = 0 := rfl; omega) HB2.out.size).mono ?_
  rintro e w3 ⟨rfl, hu3, hb3⟩
  have HB3 := Lib.hid (HB2.out.trans hb3)
  have HU3 := Lib.hid hu3
  clear hb3 hu3 k1
  go_wp2
  rw [rounds_succ]
  go_wp2_with fail
  refine (Tryd.Builder_String_any w.heap.size w.heap.size _ _ HU3.out HB3.out.size).mono ?_
  rintro e w4 ⟨rfl, hb4⟩
  have HB4 := Lib.hid (HB3.out.trans hb4)
  clear hb4
  go_wp2
  go_ret
  exact ⟨by simp, HB4.out⟩

def AsNo (w : World) (B : Nat) (t : Addr) (old : Value) (e : Ending) (w' : World) : Prop :=
  e = .returned (.bool false) ∧ w'.cell? t = some old ∧ w'.frozen? t = false ∧ Below B w w'

set_option maxHeartbeats 4000000 in
theorem as_bare (B p : Nat) (t : Addr) (k : Nat) (old : Value) (w : World) (h1 : w.cell? ⟨p, 1, none⟩ = some .nilIface) (ht : w.cell? t = some old) (hf : w.frozen? t = false) (hB : B ≤ w.heap.size) :
    Calls Tryd.prog 38 #[.iface 36 (.pointer (some ⟨p, 0, none⟩)), .iface 59 (.pointer (some t)), valAgg k, .iface 81 (.agg #[.pointer (some ⟨1, 29, none⟩)])] w (AsNo w B t old) := by
  have htl : t.block < w.heap.size := lt_of_cell ht
  have hpl : p < w.heap.size := lt_of_cell h1
  have tP := Tryd.typeOf36
  have mA := Tryd.methodAssignableTo
  have a36 := Tryd.assignable36
  have a2 := Tryd.noAs36
  have a5 := Tryd.hasUnwrap36
  have m1 := Tryd.methodUnwrap
  have k1 : (w.alloc (.cells #[.pointer (some ⟨1, 59, none⟩), .pointer (some ⟨k, 0, none⟩), .int .u64 150] 73)).cell? ⟨p, 1, none⟩ = some .nilIface := by rw [World.cell?_alloc_lt _ _ ⟨p, 1, none⟩ hpl]; exact h1
  have HT := Lib.hid ht
  have HF := Lib.hid hf
  clear ht hf
  go_enter Tryd.func38, Tryd.ntmps38
  go_wp2
  refine wp_loop_rounds 1 ?_
  rw [rounds_succ]
  go_wp2_with (go_at_call 17; refine (unwrap_some p _ _ k1).mono ?_; rintro e w' ⟨rfl, rfl⟩)
  go_ret
  refine ⟨rfl, ?_, ?_, (Below.refl B w).alloc hB _⟩
  · rw [World.cell?_alloc_lt _ _ t htl]; exact HT.out
  · rw [World.frozen?_alloc_old _ _ t (Nat.ne_of_lt htl)]; exact HF.out

set_option maxHeartbeats 4000000 in
theorem As_bare (B p : Nat) (t : Addr) (old : Value) (w : World) (h1 : w.cell? ⟨p, 1, none⟩ = some .nilIface) (hg : Laid w) (ht : w.cell? t = some old) (hf : w.frozen? t = false) (hB : B ≤ w.heap.size) :
    Calls Tryd.prog 28 #[.iface 36 (.pointer (some ⟨p, 0, none⟩)), .iface 59 (.pointer (some t))] w (AsNo w B t old) := by
  have hlt : 0 < w.heap.size := lt_of_cell hg
  have htl : t.block < w.heap.size := lt_of_cell ht
  have hpl : p < w.heap.size := lt_of_cell h1
  have f6 := Tryd.valueOf59
  have f7 := Tryd.type59
  have mK := Tryd.methodKind
  have mE := Tryd.methodElem
  have k59 := Tryd.kind59
  have k29 := Tryd.kind29
  have e59 := Tryd.elem59
  have i29 := Tryd.implements29
  have mI := Tryd.methodImplements
  have n8 := Tryd.isNil59 ⟨w.heap.size, 0, none⟩ t ((w.alloc (.cells #[.pointer (some t)] 59)).alloc (.cells #[.pointer (some ⟨1, 59, none⟩), .pointer (some ⟨w.heap.size, 0, none⟩), .int .u64 150] 73)) (by simp)
  have hg2 : ((w.alloc (.cells #[.pointer (some t)] 59)).alloc (.cells #[.pointer (some ⟨1, 59, none⟩), .pointer (some ⟨w.heap.size, 0, none⟩), .int .u64 150] 73)).cell? ⟨0, 0, none⟩ = some (.iface 81 (.agg #[.pointer (some ⟨1, 25, none⟩)])) := by
    rw [World.cell?_alloc_lt _ _ ⟨0, 0, none⟩ (by simp), World.cell?_alloc_lt _ _ ⟨0, 0, none⟩ hlt]; exact hg
  have hbw : Below w.heap.size w ((w.alloc (.cells #[.pointer (some t)] 59)).alloc (.cells #[.pointer (some ⟨1, 59, none⟩), .pointer (some ⟨w.heap.size, 0, none⟩), .int .u64 150] 73)) := ((Below.refl _ _).alloc (Nat.le_refl _) _).alloc (by simp) _
  have HC := Lib.hid (as_bare B p t w.heap.size old _ ((hbw.cell (p := ⟨p, 1, none⟩) hpl).trans h1) ((hbw.cell htl).trans ht) ((hbw.frozen htl).trans hf) (by simp; omega))
  have HB := Lib.hid hbw
  clear hbw ht hf h1
  go_enter Tryd.func28, Tryd.ntmps28
  go_wp2_with (go_at_call 38; refine HC.out.mono ?_; rintro e w' ⟨rfl, h1, h2, h3⟩)
  go_ret
  exact ⟨rfl, h1, h2, (HB.out.mono hB).trans h3⟩

set_option maxHeartbeats 4000000 in
theorem first_bare (p : Nat) (w : World) (h1 : w.cell? ⟨p, 1, none⟩ = some .nilIface) (hg : Laid w) :
    Calls Tryd.prog 19 #[.iface 36 (.pointer (some ⟨p, 0, none⟩))] w fun e w' => e = .returned (.tuple #[.int .i64 0, .bool false]) ∧ Below w.heap.size w w' := by
  have hbw : Below w.heap.size w (w.alloc (.cells #[.int .i64 0] 29)) := (Below.refl _ _).alloc (Nat.le_refl _) _
  have HC := Lib.hid (As_bare w.heap.size p ⟨w.heap.size, 0, none⟩ (.int .i64 0) (w.alloc (.cells #[.int .i64 0] 29)) ((hbw.cell (p := ⟨p, 1, none⟩) (lt_of_cell h1)).trans h1) ((hbw.cell (lt_of_cell hg)).trans hg) (by simp) (by simp) (by simp))
  have HB := Lib.hid hbw
  clear hbw hg h1
  go_enter_defers Tryd.func19, Tryd.ntmps19
  go_wp2_with (go_at_call 28; refine HC.out.mono ?_; rintro e w' ⟨rfl, h1, h2, h3⟩)
  refine leaves_cons (f := 27) (args := #[]) (by simp) (by simp [go_sem]) ?_
  refine (idle27 _).mono ?_
  rintro e u' w'' ⟨rfl, rfl, rfl⟩
  have hb := (HB.out.trans h3).setCell (p := ⟨w.heap.size, 0, none⟩) (Nat.le_refl _) (.int .i64 0)
  have hcell : (w'.setCell ⟨w.heap.size, 0, none⟩ (.int .i64 0)).cell? ⟨w.heap.size, 0, none⟩ = some (.int .i64 0) := World.cell?_setCell_same' _ _ _ (by rw [h1]; rfl)
  simp [Leaves, settle, results, Tryd.results19, go_sem, hcell, hb]

set_option maxHeartbeats 4000000 in
theorem Num_bare (p : Nat) (w : World) (h1 : w.cell? ⟨p, 1, none⟩ = some .nilIface) (hg : Laid w) :
    Calls Tryd.prog 11 #[.iface 36 (.pointer (some ⟨p, 0, none⟩))] w fun e w' => e = .returned (.int .i64 (-1)) ∧ Below w.heap.size w w' := by
  have HC := Lib.hid (first_bare p w h1 hg)
  clear h1 hg
  go_enter Tryd.func11, Tryd.ntmps11
  go_wp2_with (go_at_call 19; refine HC.out.mono ?_; rintro e w' ⟨rfl, h1⟩)
  go_ret
  exact ⟨rfl, h1⟩

theorem dot_eq (s : ByteArray) : (⟨(s.data.toList ++ [46]).toArray⟩ : ByteArray) = s ++ ⟨#[46]⟩ := by
  apply Go.WideShapes.bytes_inj
  simp

set_option maxHeartbeats 4000000 in
set_option maxRecDepth 100000 in
theorem nil_walk (s : ByteArray) (w : World) (hg : Laid w) (hlen : s.size + 1 ≤ 140737488355328) :
    Calls Tryd.prog 5 #[.string s] w fun e w' => e = .returned (.bool true) ∧ Below w.heap.size w w' := by
  have HL := Lib.hid hlen
  have hb0 : Below w.heap.size w (w.alloc (.cells #[.string s, .nilIface] 38)) := (Below.refl _ _).alloc (Nat.le_refl _) _
  have HG := Lib.hid (hg.carry hb0)
  have HB := Lib.hid hb0
  have H0 : Hid ((w.alloc (.cells #[.string s, .nilIface] 38)).cell? ⟨w.heap.size, 0, none⟩ = some (.string s)) := by simp [Hid]
  have H1 : Hid ((w.alloc (.cells #[.string s, .nilIface] 38)).cell? ⟨w.heap.size, 1, none⟩ = some .nilIface) := by simp [Hid]
  have hcat : ∀ w, (Op.stringOp .add s ⟨#[46]⟩).run Tryd.prog w = .ok (.string (s ++ ⟨#[46]⟩)) w := fun w => run_string_add_sum w s _ (by have e : (⟨#[46]⟩ : ByteArray).size = 1 := rfl; rw [e]; omega)
  clear hg hlen hb0
  go_enter Tryd.func5, Tryd.ntmps5
  go_wp2_with fail
  refine (awake_any _ HG.out).mono ?_
  rintro e w1 ⟨rfl, hb⟩
  have HG1 := Lib.hid (HG.out.carry hb)
  have HB1 := Lib.hid (HB.out.trans (hb.mono HB.out.size))
  have H01 := Lib.hid ((hb.cell (lt_of_cell H0.out)).trans H0.out)
  have H11 := Lib.hid ((hb.cell (lt_of_cell H1.out)).trans H1.out)
  clear hb HG HB H0 H1
  go_wp2_with fail
  refine (error_none w1).mono ?_
  rintro e w2 ⟨rfl, hb⟩
  have HG2 := Lib.hid (HG1.out.carry hb)
  have HB2 := Lib.hid (HB1.out.trans (hb.mono HB1.out.size))
  have H02 := Lib.hid ((hb.cell (lt_of_cell H01.out)).trans H01.out)
  have H12 := Lib.hid ((hb.cell (lt_of_cell H11.out)).trans H11.out)
  clear hb HG1 HB1 H01 H11
  go_wp2_with fail
  refine (unwrap_none w2).mono ?_
  rintro e w' ⟨rfl, rfl⟩
  go_wp2_with fail
  refine (error_bare w.heap.size s w2 H02.out H12.out HL.out).mono ?_
  rw [dot_eq]
  rintro e w3 ⟨rfl, hb⟩
  have HG3 := Lib.hid (HG2.out.carry hb)
  have HB3 := Lib.hid (HB2.out.trans (hb.mono HB2.out.size))
  have H03 := Lib.hid ((hb.cell (lt_of_cell H02.out)).trans H02.out)
  have H13 := Lib.hid ((hb.cell (lt_of_cell H12.out)).trans H12.out)
  clear hb HG2 HB2 H02 H12
  go_wp2_with fail
  refine (unwrap_some w.heap.size _ w3 H13.out).mono ?_
  rintro e w' ⟨rfl, rfl⟩
  go_wp2_with fail
  refine (Num_bare w.heap.size w3 H13.out HG3.out).mono ?_
  rintro e w4 ⟨rfl, hb⟩
  have HB4 := Lib.hid (HB3.out.trans (hb.mono HB3.out.size))
  have H04 := Lib.hid ((hb.cell (lt_of_cell H03.out)).trans H03.out)
  have H14 := Lib.hid ((hb.cell (lt_of_cell H13.out)).trans H13.out)
  clear hb HG3 HB3 H03 H13
  go_wp2_with fail
  refine (Tags_any 1 [s] _ w4 (.tag 0 w.heap.size s .nilIface [] H04.out H14.out (lt_of_cell H04.out) .nil) (by simp)).mono ?_
  rintro e w5 ⟨A, cap, rfl, hs, hb⟩
  have HB5 := Lib.hid (HB4.out.trans (hb.mono HB4.out.size))
  clear hs hb HB4 H04 H14
  go_wp2_with fail
  refine (Tags_any 0 [] _ w5 .nil (by simp)).mono ?_
  rintro e w6 ⟨A6, cap6, rfl, hs, hb⟩
  have HB6 := Lib.hid (HB5.out.trans (hb.mono HB5.out.size))
  clear hs hb HB5
  go_wp2
  go_ret
  exact ⟨rfl, HB6.out⟩
end Go.Proofs.YtbngcempcihgoaaDoor
