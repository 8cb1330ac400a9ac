/-
  The contracts of rec's fault, widths and lay. Conditions: none beyond the premises of each theorem.
-/
import Derived.Test.YtjjlghdcpkkdhaaDoorRecMay
import Derived.Test.YtjjlghdcpkkdhaaDoorFillRows
import Derived.Deep.DeepCutAuto
namespace Go.Proofs.YtjjlghdcpkkdhaaDoor
open Go.RowKit

theorem RecFault_any (c : Int) (hc : c ≠ 0) (w : World) : Calls Tryd.prog 24 #[.int .i64 c] w (FromPost c w.heap.size w) := by
  have H := Lib.hid hc
  clear hc
  go_enter Tryd.func24, Tryd.ntmps24
  go_wp2_with fail
  refine (Tag_from _ w.heap.size c _ w (.inr ⟨H.out, .base⟩) (Nat.le_refl _)).mono ?_
  rintro e w' ⟨v, rfl, h1, h4⟩
  have H1 := Lib.hid h1
  have H4 := Lib.hid h4
  clear h1 h4
  go_wp2_with fail
  go_ret
  exact ⟨v, rfl, H1.out, H4.out⟩
theorem Tryd.partInfo : (Tryd.prog.info? 58).map (·.size) = some 3 := by kernel_rfl
theorem Tryd.partZero : ((Tryd.prog.info? 58).bind (·.zero)).isSome = true := by kernel_rfl
theorem Tryd.intInfo : (Tryd.prog.info? 3).map (·.size) = some 1 := by kernel_rfl
theorem Tryd.intZero : ((Tryd.prog.info? 3).bind (·.zero)).isSome = true := by kernel_rfl
def prtCells (p : Prt) : List Value := [.int .i64 p.num, .int .i64 p.least, .int .i64 p.most]
theorem prts_of {w : World} {b : Nat} {ps : List Prt} (h : RowsAt w b 3 (ps.map prtCells)) : Prts w b ps := fun j hj => by
  have e : (ps.map prtCells)[j]? = some (prtCells ps[j]) := by simp [hj]
  exact ⟨h j 0 _ _ e rfl, h j 1 _ _ e rfl, h j 2 _ _ e rfl⟩
/-- a slice literal of parts -/
theorem wpList_prts {ops : Array Oper} {rest : List Oper} {o : Oper} {a : Act} {w : World} {Q : Exit → Act → World → Prop} (hg : o.guard = none) (n : Nat) (parts : Array (Nat × Operand)) (ho : o.op = .buildSlice 74 n parts) (ps : List Prt) (hn : ps.length = n) (h0 : 0 < n) (h24 : n ≤ 100)
    (hp : (parts.toList.map fun x => (x.1, a.eval x.2)) = ((ps.map prtCells).zipIdx 0).map fun x => (x.2, Value.agg x.1.toArray))
    (h : ∀ w2 B, Hid (B = w.heap.size) → Hid (Prts w2 B ps) → Hid (Below w.heap.size w w2) → Hid (B < w2.heap.size) → wpList Tryd.prog ops Q rest (a.put o.dst (.slice (some ⟨B, 0, none⟩) n n)) w2) : wpList Tryd.prog ops Q (o :: rest) a w :=
  wpList_rows hg 74 58 3 n parts ho (ps.map prtCells) Tryd.underlying74 Tryd.partInfo Tryd.partZero (by simp [hn]) (by omega) (by omega) (fun r hr => by obtain ⟨p, _, rfl⟩ := List.mem_map.1 hr; rfl) hp
    fun w2 B h1 h2 h3 h4 => h w2 B h1 (Lib.hid (prts_of h2.out)) h3 h4
/-- a slice literal of numbers -/
theorem wpList_ints {ops : Array Oper} {rest : List Oper} {o : Oper} {a : Act} {w : World} {Q : Exit → Act → World → Prop} (hg : o.guard = none) (n : Nat) (parts : Array (Nat × Operand)) (ho : o.op = .buildSlice 62 n parts) (zs : List Int) (hn : zs.length = n) (h0 : 0 < n) (h24 : n ≤ 100)
    (hp : (parts.toList.map fun x => (x.1, a.eval x.2)) = ((zs.map (Value.int .i64)).zipIdx 0).map fun x => (x.2, x.1))
    (h : ∀ w2 B, Hid (B = w.heap.size) → Hid (Nums w2 .i64 (some ⟨B, 0, none⟩) zs) → Hid (Below w.heap.size w w2) → wpList Tryd.prog ops Q rest (a.put o.dst (.slice (some ⟨B, 0, none⟩) n n)) w2) : wpList Tryd.prog ops Q (o :: rest) a w :=
  wpList_nums hg 62 3 .i64 n parts ho zs Tryd.underlying62 Tryd.intInfo Tryd.intZero hn h0 (by omega) hp h
theorem wp_ints {o : Oper} {a : Act} {w : World} {K : Act → World → Prop} {Q : Exit → Act → World → Prop} (n : Nat) (parts : Array (Nat × Operand)) (ho : o.op = .buildSlice 62 n parts) (zs : List Int) (hn : zs.length = n) (h0 : 0 < n) (h24 : n ≤ 100)
    (hp : (parts.toList.map fun x => (x.1, a.eval x.2)) = ((zs.map (Value.int .i64)).zipIdx 0).map fun x => (x.2, x.1))
    (h : ∀ w2 B, Hid (B = w.heap.size) → Hid (Nums w2 .i64 (some ⟨B, 0, none⟩) zs) → Hid (Below w.heap.size w w2) → K (a.put o.dst (.slice (some ⟨B, 0, none⟩) n n)) w2) : o.wp Tryd.prog a w K Q :=
  wp_nums 62 3 .i64 n parts ho zs Tryd.underlying62 Tryd.intInfo Tryd.intZero hn h0 (by omega) hp h
def WidthsPost (ws : List Nat) (w : World) (e : Ending) (w' : World) : Prop := ∃ B, e = .returned (.slice (some ⟨B, 0, none⟩) ws.length ws.length) ∧ Nums w' .i64 (some ⟨B, 0, none⟩) (ints ws) ∧ Below w.heap.size w w'
set_option maxRecDepth 100000 in
theorem robotWidths_any (w : World) : Calls Tryd.prog 26 #[] w (WidthsPost wsR w) := by
  go_enter Tryd.func26, Tryd.ntmps26
  go_wp2_with (with_reducible refine stop_at (o := ⟨some 1, _, _, _, _, _⟩) ?_)
  refine wpList_ints rfl 7 _ rfl [1, 1, 1, 1, 3, 3, 2] rfl (by decide) (by decide) rfl ?_
  intro w2 B HE HN HB
  go_wp2_with fail
  go_ret
  exact ⟨B, rfl, HN.out, HB.out⟩
set_option maxRecDepth 100000 in
theorem taskWidths_any (w : World) : Calls Tryd.prog 31 #[] w (WidthsPost wsT w) := by
  go_enter Tryd.func31, Tryd.ntmps31
  go_wp2_with (with_reducible refine stop_at (o := ⟨some 1, _, _, _, _, _⟩) ?_)
  refine wpList_ints rfl 6 _ rfl [1, 1, 1, 4, 4, 1] rfl (by decide) (by decide) rfl ?_
  intro w2 B HE HN HB
  go_wp2_with fail
  go_ret
  exact ⟨B, rfl, HN.out, HB.out⟩
set_option maxRecDepth 100000 in
theorem allWidths_any (w : World) : Calls Tryd.prog 32 #[] w (WidthsPost wsA w) := by
  go_enter Tryd.func32, Tryd.ntmps32
  go_wp2_with (with_reducible refine stop_at (o := ⟨some 1, _, _, _, _, _⟩) ?_)
  refine wpList_ints rfl 9 _ rfl [4, 1, 1, 1, 1, 1, 1, 1, 1] rfl (by decide) (by decide) rfl ?_
  intro w2 B HE HN HB
  go_wp2_with fail
  go_ret
  exact ⟨B, rfl, HN.out, HB.out⟩
set_option maxRecDepth 100000 in
theorem recLay_yes (ws ns : List Nat) (A A2 : Option Addr) (cap cap2 : Nat) (w : World) (hw : Widths ws) (hn : Nums w .i64 A (ints ws)) (hm : Nums w .i64 A2 (ints ns)) (hl : ns.length = ws.length) (hf : FitAll ws ns) :
    Calls Tryd.prog 25 #[.slice A ws.length cap, .slice A2 ns.length cap2] w (FieldsPost (lays (ws.zip ns)) w) := by
  have HF := Lib.hid (Fields_yes ws ns A A2 cap cap2 w hw hn hm hl hf)
  obtain ⟨s, HS⟩ : ∃ s : ByteArray, Hid (s = ⟨(lays (ws.zip ns)).toArray⟩) := ⟨_, Lib.hid rfl⟩
  unfold FieldsPost at HF ⊢
  rw [← HS.out] at HF ⊢
  clear hw hn hm hl hf
  go_enter Tryd.func25, Tryd.ntmps25
  go_wp2_with fail
  refine HF.out.mono ?_
  rintro e w1 ⟨rfl, hb⟩
  have HB := Lib.hid hb
  clear hb
  go_wp2_with fail
  refine (Tag_nil _ _).mono ?_
  rintro e w' ⟨rfl, rfl⟩
  go_wp2_with fail
  go_ret2
  exact ⟨rfl, HB.out⟩
end Go.Proofs.YtjjlghdcpkkdhaaDoor
