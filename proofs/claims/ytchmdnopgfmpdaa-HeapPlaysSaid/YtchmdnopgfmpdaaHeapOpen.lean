/-
  What arguments that are items, and slices of items, give a walk. Conditions: none beyond the premises of each theorem.
-/
import Derived.Test.YtchmdnopgfmpdaaRowsOpen
import Derived.Test.YtchmdnopgfmpdaaLaw
import Derived.Test.YtchmdnopgfmpdaaHeapAwake
import Derived.Test.YtchmdnopgfmpdaaHeapRef
namespace Go.Proofs.Ytchmdnopgfmpdaa
open Go.ChangeShapes Go.WideShapes Go.ChangeAt Go.RowKit Hp

theorem Try.cellsInt : Try.prog.cellsOf 3 = 1 := by kernel_rfl
theorem Try.cellsDue : Try.prog.cellsOf 30 = 2 := by kernel_rfl
theorem Try.fieldDue0 : (Try.prog.fieldsOf 30)[0]? = some ⟨"Cost", 3, 0, false, "", "", 0⟩ := by kernel_rfl
theorem Try.fieldDue1 : (Try.prog.fieldsOf 30)[1]? = some ⟨"Id", 3, 1, false, "", "", 8⟩ := by kernel_rfl
theorem Try.fieldsDue : (Try.prog.fieldsOf 30).size = 2 := by kernel_rfl
set_option maxRecDepth 100000 in
theorem open_due {H : Type} {enc : TypeId × Value → H} {W : World} {v : Value} {d : DataW H} {ps : List MemPlace} {r : Reach} {b0 : Nat} (hval : Value.okWide Try.prog W r b0 30 v)
    (h : DataW.Trod enc Try.prog W 0 (fun _ => true) true 30 v d ps) : ∃ x : Itm, v = itV x := by
  obtain ⟨cs, rfl, hcs⟩ := agg_of_okWide Try.dueStruct hval
  rw [Try.cellsDue] at hcs
  obtain ⟨fuel, hf⟩ := h
  have hf' : DataW.trod enc Try.prog W 0 (fun _ => true) true fuel 30 cs.toList = some (d, ps) := hf
  obtain ⟨xs, n, _, _, hl, hx, hel⟩ := DataW.trod_struct Try.dueStruct hf'
  rw [Try.fieldsDue] at hx
  have h0 := hel 0 _ Try.fieldDue0
  have h1 := hel 1 _ Try.fieldDue1
  simp only [Try.cellsInt] at h0 h1
  rw [List.getElem?_eq_getElem (by omega)] at h0 h1
  have hlen : cs.toList.length = 2 := by simpa using hcs
  match hc : cs.toList, hlen with
  | [c0, c1], _ =>
    rw [hc] at h0 h1
    simp only [List.drop_zero, List.drop_succ_cons, List.take_succ_cons, List.take_zero] at h0 h1
    obtain ⟨z0, rfl, _⟩ := num_of_trod Try.underlying3 h0
    obtain ⟨z1, rfl, _⟩ := num_of_trod Try.underlying3 h1
    refine ⟨(z0, z1), ?_⟩
    show Value.agg cs = Value.agg [.int .i64 z0, .int .i64 z1].toArray
    rw [← hc]
theorem its_of_rows : ∀ {rows : List (List Value)}, (∀ r ∈ rows, r.length = 2 ∧ ∀ (j : Nat) (kd : CellKind), [CellKind.int .i64, .int .i64][j]? = some kd → ∃ c, r[j]? = some c ∧ kd.ok c) → ∃ l : List Itm, rows = l.map itC
  | [], _ => ⟨[], rfl⟩
  | r :: rest, h => by
    obtain ⟨l, rfl⟩ := its_of_rows (rows := rest) fun x hx => h x (List.mem_cons_of_mem _ hx)
    obtain ⟨hlen, hc⟩ := h r List.mem_cons_self
    obtain ⟨c0, e0, n0, rfl, w0⟩ := hc 0 _ rfl
    obtain ⟨c1, e1, n1, rfl, w1⟩ := hc 1 _ rfl
    match r, hlen with
    | [x, y], _ =>
      simp only [List.getElem?_cons_zero, List.getElem?_cons_succ, Option.some.injEq] at e0 e1
      subst e0 e1
      exact ⟨(n0, n1) :: l, rfl⟩
theorem itms_of_rows {w : World} {A : Option Addr} {L : List Itm} (h : RowsIn w A 2 (L.map itC)) : ItmsAt w w.heap.size A L := fun hp => by
  obtain ⟨b, o, e, hlt, hc⟩ := h (by simpa using hp)
  refine ⟨b, o, e, hlt, fun i hi j v hv => ?_⟩
  refine hc i j (itC (at2 L i)) v ?_ hv
  rw [List.getElem?_map, at2_eq hi]
  rfl
/-- nil has no room -/
theorem none_cap {H : Type} {enc : TypeId × Value → H} {P : Program} {W : World} {T E : TypeId} {A : Option Addr} {n cap : Nat} {d : DataW H} {ps : List MemPlace} (hT : P.underlying T = some (.slice E)) (h : DataW.Trod enc P W 0 (fun _ => true) true T (.slice A n cap) d ps) (hA : A = none) : cap = 0 := by
  subst hA
  obtain ⟨fuel, hf⟩ := h
  rcases Go.Deep.open_slice hT hf with ⟨hcs, _⟩ | ⟨a, len', cap', m, n', D, Pl, hcs, _⟩
  · simp [Value.cells] at hcs
    exact hcs.2
  · simp [Value.cells] at hcs
set_option maxRecDepth 100000 in
theorem Try.duesTy : RowsTy Try.prog 37 30 2 [.int .i64, .int .i64] :=
  ⟨Try.underlying37, by kernel_rfl, by kernel_rfl, by kernel_rfl, rfl, fun j kd h => by
    match j, h with
    | 0, h => obtain rfl := Option.some.inj h; exact ⟨⟨"Cost", 3, 0, false, "", "", 0⟩, by kernel_rfl, rfl, by kernel_rfl, Try.underlying3⟩
    | 1, h => obtain rfl := Option.some.inj h; exact ⟨⟨"Id", 3, 1, false, "", "", 8⟩, by kernel_rfl, rfl, by kernel_rfl, Try.underlying3⟩
    | j + 2, h => simp at h, by decide⟩
set_option maxRecDepth 100000 in
theorem open_dues {H : Type} {enc : TypeId × Value → H} {W : World} {v : Value} {d : DataW H} {ps : List MemPlace} {r : Reach} {b0 : Nat} (hval : Value.okWide Try.prog W r b0 37 v)
    (h : DataW.Trod enc Try.prog W 0 (fun _ => true) true 37 v d ps) : ∃ (A : Option Addr) (cap : Nat) (l : List Itm), v = .slice A l.length cap ∧ ItmsAt W W.heap.size A l ∧ l.length ≤ cap ∧ cap ≤ maxLen ∧ (A = none → cap = 0) := by
  obtain ⟨A, cap, rows, rfl, h1, h2, h3, h4⟩ := open_rows Try.duesTy hval h
  have h5 := none_cap Try.duesTy.slice h
  obtain ⟨l, rfl⟩ := its_of_rows h2
  rw [List.length_map] at h3 ⊢
  exact ⟨A, cap, l, rfl, itms_of_rows h1, h3, h4, h5⟩
set_option maxRecDepth 100000 in
theorem Try.refDuesTy : RowsTy Try.prog 22 29 2 [.int .i64, .int .i64] :=
  ⟨Try.underlying22, by kernel_rfl, by kernel_rfl, by kernel_rfl, rfl, fun j kd h => by
    match j, h with
    | 0, h => obtain rfl := Option.some.inj h; exact ⟨⟨"Cost", 3, 0, false, "", "", 0⟩, by kernel_rfl, rfl, by kernel_rfl, Try.underlying3⟩
    | 1, h => obtain rfl := Option.some.inj h; exact ⟨⟨"Id", 3, 1, false, "", "", 8⟩, by kernel_rfl, rfl, by kernel_rfl, Try.underlying3⟩
    | j + 2, h => simp at h, by decide⟩
set_option maxRecDepth 100000 in
theorem open_refDues {H : Type} {enc : TypeId × Value → H} {W : World} {v : Value} {d : DataW H} {ps : List MemPlace} {r : Reach} {b0 : Nat} (hval : Value.okWide Try.prog W r b0 22 v)
    (h : DataW.Trod enc Try.prog W 0 (fun _ => true) true 22 v d ps) : ∃ (A : Option Addr) (cap : Nat) (l : List Itm), v = .slice A l.length cap ∧ ItmsAt W W.heap.size A l ∧ l.length ≤ cap ∧ cap ≤ maxLen ∧ (A = none → cap = 0) := by
  obtain ⟨A, cap, rows, rfl, h1, h2, h3, h4⟩ := open_rows Try.refDuesTy hval h
  have h5 := none_cap Try.refDuesTy.slice h
  obtain ⟨l, rfl⟩ := its_of_rows h2
  rw [List.length_map] at h3 ⊢
  exact ⟨A, cap, l, rfl, itms_of_rows h1, h3, h4, h5⟩
set_option maxRecDepth 100000 in
theorem open_bools9 {H : Type} {enc : TypeId × Value → H} {W : World} {v : Value} {d : DataW H} {ps : List MemPlace} {r : Reach} {b0 : Nat} (hval : Value.okWide Try.prog W r b0 23 v)
    (h : DataW.Trod enc Try.prog W 0 (fun _ => true) true 23 v d ps) : ∃ (A : Option Addr) (cap : Nat) (l : List Bool), v = .slice A l.length cap ∧ BlsAt W W.heap.size A l ∧ l.length ≤ cap ∧ cap ≤ maxLen := by
  obtain ⟨A, len, cap, rfl⟩ := okWide_slice Try.underlying23 hval
  obtain ⟨fuel, hf⟩ := h
  have hc1 : Try.prog.cellsOf 4 = 1 := by kernel_rfl
  rcases Go.Deep.open_slice1 Try.underlying23 hc1 hf with ⟨hcs, _⟩ | ⟨a, len', cap', m, n', V, D, Pl, hcs, _, hl, hm, hmm, _, hi⟩
  · simp [Value.cells] at hcs
    obtain ⟨rfl, rfl, rfl⟩ := hcs
    exact ⟨none, 0, [], rfl, fun h => absurd h (by simp), Nat.le_refl _, by unfold maxLen; omega⟩
  · simp [Value.cells] at hcs
    obtain ⟨rfl, rfl, rfl⟩ := hcs
    rw [if_pos rfl] at hmm
    subst hmm
    have key : ∀ i, i < len → ∃ x : Bool, W.cell? (a.add i) = some (.bool x) := fun i hlt => by
      obtain ⟨h1, h2⟩ := hi i (by omega)
      obtain ⟨b, hb⟩ := (cell_of_trod (kd := .bool) Try.underlying4 h2 : CellKind.bool.ok _)
      exact ⟨b, by rw [h1, hb]⟩
    have hex : ∃ f : Nat → Bool, ∀ i, i < len → W.cell? (a.add i) = some (.bool (f i)) :=
      ⟨fun i => if h : i < len then Classical.choose (key i h) else false, fun i hi => by simp only [dif_pos hi]; exact Classical.choose_spec (key i hi)⟩
    obtain ⟨f, hf'⟩ := hex
    refine ⟨some a, m, (List.range len).map f, by simp, fun hp => ?_, by simpa using hl, by omega⟩
    have h0 : 0 < len := by simpa using hp
    have hsp : a.spot = none := by
      have := World.cell?_spot (hf' 0 h0)
      simpa [Addr.add] using this
    obtain ⟨b, o, sp⟩ := a
    have hsp : sp = none := hsp
    subst hsp
    refine ⟨b, o, rfl, ?_, fun i x hx => ?_⟩
    · have := below_block (hf' 0 h0)
      rwa [block_of_add] at this
    · have hil : i < len := by have := (List.getElem?_eq_some_iff.1 hx).1; simpa using this
      rw [List.getElem?_map, List.getElem?_range hil] at hx
      have := hf' i hil
      rw [Addr.add_mid] at this
      rw [this]
      simpa using hx
end Go.Proofs.Ytchmdnopgfmpdaa
