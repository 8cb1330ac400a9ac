/-
  What an argument that is a slice of structs of one-cell fields (numbers, texts, truth values) gives a walk: rows of cells; for any seat. Conditions: none beyond the premises of each theorem.
-/
import Derived.Test.YtchmdnopgfmpdaaStructOpen
import Derived.Test.YtchmdnopgfmpdaaNums
import Derived.Deep.Slices
import Derived.Deep.MidRow
namespace Go.Proofs.Ytchmdnopgfmpdaa
open Go.ChangeShapes Go.WideShapes Go.ChangeAt Go.RowKit Go.Deep

/-- what a cell holds -/
inductive CellKind
  | int (k : IntKind)
  | str
  | bool
def CellKind.ok : CellKind → Value → Prop
  | .int k, v => ∃ n, v = .int k n ∧ (Lit.int k n).wf = true
  | .str, v => ∃ s, v = .string s
  | .bool, v => ∃ b, v = .bool b
def CellKind.is (P : Program) : CellKind → TypeId → Prop
  | .int k, t => P.underlying t = some (.int k)
  | .str, t => P.underlying t = some .string
  | .bool, t => P.underlying t = some .bool
theorem cell_of_trod {H : Type} {enc : TypeId × Value → H} {P : Program} {w : World} {base : Nat} {sp : Nat → Bool} {held : Bool} {fuel : Nat} {t : TypeId} {kd : CellKind} {c : Value} {y : DataW H × List MemPlace}
    (ht : kd.is P t) (h : DataW.trod enc P w base sp held fuel t [c] = some y) : kd.ok c := by
  cases kd with
  | int k => exact num_of_trod ht h
  | str => exact text_of_trod ht h
  | bool =>
    have ht' : P.underlying t = some .bool := ht
    cases fuel with
    | zero => simp [DataW.trod] at h
    | succ fuel =>
      cases c <;> simp [DataW.trod, ht'] at h
      exact ⟨_, rfl⟩
/-- rows of cells at an address -/
def RowsIn (w : World) (A : Option Addr) (k : Nat) (rows : List (List Value)) : Prop := 0 < rows.length → ∃ b o, A = some ⟨b, o, none⟩ ∧ b < w.heap.size ∧ ∀ (i j : Nat) (r : List Value) (v : Value), rows[i]? = some r → r[j]? = some v → w.cell? ⟨b, o + i * k + j, none⟩ = some v
theorem RowsIn.block {w w' : World} {A : Option Addr} {k : Nat} {rows : List (List Value)} (h : RowsIn w A k rows) (hs : w.heap.size ≤ w'.heap.size) (hb : ∀ b, b < w.heap.size → w'.heap[b]? = w.heap[b]?) : RowsIn w' A k rows := fun hp => by
  obtain ⟨b, o, e, hlt, hc⟩ := h hp
  exact ⟨b, o, e, Nat.lt_of_lt_of_le hlt hs, fun i j r v h1 h2 => (World.cell?_of_block (w := w) (a := ⟨b, o + i * k + j, none⟩) (hb b hlt)).trans (hc i j r v h1 h2)⟩
theorem RowsIn.below {w w' : World} {A : Option Addr} {k : Nat} {rows : List (List Value)} (h : RowsIn w A k rows) (hb : Below w.heap.size w w') : RowsIn w' A k rows := h.block hb.size fun b hlt => hb.block b hlt
theorem RowsIn.at_ {w : World} {A : Option Addr} {k : Nat} {rows : List (List Value)} (h : RowsIn w A k rows) {i : Nat} {r : List Value} (hi : rows[i]? = some r) : ∃ b o, A = some ⟨b, o, none⟩ ∧ b < w.heap.size ∧ ∀ (j : Nat) (v : Value), r[j]? = some v → w.cell? ⟨b, o + i * k + j, none⟩ = some v := by
  obtain ⟨b, o, e, hlt, hc⟩ := h (by have := (List.getElem?_eq_some_iff.1 hi).1; omega)
  exact ⟨b, o, e, hlt, fun j v hv => hc i j r v hi hv⟩
theorem drop_one9 {l : List Value} {j : Nat} (h : j < l.length) : (l.drop j).take 1 = [l[j]] := by
  rw [List.drop_eq_getElem_cons h]; rfl
/-- a type of rows: a slice of structs of these cells -/
structure RowsTy (P : Program) (T E : TypeId) (k : Nat) (kinds : List CellKind) : Prop where
  slice : P.underlying T = some (.slice E)
  struct : P.underlying E = some (.struct (P.fieldsOf E))
  cells : P.cellsOf E = k
  size : (P.fieldsOf E).size = k
  len : kinds.length = k
  fields : ∀ (j : Nat) (kd : CellKind), kinds[j]? = some kd → ∃ f : Field, (P.fieldsOf E)[j]? = some f ∧ f.offset = j ∧ P.cellsOf f.type = 1 ∧ kd.is P f.type
  pos : 0 < k
set_option maxRecDepth 100000 in
theorem open_rows {H : Type} {enc : TypeId × Value → H} {P : Program} {W : World} {T E : TypeId} {k : Nat} {kinds : List CellKind} (hT : RowsTy P T E k kinds) {v : Value} {d : DataW H} {ps : List MemPlace} {r : Reach} {b0 : Nat} (hval : Value.okWide P W r b0 T v)
    (h : DataW.Trod enc P W 0 (fun _ => true) true T v d ps) : ∃ (A : Option Addr) (cap : Nat) (rows : List (List Value)), v = .slice A rows.length cap ∧ RowsIn W A k rows ∧ (∀ r ∈ rows, r.length = k ∧ ∀ (j : Nat) (kd : CellKind), kinds[j]? = some kd → ∃ c, r[j]? = some c ∧ kd.ok c) ∧ rows.length ≤ cap ∧ cap ≤ maxLen := by
  obtain ⟨A, len, cap, rfl⟩ := okWide_slice hT.slice hval
  obtain ⟨fuel, hf⟩ := h
  rcases open_slice hT.slice hf with ⟨hcs, _⟩ | ⟨a, len', cap', m, n, D, Pl, hcs, _, hl, hm, hmm, _, hi⟩
  · simp [Value.cells] at hcs
    obtain ⟨rfl, rfl, rfl⟩ := hcs
    exact ⟨none, 0, [], rfl, fun h => absurd h (by simp), (fun r hr => by cases hr), Nat.le_refl _, by unfold maxLen; omega⟩
  · simp [Value.cells] at hcs
    obtain ⟨rfl, rfl, rfl⟩ := hcs
    rw [if_pos rfl] at hmm
    subst hmm
    have hk0 := hT.pos
    have key : ∀ i, i < len → ∃ row : List Value, (∃ b o, a = ⟨b, o, none⟩ ∧ b < W.heap.size ∧ ∀ (j : Nat) (v : Value), row[j]? = some v → W.cell? ⟨b, o + i * k + j, none⟩ = some v) ∧ row.length = k ∧ ∀ (j : Nat) (kd : CellKind), kinds[j]? = some kd → ∃ c, row[j]? = some c ∧ kd.ok c := by
      intro i hlt
      obtain ⟨cs, hc, ht⟩ := hi i (by omega)
      rw [hT.cells] at hc
      obtain ⟨_, hcl, hat⟩ := World.cells?_some hc
      obtain ⟨xs, n', _, _, hlen, hxl, hfd⟩ := DataW.trod_struct hT.struct ht
      have hxk : xs.length = k := by rw [hxl, hT.size]
      have hsp0 : a.spot = none := by
        obtain ⟨cs0, hc0, _⟩ := hi 0 (by omega)
        rw [hT.cells] at hc0
        obtain ⟨_, hcl0, hat0⟩ := World.cells?_some hc0
        have h00 := hat0 0 (by omega)
        have hs0 : (a.add (0 * k)).add 0 = a := by simp [Addr.add]
        rw [hs0, List.getElem?_eq_getElem (by omega)] at h00
        exact World.cell?_spot h00
      obtain ⟨b, o, sp⟩ := a
      have hsp : sp = none := hsp0
      subst hsp
      have ha : ∀ j, (Addr.add ⟨b, o, none⟩ (i * k)).add j = ⟨b, o + i * k + j, none⟩ := fun j => by rw [add_of_add, Addr.add_mid, Nat.add_assoc]
      have hat' : ∀ j (hj : j < k), W.cell? ⟨b, o + i * k + j, none⟩ = some (cs[j]'(by omega)) := fun j hj => by
        have := hat j hj
        rw [ha, List.getElem?_eq_getElem (by omega)] at this
        exact this
      refine ⟨cs, ⟨b, o, rfl, below_block (hat' 0 hk0), fun j v hv => ?_⟩, hcl, fun j kd hkd => ?_⟩
      · have hj : j < k := by have := (List.getElem?_eq_some_iff.1 hv).1; omega
        rw [List.getElem?_eq_getElem (by omega)] at hv
        rw [hat' j hj, hv]
      · have hj : j < k := by have := (List.getElem?_eq_some_iff.1 hkd).1; have := hT.len; omega
        obtain ⟨f, hf1, hf2, hf3, hf4⟩ := hT.fields j kd hkd
        have hg := hfd j f hf1
        rw [hf2, hf3, drop_one9 (by omega), List.getElem?_eq_getElem (by omega)] at hg
        exact ⟨_, List.getElem?_eq_getElem (by omega), cell_of_trod hf4 hg⟩
    have hex : ∃ f : Nat → List Value, ∀ i, i < len → (∃ b o, a = ⟨b, o, none⟩ ∧ b < W.heap.size ∧ ∀ (j : Nat) (v : Value), (f i)[j]? = some v → W.cell? ⟨b, o + i * k + j, none⟩ = some v) ∧ (f i).length = k ∧ ∀ (j : Nat) (kd : CellKind), kinds[j]? = some kd → ∃ c, (f i)[j]? = some c ∧ kd.ok c :=
      ⟨fun i => if h : i < len then Classical.choose (key i h) else [], fun i hi => by simp only [dif_pos hi]; exact Classical.choose_spec (key i hi)⟩
    obtain ⟨f, hf'⟩ := hex
    refine ⟨some a, m, (List.range len).map f, by simp, fun hp => ?_, fun r hr => ?_, by simpa using hl, hm⟩
    · have h0 : 0 < len := by simpa using hp
      obtain ⟨⟨b, o, rfl, hb, _⟩, _⟩ := hf' 0 h0
      refine ⟨b, o, rfl, hb, fun i j r v h1 h2 => ?_⟩
      have hil : i < len := by
        have := (List.getElem?_eq_some_iff.1 h1).1
        simpa using this
      obtain ⟨⟨b', o', he, _, hc⟩, _⟩ := hf' i hil
      injection he with he1 he2
      subst he1 he2
      refine hc j v ?_
      have e : r = f i := by
        rw [List.getElem?_map, List.getElem?_range hil] at h1
        simpa using h1.symm
      rw [← e]
      exact h2
    · obtain ⟨i, hi2, rfl⟩ := List.mem_map.1 hr
      exact (hf' i (List.mem_range.1 hi2)).2
end Go.Proofs.Ytchmdnopgfmpdaa
