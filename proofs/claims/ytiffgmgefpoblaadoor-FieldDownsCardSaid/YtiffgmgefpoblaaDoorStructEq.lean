/-
  Structs compared, for any seat: where each pair of fields compares to a Boolean, the structs compare to all of them; numbers, texts, arrays of bytes. Conditions: none beyond the premises of each theorem.
-/
import Derived.Test.YtiffgmgefpoblaaDoorRows
import Derived.WalkKit
import Derived.Laws.StructEq
namespace Go.Proofs.YtiffgmgefpoblaaDoor
open Go.RowKit

/-- each pair of fields compares to its Boolean -/
def FlatEq (P : Program) (d : Nat) (xs ys : Array Value) : List Field → List Bool → Prop
  | [], [] => True
  | f :: fs, b :: bs => (f.name ≠ "_" ∧ ∃ a c, (∀ w, (part f.type xs f.offset).run P w = .ok a w) ∧ (∀ w, (part f.type ys f.offset).run P w = .ok c w) ∧ ∀ w, (Op.equalIn d f.type a c).run P w = .ok b w) ∧ FlatEq P d xs ys fs bs
  | _, _ => False
theorem run_eqFields_flat {P : Program} {d : Nat} {xs ys : Array Value} : ∀ {fs : List Field} {bs : List Bool}, FlatEq P d xs ys fs bs → ∀ w, (Op.eqFields d xs ys fs).run P w = .ok (bs.all id) w
  | [], [], _, w => by simp [Op.eqFields]
  | f :: fs, b :: bs, ⟨⟨hn, a, c, ha, hc, he⟩, h⟩, w => by
    simp only [Op.eqFields, hn, ne_eq, not_false_eq_true, if_true, Sem.run_bind, ha, hc, he, Result.andThen_ok]
    cases b with
    | true => simpa using run_eqFields_flat h w
    | false => simp
  | [], _ :: _, h, _ => h.elim
  | _ :: _, [], h, _ => h.elim
theorem equalIn_flat {P : Program} {t : TypeId} {xs ys : Array Value} {bs : List Bool} (ht : P.underlying t = some (.struct (P.fieldsOf t))) (hp : P.stoodInHeld t = false) (h : FlatEq P 9999 xs ys (P.fieldsOf t).toList bs) (w : World) :
    (Op.equalIn 10000 t (.agg xs) (.agg ys)).run P w = .ok (bs.all id) w := by
  rw [run_equalIn_agg w 9999 t _ _ ht hp]
  exact run_eqFields_flat h w
theorem eql_flat {P : Program} {t : TypeId} {xs ys : Array Value} {bs : List Bool} (ht : P.underlying t = some (.struct (P.fieldsOf t))) (hp : P.stoodInHeld t = false) (h : FlatEq P 9999 xs ys (P.fieldsOf t).toList bs) (w : World) :
    (binOp .eql t (.agg xs) (.agg ys)).run P w = .ok (.bool (bs.all id)) w := by
  rw [run_eql_struct, equalIn_flat ht hp h, Result.andThen_ok]
theorem neq_flat {P : Program} {t : TypeId} {xs ys : Array Value} {bs : List Bool} (ht : P.underlying t = some (.struct (P.fieldsOf t))) (hp : P.stoodInHeld t = false) (h : FlatEq P 9999 xs ys (P.fieldsOf t).toList bs) (w : World) :
    (binOp .neq t (.agg xs) (.agg ys)).run P w = .ok (.bool (!bs.all id)) w := by
  rw [run_neq_struct, equalIn_flat ht hp h, Result.andThen_ok]
/-- a field of one cell -/
theorem part_cell {P : Program} {t : TypeId} {d : TypeDesc} {xs : Array Value} {o : Nat} {v : Value} (hu : P.underlying t = some d) (hd : (match d with | .struct _ | .array _ _ => false | _ => true) = true) (hv : xs[o]? = some v) (w : World) : (part t xs o).run P w = .ok v w := by
  unfold part isAgg
  simp only [Sem.run_bind, run_underlying hu]
  cases d <;> simp_all
theorem field_int {P : Program} {t : TypeId} {k : IntKind} (hu : P.underlying t = some (.int k)) {xs ys : Array Value} {o : Nat} {a c : Int} (ha : xs[o]? = some (.int k a)) (hc : ys[o]? = some (.int k c)) :
    ∃ x y, (∀ w, (part t xs o).run P w = .ok x w) ∧ (∀ w, (part t ys o).run P w = .ok y w) ∧ ∀ w, (Op.equalIn 9999 t x y).run P w = .ok (a == c) w :=
  ⟨_, _, part_cell hu rfl ha, part_cell hu rfl hc, fun w => run_equalIn_int w 9998 _ k k _ _ hu⟩
theorem field_string {P : Program} {t : TypeId} (hu : P.underlying t = some .string) {xs ys : Array Value} {o : Nat} {a c : ByteArray} (ha : xs[o]? = some (.string a)) (hc : ys[o]? = some (.string c)) :
    ∃ x y, (∀ w, (part t xs o).run P w = .ok x w) ∧ (∀ w, (part t ys o).run P w = .ok y w) ∧ ∀ w, (Op.equalIn 9999 t x y).run P w = .ok (a.toList == c.toList) w :=
  ⟨_, _, part_cell hu rfl ha, part_cell hu rfl hc, fun w => run_equalIn_string w 9998 _ a c hu⟩
/-- bytes of an array, as cells -/
def u8Cells (l : List Nat) : List Value := l.map fun n : Nat => .int .u8 (n : Int)
theorem run_equalIn_u8 {P : Program} (w : World) (d len : Nat) (t e : TypeId) (p q : List Nat) (ht : P.underlying t = some (.array len e)) (he : P.underlying e = some (.int .u8)) (hs : ∀ w, (sizeOf e).run P w = .ok 1 w) (hl : p.length = len) (hm : q.length = len) :
    (Op.equalIn (d + 2) t (.agg (u8Cells p).toArray) (.agg (u8Cells q).toArray)).run P w = .ok (decide (p = q)) w := by
  have hp : ∀ (p : List Nat), p.length = len → ∀ i, i < len → (part e (u8Cells p).toArray (i * 1)).run P w = .ok (.int .u8 ((p.getD i 0 : Nat) : Int)) w := by
    intro p hl i hi
    have hi' : i < p.length := by omega
    simp [part, isAgg, underlying, he, u8Cells, hi']
  rw [Op.equalIn]
  simp only [Sem.run_bind, run_underlying ht, Result.andThen_ok, hs, Std.Legacy.Range.forIn_eq_forIn_range']
  have key : ∀ l : List Nat, (∀ i ∈ l, i < len) → (forIn l (none, ()) fun i (_ : Option Bool × Unit) => do
      let a ← part e (u8Cells p).toArray (i * 1)
      let b ← part e (u8Cells q).toArray (i * 1)
      let r ← Op.equalIn (d + 1) e a b
      if (!r) = true then pure (ForInStep.done (some false, ())) else pure (ForInStep.yield ((none : Option Bool), ())) : Sem (Option Bool × Unit)).run P w = .ok (if l.all (fun i => ((p.getD i 0 : Nat) : Int) == ((q.getD i 0 : Nat) : Int)) then (none, ()) else (some false, ())) w := by
    intro l
    induction l with
    | nil => intro _; simp
    | cons i r ih =>
      intro h
      simp only [List.forIn_cons, Sem.run_bind, hp p hl i (h i (by simp)), hp q hm i (h i (by simp)), Result.andThen_ok, run_equalIn_int w d e .u8 .u8 _ _ he, List.all_cons]
      by_cases hb : (((p.getD i 0 : Nat) : Int) == ((q.getD i 0 : Nat) : Int)) = true
      · simp only [hb, Bool.not_true, Bool.false_eq_true, if_false, Sem.run_pure, Result.andThen_ok, Bool.true_and]
        exact ih fun k hk => h k (by simp [hk])
      · have hb' : (((p.getD i 0 : Nat) : Int) == ((q.getD i 0 : Nat) : Int)) = false := by simpa using hb
        simp only [hb', Bool.not_false, if_true, Sem.run_pure, Result.andThen_ok, Bool.false_and, Bool.false_eq_true, if_false]
  rw [key _ (fun i hi => by have := List.mem_range'.1 hi; obtain ⟨k, hk, rfl⟩ := this; simp at hk; omega)]
  have hall : ((List.range' 0 len).all (fun i => ((p.getD i 0 : Nat) : Int) == ((q.getD i 0 : Nat) : Int))) = decide (p = q) := by
    rw [Bool.eq_iff_iff, List.all_eq_true, decide_eq_true_eq]
    constructor
    · intro h
      refine List.ext_getElem (by omega) fun i h1 h2 => ?_
      have := h i (by simp [List.mem_range']; omega)
      rw [beq_iff_eq] at this
      have := Int.ofNat.inj this
      simpa [List.getD_eq_getElem?_getD, h1, h2] using this
    · rintro rfl i _
      simp
  have hsz : (⟨0, len, 1, by decide⟩ : Std.Legacy.Range).size = len := by simp [Std.Legacy.Range.size]
  rw [hsz, hall]
  by_cases h : p = q <;> simp [h, Result.andThen]
/-- a field that is an array of bytes -/
theorem field_u8s {P : Program} {t e : TypeId} {len o : Nat} (ht : P.underlying t = some (.array len e)) (he : P.underlying e = some (.int .u8)) (hs : ∀ w, (sizeOf e).run P w = .ok 1 w) (hst : ∀ w, (sizeOf t).run P w = .ok len w) {xs ys : Array Value} {p q : List Nat} (hl : p.length = len) (hm : q.length = len)
    (hx : xs.extract o (o + len) = (u8Cells p).toArray) (hy : ys.extract o (o + len) = (u8Cells q).toArray) :
    ∃ x y, (∀ w, (part t xs o).run P w = .ok x w) ∧ (∀ w, (part t ys o).run P w = .ok y w) ∧ ∀ w, (Op.equalIn 9999 t x y).run P w = .ok (decide (p = q)) w := by
  have hpart : ∀ (zs : Array Value) w, (part t zs o).run P w = .ok (.agg (zs.extract o (o + len))) w := fun zs w => by
    unfold part isAgg
    simp [Sem.run_bind, run_underlying ht, hst]
  refine ⟨_, _, hpart xs, hpart ys, fun w => ?_⟩
  rw [hx, hy]
  exact run_equalIn_u8 w 9997 len t e p q ht he hs hl hm
end Go.Proofs.YtiffgmgefpoblaaDoor
