/-
  The document's example for layer 4: the law's 'awake' answers true. Condition: errors.errorType is laid.
-/
import Derived.Test.YtaolkmlgdhnhaaaDoorDiskNew
import Derived.Laws.StructEq
namespace Go.Proofs.YtaolkmlgdhnhaaaDoor
open Go.RowKit

/-- two sectors are compared: a sector is itself -/
theorem run_equalIn_same {P : Program} (w : World) (d len : Nat) (t e : TypeId) (p : Pg) (ht : P.underlying t = some (.array len e)) (he : P.underlying e = some (.int .u8)) (hs : ∀ w, (sizeOf e).run P w = .ok 1 w) (hl : p.length = len) :
    (Op.equalIn (d + 2) t (.agg (pgArr p)) (.agg (pgArr p))).run P w = .ok true w := by
  have hp : ∀ i, i < len → (part e (pgArr p) (i * 1)).run P w = .ok (.int .u8 (p.getD i 0)) w := by
    intro i hi
    have hi' : i < p.length := by omega
    simp [part, isAgg, underlying, he, pgArr, pgCells, hi']
  rw [Op.equalIn]
  simp only [Sem.run_bind, run_underlying ht, Result.andThen_ok, hs, Std.Legacy.Range.forIn_eq_forIn_range']
  have key : ∀ l : List Nat, (∀ i ∈ l, i < len) → (forIn l (none, ()) fun i (_ : Option Bool × Unit) => do
      let a ← part e (pgArr p) (i * 1)
      let b ← part e (pgArr p) (i * 1)
      let r ← Op.equalIn (d + 1) e a b
      if (!r) = true then pure (ForInStep.done (some false, ())) else pure (ForInStep.yield ((none : Option Bool), ())) : Sem (Option Bool × Unit)).run P w = .ok (none, ()) w := by
    intro l
    induction l with
    | nil => intro _; simp
    | cons i r ih =>
      intro h
      simp only [List.forIn_cons, Sem.run_bind, hp i (h i (by simp)), Result.andThen_ok, run_equalIn_int w d e .u8 .u8 _ _ he, beq_self_eq_true, Bool.not_true, Bool.false_eq_true, if_false, Sem.run_pure]
      exact ih fun k hk => h k (by simp [hk])
  rw [key _ (fun i hi => by have := List.mem_range'.1 hi; obtain ⟨k, hk, rfl⟩ := this; simp at hk; omega)]
  rfl
theorem sizeByte (w : World) : (sizeOf 5).run Tryd.prog w = .ok 1 w := by kernel_rfl
theorem guardPage : Tryd.prog.eqGuardType Tryd.prog.depth 55 = false := by kernel_rfl
theorem eql_page (w : World) (p : Pg) (hl : p.length = 128) : (binOp .eql 55 (pgV p) (pgV p)).run Tryd.prog w = .ok (.bool true) w := by
  rw [run_eql_struct, run_equalIn_same w 9998 128 55 5 p Tryd.underlying55 Tryd.underlying5 sizeByte hl]
  rfl
theorem neq_page (w : World) (p : Pg) (hl : p.length = 128) : (binOp .neq 55 (pgV p) (pgV p)).run Tryd.prog w = .ok (.bool false) w := by
  rw [run_neq_struct, run_equalIn_same w 9998 128 55 5 p Tryd.underlying55 Tryd.underlying5 sizeByte hl]
  rfl
/-- ones -/
def onesPg (k : Nat) : Pg := List.replicate k 1 ++ List.replicate (128 - k) 0
theorem Tryd.built5 : Tryd.prog.built 55 [(0, .int .u8 1), (1, .int .u8 1), (2, .int .u8 1), (3, .int .u8 1), (4, .int .u8 1)] = some (pgArr (onesPg 5)) := by kernel_rfl
theorem Tryd.built3 : Tryd.prog.built 55 [(0, .int .u8 1), (1, .int .u8 1), (2, .int .u8 1)] = some (pgArr (onesPg 3)) := by kernel_rfl
/-- a literal -/
theorem wpList_build_at {P : Program} {ops : Array Oper} {rest : List Oper} {o : Oper} {a : Act} {w : World} {Q : Exit → Act → World → Prop} (hgd : o.guard = none) (t : TypeId) (parts : Array (Nat × Operand)) (ho : o.op = .build t parts) (c : Array Value) (l : List (Nat × Value)) (hp : (parts.map fun (i, x) => (i, a.eval x)).toList = l)
    (hb : P.built t l = some c) (h : wpList P ops Q rest (a.put o.dst (.agg c)) w) : wpList P ops Q (o :: rest) a w :=
  wpList_plain hgd fun _ hK => wp_build t parts ho (by rw [hp, hb]; rfl) (hK _ _ (by rw [hp, hb]; exact h))

theorem wp_build_at {P : Program} {o : Oper} {a : Act} {w : World} {K : Act → World → Prop} {Q : Exit → Act → World → Prop} (t : TypeId) (parts : Array (Nat × Operand)) (ho : o.op = .build t parts) (c : Array Value) (l : List (Nat × Value))
    (hp : (parts.map fun (i, x) => (i, a.eval x)).toList = l) (hb : P.built t l = some c) (h : K (a.put o.dst (.agg c)) w) : o.wp P a w K Q :=
  wp_build t parts ho (by rw [hp, hb]; rfl) (by rw [hp, hb]; exact h)
/-- the example, as data -/
theorem awake_data : pgAt ((((Dk.new 4).write 0 (onesPg 5)).crash 0 3).up).seen 0 = onesPg 3 := by kernel_rfl
theorem onesPg_length (k : Nat) (h : k ≤ 128) : (onesPg k).length = 128 := by simp [onesPg]; omega
theorem below_kept {w w1 : World} {B : Nat} (h : Below w1.heap.size w w1) (hB : B ≤ w.heap.size) (_ : w.heap.size ≤ w1.heap.size) : Kept (· < B) w w1 := ⟨h.os, h.tape, h.output, h.size, fun k hk => h.block k (by omega)⟩
theorem equalIn_page (p : Pg) (hl : p.length = 128) (w : World) : (Op.equalIn 10000 55 (pgV p) (pgV p)).run Tryd.prog w = .ok true w :=
  run_equalIn_same w 9998 128 55 5 p Tryd.underlying55 Tryd.underlying5 sizeByte hl

end Go.Proofs.YtaolkmlgdhnhaaaDoor
