/-
  Two sectors compared: the answer is whether they are the same bytes. Conditions: none beyond the premises of each theorem.
-/
import Derived.Test.YtaolkmlgdhnhaaaDoorDiskRead
import Derived.Laws.StructEq
namespace Go.Proofs.YtaolkmlgdhnhaaaDoor
open Go.RowKit

theorem run_equalIn_two {P : Program} (w : World) (d len : Nat) (t e : TypeId) (p q : Pg) (ht : P.underlying t = some (.array len e)) (he : P.underlying e = some (.int .u8)) (hs : ∀ w, (sizeOf e).run P w = .ok 1 w) (hl : p.length = len) (hm : q.length = len) :
    (Op.equalIn (d + 2) t (.agg (pgArr p)) (.agg (pgArr q))).run P w = .ok (decide (p = q)) w := by
  have hp : ∀ (p : Pg), p.length = len → ∀ i, i < len → (part e (pgArr p) (i * 1)).run P w = .ok (.int .u8 (p.getD i 0)) w := by
    intro p hl i hi
    have hi' : i < p.length := by omega
    simp [part, isAgg, underlying, he, pgArr, pgCells, hi']
  rw [Op.equalIn]
  simp only [Sem.run_bind, run_underlying ht, Result.andThen_ok, hs, Std.Legacy.Range.forIn_eq_forIn_range']
  have key : ∀ l : List Nat, (∀ i ∈ l, i < len) → (forIn l (none, ()) fun i (_ : Option Bool × Unit) => do
      let a ← part e (pgArr p) (i * 1)
      let b ← part e (pgArr q) (i * 1)
      let r ← Op.equalIn (d + 1) e a b
      if (!r) = true then pure (ForInStep.done (some false, ())) else pure (ForInStep.yield ((none : Option Bool), ())) : Sem (Option Bool × Unit)).run P w = .ok (if l.all (fun i => p.getD i 0 == q.getD i 0) then (none, ()) else (some false, ())) w := by
    intro l
    induction l with
    | nil => intro _; simp
    | cons i r ih =>
      intro h
      simp only [List.forIn_cons, Sem.run_bind, hp p hl i (h i (by simp)), hp q hm i (h i (by simp)), Result.andThen_ok, run_equalIn_int w d e .u8 .u8 _ _ he, List.all_cons]
      by_cases hb : (p.getD i 0 == q.getD i 0) = true
      · simp only [hb, Bool.not_true, Bool.false_eq_true, if_false, Sem.run_pure, Result.andThen_ok, Bool.true_and]
        exact ih fun k hk => h k (by simp [hk])
      · have hb' : (p.getD i 0 == q.getD i 0) = false := by simpa using hb
        simp only [hb', Bool.not_false, if_true, Sem.run_pure, Result.andThen_ok, Bool.false_and, Bool.false_eq_true, if_false]
  rw [key _ (fun i hi => by have := List.mem_range'.1 hi; obtain ⟨k, hk, rfl⟩ := this; simp at hk; omega)]
  have hall : ((List.range' 0 len).all (fun i => p.getD i 0 == q.getD i 0)) = decide (p = q) := by
    rw [Bool.eq_iff_iff, List.all_eq_true, decide_eq_true_eq]
    constructor
    · intro h
      refine List.ext_getElem (by omega) fun i h1 h2 => ?_
      have := h i (by simp [List.mem_range']; omega)
      simpa [List.getD_eq_getElem?_getD, h1, h2] using this
    · rintro rfl i _
      simp
  have hsz : (⟨0, len, 1, by decide⟩ : Std.Legacy.Range).size = len := by simp [Std.Legacy.Range.size]
  rw [hsz, hall]
  by_cases h : p = q <;> simp [h, Result.andThen]
theorem sizeByte1 (w : World) : (sizeOf 5).run Tryd.prog w = .ok 1 w := by kernel_rfl
theorem guardPage1 : Tryd.prog.eqGuardType Tryd.prog.depth 55 = false := by kernel_rfl
theorem equalIn_two (p q : Pg) (hl : p.length = 128) (hm : q.length = 128) (w : World) : (Op.equalIn 10000 55 (pgV p) (pgV q)).run Tryd.prog w = .ok (decide (p = q)) w :=
  run_equalIn_two w 9998 128 55 5 p q Tryd.underlying55 Tryd.underlying5 sizeByte1 hl hm
end Go.Proofs.YtaolkmlgdhnhaaaDoor
