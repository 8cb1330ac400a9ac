/-
  Two sets compared: the answer is whether they are the same. What is laid in a region that draws its order: loads of sets. Conditions: none beyond the premises of each theorem.
-/
import Derived.Test.YtaolkmlgdhnhaaaDoorSetRef
import Derived.Test.YtaolkmlgdhnhaaaDoorRegionHead
import Derived.Laws.StructEq
namespace Go.Proofs.YtaolkmlgdhnhaaaDoor
open Go.RowKit
open Bits (Ok has with_ without count countBelow first both)

theorem run_equalIn_set {P : Program} (w : World) (d len : Nat) (t e : TypeId) (p q : List Nat) (ht : P.underlying t = some (.array len e)) (he : P.underlying e = some (.int .u8)) (hs : ∀ w, (sizeOf e).run P w = .ok 1 w) (hl : p.length = len) (hm : q.length = len) :
    (Op.equalIn (d + 2) t (.agg (stArr p)) (.agg (stArr q))).run P w = .ok (decide (p = q)) w := by
  have hp : ∀ (p : List Nat), p.length = len → ∀ i, i < len → (part e (stArr p) (i * 1)).run P w = .ok (.int .u8 ((p.getD i 0 : Nat) : Int)) w := by
    intro p hl i hi
    have hi' : i < p.length := by omega
    simp [part, isAgg, underlying, he, stArr, stCells, hi']
  rw [Op.equalIn]
  simp only [Sem.run_bind, run_underlying ht, Result.andThen_ok, hs, Std.Legacy.Range.forIn_eq_forIn_range']
  have key : ∀ l : List Nat, (∀ i ∈ l, i < len) → (forIn l (none, ()) fun i (_ : Option Bool × Unit) => do
      let a ← part e (stArr p) (i * 1)
      let b ← part e (stArr q) (i * 1)
      let r ← Op.equalIn (d + 1) e a b
      if (!r) = true then pure (ForInStep.done (some false, ())) else pure (ForInStep.yield ((none : Option Bool), ())) : Sem (Option Bool × Unit)).run P w = .ok (if l.all (fun i => ((p.getD i 0 : Nat) : Int) == ((q.getD i 0 : Nat) : Int)) then (none, ()) else (some false, ())) w := by
    intro l
    induction l with
    | nil => intro _; simp
    | cons i r ih =>
      intro h
      simp only [List.forIn_cons, Sem.run_bind, hp p hl i (h i (by simp)), hp q hm i (h i (by simp)), Result.andThen_ok, run_equalIn_int w d e .u8 .u8 _ _ he, List.all_cons]
      by_cases hb : (((p.getD i 0 : Nat) : Int) == ((q.getD i 0 : Nat) : Int)) = true
      · simp only [hb, Bool.not_true, Bool.false_eq_true, if_false, Sem.run_pure, Result.andThen_ok, Bool.true_and]
        exact ih fun k hk => h k (by simp [hk])
      · have hb' : (((p.getD i 0 : Nat) : Int) == ((q.getD i 0 : Nat) : Int)) = false := by simpa using hb
        simp only [hb', Bool.not_false, if_true, Sem.run_pure, Result.andThen_ok, Bool.false_and, Bool.false_eq_true, if_false]
  rw [key _ (fun i hi => by have := List.mem_range'.1 hi; obtain ⟨k, hk, rfl⟩ := this; simp at hk; omega)]
  have hall : ((List.range' 0 len).all (fun i => ((p.getD i 0 : Nat) : Int) == ((q.getD i 0 : Nat) : Int))) = decide (p = q) := by
    rw [Bool.eq_iff_iff, List.all_eq_true, decide_eq_true_eq]
    constructor
    · intro h
      refine List.ext_getElem (by omega) fun i h1 h2 => ?_
      have := h i (by simp [List.mem_range']; omega)
      rw [beq_iff_eq] at this
      have := Int.ofNat.inj this
      simpa [List.getD_eq_getElem?_getD, h1, h2] using this
    · rintro rfl i _
      simp
  have hsz : (⟨0, len, 1, by decide⟩ : Std.Legacy.Range).size = len := by simp [Std.Legacy.Range.size]
  rw [hsz, hall]
  by_cases h : p = q <;> simp [h, Result.andThen]
theorem sizeU8 (w : World) : (sizeOf 5).run Tryd.prog w = .ok 1 w := by kernel_rfl
theorem guardSet : Tryd.prog.eqGuardType Tryd.prog.depth 31 = false := by kernel_rfl
theorem equalIn_sets {p q : List Nat} (hl : p.length = 30) (hm : q.length = 30) (w : World) : (Op.equalIn 10000 31 (stV p) (stV q)).run Tryd.prog w = .ok (decide (p = q)) w :=
  run_equalIn_set w 9998 30 31 5 p q Tryd.underlying31 Tryd.underlying5 sizeU8 hl hm
/-- .. the same one -/
theorem equalIn_same {p : List Nat} (hl : p.length = 30) (w : World) : (Op.equalIn 10000 31 (stV p) (stV p)).run Tryd.prog w = .ok true w := by
  rw [equalIn_sets hl hl, decide_eq_true rfl]
/-- a load of a set, of an array of 30 bytes, at a step of a region that draws its order -/
theorem yieldsIf_set {ops : Array Oper} {S : World → Prop} {op : Oper} {a : Act} (hw : Region.wanted op (yielded ops a.tmps) = true) (x : Operand) (ho : op.op = .load 31 x)
    (b : Nat) (hx : a.eval x = .pointer (some ⟨b, 0, none⟩)) (s : List Nat) (hl : s.length = 30) (hS : ∀ w, S w → w.rangeAt b 0 (stCells s)) : YieldsIf Tryd.prog ops S op (stV s) a :=
  yieldsIf_load_mid hw _ x ho b 0 hx (stCells s) _ hS Tryd.underlying31 rfl (by rw [stCells_length, hl]; exact Tryd.setSize)
theorem yieldsIf_arr {ops : Array Oper} {S : World → Prop} {op : Oper} {a : Act} (hw : Region.wanted op (yielded ops a.tmps) = true) (x : Operand) (ho : op.op = .load 23 x)
    (b : Nat) (hx : a.eval x = .pointer (some ⟨b, 0, none⟩)) (s : List Nat) (hl : s.length = 30) (hS : ∀ w, S w → w.rangeAt b 0 (stCells s)) : YieldsIf Tryd.prog ops S op (stV s) a :=
  yieldsIf_load_mid hw _ x ho b 0 hx (stCells s) _ hS Tryd.underlying23 rfl (by rw [stCells_length, hl]; exact Tryd.arr30Size)
end Go.Proofs.YtaolkmlgdhnhaaaDoor
