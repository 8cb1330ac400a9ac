/-
  A map from numbers to how often they were met: what it holds behind a number more. Conditions: none beyond the premises of each theorem.
-/
import Derived.Test.YtiffgmgefpoblaaDoorGridNear
import Derived.Test.YtiffgmgefpoblaaDoorOwnAt
import Derived.Maps.OwnOps
import Derived.Maps.OwnSet
import Derived.Maps.Views
namespace Go.Proofs.YtiffgmgefpoblaaDoor
open Go.RowKit Go.Maps

theorem Tryd.keyInt : Keyed Tryd.prog 3 := int_keyed Tryd.underlying3
theorem Tryd.zeroInt (w : World) : (zeroValue 3).run Tryd.prog w = .ok (.int .i64 0) w := by kernel_rfl
/-- a look-up, guarded or not -/
theorem wpList_lookup_g {H : Type} {P : Program} (w : World) {ops : Array Oper} {rest : List Oper} {o : Oper} {a : Act} {Q : Exit → Act → World → Prop}
    (hg : Region.wanted o (yielded ops a.tmps) = true) (m x : Operand) (t : TypeId) (hop : o.op = Op.lookup t m x false)
    (k e : TypeId) (q : IntKind) (K : Keyed P k) (ht : P.underlying t = some (.map k e)) (he : P.underlying e = some (.int q)) (hz : (zeroValue e).run P w = .ok (.int q 0) w) (b n : Nat) (D : DataW H)
    (hm : a.eval m = .map (some b)) (hown : w.ownsMap P k (plainElem P e) b n D) (key : Value) (kl : Lit) (hx : a.eval x = key) (hkey : keyOf P k key = some kl)
    (hK : ∀ c : Int, D.atKey kl (.lit (.int q 0)) = .lit (.int q c) → (Lit.int q c).wf = true → wpList P ops Q rest (a.put o.dst (.int q c)) w) :
    wpList P ops Q (o :: rest) a w := by
  refine wpList_step fun K' hK' => ?_
  rw [if_pos hg]
  obtain ⟨c, hrun, hat, hwc⟩ := hown.lookup_int K ht he hz hkey
  unfold Oper.wp
  simp [execOp, hop, hm, hx, hrun, Result.andThen]
  exact hK' _ _ (hK c hat hwc)
theorem lit_int9 {a b : Int} (h : (.lit (.int .i64 a) : DataW Unit) = .lit (.int .i64 b)) : a = b := by
  injection h with h
  injection h
/-- the map says of each number how often it was met -/
structure KeysMap (D : DataW Unit) (keys : List Nat) (bound : Int) : Prop where
  map : IsMap D
  has : ∀ z : Nat, Maps.has D (.int .i64 z) = true ↔ z ∈ keys
  size : Maps.size D = keys.length
  at_ : ∀ (z : Nat) (c : Int), D.atKey (.int .i64 z) (.lit (.int .i64 0)) = .lit (.int .i64 c) → 0 ≤ c ∧ c ≤ bound ∧ (c = 0 ↔ z ∉ keys)
theorem KeysMap.empty : KeysMap (.map []) [] 0 :=
  ⟨isMap_empty, fun z => by simp [Maps.has_eq], rfl, fun z c h => by
    have := lit_int9 (show (.lit (.int .i64 0) : DataW Unit) = .lit (.int .i64 c) from h)
    subst this
    simp⟩
theorem KeysMap.mono {D : DataW Unit} {keys : List Nat} {b b' : Int} (h : KeysMap D keys b) (hb : b ≤ b') : KeysMap D keys b' :=
  ⟨h.map, h.has, h.size, fun z c hc => by have := h.at_ z c hc; exact ⟨this.1, by omega, this.2.2⟩⟩
/-- once more -/
theorem KeysMap.put {D : DataW Unit} {keys : List Nat} {b : Int} (h : KeysMap D keys b) (ht : Tidy D) (z : Nat) (c : Int) (hc : D.atKey (.int .i64 z) (.lit (.int .i64 0)) = .lit (.int .i64 c)) :
    KeysMap (D.put (.int .i64 z) (.lit (.int .i64 (c + 1)))) (if z ∈ keys then keys else keys ++ [z]) (b + 1) := by
  obtain ⟨h0, h1, h2⟩ := h.at_ z c hc
  have hh := h.has z
  refine ⟨h.map.put _ _, fun y => ?_, ?_, fun y d hd => ?_⟩
  · by_cases e : y = z
    · subst e
      rw [has_put_same (k := .int .i64 (y : Int)) h.map trivial]
      split <;> simp
      assumption
    · have hne : (Lit.int .i64 (y : Int)) ≠ Lit.int .i64 (z : Int) := fun e' => by injection e' with _ e'; omega
      rw [has_put_other hne, h.has y]
      split <;> simp [e]
  · rw [size_put ht, h.size]
    by_cases hz : z ∈ keys
    · rw [if_pos hz, if_pos (hh.2 hz)]
    · rw [if_neg hz, if_neg fun e => hz (hh.1 e)]
      simp
  · by_cases e : y = z
    · subst e
      rw [atKey_put_same (k := .int .i64 (y : Int)) h.map trivial] at hd
      obtain rfl := lit_int9 hd
      refine ⟨by omega, by omega, ?_⟩
      by_cases hz : y ∈ keys
      · rw [if_pos hz]; simp [hz]; omega
      · rw [if_neg hz]; simp; omega
    · have hne : (Lit.int .i64 (y : Int)) ≠ Lit.int .i64 (z : Int) := fun e' => by injection e' with _ e'; omega
      rw [atKey_put_other hne] at hd
      obtain ⟨g0, g1, g2⟩ := h.at_ y d hd
      refine ⟨g0, by omega, g2.trans ?_⟩
      by_cases hz : z ∈ keys
      · rw [if_pos hz]
      · rw [if_neg hz]; simp [e]
end Go.Proofs.YtiffgmgefpoblaaDoor
