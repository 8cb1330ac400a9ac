/-
  What an argument that is a struct, or an array of bytes, gives a walk: for any seat. Conditions: none beyond the premises of each theorem.
-/
import Derived.Test.YtiffgmgefpoblaaDoorOpen
import Derived.Test.YtiffgmgefpoblaaDoorStructEq
import Derived.ProofKit
import Derived.OpenShut
namespace Go.Proofs.YtiffgmgefpoblaaDoor
open Go.ChangeShapes Go.WideShapes Go.ChangeAt Go.RowKit

theorem agg_of_okWide {P : Program} {w : World} {r : Reach} {base : Nat} {t : TypeId} {fs : Array Field} {v : Value} (ht : P.underlying t = some (.struct fs)) (h : Value.okWide P w r base t v) : ∃ cs, v = .agg cs ∧ cs.size = P.cellsOf t := by
  simp only [Value.okWide, ht] at h
  obtain ⟨cs, h1, h2, _⟩ := h
  exact ⟨cs, h1, h2⟩
theorem num_of_trod {H : Type} {enc : TypeId × Value → H} {P : Program} {w : World} {base : Nat} {sp : Nat → Bool} {held : Bool} {fuel : Nat} {t : TypeId} {k : IntKind} {c : Value} {y : DataW H × List MemPlace}
    (ht : P.underlying t = some (.int k)) (h : DataW.trod enc P w base sp held fuel t [c] = some y) : ∃ n, c = .int k n ∧ (Lit.int k n).wf = true := by
  cases fuel with
  | zero => simp [DataW.trod] at h
  | succ fuel =>
    cases c <;> simp [DataW.trod, ht] at h
    rename_i k' n
    obtain ⟨⟨rfl, hw⟩, rfl⟩ := h
    exact ⟨n, rfl, hw⟩
theorem text_of_trod {H : Type} {enc : TypeId × Value → H} {P : Program} {w : World} {base : Nat} {sp : Nat → Bool} {held : Bool} {fuel : Nat} {t : TypeId} {c : Value} {y : DataW H × List MemPlace}
    (ht : P.underlying t = some .string) (h : DataW.trod enc P w base sp held fuel t [c] = some y) : ∃ s, c = .string s := by
  cases fuel with
  | zero => simp [DataW.trod] at h
  | succ fuel =>
    cases c <;> simp [DataW.trod, ht] at h
    exact ⟨_, rfl⟩
theorem byte_of_trod {H : Type} {enc : TypeId × Value → H} {P : Program} {w : World} {base : Nat} {sp : Nat → Bool} {held : Bool} {fuel : Nat} {t : TypeId} {c : Value} {y : DataW H × List MemPlace}
    (ht : P.underlying t = some (.int .u8)) (h : DataW.trod enc P w base sp held fuel t [c] = some y) : ∃ n : Nat, c = .int .u8 (n : Int) ∧ n < 256 := by
  obtain ⟨n, rfl, hw⟩ := num_of_trod ht h
  obtain ⟨m, rfl, hm⟩ := open_u8_nat hw
  exact ⟨m, rfl, hm⟩
/-- bytes in the cells of an array -/
theorem u8s_of_trod {H : Type} {enc : TypeId × Value → H} {P : Program} {w : World} {base : Nat} {sp : Nat → Bool} {held : Bool} {fuel n : Nat} {t e : TypeId} {cs : List Value} {x : DataW H × List MemPlace}
    (ht : P.underlying t = some (.array n e)) (he : P.underlying e = some (.int .u8)) (hc : P.cellsOf e = 1) (hn : P.cellsOf t = n) (h : DataW.trod enc P w base sp held fuel t cs = some x) :
    ∃ s : List Nat, cs = u8Cells s ∧ s.length = n ∧ ∀ b ∈ s, b < 256 := by
  obtain ⟨xs, m, _, _, hl, hx, hel⟩ := DataW.trod_array ht h
  rw [hn] at hl
  have key : ∀ (l : List Value), (∀ i (h : i < l.length), ∃ n : Nat, l[i] = .int .u8 (n : Int) ∧ n < 256) → ∃ s : List Nat, l = u8Cells s ∧ ∀ b ∈ s, b < 256 := by
    intro l
    induction l with
    | nil => intro _; exact ⟨[], rfl, by simp⟩
    | cons c r ih =>
      intro hh
      obtain ⟨p, e, hp⟩ := ih (fun i hi => hh (i + 1) (by simpa using hi))
      obtain ⟨n, e0, h0⟩ := hh 0 (by simp)
      refine ⟨n :: p, ?_, fun z hz => ?_⟩
      · rw [e]
        have e0' : c = .int .u8 n := e0
        rw [e0']
        rfl
      · rcases List.mem_cons.1 hz with rfl | hz
        · exact h0
        · exact hp z hz
  obtain ⟨p, hp, hw⟩ := key cs (fun i hi => by
    have h1 := hel i (by omega)
    rw [hc, Nat.mul_one, List.drop_eq_getElem_cons hi] at h1
    have hxi : xs[i]? = some (xs[i]'(by omega)) := List.getElem?_eq_getElem (by omega)
    rw [hxi] at h1
    exact byte_of_trod he h1)
  refine ⟨p, hp, ?_, hw⟩
  rw [hp] at hl
  simpa [u8Cells] using hl
end Go.Proofs.YtiffgmgefpoblaaDoor
