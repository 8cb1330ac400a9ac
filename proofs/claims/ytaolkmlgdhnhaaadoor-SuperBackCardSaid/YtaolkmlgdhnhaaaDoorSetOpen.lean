/-
  What an argument that is an array of 30 bytes gives a walk: a set. Conditions: none beyond the premises of each theorem.
-/
import Derived.Test.YtaolkmlgdhnhaaaDoorSetAt
import Derived.ProofKit
import Derived.OpenShut
namespace Go.Proofs.YtaolkmlgdhnhaaaDoor
open Go.ChangeShapes Go.WideShapes Go.ChangeAt Go.RowKit

theorem byte_of_trod {H : Type} {enc : TypeId × Value → H} {P : Program} {w : World} {base : Nat} {sp : Nat → Bool} {held : Bool} {fuel : Nat} {t : TypeId} {c : Value} {y : DataW H × List MemPlace}
    (ht : P.underlying t = some (.int .u8)) (h : DataW.trod enc P w base sp held fuel t [c] = some y) : ∃ n : Nat, c = .int .u8 (n : Int) ∧ n < 256 := by
  cases fuel with
  | zero => simp [DataW.trod] at h
  | succ fuel =>
    cases c <;> simp [DataW.trod, ht] at h
    rename_i k' n
    obtain ⟨⟨rfl, hw⟩, rfl⟩ := h
    have e1 : IntKind.u8.min = 0 := rfl
    have e2 : IntKind.u8.max = 255 := rfl
    simp [Lit.wf, e1, e2] at hw
    obtain ⟨m, rfl⟩ : ∃ m : Nat, n = m := ⟨n.toNat, by omega⟩
    exact ⟨m, rfl, by omega⟩
theorem arr_of_okWide {P : Program} {w : World} {r : Reach} {base n : Nat} {t e : TypeId} {v : Value} (ht : P.underlying t = some (.array n e)) (h : Value.okWide P w r base t v) : ∃ cs, v = .agg cs ∧ cs.size = P.cellsOf t := by
  simp only [Value.okWide, ht] at h
  obtain ⟨cs, h1, h2, _⟩ := h
  exact ⟨cs, h1, h2⟩
theorem Tryd.cellsU8 : Tryd.prog.cellsOf 5 = 1 := by kernel_rfl
theorem Tryd.cells30 : Tryd.prog.cellsOf 23 = 30 := by kernel_rfl
/-- bytes in cells -/
theorem set_of_trod {H : Type} {enc : TypeId × Value → H} {P : Program} {w : World} {base : Nat} {sp : Nat → Bool} {held : Bool} {fuel n : Nat} {t e : TypeId} {cs : List Value} {x : DataW H × List MemPlace}
    (ht : P.underlying t = some (.array n e)) (he : P.underlying e = some (.int .u8)) (hc : P.cellsOf e = 1) (hn : P.cellsOf t = n) (h : DataW.trod enc P w base sp held fuel t cs = some x) :
    ∃ s : List Nat, cs = stCells s ∧ s.length = n ∧ ∀ b ∈ s, b < 256 := by
  obtain ⟨xs, m, _, _, hl, hx, hel⟩ := DataW.trod_array ht h
  rw [hn] at hl
  have key : ∀ (l : List Value), (∀ i (h : i < l.length), ∃ n : Nat, l[i] = .int .u8 (n : Int) ∧ n < 256) → ∃ s : List Nat, l = stCells s ∧ ∀ b ∈ s, b < 256 := by
    intro l
    induction l with
    | nil => intro _; exact ⟨[], rfl, by simp⟩
    | cons c r ih =>
      intro hh
      obtain ⟨p, e, hp⟩ := ih (fun i hi => hh (i + 1) (by simpa using hi))
      obtain ⟨n, e0, h0⟩ := hh 0 (by simp)
      refine ⟨n :: p, ?_, fun z hz => ?_⟩
      · rw [e]
        have e0' : c = .int .u8 n := e0
        rw [e0']
        rfl
      · rcases List.mem_cons.1 hz with rfl | hz
        · exact h0
        · exact hp z hz
  obtain ⟨p, hp, hw⟩ := key cs (fun i hi => by
    have h1 := hel i (by omega)
    rw [hc, Nat.mul_one, List.drop_eq_getElem_cons hi] at h1
    have hxi : xs[i]? = some (xs[i]'(by omega)) := List.getElem?_eq_getElem (by omega)
    rw [hxi] at h1
    exact byte_of_trod he h1)
  refine ⟨p, hp, ?_, hw⟩
  rw [hp, stCells_length] at hl
  exact hl
set_option maxRecDepth 100000 in
/-- an array of 30 bytes that is read as data -/
theorem open_set {H : Type} {enc : TypeId × Value → H} {W : World} {v : Value} {d : DataW H} {ps : List MemPlace} {r : Reach} {b0 : Nat} (hval : Value.okWide Tryd.prog W r b0 23 v)
    (h : DataW.Trod enc Tryd.prog W 0 (fun _ => true) true 23 v d ps) : ∃ s : List Nat, v = stV s ∧ Bits.Ok s := by
  obtain ⟨cs, rfl, _⟩ := arr_of_okWide Tryd.underlying23 hval
  obtain ⟨fuel, hf⟩ := h
  obtain ⟨p, hp, hl, hw⟩ := set_of_trod (n := 30) Tryd.underlying23 Tryd.underlying5 Tryd.cellsU8 Tryd.cells30 hf
  refine ⟨p, ?_, hl, hw⟩
  have e : cs.toList = stCells p := hp
  show Value.agg cs = Value.agg (stCells p).toArray
  rw [← e]
end Go.Proofs.YtaolkmlgdhnhaaaDoor
