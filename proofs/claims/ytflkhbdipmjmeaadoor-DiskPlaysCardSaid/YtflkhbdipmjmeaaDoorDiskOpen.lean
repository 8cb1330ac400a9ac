/-
  What an argument that is a sector gives a walk. Conditions: none beyond the premises of each theorem.
-/
import Derived.Test.YtflkhbdipmjmeaaDoorDiskAt
import Derived.Test.YtflkhbdipmjmeaaDoorOpen
namespace Go.Proofs.YtflkhbdipmjmeaaDoor
open Go.ChangeShapes Go.WideShapes Go.ChangeAt Go.RowKit

theorem int_of_trod1 {H : Type} {enc : TypeId × Value → H} {P : Program} {w : World} {base : Nat} {sp : Nat → Bool} {held : Bool} {fuel : Nat} {t : TypeId} {k : IntKind} {c : Value} {y : DataW H × List MemPlace}
    (ht : P.underlying t = some (.int k)) (h : DataW.trod enc P w base sp held fuel t [c] = some y) : ∃ n, c = .int k n ∧ y = (.lit (.int k n), []) ∧ (Lit.int k n).wf = true := by
  cases fuel with
  | zero => simp [DataW.trod] at h
  | succ fuel =>
    cases c <;> simp [DataW.trod, ht] at h
    rename_i k' n
    obtain ⟨⟨rfl, hw⟩, rfl⟩ := h
    exact ⟨n, rfl, rfl, hw⟩
theorem okWide_array {P : Program} {w : World} {r : Reach} {base n : Nat} {t e : TypeId} {v : Value} (ht : P.underlying t = some (.array n e)) (h : Value.okWide P w r base t v) : ∃ cs, v = .agg cs ∧ cs.size = P.cellsOf t := by
  simp only [Value.okWide, ht] at h
  obtain ⟨cs, h1, h2, _⟩ := h
  exact ⟨cs, h1, h2⟩
/-- bytes in cells -/
theorem bytes_of_trod {H : Type} {enc : TypeId × Value → H} {P : Program} {w : World} {base : Nat} {sp : Nat → Bool} {held : Bool} {fuel n : Nat} {t e : TypeId} {cs : List Value} {x : DataW H × List MemPlace}
    (ht : P.underlying t = some (.array n e)) (he : P.underlying e = some (.int .u8)) (hc : P.cellsOf e = 1) (hn : P.cellsOf t = n) (h : DataW.trod enc P w base sp held fuel t cs = some x) :
    ∃ p : Pg, cs = pgCells p ∧ p.length = n ∧ ∀ z ∈ p, (Lit.int .u8 z).wf = true := by
  obtain ⟨xs, m, _, _, hl, hx, hel⟩ := DataW.trod_array ht h
  rw [hn] at hl
  have key : ∀ (l : List Value), (∀ i (h : i < l.length), ∃ n, l[i] = .int .u8 n ∧ (Lit.int .u8 n).wf = true) → ∃ p : Pg, l = pgCells p ∧ ∀ z ∈ p, (Lit.int .u8 z).wf = true := by
    intro l
    induction l with
    | nil => intro _; exact ⟨[], rfl, by simp⟩
    | cons c r ih =>
      intro hh
      obtain ⟨p, e, hp⟩ := ih (fun i hi => hh (i + 1) (by simpa using hi))
      obtain ⟨n, e0, h0⟩ := hh 0 (by simp)
      refine ⟨n :: p, ?_, fun z hz => ?_⟩
      · rw [e]
        have e0' : c = .int .u8 n := e0
        rw [e0']
        rfl
      · rcases List.mem_cons.1 hz with rfl | hz
        · exact h0
        · exact hp z hz
  obtain ⟨p, hp, hw⟩ := key cs (fun i hi => by
    have h1 := hel i (by omega)
    rw [hc, Nat.mul_one, List.drop_eq_getElem_cons hi] at h1
    have hxi : xs[i]? = some (xs[i]'(by omega)) := List.getElem?_eq_getElem (by omega)
    rw [hxi] at h1
    obtain ⟨n, hn, _, hwf⟩ := int_of_trod1 he h1
    exact ⟨n, hn, hwf⟩)
  refine ⟨p, hp, ?_, hw⟩
  rw [hp, pgCells_length] at hl
  exact hl
theorem Tryd.cellsByte : Tryd.prog.cellsOf 5 = 1 := by kernel_rfl
theorem Tryd.cellsPage : Tryd.prog.cellsOf 36 = 128 := by kernel_rfl
set_option maxRecDepth 100000 in
/-- a sector that is read as data -/
theorem open_page {H : Type} {enc : TypeId × Value → H} {W : World} {v : Value} {d : DataW H} {ps : List MemPlace} {r : Reach} {b0 : Nat} (hval : Value.okWide Tryd.prog W r b0 36 v)
    (h : DataW.Trod enc Tryd.prog W 0 (fun _ => true) true 36 v d ps) : ∃ p : Pg, v = pgV p ∧ p.length = 128 ∧ ∀ z ∈ p, (Lit.int .u8 z).wf = true := by
  obtain ⟨cs, rfl, _⟩ := okWide_array Tryd.underlying36 hval
  obtain ⟨fuel, hf⟩ := h
  obtain ⟨p, hp, hl, hw⟩ := bytes_of_trod (n := 128) Tryd.underlying36 Tryd.underlying5 Tryd.cellsByte Tryd.cellsPage hf
  refine ⟨p, ?_, hl, hw⟩
  have e : cs.toList = pgCells p := hp
  show Value.agg cs = Value.agg (pgCells p).toArray
  rw [← e]
end Go.Proofs.YtflkhbdipmjmeaaDoor
