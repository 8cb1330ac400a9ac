/-
  Opens: several texts in one file. Conditions: as each part says.
-/
import Derived.Test.YtbcapaafoklhdaaDoorPacks
import Derived.ProofKit
import Derived.OpenShut
import Derived.Test.YtbcapaafoklhdaaDoorDisks
import Derived.Test.YtbcapaafoklhdaaDoorSets
import Derived.Deep.Strs
/-
  What the arguments of a law give a walk: numbers within their kinds, slices that read as lists of numbers. Conditions: none beyond the premises of each theorem.
-/
namespace Go.Proofs.YtbcapaafoklhdaaDoor
open Go.ChangeShapes Go.WideShapes Go.ChangeAt Go.RowKit

theorem open_u8_nat {n : Int} (h : (Lit.int .u8 n).wf = true) : ∃ m : Nat, n = (m : Int) ∧ m < 256 := by
  have e1 : IntKind.u8.min = 0 := rfl
  have e2 : IntKind.u8.max = 255 := rfl
  simp [Lit.wf, e1, e2] at h
  exact ⟨n.toNat, by omega, by omega⟩
theorem open_u32_nat {n : Int} (h : (Lit.int .u32 n).wf = true) : ∃ m : Nat, n = (m : Int) ∧ m < 4294967296 := by
  have e1 : IntKind.u32.min = 0 := rfl
  have e2 : IntKind.u32.max = 4294967295 := rfl
  simp [Lit.wf, e1, e2] at h
  exact ⟨n.toNat, by omega, by omega⟩
theorem open_i64_bounds {n : Int} (h : (Lit.int .i64 n).wf = true) : -9223372036854775808 ≤ n ∧ n ≤ 9223372036854775807 := by
  have e1 : IntKind.i64.min = -9223372036854775808 := rfl
  have e2 : IntKind.i64.max = 9223372036854775807 := rfl
  simp [Lit.wf, e1, e2] at h
  omega

/-- a slice of numbers that is read as data -/
theorem open_nums {H : Type} {enc : TypeId × Value → H} {P : Program} {W : World} {t e : TypeId} {k : IntKind} {v : Value} {d : DataW H} {ps : List MemPlace} {r : Reach} {b0 : Nat}
    (ht : P.underlying t = some (.slice e)) (he : P.underlying e = some (.int k)) (hc : P.cellsOf e = 1) (hval : Value.okWide P W r b0 t v) (h : DataW.Trod enc P W 0 (fun _ => true) true t v d ps) :
    ∃ (A : Option Addr) (cap : Nat) (zs : List Int), v = .slice A zs.length cap ∧ Nums W k A zs ∧ zs.length ≤ cap ∧ cap ≤ maxLen ∧ ∀ z ∈ zs, (Lit.int k z).wf = true := by
  obtain ⟨A, len, cap, rfl⟩ := okWide_slice ht hval
  obtain ⟨fuel, hf⟩ := h
  rcases open_ints ht he hc hf with ⟨hcs, hx⟩ | ⟨a, len', cap', zs, hcs, _, hl, hm, hz, hx, hcell, hwf⟩
  · simp [Value.cells] at hcs
    obtain ⟨rfl, rfl, rfl⟩ := hcs
    exact ⟨none, 0, [], rfl, Nums.none_ _ _ _, Nat.le_refl _, by unfold maxLen; omega, by simp⟩
  · simp [Value.cells] at hcs
    obtain ⟨rfl, rfl, rfl⟩ := hcs
    rw [if_pos rfl] at hz
    have hlen : (zs.take len).length = len := by rw [List.length_take]; omega
    refine ⟨some a, cap, zs.take len, by rw [hlen], fun hp => ⟨a, rfl, ?_, fun i z hi => ?_⟩, by omega, hm, fun z hz' => hwf z (List.mem_of_mem_take hz')⟩
    · have := below_block (hcell 0 (by omega))
      rwa [block_of_add] at this
    · rw [List.getElem?_take] at hi
      split at hi
      · rw [hcell i (by omega)]
        simp [List.getD, hi]
      · cases hi
/-- numbers of a kind that has none below 0 -/
theorem nats_of {k : IntKind} {b : Nat} (hk : ∀ z : Int, (Lit.int k z).wf = true → ∃ m : Nat, z = (m : Int) ∧ m < b) : ∀ zs : List Int, (∀ z ∈ zs, (Lit.int k z).wf = true) → ∃ l : List Nat, zs = ints l ∧ ∀ n ∈ l, n < b
  | [], _ => ⟨[], rfl, by simp⟩
  | z :: r, h => by
    obtain ⟨l, rfl, hl⟩ := nats_of hk r (fun z hz => h z (by simp [hz]))
    obtain ⟨m, rfl, hm⟩ := hk z (h z (by simp))
    exact ⟨m :: l, rfl, fun n hn => by
      rcases List.mem_cons.1 hn with rfl | hn
      · exact hm
      · exact hl n hn⟩
end Go.Proofs.YtbcapaafoklhdaaDoor

/-
  What an argument that is a sector gives a walk. Conditions: none beyond the premises of each theorem.
-/
namespace Go.Proofs.YtbcapaafoklhdaaDoor
open Go.ChangeShapes Go.WideShapes Go.ChangeAt Go.RowKit

theorem int_of_trod1 {H : Type} {enc : TypeId × Value → H} {P : Program} {w : World} {base : Nat} {sp : Nat → Bool} {held : Bool} {fuel : Nat} {t : TypeId} {k : IntKind} {c : Value} {y : DataW H × List MemPlace}
    (ht : P.underlying t = some (.int k)) (h : DataW.trod enc P w base sp held fuel t [c] = some y) : ∃ n, c = .int k n ∧ y = (.lit (.int k n), []) ∧ (Lit.int k n).wf = true := by
  cases fuel with
  | zero => simp [DataW.trod] at h
  | succ fuel =>
    cases c <;> simp [DataW.trod, ht] at h
    rename_i k' n
    obtain ⟨⟨rfl, hw⟩, rfl⟩ := h
    exact ⟨n, rfl, rfl, hw⟩
theorem okWide_array {P : Program} {w : World} {r : Reach} {base n : Nat} {t e : TypeId} {v : Value} (ht : P.underlying t = some (.array n e)) (h : Value.okWide P w r base t v) : ∃ cs, v = .agg cs ∧ cs.size = P.cellsOf t := by
  simp only [Value.okWide, ht] at h
  obtain ⟨cs, h1, h2, _⟩ := h
  exact ⟨cs, h1, h2⟩
/-- bytes in cells -/
theorem bytes_of_trod {H : Type} {enc : TypeId × Value → H} {P : Program} {w : World} {base : Nat} {sp : Nat → Bool} {held : Bool} {fuel n : Nat} {t e : TypeId} {cs : List Value} {x : DataW H × List MemPlace}
    (ht : P.underlying t = some (.array n e)) (he : P.underlying e = some (.int .u8)) (hc : P.cellsOf e = 1) (hn : P.cellsOf t = n) (h : DataW.trod enc P w base sp held fuel t cs = some x) :
    ∃ p : Pg, cs = pgCells p ∧ p.length = n ∧ ∀ z ∈ p, (Lit.int .u8 z).wf = true := by
  obtain ⟨xs, m, _, _, hl, hx, hel⟩ := DataW.trod_array ht h
  rw [hn] at hl
  have key : ∀ (l : List Value), (∀ i (h : i < l.length), ∃ n, l[i] = .int .u8 n ∧ (Lit.int .u8 n).wf = true) → ∃ p : Pg, l = pgCells p ∧ ∀ z ∈ p, (Lit.int .u8 z).wf = true := by
    intro l
    induction l with
    | nil => intro _; exact ⟨[], rfl, by simp⟩
    | cons c r ih =>
      intro hh
      obtain ⟨p, e, hp⟩ := ih (fun i hi => hh (i + 1) (by simpa using hi))
      obtain ⟨n, e0, h0⟩ := hh 0 (by simp)
      refine ⟨n :: p, ?_, fun z hz => ?_⟩
      · rw [e]
        have e0' : c = .int .u8 n := e0
        rw [e0']
        rfl
      · rcases List.mem_cons.1 hz with rfl | hz
        · exact h0
        · exact hp z hz
  obtain ⟨p, hp, hw⟩ := key cs (fun i hi => by
    have h1 := hel i (by omega)
    rw [hc, Nat.mul_one, List.drop_eq_getElem_cons hi] at h1
    have hxi : xs[i]? = some (xs[i]'(by omega)) := List.getElem?_eq_getElem (by omega)
    rw [hxi] at h1
    obtain ⟨n, hn, _, hwf⟩ := int_of_trod1 he h1
    exact ⟨n, hn, hwf⟩)
  refine ⟨p, hp, ?_, hw⟩
  rw [hp, pgCells_length] at hl
  exact hl
theorem Tryd.cellsByte : Tryd.prog.cellsOf 5 = 1 := by kernel_rfl
theorem Tryd.cellsPage : Tryd.prog.cellsOf 83 = 128 := by kernel_rfl
set_option maxRecDepth 100000 in
/-- a sector that is read as data -/
theorem open_page {H : Type} {enc : TypeId × Value → H} {W : World} {v : Value} {d : DataW H} {ps : List MemPlace} {r : Reach} {b0 : Nat} (hval : Value.okWide Tryd.prog W r b0 83 v)
    (h : DataW.Trod enc Tryd.prog W 0 (fun _ => true) true 83 v d ps) : ∃ p : Pg, v = pgV p ∧ p.length = 128 ∧ ∀ z ∈ p, (Lit.int .u8 z).wf = true := by
  obtain ⟨cs, rfl, _⟩ := okWide_array Tryd.underlying83 hval
  obtain ⟨fuel, hf⟩ := h
  obtain ⟨p, hp, hl, hw⟩ := bytes_of_trod (n := 128) Tryd.underlying83 Tryd.underlying5 Tryd.cellsByte Tryd.cellsPage hf
  refine ⟨p, ?_, hl, hw⟩
  have e : cs.toList = pgCells p := hp
  show Value.agg cs = Value.agg (pgCells p).toArray
  rw [← e]
end Go.Proofs.YtbcapaafoklhdaaDoor

/-
  What an argument that is an array of 30 bytes gives a walk: a set. Conditions: none beyond the premises of each theorem.
-/
namespace Go.Proofs.YtbcapaafoklhdaaDoor
open Go.ChangeShapes Go.WideShapes Go.ChangeAt Go.RowKit

theorem byte_of_trod {H : Type} {enc : TypeId × Value → H} {P : Program} {w : World} {base : Nat} {sp : Nat → Bool} {held : Bool} {fuel : Nat} {t : TypeId} {c : Value} {y : DataW H × List MemPlace}
    (ht : P.underlying t = some (.int .u8)) (h : DataW.trod enc P w base sp held fuel t [c] = some y) : ∃ n : Nat, c = .int .u8 (n : Int) ∧ n < 256 := by
  cases fuel with
  | zero => simp [DataW.trod] at h
  | succ fuel =>
    cases c <;> simp [DataW.trod, ht] at h
    rename_i k' n
    obtain ⟨⟨rfl, hw⟩, rfl⟩ := h
    have e1 : IntKind.u8.min = 0 := rfl
    have e2 : IntKind.u8.max = 255 := rfl
    simp [Lit.wf, e1, e2] at hw
    obtain ⟨m, rfl⟩ : ∃ m : Nat, n = m := ⟨n.toNat, by omega⟩
    exact ⟨m, rfl, by omega⟩
theorem arr_of_okWide {P : Program} {w : World} {r : Reach} {base n : Nat} {t e : TypeId} {v : Value} (ht : P.underlying t = some (.array n e)) (h : Value.okWide P w r base t v) : ∃ cs, v = .agg cs ∧ cs.size = P.cellsOf t := by
  simp only [Value.okWide, ht] at h
  obtain ⟨cs, h1, h2, _⟩ := h
  exact ⟨cs, h1, h2⟩
theorem Tryd.cellsU8 : Tryd.prog.cellsOf 5 = 1 := by kernel_rfl
theorem Tryd.cells30 : Tryd.prog.cellsOf 52 = 30 := by kernel_rfl
/-- bytes in cells -/
theorem set_of_trod {H : Type} {enc : TypeId × Value → H} {P : Program} {w : World} {base : Nat} {sp : Nat → Bool} {held : Bool} {fuel n : Nat} {t e : TypeId} {cs : List Value} {x : DataW H × List MemPlace}
    (ht : P.underlying t = some (.array n e)) (he : P.underlying e = some (.int .u8)) (hc : P.cellsOf e = 1) (hn : P.cellsOf t = n) (h : DataW.trod enc P w base sp held fuel t cs = some x) :
    ∃ s : List Nat, cs = stCells s ∧ s.length = n ∧ ∀ b ∈ s, b < 256 := by
  obtain ⟨xs, m, _, _, hl, hx, hel⟩ := DataW.trod_array ht h
  rw [hn] at hl
  have key : ∀ (l : List Value), (∀ i (h : i < l.length), ∃ n : Nat, l[i] = .int .u8 (n : Int) ∧ n < 256) → ∃ s : List Nat, l = stCells s ∧ ∀ b ∈ s, b < 256 := by
    intro l
    induction l with
    | nil => intro _; exact ⟨[], rfl, by simp⟩
    | cons c r ih =>
      intro hh
      obtain ⟨p, e, hp⟩ := ih (fun i hi => hh (i + 1) (by simpa using hi))
      obtain ⟨n, e0, h0⟩ := hh 0 (by simp)
      refine ⟨n :: p, ?_, fun z hz => ?_⟩
      · rw [e]
        have e0' : c = .int .u8 n := e0
        rw [e0']
        rfl
      · rcases List.mem_cons.1 hz with rfl | hz
        · exact h0
        · exact hp z hz
  obtain ⟨p, hp, hw⟩ := key cs (fun i hi => by
    have h1 := hel i (by omega)
    rw [hc, Nat.mul_one, List.drop_eq_getElem_cons hi] at h1
    have hxi : xs[i]? = some (xs[i]'(by omega)) := List.getElem?_eq_getElem (by omega)
    rw [hxi] at h1
    exact byte_of_trod he h1)
  refine ⟨p, hp, ?_, hw⟩
  rw [hp, stCells_length] at hl
  exact hl
set_option maxRecDepth 100000 in
/-- an array of 30 bytes that is read as data -/
theorem open_set {H : Type} {enc : TypeId × Value → H} {W : World} {v : Value} {d : DataW H} {ps : List MemPlace} {r : Reach} {b0 : Nat} (hval : Value.okWide Tryd.prog W r b0 52 v)
    (h : DataW.Trod enc Tryd.prog W 0 (fun _ => true) true 52 v d ps) : ∃ s : List Nat, v = stV s ∧ Bits.Ok s := by
  obtain ⟨cs, rfl, _⟩ := arr_of_okWide Tryd.underlying52 hval
  obtain ⟨fuel, hf⟩ := h
  obtain ⟨p, hp, hl, hw⟩ := set_of_trod (n := 30) Tryd.underlying52 Tryd.underlying5 Tryd.cellsU8 Tryd.cells30 hf
  refine ⟨p, ?_, hl, hw⟩
  have e : cs.toList = stCells p := hp
  show Value.agg cs = Value.agg (stCells p).toArray
  rw [← e]
end Go.Proofs.YtbcapaafoklhdaaDoor

/-
  A slice of strings in memory, and what an argument that is one gives a walk. Conditions: none beyond the premises of each theorem.
-/
namespace Go.Proofs.YtbcapaafoklhdaaDoor
open Go.ChangeShapes Go.WideShapes Go.ChangeAt Go.RowKit

def Strs (w : World) (A : Option Addr) (len : Nat) (ss : List ByteArray) : Prop :=
  ss.length = len ∧ (0 < len → ∃ a, A = some a ∧ a.block < w.heap.size ∧ ∀ i s, ss[i]? = some s → w.cell? (a.add i) = some (.string s))
theorem Strs.below {w w' : World} {A : Option Addr} {len : Nat} {ss : List ByteArray} (h : Strs w A len ss) (hb : Below w.heap.size w w') : Strs w' A len ss :=
  ⟨h.1, fun hp => by
    obtain ⟨a, e, hlt, hc⟩ := h.2 hp
    exact ⟨a, e, Nat.lt_of_lt_of_le hlt hb.size, fun i s hs => (hb.cell (by rw [block_of_add]; exact hlt)).trans (hc i s hs)⟩⟩
theorem Tryd.cellsStr : Tryd.prog.cellsOf 9 = 1 := by kernel_rfl
set_option maxRecDepth 100000 in
/-- a slice of strings that is read as data -/
theorem open_strs {H : Type} {enc : TypeId × Value → H} {W : World} {v : Value} {d : DataW H} {ps : List MemPlace} {r : Reach} {b0 : Nat} (hval : Value.okWide Tryd.prog W r b0 39 v)
    (h : DataW.Trod enc Tryd.prog W 0 (fun _ => true) true 39 v d ps) : ∃ (A : Option Addr) (len cap : Nat) (ss : List ByteArray), v = .slice A len cap ∧ Strs W A len ss ∧ ∀ s ∈ ss, s.size ≤ maxLen := by
  obtain ⟨A, len, cap, rfl⟩ := okWide_slice Tryd.underlying39 hval
  obtain ⟨fuel, hf⟩ := h
  rcases Go.Deep.open_strs Tryd.underlying39 Tryd.underlying9 Tryd.cellsStr hf with ⟨hcs, hx⟩ | ⟨a, len', cap', m, Sx, hcs, _, hl, hm, hmm, hx, hcell⟩
  · simp [Value.cells] at hcs
    obtain ⟨rfl, rfl, rfl⟩ := hcs
    exact ⟨none, 0, 0, [], rfl, ⟨rfl, fun h => absurd h (by omega)⟩, by simp⟩
  · simp [Value.cells] at hcs
    obtain ⟨rfl, rfl, rfl⟩ := hcs
    rw [if_pos rfl] at hmm
    refine ⟨some a, len, cap, (List.range len).map Sx, rfl, ⟨by simp, fun hp => ⟨a, rfl, ?_, fun i s hs => ?_⟩⟩, fun s hs => ?_⟩
    · have := (hcell 0 (by omega)).1
      have := lt_of_cell this
      rwa [block_of_add] at this
    · rw [List.getElem?_map] at hs
      obtain ⟨j, hj, rfl⟩ := Option.map_eq_some_iff.1 hs
      obtain ⟨hj1, hj2⟩ := List.getElem?_eq_some_iff.1 hj
      simp at hj1 hj2
      subst hj2
      exact (hcell i (by omega)).1
    · obtain ⟨j, hj, rfl⟩ := List.mem_map.1 hs
      have := List.mem_range.1 hj
      exact (hcell j (by omega)).2
end Go.Proofs.YtbcapaafoklhdaaDoor
