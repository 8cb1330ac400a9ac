/-
  Opens: several texts in one file. Conditions: as each part says.
-/
import Derived.Test.YtaolkmlgdhnhaaaDoorPacks
import Derived.ProofKit
import Derived.OpenShut
import Derived.Test.YtaolkmlgdhnhaaaDoorDisks
import Derived.Test.YtaolkmlgdhnhaaaDoorSets
import Derived.Test.YtaolkmlgdhnhaaaDoorMaths
import Derived.Test.YtaolkmlgdhnhaaaDoorSb
/-
  What the arguments of a law give a walk: numbers within their kinds, slices that read as lists of numbers. Conditions: none beyond the premises of each theorem.
-/
namespace Go.Proofs.YtaolkmlgdhnhaaaDoor
open Go.ChangeShapes Go.WideShapes Go.ChangeAt Go.RowKit

theorem open_u8_nat {n : Int} (h : (Lit.int .u8 n).wf = true) : ∃ m : Nat, n = (m : Int) ∧ m < 256 := by
  have e1 : IntKind.u8.min = 0 := rfl
  have e2 : IntKind.u8.max = 255 := rfl
  simp [Lit.wf, e1, e2] at h
  exact ⟨n.toNat, by omega, by omega⟩
theorem open_u32_nat {n : Int} (h : (Lit.int .u32 n).wf = true) : ∃ m : Nat, n = (m : Int) ∧ m < 4294967296 := by
  have e1 : IntKind.u32.min = 0 := rfl
  have e2 : IntKind.u32.max = 4294967295 := rfl
  simp [Lit.wf, e1, e2] at h
  exact ⟨n.toNat, by omega, by omega⟩
theorem open_i64_bounds {n : Int} (h : (Lit.int .i64 n).wf = true) : -9223372036854775808 ≤ n ∧ n ≤ 9223372036854775807 := by
  have e1 : IntKind.i64.min = -9223372036854775808 := rfl
  have e2 : IntKind.i64.max = 9223372036854775807 := rfl
  simp [Lit.wf, e1, e2] at h
  omega

/-- a slice of numbers that is read as data -/
theorem open_nums {H : Type} {enc : TypeId × Value → H} {P : Program} {W : World} {t e : TypeId} {k : IntKind} {v : Value} {d : DataW H} {ps : List MemPlace} {r : Reach} {b0 : Nat}
    (ht : P.underlying t = some (.slice e)) (he : P.underlying e = some (.int k)) (hc : P.cellsOf e = 1) (hval : Value.okWide P W r b0 t v) (h : DataW.Trod enc P W 0 (fun _ => true) true t v d ps) :
    ∃ (A : Option Addr) (cap : Nat) (zs : List Int), v = .slice A zs.length cap ∧ Nums W k A zs ∧ zs.length ≤ cap ∧ cap ≤ maxLen ∧ ∀ z ∈ zs, (Lit.int k z).wf = true := by
  obtain ⟨A, len, cap, rfl⟩ := okWide_slice ht hval
  obtain ⟨fuel, hf⟩ := h
  rcases open_ints ht he hc hf with ⟨hcs, hx⟩ | ⟨a, len', cap', zs, hcs, _, hl, hm, hz, hx, hcell, hwf⟩
  · simp [Value.cells] at hcs
    obtain ⟨rfl, rfl, rfl⟩ := hcs
    exact ⟨none, 0, [], rfl, Nums.none_ _ _ _, Nat.le_refl _, by unfold maxLen; omega, by simp⟩
  · simp [Value.cells] at hcs
    obtain ⟨rfl, rfl, rfl⟩ := hcs
    rw [if_pos rfl] at hz
    have hlen : (zs.take len).length = len := by rw [List.length_take]; omega
    refine ⟨some a, cap, zs.take len, by rw [hlen], fun hp => ⟨a, rfl, ?_, fun i z hi => ?_⟩, by omega, hm, fun z hz' => hwf z (List.mem_of_mem_take hz')⟩
    · have := below_block (hcell 0 (by omega))
      rwa [block_of_add] at this
    · rw [List.getElem?_take] at hi
      split at hi
      · rw [hcell i (by omega)]
        simp [List.getD, hi]
      · cases hi
/-- numbers of a kind that has none below 0 -/
theorem nats_of {k : IntKind} {b : Nat} (hk : ∀ z : Int, (Lit.int k z).wf = true → ∃ m : Nat, z = (m : Int) ∧ m < b) : ∀ zs : List Int, (∀ z ∈ zs, (Lit.int k z).wf = true) → ∃ l : List Nat, zs = ints l ∧ ∀ n ∈ l, n < b
  | [], _ => ⟨[], rfl, by simp⟩
  | z :: r, h => by
    obtain ⟨l, rfl, hl⟩ := nats_of hk r (fun z hz => h z (by simp [hz]))
    obtain ⟨m, rfl, hm⟩ := hk z (h z (by simp))
    exact ⟨m :: l, rfl, fun n hn => by
      rcases List.mem_cons.1 hn with rfl | hn
      · exact hm
      · exact hl n hn⟩
end Go.Proofs.YtaolkmlgdhnhaaaDoor

/-
  What an argument that is a sector gives a walk. Conditions: none beyond the premises of each theorem.
-/
namespace Go.Proofs.YtaolkmlgdhnhaaaDoor
open Go.ChangeShapes Go.WideShapes Go.ChangeAt Go.RowKit

theorem int_of_trod1 {H : Type} {enc : TypeId × Value → H} {P : Program} {w : World} {base : Nat} {sp : Nat → Bool} {held : Bool} {fuel : Nat} {t : TypeId} {k : IntKind} {c : Value} {y : DataW H × List MemPlace}
    (ht : P.underlying t = some (.int k)) (h : DataW.trod enc P w base sp held fuel t [c] = some y) : ∃ n, c = .int k n ∧ y = (.lit (.int k n), []) ∧ (Lit.int k n).wf = true := by
  cases fuel with
  | zero => simp [DataW.trod] at h
  | succ fuel =>
    cases c <;> simp [DataW.trod, ht] at h
    rename_i k' n
    obtain ⟨⟨rfl, hw⟩, rfl⟩ := h
    exact ⟨n, rfl, rfl, hw⟩
theorem okWide_array {P : Program} {w : World} {r : Reach} {base n : Nat} {t e : TypeId} {v : Value} (ht : P.underlying t = some (.array n e)) (h : Value.okWide P w r base t v) : ∃ cs, v = .agg cs ∧ cs.size = P.cellsOf t := by
  simp only [Value.okWide, ht] at h
  obtain ⟨cs, h1, h2, _⟩ := h
  exact ⟨cs, h1, h2⟩
/-- bytes in cells -/
theorem bytes_of_trod {H : Type} {enc : TypeId × Value → H} {P : Program} {w : World} {base : Nat} {sp : Nat → Bool} {held : Bool} {fuel n : Nat} {t e : TypeId} {cs : List Value} {x : DataW H × List MemPlace}
    (ht : P.underlying t = some (.array n e)) (he : P.underlying e = some (.int .u8)) (hc : P.cellsOf e = 1) (hn : P.cellsOf t = n) (h : DataW.trod enc P w base sp held fuel t cs = some x) :
    ∃ p : Pg, cs = pgCells p ∧ p.length = n ∧ ∀ z ∈ p, (Lit.int .u8 z).wf = true := by
  obtain ⟨xs, m, _, _, hl, hx, hel⟩ := DataW.trod_array ht h
  rw [hn] at hl
  have key : ∀ (l : List Value), (∀ i (h : i < l.length), ∃ n, l[i] = .int .u8 n ∧ (Lit.int .u8 n).wf = true) → ∃ p : Pg, l = pgCells p ∧ ∀ z ∈ p, (Lit.int .u8 z).wf = true := by
    intro l
    induction l with
    | nil => intro _; exact ⟨[], rfl, by simp⟩
    | cons c r ih =>
      intro hh
      obtain ⟨p, e, hp⟩ := ih (fun i hi => hh (i + 1) (by simpa using hi))
      obtain ⟨n, e0, h0⟩ := hh 0 (by simp)
      refine ⟨n :: p, ?_, fun z hz => ?_⟩
      · rw [e]
        have e0' : c = .int .u8 n := e0
        rw [e0']
        rfl
      · rcases List.mem_cons.1 hz with rfl | hz
        · exact h0
        · exact hp z hz
  obtain ⟨p, hp, hw⟩ := key cs (fun i hi => by
    have h1 := hel i (by omega)
    rw [hc, Nat.mul_one, List.drop_eq_getElem_cons hi] at h1
    have hxi : xs[i]? = some (xs[i]'(by omega)) := List.getElem?_eq_getElem (by omega)
    rw [hxi] at h1
    obtain ⟨n, hn, _, hwf⟩ := int_of_trod1 he h1
    exact ⟨n, hn, hwf⟩)
  refine ⟨p, hp, ?_, hw⟩
  rw [hp, pgCells_length] at hl
  exact hl
theorem Tryd.cellsByte : Tryd.prog.cellsOf 5 = 1 := by kernel_rfl
theorem Tryd.cellsPage : Tryd.prog.cellsOf 55 = 128 := by kernel_rfl
set_option maxRecDepth 100000 in
/-- a sector that is read as data -/
theorem open_page {H : Type} {enc : TypeId × Value → H} {W : World} {v : Value} {d : DataW H} {ps : List MemPlace} {r : Reach} {b0 : Nat} (hval : Value.okWide Tryd.prog W r b0 55 v)
    (h : DataW.Trod enc Tryd.prog W 0 (fun _ => true) true 55 v d ps) : ∃ p : Pg, v = pgV p ∧ p.length = 128 ∧ ∀ z ∈ p, (Lit.int .u8 z).wf = true := by
  obtain ⟨cs, rfl, _⟩ := okWide_array Tryd.underlying55 hval
  obtain ⟨fuel, hf⟩ := h
  obtain ⟨p, hp, hl, hw⟩ := bytes_of_trod (n := 128) Tryd.underlying55 Tryd.underlying5 Tryd.cellsByte Tryd.cellsPage hf
  refine ⟨p, ?_, hl, hw⟩
  have e : cs.toList = pgCells p := hp
  show Value.agg cs = Value.agg (pgCells p).toArray
  rw [← e]
end Go.Proofs.YtaolkmlgdhnhaaaDoor

/-
  What an argument that is an array of 30 bytes gives a walk: a set. Conditions: none beyond the premises of each theorem.
-/
namespace Go.Proofs.YtaolkmlgdhnhaaaDoor
open Go.ChangeShapes Go.WideShapes Go.ChangeAt Go.RowKit

theorem byte_of_trod {H : Type} {enc : TypeId × Value → H} {P : Program} {w : World} {base : Nat} {sp : Nat → Bool} {held : Bool} {fuel : Nat} {t : TypeId} {c : Value} {y : DataW H × List MemPlace}
    (ht : P.underlying t = some (.int .u8)) (h : DataW.trod enc P w base sp held fuel t [c] = some y) : ∃ n : Nat, c = .int .u8 (n : Int) ∧ n < 256 := by
  cases fuel with
  | zero => simp [DataW.trod] at h
  | succ fuel =>
    cases c <;> simp [DataW.trod, ht] at h
    rename_i k' n
    obtain ⟨⟨rfl, hw⟩, rfl⟩ := h
    have e1 : IntKind.u8.min = 0 := rfl
    have e2 : IntKind.u8.max = 255 := rfl
    simp [Lit.wf, e1, e2] at hw
    obtain ⟨m, rfl⟩ : ∃ m : Nat, n = m := ⟨n.toNat, by omega⟩
    exact ⟨m, rfl, by omega⟩
theorem arr_of_okWide {P : Program} {w : World} {r : Reach} {base n : Nat} {t e : TypeId} {v : Value} (ht : P.underlying t = some (.array n e)) (h : Value.okWide P w r base t v) : ∃ cs, v = .agg cs ∧ cs.size = P.cellsOf t := by
  simp only [Value.okWide, ht] at h
  obtain ⟨cs, h1, h2, _⟩ := h
  exact ⟨cs, h1, h2⟩
theorem Tryd.cellsU8 : Tryd.prog.cellsOf 5 = 1 := by kernel_rfl
theorem Tryd.cells30 : Tryd.prog.cellsOf 23 = 30 := by kernel_rfl
/-- bytes in cells -/
theorem set_of_trod {H : Type} {enc : TypeId × Value → H} {P : Program} {w : World} {base : Nat} {sp : Nat → Bool} {held : Bool} {fuel n : Nat} {t e : TypeId} {cs : List Value} {x : DataW H × List MemPlace}
    (ht : P.underlying t = some (.array n e)) (he : P.underlying e = some (.int .u8)) (hc : P.cellsOf e = 1) (hn : P.cellsOf t = n) (h : DataW.trod enc P w base sp held fuel t cs = some x) :
    ∃ s : List Nat, cs = stCells s ∧ s.length = n ∧ ∀ b ∈ s, b < 256 := by
  obtain ⟨xs, m, _, _, hl, hx, hel⟩ := DataW.trod_array ht h
  rw [hn] at hl
  have key : ∀ (l : List Value), (∀ i (h : i < l.length), ∃ n : Nat, l[i] = .int .u8 (n : Int) ∧ n < 256) → ∃ s : List Nat, l = stCells s ∧ ∀ b ∈ s, b < 256 := by
    intro l
    induction l with
    | nil => intro _; exact ⟨[], rfl, by simp⟩
    | cons c r ih =>
      intro hh
      obtain ⟨p, e, hp⟩ := ih (fun i hi => hh (i + 1) (by simpa using hi))
      obtain ⟨n, e0, h0⟩ := hh 0 (by simp)
      refine ⟨n :: p, ?_, fun z hz => ?_⟩
      · rw [e]
        have e0' : c = .int .u8 n := e0
        rw [e0']
        rfl
      · rcases List.mem_cons.1 hz with rfl | hz
        · exact h0
        · exact hp z hz
  obtain ⟨p, hp, hw⟩ := key cs (fun i hi => by
    have h1 := hel i (by omega)
    rw [hc, Nat.mul_one, List.drop_eq_getElem_cons hi] at h1
    have hxi : xs[i]? = some (xs[i]'(by omega)) := List.getElem?_eq_getElem (by omega)
    rw [hxi] at h1
    exact byte_of_trod he h1)
  refine ⟨p, hp, ?_, hw⟩
  rw [hp, stCells_length] at hl
  exact hl
set_option maxRecDepth 100000 in
/-- an array of 30 bytes that is read as data -/
theorem open_set {H : Type} {enc : TypeId × Value → H} {W : World} {v : Value} {d : DataW H} {ps : List MemPlace} {r : Reach} {b0 : Nat} (hval : Value.okWide Tryd.prog W r b0 23 v)
    (h : DataW.Trod enc Tryd.prog W 0 (fun _ => true) true 23 v d ps) : ∃ s : List Nat, v = stV s ∧ Bits.Ok s := by
  obtain ⟨cs, rfl, _⟩ := arr_of_okWide Tryd.underlying23 hval
  obtain ⟨fuel, hf⟩ := h
  obtain ⟨p, hp, hl, hw⟩ := set_of_trod (n := 30) Tryd.underlying23 Tryd.underlying5 Tryd.cellsU8 Tryd.cells30 hf
  refine ⟨p, ?_, hl, hw⟩
  have e : cs.toList = stCells p := hp
  show Value.agg cs = Value.agg (stCells p).toArray
  rw [← e]
end Go.Proofs.YtaolkmlgdhnhaaaDoor

/-
  What an argument that is an array of 128 bytes gives a walk: its bytes. Conditions: none beyond the premises of each theorem.
-/
namespace Go.Proofs.YtaolkmlgdhnhaaaDoor
open Go.ChangeShapes Go.WideShapes Go.ChangeAt Go.RowKit

theorem Tryd.cellsArr : Tryd.prog.cellsOf 45 = 128 := by kernel_rfl
theorem bytes_wf {p : Pg} (h : ∀ z ∈ p, (Lit.int .u8 z).wf = true) : ∃ l : List UInt8, p = pgB l ∧ l.length = p.length := pgB_of fun z hz => by
  obtain ⟨m, rfl, hm⟩ := open_u8_nat (h z hz)
  omega
set_option maxRecDepth 100000 in
/-- an array of bytes that is read as data -/
theorem open_arr {H : Type} {enc : TypeId × Value → H} {W : World} {v : Value} {d : DataW H} {ps : List MemPlace} {r : Reach} {b0 : Nat} (hval : Value.okWide Tryd.prog W r b0 45 v)
    (h : DataW.Trod enc Tryd.prog W 0 (fun _ => true) true 45 v d ps) : ∃ l : List UInt8, v = pgV (pgB l) ∧ l.length = 128 := by
  obtain ⟨cs, rfl, _⟩ := okWide_array Tryd.underlying45 hval
  obtain ⟨fuel, hf⟩ := h
  obtain ⟨p, hp, hl, hw⟩ := bytes_of_trod (n := 128) Tryd.underlying45 Tryd.underlying5 Tryd.cellsByte Tryd.cellsArr hf
  obtain ⟨l, rfl, hll⟩ := bytes_wf hw
  refine ⟨l, ?_, by rw [hll, hl]⟩
  have e : cs.toList = pgCells (pgB l) := hp
  show Value.agg cs = Value.agg (pgCells (pgB l)).toArray
  rw [← e]
end Go.Proofs.YtaolkmlgdhnhaaaDoor

/-
  What an argument that is a superblock of the document's type gives a walk. Conditions: none beyond the premises of each theorem.
-/
namespace Go.Proofs.YtaolkmlgdhnhaaaDoor
open Go.ChangeShapes Go.WideShapes Go.ChangeAt Go.RowKit

theorem agg_of_okWide {P : Program} {w : World} {r : Reach} {base : Nat} {t : TypeId} {fs : Array Field} {v : Value} (ht : P.underlying t = some (.struct fs)) (h : Value.okWide P w r base t v) : ∃ cs, v = .agg cs ∧ cs.size = P.cellsOf t := by
  simp only [Value.okWide, ht] at h
  obtain ⟨cs, h1, h2, _⟩ := h
  exact ⟨cs, h1, h2⟩
theorem num_of_trod {H : Type} {enc : TypeId × Value → H} {P : Program} {w : World} {base : Nat} {sp : Nat → Bool} {held : Bool} {fuel : Nat} {t : TypeId} {k : IntKind} {c : Value} {y : DataW H × List MemPlace}
    (ht : P.underlying t = some (.int k)) (h : DataW.trod enc P w base sp held fuel t [c] = some y) : ∃ n, c = .int k n ∧ (Lit.int k n).wf = true := by
  cases fuel with
  | zero => simp [DataW.trod] at h
  | succ fuel =>
    cases c <;> simp [DataW.trod, ht] at h
    rename_i k' n
    obtain ⟨⟨rfl, hw⟩, rfl⟩ := h
    exact ⟨n, rfl, hw⟩
theorem Tryd.cellsSb : Tryd.prog.cellsOf 25 = 32 := by kernel_rfl
theorem Tryd.cellsU32 : Tryd.prog.cellsOf 22 = 1 := by kernel_rfl
theorem Tryd.cellsInt : Tryd.prog.cellsOf 3 = 1 := by kernel_rfl
theorem Tryd.sbField0 : (Tryd.prog.fieldsOf 25)[0]? = some ⟨"Gen", 22, 0, false, "", "", 0⟩ := by kernel_rfl
theorem Tryd.sbField1 : (Tryd.prog.fieldsOf 25)[1]? = some ⟨"Root", 3, 1, false, "", "", 8⟩ := by kernel_rfl
theorem Tryd.sbField2 : (Tryd.prog.fieldsOf 25)[2]? = some ⟨"Used", 23, 2, false, "", "", 16⟩ := by kernel_rfl
theorem Tryd.sbField3 : (Tryd.prog.fieldsOf 25).size = 3 := by kernel_rfl
set_option maxRecDepth 100000 in
/-- a superblock that is read as data -/
theorem open_sb {H : Type} {enc : TypeId × Value → H} {W : World} {v : Value} {d : DataW H} {ps : List MemPlace} {r : Reach} {b0 : Nat} (hval : Value.okWide Tryd.prog W r b0 25 v)
    (h : DataW.Trod enc Tryd.prog W 0 (fun _ => true) true 25 v d ps) : ∃ x : Sb, v = sbV x ∧ x.Ok ∧ -9223372036854775808 ≤ x.root ∧ x.root ≤ 9223372036854775807 := by
  obtain ⟨cs, rfl, hcs⟩ := agg_of_okWide Tryd.sbStruct hval
  rw [Tryd.cellsSb] at hcs
  obtain ⟨fuel, hf⟩ := h
  have hf' : DataW.trod enc Tryd.prog W 0 (fun _ => true) true fuel 25 cs.toList = some (d, ps) := hf
  obtain ⟨xs, n, _, _, hl, hx, hel⟩ := DataW.trod_struct Tryd.sbStruct hf'
  rw [Tryd.sbField3] at hx
  have h0 := hel 0 _ Tryd.sbField0
  have h1 := hel 1 _ Tryd.sbField1
  have h2 := hel 2 _ Tryd.sbField2
  simp only [Tryd.cellsU32, Tryd.cellsInt, Tryd.cells30] at h0 h1 h2
  rw [List.getElem?_eq_getElem (by omega)] at h0 h1 h2
  have hlen : cs.toList.length = 32 := by simpa using hcs
  match hc : cs.toList, hlen with
  | a :: b :: q, hq =>
    rw [hc] at h0 h1 h2
    have hq' : q.length = 30 := by simpa using hq
    simp only [List.drop_zero, List.drop_succ_cons, List.take_succ_cons, List.take_zero] at h0 h1 h2
    rw [List.take_of_length_le (by omega)] at h2
    obtain ⟨g, rfl, hg⟩ := num_of_trod Tryd.underlying22 h0
    obtain ⟨r, rfl, hr⟩ := num_of_trod Tryd.underlying3 h1
    obtain ⟨s, hs, hsl, hsw⟩ := set_of_trod (n := 30) Tryd.underlying23 Tryd.underlying5 Tryd.cellsU8 Tryd.cells30 h2
    obtain ⟨m, rfl, hm⟩ := open_u32_nat hg
    have hb := open_i64_bounds hr
    refine ⟨⟨m, r, s⟩, ?_, ⟨hm, ⟨hsl, hsw⟩⟩, hb.1, hb.2⟩
    have e : cs.toList = sbCells ⟨m, r, s⟩ := by rw [hc, hs]; rfl
    show Value.agg cs = Value.agg (sbCells ⟨m, r, s⟩).toArray
    rw [← e]
end Go.Proofs.YtaolkmlgdhnhaaaDoor
