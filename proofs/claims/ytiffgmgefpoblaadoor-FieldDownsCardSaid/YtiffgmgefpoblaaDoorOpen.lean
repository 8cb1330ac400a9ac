/-
  What the arguments of a law give a walk: numbers within their kinds, slices that read as lists of numbers. Conditions: none beyond the premises of each theorem.
-/
import Derived.Test.YtiffgmgefpoblaaDoorNums
import Derived.ProofKit
import Derived.OpenShut
namespace Go.Proofs.YtiffgmgefpoblaaDoor
open Go.ChangeShapes Go.WideShapes Go.ChangeAt Go.RowKit

theorem open_u8_nat {n : Int} (h : (Lit.int .u8 n).wf = true) : ∃ m : Nat, n = (m : Int) ∧ m < 256 := by
  have e1 : IntKind.u8.min = 0 := rfl
  have e2 : IntKind.u8.max = 255 := rfl
  simp [Lit.wf, e1, e2] at h
  exact ⟨n.toNat, by omega, by omega⟩
theorem open_u32_nat {n : Int} (h : (Lit.int .u32 n).wf = true) : ∃ m : Nat, n = (m : Int) ∧ m < 4294967296 := by
  have e1 : IntKind.u32.min = 0 := rfl
  have e2 : IntKind.u32.max = 4294967295 := rfl
  simp [Lit.wf, e1, e2] at h
  exact ⟨n.toNat, by omega, by omega⟩
theorem open_i64_bounds {n : Int} (h : (Lit.int .i64 n).wf = true) : -9223372036854775808 ≤ n ∧ n ≤ 9223372036854775807 := by
  have e1 : IntKind.i64.min = -9223372036854775808 := rfl
  have e2 : IntKind.i64.max = 9223372036854775807 := rfl
  simp [Lit.wf, e1, e2] at h
  omega

/-- a slice of numbers that is read as data -/
theorem open_nums {H : Type} {enc : TypeId × Value → H} {P : Program} {W : World} {t e : TypeId} {k : IntKind} {v : Value} {d : DataW H} {ps : List MemPlace} {r : Reach} {b0 : Nat}
    (ht : P.underlying t = some (.slice e)) (he : P.underlying e = some (.int k)) (hc : P.cellsOf e = 1) (hval : Value.okWide P W r b0 t v) (h : DataW.Trod enc P W 0 (fun _ => true) true t v d ps) :
    ∃ (A : Option Addr) (cap : Nat) (zs : List Int), v = .slice A zs.length cap ∧ Nums W k A zs ∧ zs.length ≤ cap ∧ cap ≤ maxLen ∧ ∀ z ∈ zs, (Lit.int k z).wf = true := by
  obtain ⟨A, len, cap, rfl⟩ := okWide_slice ht hval
  obtain ⟨fuel, hf⟩ := h
  rcases open_ints ht he hc hf with ⟨hcs, hx⟩ | ⟨a, len', cap', zs, hcs, _, hl, hm, hz, hx, hcell, hwf⟩
  · simp [Value.cells] at hcs
    obtain ⟨rfl, rfl, rfl⟩ := hcs
    exact ⟨none, 0, [], rfl, Nums.none_ _ _ _, Nat.le_refl _, by unfold maxLen; omega, by simp⟩
  · simp [Value.cells] at hcs
    obtain ⟨rfl, rfl, rfl⟩ := hcs
    rw [if_pos rfl] at hz
    have hlen : (zs.take len).length = len := by rw [List.length_take]; omega
    refine ⟨some a, cap, zs.take len, by rw [hlen], fun hp => ⟨a, rfl, ?_, fun i z hi => ?_⟩, by omega, hm, fun z hz' => hwf z (List.mem_of_mem_take hz')⟩
    · have := below_block (hcell 0 (by omega))
      rwa [block_of_add] at this
    · rw [List.getElem?_take] at hi
      split at hi
      · rw [hcell i (by omega)]
        simp [List.getD, hi]
      · cases hi
/-- numbers of a kind that has none below 0 -/
theorem nats_of {k : IntKind} {b : Nat} (hk : ∀ z : Int, (Lit.int k z).wf = true → ∃ m : Nat, z = (m : Int) ∧ m < b) : ∀ zs : List Int, (∀ z ∈ zs, (Lit.int k z).wf = true) → ∃ l : List Nat, zs = ints l ∧ ∀ n ∈ l, n < b
  | [], _ => ⟨[], rfl, by simp⟩
  | z :: r, h => by
    obtain ⟨l, rfl, hl⟩ := nats_of hk r (fun z hz => h z (by simp [hz]))
    obtain ⟨m, rfl, hm⟩ := hk z (h z (by simp))
    exact ⟨m :: l, rfl, fun n hn => by
      rcases List.mem_cons.1 hn with rfl | hn
      · exact hm
      · exact hl n hn⟩
end Go.Proofs.YtiffgmgefpoblaaDoor
