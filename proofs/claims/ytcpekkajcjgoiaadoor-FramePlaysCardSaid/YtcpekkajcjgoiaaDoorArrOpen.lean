/-
  What an argument that is an array of 128 bytes gives a walk: its bytes. Conditions: none beyond the premises of each theorem.
-/
import Derived.Test.YtcpekkajcjgoiaaDoorDiskOpen
import Derived.Test.YtcpekkajcjgoiaaDoorFrameMath
namespace Go.Proofs.YtcpekkajcjgoiaaDoor
open Go.ChangeShapes Go.WideShapes Go.ChangeAt Go.RowKit

theorem Tryd.cellsArr : Tryd.prog.cellsOf 23 = 128 := by kernel_rfl
theorem bytes_wf {p : Pg} (h : ∀ z ∈ p, (Lit.int .u8 z).wf = true) : ∃ l : List UInt8, p = pgB l ∧ l.length = p.length := pgB_of fun z hz => by
  obtain ⟨m, rfl, hm⟩ := open_u8_nat (h z hz)
  omega
set_option maxRecDepth 100000 in
/-- an array of bytes that is read as data -/
theorem open_arr {H : Type} {enc : TypeId × Value → H} {W : World} {v : Value} {d : DataW H} {ps : List MemPlace} {r : Reach} {b0 : Nat} (hval : Value.okWide Tryd.prog W r b0 23 v)
    (h : DataW.Trod enc Tryd.prog W 0 (fun _ => true) true 23 v d ps) : ∃ l : List UInt8, v = pgV (pgB l) ∧ l.length = 128 := by
  obtain ⟨cs, rfl, _⟩ := okWide_array Tryd.underlying23 hval
  obtain ⟨fuel, hf⟩ := h
  obtain ⟨p, hp, hl, hw⟩ := bytes_of_trod (n := 128) Tryd.underlying23 Tryd.underlying5 Tryd.cellsByte Tryd.cellsArr hf
  obtain ⟨l, rfl, hll⟩ := bytes_wf hw
  refine ⟨l, ?_, by rw [hll, hl]⟩
  have e : cs.toList = pgCells (pgB l) := hp
  show Value.agg cs = Value.agg (pgCells (pgB l)).toArray
  rw [← e]
end Go.Proofs.YtcpekkajcjgoiaaDoor
