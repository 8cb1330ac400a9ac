/-
  Literals whose parts are whole rows of cells: what 'build' and 'buildSlice' lay, whatever the number of cells. Conditions: none beyond the premises of each theorem.
-/
import Derived.Test.YtaolkmlgdhnhaaaDoorDiskRead
import Derived.Great.BuildSlice
namespace Go.Proofs.YtaolkmlgdhnhaaaDoor
open Go.RowKit

theorem set_split {α : Type} (L : List α) (i : Nat) (v : α) (h : i < L.length) : L.set i v = L.take i ++ v :: L.drop (i + 1) := by
  induction L generalizing i with
  | nil => simp at h
  | cons a r ih =>
    cases i with
    | zero => simp
    | succ i => simp only [List.set_cons_succ, List.take_succ_cons, List.drop_succ_cons, List.cons_append]; rw [ih i (by simpa using h)]
theorem foldl_place (off : Nat) : ∀ (l : List Value) (k : Nat) (cs : Array Value), off + k + l.length ≤ cs.size →
    ((l.zipIdx k).foldl (fun (cs : Array Value) (x : Value × Nat) => cs.setIfInBounds (off + x.2) x.1) cs).toList = cs.toList.take (off + k) ++ (l ++ cs.toList.drop (off + k + l.length))
  | [], k, cs, _ => by simp
  | v :: r, k, cs, h => by
    have hl : cs.toList.length = cs.size := by simp
    simp only [List.length_cons] at h
    rw [List.zipIdx_cons, List.foldl_cons, foldl_place off r (k + 1) _ (by simp; omega), Array.toList_setIfInBounds]
    show (cs.toList.set (off + k) v).take (off + (k + 1)) ++ (r ++ (cs.toList.set (off + k) v).drop (off + (k + 1) + r.length)) = _
    rw [set_split _ _ _ (by rw [hl]; omega)]
    have hT : (cs.toList.take (off + k)).length = off + k := by rw [List.length_take]; omega
    rw [show off + (k + 1) = (cs.toList.take (off + k)).length + 1 by rw [hT]; omega, List.take_length_add_append,
      show (cs.toList.take (off + k)).length + 1 + r.length = (cs.toList.take (off + k)).length + (r.length + 1) by omega, List.drop_length_add_append]
    simp only [List.take_succ_cons, List.take_zero, List.drop_succ_cons, List.append_assoc, List.cons_append, List.nil_append, List.drop_drop, List.length_cons]
    congr 4
    omega
/-- one part of a literal -/
theorem fill_step (place : Nat → Option (Nat × Nat)) (cells : Array Value) (i : Nat) (v : Value) (rest : List (Nat × Value)) (off size : Nat) (hp : place i = some (off, size)) (hs : v.cells.size = size) (hl : off + size ≤ cells.size) :
    Instr.fill place cells ((i, v) :: rest) = Instr.fill place (cells.toList.take off ++ (v.cells.toList ++ cells.toList.drop (off + size))).toArray rest := by
  rw [Instr.fill, hp]
  simp only
  rw [if_neg (by simp; omega)]
  congr 1
  have h := foldl_place off v.cells.toList 0 cells (by simp; omega)
  rw [Nat.add_zero, show off + v.cells.toList.length = off + size by simp; omega] at h
  rw [← Array.toList_inj]
  rw [show (v.cells.zipIdx.foldl (fun cs (x : Value × Nat) => cs.setIfInBounds (off + x.2) x.1) cells).toList = ((v.cells.toList.zipIdx 0).foldl (fun cs (x : Value × Nat) => cs.setIfInBounds (off + x.2) x.1) cells).toList by rw [← Array.foldl_toList, Array.toList_zipIdx]]
  exact h
/-- one part that is all of it -/
theorem fill_whole (size : Nat) (cells c : Array Value) (hc : c.size = size) (hl : cells.size = size) : Instr.fill (fun i => some (i * size, size)) cells [(0, .agg c)] = some c := by
  rw [fill_step _ _ 0 (.agg c) [] (0 * size) size rfl hc (by omega)]
  rw [Instr.fill, Nat.zero_mul]
  simp only [List.take_zero, List.nil_append, Nat.zero_add]
  rw [List.drop_of_length_le (by simp; omega)]
  simp [Value.cells]

/-- a slice literal of one element, whatever its cells -/
theorem run_buildSlice_one {P : Program} (w : World) (t e : TypeId) (c : Array Value) (hu : P.underlying t = some (.slice e)) (hz : ((P.info? e).bind (·.zero)).isSome = true) (hi : (P.info? e).map (·.size) = some c.size) (h0 : 0 < c.size) (h24 : c.size ≤ 2 ^ 24) :
    (Instr.buildSlice t 1 #[(0, .agg c)]).run P w = .ok (.slice (some ⟨w.heap.size, 0, none⟩) 1 1) (w.alloc (.cells c e)) := by
  cases hie : P.info? e with
  | none => simp [hie] at hi
  | some ie =>
    simp only [hie, Option.map_some, Option.some.injEq, Option.bind_some] at hi hz
    obtain ⟨z, hzz⟩ := Option.isSome_iff_exists.1 hz
    refine run_buildSlice w t e 1 _ c ie z hu hie hzz (by rw [hi]; omega) (by rw [hi]; omega) ?_
    exact fill_whole ie.size _ c hi.symm (by simp)

theorem Tryd.writeInfo : (Tryd.prog.info? 80).map (·.size) = some 129 := by kernel_rfl
theorem Tryd.writeZero : ((Tryd.prog.info? 80).bind (·.zero)).isSome = true := by kernel_rfl
/-- a write, as a value -/
def wrArr (i : Nat) (p : Pg) : Array Value := (wrCells (i, p)).toArray
theorem wrArr_size {i : Nat} {p : Pg} (h : p.length = 128) : (wrArr i p).size = 129 := by simp [wrArr, wrCells, pgCells, h]
theorem wrArr_list (i : Nat) (p : Pg) : (wrArr i p).toList = wrCells (i, p) := rfl
theorem wrArr_one (i : Nat) (p : Pg) : ∀ v ∈ wrCells (i, p), v.oneCell' = true := by
  intro v hv
  rcases List.mem_cons.1 hv with rfl | hv
  · rfl
  · exact pgCells_one p v hv
/-- the places of a write's parts -/
theorem Tryd.built_parts (x y : Value) : Tryd.prog.built 80 [(0, x), (1, y)] = Instr.fill ((#[(0, 1), (1, 128)] : Array (Nat × Nat))[·]?) ((Array.replicate 1 (.int .i64 0)) ++ (pgArr zeroPg)) [(0, x), (1, y)] := by kernel_rfl
theorem built_write (i : Nat) {p : Pg} (h : p.length = 128) : Tryd.prog.built 80 [(0, .int .i64 (i : Int)), (1, pgV p)] = some (wrArr i p) := by
  rw [Tryd.built_parts]
  have hz : (pgArr zeroPg).size = 128 := by rw [pgArr_size, zeroPg_length]
  rw [fill_step _ _ 0 _ _ 0 1 rfl rfl (by simp), fill_step _ _ 1 _ _ 1 128 rfl (by show (pgArr p).size = 128; rw [pgArr_size, h]) (by simp [hz, Value.cells]), Instr.fill]
  congr 1
  simp only [Value.cells, List.take_zero, List.nil_append]
  have hl2 : (pgCells zeroPg).length ≤ 128 := by rw [pgCells_length, zeroPg_length]; exact Nat.le_refl _
  simp [wrArr, wrCells, pgArr, hl2]
theorem run_build_write (w : World) (i : Nat) {p : Pg} (h : p.length = 128) : (Instr.build 80 #[(0, .int .i64 (i : Int)), (1, pgV p)]).run Tryd.prog w = .ok (.agg (wrArr i p)) w :=
  run_build w _ _ _ (built_write i h)
end Go.Proofs.YtaolkmlgdhnhaaaDoor
