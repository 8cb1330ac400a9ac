/-
  What an argument that is a node of the document's type gives a walk. Conditions: none beyond the premises of each theorem.
-/
import Derived.Test.YtakpjphgkpaipaaDoorNodeParts
import Derived.Test.YtakpjphgkpaipaaDoorOpen
namespace Go.Proofs.YtakpjphgkpaipaaDoor
open Go.ChangeShapes Go.WideShapes Go.ChangeAt Go.RowKit

theorem agg_of_okWide9 {P : Program} {w : World} {r : Reach} {base : Nat} {t : TypeId} {fs : Array Field} {v : Value} (ht : P.underlying t = some (.struct fs)) (h : Value.okWide P w r base t v) : ∃ cs, v = .agg cs ∧ cs.size = P.cellsOf t := by
  simp only [Value.okWide, ht] at h
  obtain ⟨cs, h1, h2, _⟩ := h
  exact ⟨cs, h1, h2⟩
theorem Tryd.nd9Struct : Tryd.prog.underlying 25 = some (.struct (Tryd.prog.fieldsOf 25)) := by kernel_rfl
theorem Tryd.cellsNd9 : Tryd.prog.cellsOf 25 = 3 := by kernel_rfl
theorem Tryd.cellsInts9 : Tryd.prog.cellsOf 22 = 1 := by kernel_rfl
theorem Tryd.cellsStrs9 : Tryd.prog.cellsOf 23 = 1 := by kernel_rfl
theorem Tryd.cellsInt9 : Tryd.prog.cellsOf 3 = 1 := by kernel_rfl
theorem Tryd.nd9Field0 : (Tryd.prog.fieldsOf 25)[0]? = some ⟨"Keys", 22, 0, false, "", "", 0⟩ := by kernel_rfl
theorem Tryd.nd9Field1 : (Tryd.prog.fieldsOf 25)[1]? = some ⟨"Vals", 23, 1, false, "", "", 24⟩ := by kernel_rfl
theorem Tryd.nd9Field2 : (Tryd.prog.fieldsOf 25)[2]? = some ⟨"Kids", 22, 2, false, "", "", 48⟩ := by kernel_rfl
theorem Tryd.nd9Fields : (Tryd.prog.fieldsOf 25).size = 3 := by kernel_rfl
theorem ints_of_trod {H : Type} {enc : TypeId × Value → H} {W : World} {fuel : Nat} {c : Value} {y : DataW H × List MemPlace} (h : DataW.trod enc Tryd.prog W 0 (fun _ => true) true fuel 22 [c] = some y) :
    ∃ (A : Option Addr) (cap : Nat) (zs : List Int), c = .slice A zs.length cap ∧ Nums W .i64 A zs ∧ zs.length ≤ cap ∧ cap ≤ maxLen ∧ ∀ z ∈ zs, (Lit.int .i64 z).wf = true := by
  rcases open_ints Tryd.underlying22 Tryd.underlying3 Tryd.cellsInt9 h with ⟨hcs, hx⟩ | ⟨a, len', cap', zs, hcs, _, hl, hm, hz, hx, hcell, hwf⟩
  · simp at hcs
    subst hcs
    exact ⟨none, 0, [], rfl, Nums.none_ _ _ _, Nat.le_refl _, by unfold maxLen; omega, by simp⟩
  · simp at hcs
    subst hcs
    rw [if_pos rfl] at hz
    have hlen : (zs.take len').length = len' := by rw [List.length_take]; omega
    refine ⟨some a, cap', zs.take len', by rw [hlen], fun hp => ⟨a, rfl, ?_, fun i z hi => ?_⟩, by omega, hm, fun z hz' => hwf z (List.mem_of_mem_take hz')⟩
    · have := below_block (hcell 0 (by omega))
      rwa [block_of_add] at this
    · rw [List.getElem?_take] at hi
      split at hi
      · rw [hcell i (by omega)]
        simp [List.getD, hi]
      · cases hi
theorem strs_of_trod {H : Type} {enc : TypeId × Value → H} {W : World} {fuel : Nat} {c : Value} {y : DataW H × List MemPlace} (h : DataW.trod enc Tryd.prog W 0 (fun _ => true) true fuel 23 [c] = some y) :
    ∃ (A : Option Addr) (cap : Nat) (ss : List ByteArray), c = .slice A ss.length cap ∧ Strs W A ss.length ss ∧ ss.length ≤ cap ∧ cap ≤ maxLen ∧ ∀ s ∈ ss, s.size ≤ maxLen := by
  rcases Go.Deep.open_strs Tryd.underlying23 Tryd.underlying9 Tryd.cellsStr h with ⟨hcs, hx⟩ | ⟨a, len', cap', m, Sx, hcs, _, hl, hm, hmm, hx, hcell⟩
  · simp at hcs
    subst hcs
    exact ⟨none, 0, [], rfl, Strs.none_ _ _, Nat.le_refl _, by unfold maxLen; omega, by simp⟩
  · simp at hcs
    subst hcs
    rw [if_pos rfl] at hmm
    have hlen : ((List.range len').map Sx).length = len' := by simp
    refine ⟨some a, cap', (List.range len').map Sx, by rw [hlen], ⟨rfl, fun hp => ⟨a, rfl, ?_, fun i s hs => ?_⟩⟩, by omega, hm, fun s hs => ?_⟩
    · have := (hcell 0 (by omega)).1
      have := lt_of_cell this
      rwa [block_of_add] at this
    · rw [List.getElem?_map] at hs
      obtain ⟨j, hj, rfl⟩ := Option.map_eq_some_iff.1 hs
      obtain ⟨hj1, hj2⟩ := List.getElem?_eq_some_iff.1 hj
      simp at hj1 hj2
      subst hj2
      exact (hcell i (by omega)).1
    · obtain ⟨j, hj, rfl⟩ := List.mem_map.1 hs
      have := List.mem_range.1 hj
      exact (hcell j (by omega)).2
set_option maxRecDepth 100000 in
/-- a node that is read as data -/
theorem open_nd {H : Type} {enc : TypeId × Value → H} {W : World} {v : Value} {d : DataW H} {ps : List MemPlace} {r : Reach} {b0 : Nat} (hval : Value.okWide Tryd.prog W r b0 25 v)
    (h : DataW.Trod enc Tryd.prog W 0 (fun _ => true) true 25 v d ps) : ∃ (l : Lay3) (x : Nd), v = ndV l x ∧ NdIs W l x ∧ Caps l x := by
  obtain ⟨cs, rfl, hcs⟩ := agg_of_okWide9 Tryd.nd9Struct hval
  rw [Tryd.cellsNd9] at hcs
  obtain ⟨fuel, hf⟩ := h
  have hf' : DataW.trod enc Tryd.prog W 0 (fun _ => true) true fuel 25 cs.toList = some (d, ps) := hf
  obtain ⟨xs, n, _, _, hl, hx, hel⟩ := DataW.trod_struct Tryd.nd9Struct hf'
  rw [Tryd.nd9Fields] at hx
  have h0 := hel 0 _ Tryd.nd9Field0
  have h1 := hel 1 _ Tryd.nd9Field1
  have h2 := hel 2 _ Tryd.nd9Field2
  simp only [Tryd.cellsInts9, Tryd.cellsStrs9] at h0 h1 h2
  rw [List.getElem?_eq_getElem (by omega)] at h0 h1 h2
  have hlen : cs.toList.length = 3 := by simpa using hcs
  match hc : cs.toList, hlen with
  | [a, b, c], _ =>
    rw [hc] at h0 h1 h2
    simp only [List.drop_zero, List.drop_succ_cons, List.take_succ_cons, List.take_zero] at h0 h1 h2
    obtain ⟨A, ca, ks, rfl, n1, c1, m1, w1⟩ := ints_of_trod h0
    obtain ⟨B, cb, vs, rfl, n2, c2, m2, w2⟩ := strs_of_trod h1
    obtain ⟨C, cc, es, rfl, n3, c3, m3, w3⟩ := ints_of_trod h2
    refine ⟨⟨A, B, C, ca, cb, cc⟩, ⟨ks, vs, es⟩, ?_, ⟨n1, n2, n3, Nat.le_trans c1 m1, Nat.le_trans c2 m2, Nat.le_trans c3 m3, fun z hz => open_i64_bounds (w1 z hz), w2, fun z hz => open_i64_bounds (w3 z hz)⟩, ⟨c1, c2, c3, m1, m2, m3⟩⟩
    show Value.agg cs = Value.agg #[_, _, _]
    congr 1
    apply Array.ext'
    rw [hc]
end Go.Proofs.YtakpjphgkpaipaaDoor
