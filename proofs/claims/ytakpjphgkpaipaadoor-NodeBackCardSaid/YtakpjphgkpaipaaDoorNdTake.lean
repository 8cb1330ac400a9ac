/-
  The program's own Read of layer 9, part by part: what a part takes of the text, what is read so far, in memory and as numbers. Conditions: none beyond the premises of each theorem.
-/
import Derived.Test.YtakpjphgkpaipaaDoorNdRight
import Derived.Test.YtakpjphgkpaipaaDoorNodeRefRead
namespace Go.Proofs.YtakpjphgkpaipaaDoor
open Go.RowKit

/-- what a call of take does: n bytes, or none -/
def Took (n : Nat) (t : ByteArray) (sh : Bool) (part t' : ByteArray) (sh' : Bool) : Prop :=
  (n ≤ t.size ∧ part = t.extract 0 n ∧ t' = t.extract n t.size ∧ sh' = sh) ∨ (t.size < n ∧ part = ⟨#[]⟩ ∧ t' = t ∧ sh' = true)
theorem Took.small {n : Nat} {t part t' : ByteArray} {sh sh' : Bool} (h : Took n t sh part t' sh') : part.size ≤ n := by
  rcases h with ⟨h1, rfl, _⟩ | ⟨_, rfl, _⟩
  · rw [ByteArray.size_extract]; omega
  · exact Nat.zero_le _
theorem Took.was {n : Nat} {t part t' : ByteArray} {sh sh' : Bool} (h : Took n t sh part t' sh') (h' : sh' = false) : sh = false := by
  rcases h with ⟨_, _, _, e⟩ | ⟨_, _, _, e⟩
  · rw [← e]; exact h'
  · rw [e] at h'; cases h'
/-- what is left of the text L, pos bytes being read -/
structure Cont (L : List UInt8) (pos : Nat) (t : ByteArray) (sh : Bool) : Prop where
  yes : sh = false → pos ≤ L.length ∧ t.data.toList = L.drop pos
  no : sh = true → readN L = none
theorem Cont.took {L : List UInt8} {pos n : Nat} {t part t' : ByteArray} {sh sh' : Bool} (h : Cont L pos t sh) (hk : Took n t sh part t' sh') (hn : sh = false → L.length < pos + n → readN L = none) : Cont L (pos + n) t' sh' := by
  rcases hk with ⟨h1, rfl, rfl, rfl⟩ | ⟨h1, rfl, rfl, rfl⟩
  · refine ⟨fun e => ?_, h.no⟩
    obtain ⟨h2, h3⟩ := h.yes e
    have hl : t.size = L.length - pos := by
      have := congrArg List.length h3
      rw [Array.length_toList, List.length_drop] at this
      exact this
    refine ⟨by omega, ?_⟩
    rw [ext_list, h3, List.drop_drop, List.take_of_length_le (by rw [List.length_drop]; omega)]
  · refine ⟨fun e => (by cases e), fun _ => ?_⟩
    cases sh with
    | true => exact h.no rfl
    | false =>
      obtain ⟨h2, h3⟩ := h.yes rfl
      have hl : t'.size = L.length - pos := by
        have := congrArg List.length h3
        rw [Array.length_toList, List.length_drop] at this
        exact this
      exact hn rfl (by omega)
theorem Cont.part {L : List UInt8} {pos n : Nat} {t part t' : ByteArray} {sh sh' : Bool} (h : Cont L pos t sh) (hk : Took n t sh part t' sh') (e : sh' = false) : pos + n ≤ L.length ∧ part.data.toList = (L.drop pos).take n := by
  have e0 := hk.was e
  obtain ⟨h2, h3⟩ := h.yes e0
  rcases hk with ⟨h1, rfl, rfl, rfl⟩ | ⟨h1, rfl, rfl, rfl⟩
  · have hl : t.size = L.length - pos := by
      have := congrArg List.length h3
      rw [Array.length_toList, List.length_drop] at this
      exact this
    exact ⟨by omega, by rw [ext_list, h3, List.drop_zero, Nat.sub_zero]⟩
  · cases e
/-- the head of what can be read -/
theorem readN_two {L : List UInt8} (h : L.length < 2) : readN L = none := by
  apply readN_none_head
  match L, h with
  | [], _ => rfl
  | [a], _ => rfl
theorem readN_few {L r : List UInt8} {a c : UInt8} (e : L = a :: c :: r) (h : L.length < 2 + 4 * c.toNat) : readN L = none := by
  apply readN_none_head
  subst e
  unfold headN
  simp only
  rw [if_neg]
  rintro ⟨_, _, h3⟩
  rw [h3] at h
  unfold sizeN at h
  split at h <;> omega
theorem readN_leafL {L r : List UInt8} {c : UInt8} (e : L = 0 :: c :: r) (h : L.length ≠ 2 + 16 * c.toNat) : readN L = none := by
  apply readN_none_head
  subst e
  unfold headN
  simp only
  rw [if_neg]
  rintro ⟨_, _, h3⟩
  exact h (by rw [h3]; rfl)
theorem readN_innerL {L r : List UInt8} {c : UInt8} (e : L = 1 :: c :: r) (h : L.length ≠ 3 + 5 * c.toNat) : readN L = none := by
  apply readN_none_head
  subst e
  unfold headN
  simp only
  rw [if_neg]
  rintro ⟨_, _, h3⟩
  exact h (by rw [h3]; rfl)
theorem readN_kind {L r : List UInt8} {a c : UInt8} (e : L = a :: c :: r) (h0 : a.toNat ≠ 0) (h1 : a.toNat ≠ 1) : readN L = none := by
  apply readN_none_head
  subst e
  unfold headN
  simp only
  rw [if_neg]
  rintro ⟨h, _, _⟩
  have h : a.toNat ≤ 1 := UInt8.le_iff_toNat_le.1 h
  omega
theorem nodeR_keys (leaf : Bool) (k : Nat) (r : List UInt8) : (nodeR leaf k r).keys.length = k := keysR_length k r
theorem readN_fits {L r : List UInt8} {a c : UInt8} (e : L = a :: c :: r) (ha : a ≤ 1) (h : L.length = sizeN (decide (a = 0)) c.toNat) : readN L = if rightN (nodeR (decide (a = 0)) c.toNat r) = true then some (nodeR (decide (a = 0)) c.toNat r) else none := by
  by_cases h7 : c.toNat ≤ 7
  · refine readN_of_head ?_
    subst e
    unfold headN
    simp only
    rw [if_pos ⟨ha, UInt8.le_iff_toNat_le.2 h7, h⟩]
  · rw [if_neg]
    · apply readN_none_head
      subst e
      unfold headN
      simp only
      rw [if_neg]
      rintro ⟨_, h2, _⟩
      exact h7 (UInt8.le_iff_toNat_le.1 h2)
    · rw [right_longB (by rw [nodeR_keys]; exact h7)]
      decide

/-- bounds of what was read -/
structure Wide (x : Nd) : Prop where
  kl : x.keys.length ≤ 256
  vl : x.vals.length ≤ 256
  cl : x.kids.length ≤ 256
  kw : ∀ z ∈ x.keys, 0 ≤ z ∧ z ≤ 4294967295
  vw : ∀ v ∈ x.vals, v.size ≤ 12
  cw : ∀ z ∈ x.kids, 0 ≤ z ∧ z ≤ 255
theorem Wide.empty : Wide Nd.empty := ⟨Nat.zero_le _, Nat.zero_le _, Nat.zero_le _, fun z h => (by cases h), fun z h => (by cases h), fun z h => (by cases h)⟩
theorem num_small {s : ByteArray} {n : Nat} (h : s.size ≤ n) : num s.data.toList < 256 ^ n := Nat.lt_of_lt_of_le (num_lt _) (Nat.pow_le_pow_right (by decide) (by rw [Array.length_toList]; exact h))
theorem Wide.push0 {x : Nd} (h : Wide x) {z : Int} (hz : 0 ≤ z ∧ z ≤ 4294967295) (hl : x.keys.length < 256) : Wide ⟨x.keys ++ [z], x.vals, x.kids⟩ := by
  refine ⟨?_, h.vl, h.cl, fun y hy => ?_, h.vw, h.cw⟩
  · show (x.keys ++ [z]).length ≤ 256
    rw [List.length_append, List.length_singleton]; omega
  · rcases List.mem_append.1 hy with hy | hy
    · exact h.kw y hy
    · rw [List.mem_singleton.1 hy]; exact hz
theorem Wide.push1 {x : Nd} (h : Wide x) {v : ByteArray} (hv : v.size ≤ 12) (hl : x.vals.length < 256) : Wide ⟨x.keys, x.vals ++ [v], x.kids⟩ := by
  refine ⟨h.kl, ?_, h.cl, h.kw, fun y hy => ?_, h.cw⟩
  · show (x.vals ++ [v]).length ≤ 256
    rw [List.length_append, List.length_singleton]; omega
  · rcases List.mem_append.1 hy with hy | hy
    · exact h.vw y hy
    · rw [List.mem_singleton.1 hy]; exact hv
theorem Wide.push2 {x : Nd} (h : Wide x) {z : Int} (hz : 0 ≤ z ∧ z ≤ 255) (hl : x.kids.length < 256) : Wide ⟨x.keys, x.vals, x.kids ++ [z]⟩ := by
  refine ⟨h.kl, h.vl, ?_, h.kw, h.vw, fun y hy => ?_⟩
  · show (x.kids ++ [z]).length ≤ 256
    rw [List.length_append, List.length_singleton]; omega
  · rcases List.mem_append.1 hy with hy | hy
    · exact h.cw y hy
    · rw [List.mem_singleton.1 hy]; exact hz
theorem Wide.is {w : World} {x : Nd} (h : Wide x) {A B C : Option Addr} {ca cb cc : Nat} (h1 : Nums w .i64 A x.keys) (h2 : Strs w B x.vals.length x.vals) (h3 : Nums w .i64 C x.kids) : NdIs w ⟨A, B, C, ca, cb, cc⟩ x := by
  have hk := h.kl
  have hv := h.vl
  have hc := h.cl
  refine ⟨h1, h2, h3, by unfold maxLen; omega, by unfold maxLen; omega, by unfold maxLen; omega, fun z hz => ?_, fun v hv => ?_, fun z hz => ?_⟩
  · have := h.kw z hz; omega
  · have := h.vw v hv; unfold maxLen; omega
  · have := h.cw z hz; omega

/-- only the cells at blocks d and h have changed -/
structure OffDH (d h : Nat) (w w' : World) : Prop where
  os : w'.os = w.os
  tape : w'.tape = w.tape
  output : w'.output = w.output
  size : w'.heap.size = w.heap.size
  block : ∀ i, i ≠ d → i ≠ h → w'.heap[i]? = w.heap[i]?
theorem OffDH.set {d h j : Nat} (hj : j = d ∨ j = h) (w : World) (u : Value) : OffDH d h w (w.setCell ⟨j, 0, none⟩ u) :=
  ⟨rfl, rfl, rfl, World.heap_setCell_size9 _ _ _, fun i h1 h2 => World.heap_setCell_far9 _ _ _ (by show i ≠ j; omega)⟩
theorem OffDH.below {d h B : Nat} {a w w' : World} (ho : OffDH d h w w') (hb : Below B a w) (hd : B ≤ d) (hh : B ≤ h) : Below B a w' :=
  hb.trans ⟨ho.os, ho.tape, ho.output, by rw [ho.size]; exact Nat.le_refl _, fun i hi => ho.block i (by omega) (by omega)⟩
theorem take_any {w : World} {d h n : Nat} {t : ByteArray} {sh : Bool} (ht : TakeAt w d h t sh) (hdh : d ≠ h) :
    Calls Tryd.prog 27 #[.int .i64 (n : Int), .pointer (some ⟨d, 0, none⟩), .pointer (some ⟨h, 0, none⟩)] w fun e w' =>
      ∃ part t' sh', e = .returned (.string part) ∧ Took n t sh part t' sh' ∧ TakeAt w' d h t' sh' ∧ OffDH d h w w' := by
  by_cases hn : n ≤ t.size
  · refine (take_yes ht hn).mono ?_
    rintro e w' ⟨rfl, rfl⟩
    refine ⟨_, _, _, rfl, .inl ⟨hn, rfl, rfl, rfl⟩, ⟨World.cell?_setCell_same _ _ _ ht.dc, ?_, ?_, ?_⟩, OffDH.set (.inl rfl) _ _⟩
    · rw [World.cell?_setCell_other _ _ _ _ (by intro e; injection e; omega)]; exact ht.hc
    · rw [World.frozen?_setCell]; exact ht.df
    · rw [World.frozen?_setCell]; exact ht.hf
  · refine (take_short ht (by omega)).mono ?_
    rintro e w' ⟨rfl, rfl⟩
    refine ⟨_, _, _, rfl, .inr ⟨by omega, rfl, rfl, rfl⟩, ⟨?_, World.cell?_setCell_same _ _ _ ht.hc, ?_, ?_⟩, OffDH.set (.inr rfl) _ _⟩
    · rw [World.cell?_setCell_other _ _ _ _ (by intro e; injection e; omega)]; exact ht.dc
    · rw [World.frozen?_setCell]; exact ht.df
    · rw [World.frozen?_setCell]; exact ht.hf
theorem TakeAt.far {w w' : World} {d h : Nat} {t : ByteArray} {sh : Bool} (ht : TakeAt w d h t sh) (hd : w'.heap[d]? = w.heap[d]?) (hh : w'.heap[h]? = w.heap[h]?) : TakeAt w' d h t sh :=
  ⟨(World.cell?_of_block (w := w) (a := ⟨d, 0, none⟩) hd).trans ht.dc, (World.cell?_of_block (w := w) (a := ⟨h, 0, none⟩) hh).trans ht.hc, (World.frozen?_of_block (w := w) (a := ⟨d, 0, none⟩) hd).trans ht.df, (World.frozen?_of_block (w := w) (a := ⟨h, 0, none⟩) hh).trans ht.hf⟩
theorem TakeAt.carry {w w' : World} {d h : Nat} {t : ByteArray} {sh : Bool} (ht : TakeAt w d h t sh) (hb : Below w.heap.size w w') : TakeAt w' d h t sh := ht.far (hb.block d (below_block ht.dc)) (hb.block h (below_block ht.hc))
theorem Grow.off {w wr w' : World} {p q b d h : Nat} {kv vv cv : Value} {x : Nd} (g : Grow w p q b kv vv cv x wr) (ho : OffDH d h wr w') (hdp : d ≠ p) (hhp : h ≠ p) (hdq : d < q) (hhq : h < q) (hd : w.heap.size ≤ d) (hh : w.heap.size ≤ h) : Grow w p q b kv vv cv x w' := by
  have bp := ho.block p (Ne.symm hdp) (Ne.symm hhp)
  have bq := ho.block q (by omega) (by omega)
  have hqb := g.qb
  have far : ∀ i, b ≤ i → w'.heap[i]? = wr.heap[i]? := fun i hi => ho.block i (by omega) (by omega)
  exact ⟨⟨(World.cell?_of_block (w := wr) (a := ⟨p, 0, none⟩) bp).trans g.res.c0, (World.cell?_of_block (w := wr) (a := ⟨p, 1, none⟩) bp).trans g.res.c1, (World.cell?_of_block (w := wr) (a := ⟨p, 2, none⟩) bp).trans g.res.c2⟩,
    (World.cell?_of_block (w := wr) (a := ⟨q, 0, none⟩) bq).trans g.c0, (World.cell?_of_block (w := wr) (a := ⟨q, 1, none⟩) bq).trans g.c1, (World.cell?_of_block (w := wr) (a := ⟨q, 2, none⟩) bq).trans g.c2,
    fun j => (World.frozen?_of_block (w := wr) (a := ⟨q, j, none⟩) bq).trans (g.fz j), fun j => (World.frozen?_of_block (w := wr) (a := ⟨p, j, none⟩) bp).trans (g.fp j),
    ownsRow_block g.k fun i hi => far i (g.k.lt i hi).1, ownsRow_block g.v fun i hi => far i (g.v.lt i hi).1, ownsRow_block g.c fun i hi => far i (g.c.lt i hi).1, g.akv, g.akc, g.avc, g.lo, g.pq, g.qb, by rw [ho.size]; exact g.sz, ho.below g.below hd hh⟩

/-- all that Read holds in memory between two parts: the text's block, the result's, the mark's, the node's, and the lists' -/
structure RS (w : World) (D P H q b : Nat) (kv vv cv : Value) (x : Nd) (t : ByteArray) (sh : Bool) (wr : World) : Prop where
  g : Grow w P q b kv vv cv x wr
  t : TakeAt wr D H t sh
  lo : w.heap.size ≤ D
  dp : D < P
  ph : P < H
  hq : H < q
theorem RS.carry {w wr w' : World} {D P H q b : Nat} {kv vv cv : Value} {x : Nd} {t : ByteArray} {sh : Bool} (h : RS w D P H q b kv vv cv x t sh wr) (hb : Below wr.heap.size wr w') : RS w D P H q b kv vv cv x t sh w' :=
  ⟨h.g.carry hb, h.t.carry hb, h.lo, h.dp, h.ph, h.hq⟩
theorem RS.took {w wr w' : World} {D P H q b : Nat} {kv vv cv : Value} {x : Nd} {t t' : ByteArray} {sh sh' : Bool} (h : RS w D P H q b kv vv cv x t sh wr) (ht : TakeAt w' D H t' sh') (ho : OffDH D H wr w') : RS w D P H q b kv vv cv x t' sh' w' := by
  have h1 := h.lo
  have h2 := h.dp
  have h3 := h.ph
  have h4 := h.hq
  exact ⟨h.g.off ho (by omega) (by omega) (by omega) (by omega) h1 (by omega), ht, h1, h2, h3, h4⟩
/-- behind an append to one of the lists, and the store of it -/
theorem RS.far {w wr wo w3 : World} {D P H q b : Nat} {kv vv cv : Value} {x : Nd} {t : ByteArray} {sh : Bool} (h : RS w D P H q b kv vv cv x t sh wr) (hbo : Below wr.heap.size wr wo) {row : Option Nat} (hg : wo.grownBy w3 row) (hrow : ∀ g, row = some g → b ≤ g) (j : Nat) (u : Value) : TakeAt (w3.setCell ⟨q, j, none⟩ u) D H t sh := by
  have h1 := h.dp
  have h2 := h.ph
  have h3 := h.hq
  have hqb := h.g.qb
  have hsz := h.g.sz
  have blk : ∀ i, i < q → (w3.setCell ⟨q, j, none⟩ u).heap[i]? = wr.heap[i]? := fun i hi =>
    (World.heap_setCell_far9 _ _ _ (by show i ≠ q; omega)).trans ((hg.block i (by have := hbo.size; omega) (fun e => by have := hrow i e.symm; omega)).trans (hbo.block i (by omega)))
  exact h.t.far (blk D (by omega)) (blk H h3)
end Go.Proofs.YtakpjphgkpaipaaDoor
