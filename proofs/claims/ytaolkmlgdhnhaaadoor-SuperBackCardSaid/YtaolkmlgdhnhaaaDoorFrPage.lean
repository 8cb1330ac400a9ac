/-
  A sector in memory, by its bytes: a part of it as a text; a text copied into it. The contract of frame.sum. Conditions: none beyond the premises of each theorem.
-/
import Derived.Test.YtaolkmlgdhnhaaaDoorDiskWrite
import Derived.Test.YtaolkmlgdhnhaaaDoorFrErr
import Derived.Test.YtaolkmlgdhnhaaaDoorFrameMath
import Derived.Test.YtaolkmlgdhnhaaaDoorCrcSum
import Derived.Test.YtaolkmlgdhnhaaaDoorPackPut
import Derived.Lib.LazyBuf
namespace Go.Proofs.YtaolkmlgdhnhaaaDoor
open Go.RowKit

theorem range_drop {w : World} {b o : Nat} {l : List UInt8} (h : w.rangeAt b o (pgCells (pgB l))) (k : Nat) : w.rangeAt b (o + k) (pgCells (pgB (l.drop k))) := fun j v hv => by
  have : (pgCells (pgB l))[k + j]? = some v := by
    rw [← hv]
    simp [pgCells, pgB]
  rw [Nat.add_assoc]
  exact h (k + j) v this
theorem range_take {w : World} {b o : Nat} {l : List UInt8} (h : w.rangeAt b o (pgCells (pgB l))) (k : Nat) : w.rangeAt b o (pgCells (pgB (l.take k))) := fun j v hv => by
  refine h j v ?_
  have hj : j < (l.take k).length := by
    have := (List.getElem?_eq_some_iff.1 hv).1
    simpa [pgCells, pgB] using this
  rw [← hv]
  have hk : j < k := by simp at hj; omega
  simp [pgCells, pgB, hk]
/-- bytes as a text -/
theorem range_text {w : World} {b o n cap : Nat} {l : List UInt8} (h : w.rangeAt b o (pgCells (pgB l))) (hn : l.length = n) :
    (convert 65 9 (.slice (some ⟨b, o, none⟩) n cap)).run Tryd.prog w = .ok (.string ⟨l.toArray⟩) w := by
  have e := run_convert_bytes_arg (P := Tryd.prog) w 65 5 Tryd.underlying65 Tryd.underlying5 b o n cap (pgB l) (by rw [pgB_length, hn])
    (fun i hi => by
      have hi' : i < l.length := by omega
      have := h i (.int .u8 (l[i].toNat : Int)) (by simp [pgCells, pgB, hi'])
      rw [this]
      simp [pgB, List.getD, hi']) 9 Tryd.underlying9
  rw [e]
  have e2 : (strOfNums (pgB l)) = ⟨l.toArray⟩ := by
    unfold strOfNums pgB
    rw [List.map_map]
    have : (l.map ((fun n : Int => UInt8.ofNat n.toNat) ∘ fun c : UInt8 => (c.toNat : Int))) = l := by
      rw [List.map_congr_left (g := id) (fun c _ => by simp), List.map_id]
    rw [this]
  rw [e2]

/-- a text copied into a row: the world behind it is a letter -/
theorem wpList_copy_text {P : Program} {w : World} {ops : Array Oper} {rest : List Oper} {o : Oper} {a : Act} {Q : Exit → Act → World → Prop} (hgd : o.guard = none) (d x : Operand) (dT sT : TypeId)
    (hop : o.op = Op.call { callee := Callee.builtin Builtin.copy, args := #[d, x], argTypes := #[dT, sT] }) (elem : TypeId) (hu : P.underlying dT = some (.slice elem)) (hz : ∀ w, (Go.sizeOf elem).run P w = .ok 1 w)
    (b off dLen dCap : Nat) (hd : a.eval d = .slice (some ⟨b, off, none⟩) dLen dCap) (t : List UInt8) (s : ByteArray) (hst : s.data.toList = t) (hx : a.eval x = .string s) (hle : t.length ≤ dLen)
    (ht : w.there b off t.length)
    (h : ∀ w2, Hid (w2 = w.setCells b off (pgCells (pgB t))) → wpList P ops Q rest (a.put o.dst (goInt t.length)) w2) : wpList P ops Q (o :: rest) a w := by
  have hsz : s.size = t.length := by rw [← hst, Array.length_toList]; rfl
  refine wpList_plain hgd fun K hK => ?_
  have hrun := run_copy_string (P := P) w dT sT o.type elem b off dLen dCap s hu hz (by rw [hsz]; exact hle) (fun j hj => (ht j (by rw [← hsz]; exact hj)).1) (fun j hj => (ht j (by rw [← hsz]; exact hj)).2)
  have hcells : (s.data.toList.map fun x => Value.int .u8 (x.toNat : Int)) = pgCells (pgB t) := by rw [hst]; simp [pgCells, pgB]
  rw [hcells, hsz] at hrun
  unfold Oper.wp
  simp [execOp, hop, resolve, invoke, builtin, hd, hx, hrun, Result.andThen]
  exact hK _ _ (h _ rfl)
/-- .. at a step of a region that draws its order -/
theorem step_copy_text {P : Program} {w : World} {ops : Array Oper} {o : Oper} {a : Act} {K : Act → World → Prop} {Q : Exit → Act → World → Prop} {E : Prop} (hg : Region.wanted o (yielded ops a.tmps) = true) (d x : Operand) (dT sT : TypeId)
    (hop : o.op = Op.call { callee := Callee.builtin Builtin.copy, args := #[d, x], argTypes := #[dT, sT] }) (elem : TypeId) (hu : P.underlying dT = some (.slice elem)) (hz : ∀ w, (Go.sizeOf elem).run P w = .ok 1 w)
    (b off dLen dCap : Nat) (hd : a.eval d = .slice (some ⟨b, off, none⟩) dLen dCap) (t : List UInt8) (s : ByteArray) (hst : s.data.toList = t) (hx : a.eval x = .string s) (hle : t.length ≤ dLen)
    (ht : w.there b off t.length)
    (h : ∀ w2, Hid (w2 = w.setCells b off (pgCells (pgB t))) → K (a.put o.dst (goInt t.length)) w2) : if Region.wanted o (yielded ops a.tmps) = true then Oper.wp P o a w K Q else E := by
  have hsz : s.size = t.length := by rw [← hst, Array.length_toList]; rfl
  rw [if_pos hg]
  have hrun := run_copy_string (P := P) w dT sT o.type elem b off dLen dCap s hu hz (by rw [hsz]; exact hle) (fun j hj => (ht j (by rw [← hsz]; exact hj)).1) (fun j hj => (ht j (by rw [← hsz]; exact hj)).2)
  have hcells : (s.data.toList.map fun x => Value.int .u8 (x.toNat : Int)) = pgCells (pgB t) := by rw [hst]; simp [pgCells, pgB]
  rw [hcells, hsz] at hrun
  unfold Oper.wp
  simp [execOp, hop, resolve, invoke, builtin, hd, hx, hrun, Result.andThen]
  exact h _ rfl
theorem pgCells_len (l : List UInt8) : (pgCells (pgB l)).length = l.length := by rw [pgCells_length, pgB_length]
/-- what a row holds into which a text was copied -/
theorem range_splice {w : World} {b off : Nat} {x t : List UInt8} (h : w.rangeAt b 0 (pgCells (pgB x))) (ho : off + t.length ≤ x.length) : (w.setCells b off (pgCells (pgB t))).rangeAt b 0 (pgCells (pgB (x.take off ++ t ++ x.drop (off + t.length)))) := fun j v hv => by
  have hs : ∀ j, j < (pgCells (pgB t)).length → (w.cell? ⟨b, off + j, none⟩).isSome = true := fun j hj => by
    rw [pgCells_len] at hj
    have := h.isSome (off + j) (by rw [pgCells_len]; omega)
    simpa using this
  rw [Nat.zero_add]
  have hj : j < x.length := by
    have := (List.getElem?_eq_some_iff.1 hv).1
    rw [pgCells_len] at this
    simp at this
    omega
  have e : ∀ (l : List UInt8) (j : Nat), (pgCells (pgB l))[j]? = (l[j]?).map fun c => Value.int .u8 (c.toNat : Int) := fun l j => by simp [pgCells, pgB]; rfl
  rw [e] at hv
  by_cases h1 : j < off
  · rw [World.cell?_setCells_out b _ _ _ _ (fun _ _ => .inl h1)]
    have := h j v (by rw [e, ← hv, List.append_assoc, List.getElem?_append_left (by rw [List.length_take]; omega), List.getElem?_take, if_pos h1])
    rwa [Nat.zero_add] at this
  · have htk : (x.take off).length = off := by rw [List.length_take]; omega
    by_cases h2 : j < off + t.length
    · have hin := World.cell?_setCells_in b _ off w hs (j - off) (by rw [pgCells_len]; omega)
      rw [show off + (j - off) = j by omega] at hin
      rw [hin, ← List.getElem?_eq_getElem, e, ← hv, List.getElem?_append_left (by rw [List.length_append, htk]; omega), List.getElem?_append_right (by rw [htk]; omega), htk]
    · rw [World.cell?_setCells_out b _ _ _ _ (fun _ _ => .inr (by rw [pgCells_len]; show off + t.length ≤ j; omega))]
      have := h j v (by
        rw [e, ← hv, List.getElem?_append_right (by rw [List.length_append, htk]; omega), List.length_append, htk, List.getElem?_drop]
        congr 2
        omega)
      rwa [Nat.zero_add] at this

theorem sizeOne (w : World) : (Go.sizeOf 5).run Tryd.prog w = .ok 1 w := by kernel_rfl
theorem toArr_list (l : List UInt8) : (⟨l.toArray⟩ : ByteArray).data.toList = l := by simp
theorem toArr_size (l : List UInt8) : (⟨l.toArray⟩ : ByteArray).size = l.length := by
  show l.toArray.size = _
  simp
set_option maxRecDepth 100000 in
theorem FrSum_any (l : List UInt8) (hl : l.length = 128) (w : World) (hg : LaidCrc w) :
    Calls Tryd.prog 63 #[pgV (pgB l)] w fun e w' => e = .returned (.string ⟨(sumB (l.drop 4)).toArray⟩) ∧ Below w.heap.size w w' := by
  obtain ⟨w1, HW1⟩ : ∃ w1, Hid (w1 = w.alloc (.cells (pgArr (pgB l)) 55)) := ⟨_, Lib.hid rfl⟩
  have hh : w1.heap[w.heap.size]? = some (.cells (pgArr (pgB l)) 55 (0, 0)) := by rw [HW1.out]; exact heap_alloc_last w _
  have hr : w1.rangeAt w.heap.size 0 (pgCells (pgB l)) := fun j u hu => by
    rw [cell_of_row w1 w.heap.size (0 + j) _ _ _ hh, Nat.zero_add]
    simpa [pgArr] using hu
  have hcv := range_text (cap := 124) (n := 124) (range_drop hr 4) (by rw [List.length_drop, hl])
  rw [HW1.out] at hcv
  have hb : Below w.heap.size w w1 := by rw [HW1.out]; exact (Below.refl _ _).alloc (Nat.le_refl _) _
  have HB := Lib.hid hb
  have HG : Hid (LaidCrc (w.alloc (.cells (pgArr (pgB l)) 55))) := Lib.hid (by rw [← HW1.out]; exact hg.carry hb)
  have HL := Lib.hid hl
  clear hh hr hb hg hl
  go_enter Tryd.func63, Tryd.ntmps63
  go_wp2_with fail
  refine (sum_any _ _ (by rw [toArr_size, List.length_drop, HL.out]; decide) HG.out).mono ?_
  obtain ⟨m, HM⟩ : ∃ m, Hid (m = (Crc.more 0#32 (l.drop 4)).toNat) := ⟨_, Lib.hid rfl⟩
  have hm : m < 4294967296 := by rw [HM.out]; exact BitVec.isLt _
  rw [show val (sum ⟨(l.drop 4).toArray⟩) = (m : Int) by rw [HM.out]; rfl]
  rintro e w' ⟨rfl, rfl⟩
  clear hcv
  go_wp2_with fail
  refine (Put_yes 4 m _ (by decide) (by decide) (by omega)).mono ?_
  obtain ⟨s, HS⟩ : ∃ s : ByteArray, Hid (s = ⟨(be 4 m).toArray⟩) := ⟨_, Lib.hid rfl⟩
  rw [← HS.out]
  rintro e w' ⟨rfl, hb⟩
  have HB2 := Lib.hid hb
  clear hb
  go_wp2_with fail
  go_ret
  exact ⟨by rw [HS.out, HM.out]; rfl, HB.out.trans (by rw [HW1.out]; exact HB2.out.mono (by simp))⟩
end Go.Proofs.YtaolkmlgdhnhaaaDoor
