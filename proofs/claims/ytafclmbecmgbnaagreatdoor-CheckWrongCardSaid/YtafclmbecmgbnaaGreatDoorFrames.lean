/-
  Frames: several texts in one file. Conditions: as each part says.
-/
import Derived.Test.YtafclmbecmgbnaaGreatDoorSm
import Derived.Test.YtafclmbecmgbnaaGreatDoorDisks
import Derived.Test.YtafclmbecmgbnaaGreatDoorMaths
import Derived.Test.YtafclmbecmgbnaaGreatDoorPacks
import Derived.Lib.LazyBuf
import Derived.Laws.StructEq
/-
 FrErr. Conditions: as each theorem says.
-/
namespace Go.Proofs.YtafclmbecmgbnaaGreatDoor
open Go.RowKit
inductive ChainFrom (w : World) (lo : Nat) (c : Int) : Value → Prop
 | base : ChainFrom w lo c (.iface 109 (.int .i64 c))
 | tag (b : Nat) (s : ByteArray) (t : TypeId) (x : Value) : lo ≤ b → b < w.heap.size → w.cell? ⟨b, 0, none⟩ = some (.string s) → w.cell? ⟨b, 1, none⟩ = some (.iface t x) →
   ChainFrom w lo c (.iface t x) → ChainFrom w lo c (.iface 153 (.pointer (some ⟨b, 0, none⟩)))
theorem ChainFrom.form {w : World} {lo : Nat} {c : Int} {v : Value} (h : ChainFrom w lo c v) : ∃ t x, v = .iface t x := by cases h <;> exact ⟨_, _, rfl⟩
theorem ChainFrom.chain {w : World} {lo : Nat} {c : Int} {v : Value} (h : ChainFrom w lo c v) : ∃ l, Chain w c v l := by
 induction h with
 | base => exact ⟨[], .base⟩
 | tag b s t x _ h1 h2 h3 _ ih =>
  obtain ⟨l, hl⟩ := ih
  exact ⟨s :: l, .tag b s t x l h2 h3 h1 hl⟩
theorem ChainFrom.carry {w w' : World} {lo : Nat} {c : Int} {v : Value} (h : ChainFrom w lo c v) (hs : w.heap.size ≤ w'.heap.size) (hb : ∀ b, lo ≤ b → b < w.heap.size → w'.heap[b]? = w.heap[b]?) : ChainFrom w' lo c v := by
 induction h with
 | base => exact .base
 | tag b s t x h0 h1 h2 h3 _ ih =>
  have e := hb b h0 h1
  exact .tag b s t x h0 (Nat.lt_of_lt_of_le h1 hs) ((World.cell?_of_block (w := w) (a := ⟨b, 0, none⟩) e).trans h2) ((World.cell?_of_block (w := w) (a := ⟨b, 1, none⟩) e).trans h3) ih
theorem ChainFrom.mono {w : World} {lo lo' : Nat} {c : Int} {v : Value} (h : ChainFrom w lo c v) (hl : lo' ≤ lo) : ChainFrom w lo' c v := by
 induction h with
 | base => exact .base
 | tag b s t x h0 h1 h2 h3 _ ih => exact .tag b s t x (Nat.le_trans hl h0) h1 h2 h3 ih
def ErrFrom (w : World) (lo : Nat) (c : Int) (v : Value) : Prop := (c = 0 ∧ v = .nilIface) ∨ (c ≠ 0 ∧ ChainFrom w lo c v)
theorem ErrFrom.zero {w : World} {lo : Nat} {v : Value} (h : ErrFrom w lo 0 v) : v = .nilIface := by
 rcases h with ⟨_, h⟩ | ⟨h, _⟩
 ·exact h
 ·exact absurd rfl h
theorem ErrFrom.some {w : World} {lo : Nat} {c : Int} {v : Value} (h : ErrFrom w lo c v) (hc : c ≠ 0) : ∃ t x, v = .iface t x := by
 rcases h with ⟨h, _⟩ | ⟨_, h⟩
 ·exact absurd h hc
 ·exact h.form
theorem ErrFrom.nil (w : World) (lo : Nat) : ErrFrom w lo 0 .nilIface := .inl ⟨rfl, rfl⟩
theorem ErrFrom.is {w : World} {lo : Nat} {c : Int} {v : Value} (h : ErrFrom w lo c v) : ErrIs w c v := by
 rcases h with h | ⟨_, h⟩
 ·exact .inl h
 ·exact .inr h.chain
theorem ErrFrom.carry {w w' : World} {lo : Nat} {c : Int} {v : Value} (h : ErrFrom w lo c v) (hs : w.heap.size ≤ w'.heap.size) (hb : ∀ b, lo ≤ b → b < w.heap.size → w'.heap[b]? = w.heap[b]?) : ErrFrom w' lo c v := by
 rcases h with h | ⟨hc, h⟩
 ·exact .inl h
 ·exact .inr ⟨hc, h.carry hs hb⟩
theorem ErrFrom.below {w w' : World} {lo : Nat} {c : Int} {v : Value} (h : ErrFrom w lo c v) (hb : Below w.heap.size w w') : ErrFrom w' lo c v := h.carry hb.size fun b _ hl => hb.block b hl
theorem ErrFrom.mono {w : World} {lo lo' : Nat} {c : Int} {v : Value} (h : ErrFrom w lo c v) (hl : lo' ≤ lo) : ErrFrom w lo' c v := by
 rcases h with h | ⟨hc, h⟩
 ·exact .inl h
 ·exact .inr ⟨hc, h.mono hl⟩
theorem ErrAt.from_ {w : World} {lo : Nat} {c : Int} {v : Value} (h : ErrAt w lo c v) : ErrFrom w lo c v := by
 rcases h with h | ⟨hc, b, s, h0, h1, rfl, h2, h3⟩
 ·exact .inl h
 ·exact .inr ⟨hc, .tag b s _ _ h0 h1 h2 h3 .base⟩
def FromPost (c : Int) (lo : Nat) (w : World) (e : Ending) (w' : World) : Prop := ∃ v, e = .returned v ∧ ErrFrom w' lo c v ∧ Below w.heap.size w w'
theorem Tag_from (s : ByteArray) (lo : Nat) (c : Int) (v : Value) (w : World) (h : ErrFrom w lo c v) (hlo : lo ≤ w.heap.size) : Calls Tryz.prog 59 #[.string s, v] w (FromPost c lo w) := by
 rcases h with ⟨rfl, rfl⟩ | ⟨hc, h⟩
 ·refine (Tag_nil s w).mono ?_
  rintro e w' ⟨rfl, rfl⟩
  exact ⟨_, rfl, .nil _ _, Below.refl _ _⟩
 ·obtain ⟨t, x, rfl⟩ := h.form
  refine (Tag_some s t x w).mono ?_
  rintro e w' ⟨rfl, rfl⟩
  have hb : Below w.heap.size w (w.alloc (.cells #[.string s, .iface t x] 155)) := (Below.refl _ _).alloc (Nat.le_refl _) _
  exact ⟨_, rfl, .inr ⟨hc, .tag _ s t x hlo (by simp) (by simp) (by simp) (h.carry hb.size fun b _ hl => hb.block b hl)⟩, hb⟩
theorem FrFault_any (c : Int) (hc : c ≠ 0) (w : World) : Calls Tryz.prog 145 #[.int .i64 c] w (FromPost c w.heap.size w) := by
 have H := Hi hc
 clear hc
 go_enter Tryz.func145, Tryz.ntmps145
 go_wp2_with fail
 refine (Tag_from _ w.heap.size c _ w (.inr ⟨H.out, .base⟩) (Nat.le_refl _)).mono ?_
 rintro e w' ⟨v, rfl, h1, h4⟩
 have H1 := Hi h1
 have H4 := Hi h4
 clear h1 h4
 go_wp2_with fail
 go_ret
 exact ⟨v, rfl, H1.out, H4.out⟩
end Go.Proofs.YtafclmbecmgbnaaGreatDoor

/-
 FrPage. Conditions: as each theorem says.
-/
namespace Go.Proofs.YtafclmbecmgbnaaGreatDoor
open Go.RowKit
theorem range_drop {w : World} {b o : Nat} {l : List UInt8} (h : w.rangeAt b o (pgCells (pgB l))) (k : Nat) : w.rangeAt b (o + k) (pgCells (pgB (l.drop k))) := fun j v hv => by
 have : (pgCells (pgB l))[k + j]? = some v := by
  rw [← hv]
  simp [pgCells, pgB]
 rw [Nat.add_assoc]
 exact h (k + j) v this
theorem range_take {w : World} {b o : Nat} {l : List UInt8} (h : w.rangeAt b o (pgCells (pgB l))) (k : Nat) : w.rangeAt b o (pgCells (pgB (l.take k))) := fun j v hv => by
 refine h j v ?_
 have hj : j < (l.take k).length := by
  have := (List.getElem?_eq_some_iff.1 hv).1
  simpa [pgCells, pgB] using this
 rw [← hv]
 have hk : j < k := by simp at hj; omega
 simp [pgCells, pgB, hk]
theorem range_text {w : World} {b o n cap : Nat} {l : List UInt8} (h : w.rangeAt b o (pgCells (pgB l))) (hn : l.length = n) :
  (convert 75 9 (.slice (some ⟨b, o, none⟩) n cap)).run Tryz.prog w = .ok (.string ⟨l.toArray⟩) w := by
 have e := run_convert_bytes_arg (P := Tryz.prog) w 75 5 Tryz.underlying75 Tryz.underlying5 b o n cap (pgB l) (by rw [pgB_length, hn])
  (fun i hi => by
   have hi' : i < l.length := by omega
   have := h i (.int .u8 (l[i].toNat : Int)) (by simp [pgCells, pgB, hi'])
   rw [this]
   simp [pgB, List.getD, hi']) 9 Tryz.underlying9
 rw [e]
 have e2 : (strOfNums (pgB l)) = ⟨l.toArray⟩ := by
  unfold strOfNums pgB
  rw [List.map_map]
  have : (l.map ((fun n : Int => UInt8.ofNat n.toNat) ∘ fun c : UInt8 => (c.toNat : Int))) = l := by
   rw [List.map_congr_left (g := id) (fun c _ => by simp), List.map_id]
  rw [this]
 rw [e2]
theorem wpList_copy_text {P : Program} {w : World} {ops : Array Oper} {rest : List Oper} {o : Oper} {a : Act} {Q : Exit → Act → World → Prop} (hgd : o.guard = none) (d x : Operand) (dT sT : TypeId)
  (hop : o.op = Op.call { callee := Callee.builtin Builtin.copy, args := #[d, x], argTypes := #[dT, sT] }) (elem : TypeId) (hu : P.underlying dT = some (.slice elem)) (hz : ∀ w, (Go.sizeOf elem).run P w = .ok 1 w)
  (b off dLen dCap : Nat) (hd : a.eval d = .slice (some ⟨b, off, none⟩) dLen dCap) (t : List UInt8) (s : ByteArray) (hst : s.data.toList = t) (hx : a.eval x = .string s) (hle : t.length ≤ dLen)
  (ht : w.there b off t.length)
  (h : ∀ w2, Hid (w2 = w.setCells b off (pgCells (pgB t))) → wpList P ops Q rest (a.put o.dst (goInt t.length)) w2) : wpList P ops Q (o :: rest) a w := by
 have hsz : s.size = t.length := by rw [← hst, Array.length_toList]; rfl
 refine wpList_plain hgd fun K hK => ?_
 have hrun := run_copy_string (P := P) w dT sT o.type elem b off dLen dCap s hu hz (by rw [hsz]; exact hle) (fun j hj => (ht j (by rw [← hsz]; exact hj)).1) (fun j hj => (ht j (by rw [← hsz]; exact hj)).2)
 have hcells : (s.data.toList.map fun x => Value.int .u8 (x.toNat : Int)) = pgCells (pgB t) := by rw [hst]; simp [pgCells, pgB]
 rw [hcells, hsz] at hrun
 unfold Oper.wp
 simp [execOp, hop, resolve, invoke, builtin, hd, hx, hrun, Result.andThen]
 exact hK _ _ (h _ rfl)
theorem step_copy_text {P : Program} {w : World} {ops : Array Oper} {o : Oper} {a : Act} {K : Act → World → Prop} {Q : Exit → Act → World → Prop} {E : Prop} (hg : Region.wanted o (yielded ops a.tmps) = true) (d x : Operand) (dT sT : TypeId)
  (hop : o.op = Op.call { callee := Callee.builtin Builtin.copy, args := #[d, x], argTypes := #[dT, sT] }) (elem : TypeId) (hu : P.underlying dT = some (.slice elem)) (hz : ∀ w, (Go.sizeOf elem).run P w = .ok 1 w)
  (b off dLen dCap : Nat) (hd : a.eval d = .slice (some ⟨b, off, none⟩) dLen dCap) (t : List UInt8) (s : ByteArray) (hst : s.data.toList = t) (hx : a.eval x = .string s) (hle : t.length ≤ dLen)
  (ht : w.there b off t.length)
  (h : ∀ w2, Hid (w2 = w.setCells b off (pgCells (pgB t))) → K (a.put o.dst (goInt t.length)) w2) : if Region.wanted o (yielded ops a.tmps) = true then Oper.wp P o a w K Q else E := by
 have hsz : s.size = t.length := by rw [← hst, Array.length_toList]; rfl
 rw [if_pos hg]
 have hrun := run_copy_string (P := P) w dT sT o.type elem b off dLen dCap s hu hz (by rw [hsz]; exact hle) (fun j hj => (ht j (by rw [← hsz]; exact hj)).1) (fun j hj => (ht j (by rw [← hsz]; exact hj)).2)
 have hcells : (s.data.toList.map fun x => Value.int .u8 (x.toNat : Int)) = pgCells (pgB t) := by rw [hst]; simp [pgCells, pgB]
 rw [hcells, hsz] at hrun
 unfold Oper.wp
 simp [execOp, hop, resolve, invoke, builtin, hd, hx, hrun, Result.andThen]
 exact h _ rfl
theorem pgCells_len (l : List UInt8) : (pgCells (pgB l)).length = l.length := by rw [pgCells_length, pgB_length]
theorem range_splice {w : World} {b off : Nat} {x t : List UInt8} (h : w.rangeAt b 0 (pgCells (pgB x))) (ho : off + t.length ≤ x.length) : (w.setCells b off (pgCells (pgB t))).rangeAt b 0 (pgCells (pgB (x.take off ++ t ++ x.drop (off + t.length)))) := fun j v hv => by
 have hs : ∀ j, j < (pgCells (pgB t)).length → (w.cell? ⟨b, off + j, none⟩).isSome = true := fun j hj => by
  rw [pgCells_len] at hj
  have := h.isSome (off + j) (by rw [pgCells_len]; omega)
  simpa using this
 rw [Nat.zero_add]
 have hj : j < x.length := by
  have := (List.getElem?_eq_some_iff.1 hv).1
  rw [pgCells_len] at this
  simp at this
  omega
 have e : ∀ (l : List UInt8) (j : Nat), (pgCells (pgB l))[j]? = (l[j]?).map fun c => Value.int .u8 (c.toNat : Int) := fun l j => by simp [pgCells, pgB]; rfl
 rw [e] at hv
 by_cases h1 : j < off
 ·rw [World.cell?_setCells_out b _ _ _ _ (fun _ _ => .inl h1)]
  have := h j v (by rw [e, ← hv, List.append_assoc, List.getElem?_append_left (by rw [List.length_take]; omega), List.getElem?_take, if_pos h1])
  rwa [Nat.zero_add] at this
 ·have htk : (x.take off).length = off := by rw [List.length_take]; omega
  by_cases h2 : j < off + t.length
  ·have hin := World.cell?_setCells_in b _ off w hs (j - off) (by rw [pgCells_len]; omega)
   rw [show off + (j - off) = j by omega] at hin
   rw [hin, ← List.getElem?_eq_getElem, e, ← hv, List.getElem?_append_left (by rw [List.length_append, htk]; omega), List.getElem?_append_right (by rw [htk]; omega), htk]
  ·rw [World.cell?_setCells_out b _ _ _ _ (fun _ _ => .inr (by rw [pgCells_len]; show off + t.length ≤ j; omega))]
   have := h j v (by
    rw [e, ← hv, List.getElem?_append_right (by rw [List.length_append, htk]; omega), List.length_append, htk, List.getElem?_drop]
    congr 2
    omega)
   rwa [Nat.zero_add] at this
theorem sizeOne (w : World) : (Go.sizeOf 5).run Tryz.prog w = .ok 1 w := by kernel_rfl
theorem toArr_list (l : List UInt8) : (⟨l.toArray⟩ : ByteArray).data.toList = l := by simp
theorem toArr_size (l : List UInt8) : (⟨l.toArray⟩ : ByteArray).size = l.length := by
 show l.toArray.size = _
 simp
set_option maxRecDepth 100000 in
theorem FrSum_any (l : List UInt8) (hl : l.length = 128) (w : World) (hg : LaidCrc w) :
  Calls Tryz.prog 146 #[pgV (pgB l)] w fun e w' => e = .returned (.string ⟨(sumB (l.drop 4)).toArray⟩) ∧ Below w.heap.size w w' := by
 obtain ⟨w1, HW1⟩ : ∃ w1, Hid (w1 = w.alloc (.cells (pgArr (pgB l)) 87)) := Hy
 have hh : w1.heap[w.heap.size]? = some (.cells (pgArr (pgB l)) 87 (0, 0)) := by rw [HW1.out]; exact heap_alloc_last w _
 have hr : w1.rangeAt w.heap.size 0 (pgCells (pgB l)) := fun j u hu => by
  rw [cell_of_row w1 w.heap.size (0 + j) _ _ _ hh, Nat.zero_add]
  simpa [pgArr] using hu
 have hcv := range_text (cap := 124) (n := 124) (range_drop hr 4) (by rw [List.length_drop, hl])
 rw [HW1.out] at hcv
 have hb : Below w.heap.size w w1 := by rw [HW1.out]; exact (Below.refl _ _).alloc (Nat.le_refl _) _
 have HB := Hi hb
 have HG : Hid (LaidCrc (w.alloc (.cells (pgArr (pgB l)) 87))) := Hi (by rw [← HW1.out]; exact hg.carry hb)
 have HL := Hi hl
 clear hh hr hb hg hl
 go_enter Tryz.func146, Tryz.ntmps146
 go_wp2_with fail
 refine (sum_any _ _ (by rw [toArr_size, List.length_drop, HL.out]; decide) HG.out).mono ?_
 obtain ⟨m, HM⟩ : ∃ m, Hid (m = (Crc.more 0#32 (l.drop 4)).toNat) := Hy
 have hm : m < 4294967296 := by rw [HM.out]; exact BitVec.isLt _
 rw [show val (sum ⟨(l.drop 4).toArray⟩) = (m : Int) by rw [HM.out]; rfl]
 rintro e w' ⟨rfl, rfl⟩
 clear hcv
 go_wp2_with fail
 refine (Put_yes 4 m _ (by decide) (by decide) (by omega)).mono ?_
 obtain ⟨s, HS⟩ : ∃ s : ByteArray, Hid (s = ⟨(be 4 m).toArray⟩) := Hy
 rw [← HS.out]
 rintro e w' ⟨rfl, hb⟩
 have HB2 := Hi hb
 clear hb
 go_wp2_with fail
 go_ret
 exact ⟨by rw [HS.out, HM.out]; rfl, HB.out.trans (by rw [HW1.out]; exact HB2.out.mono (by simp))⟩
end Go.Proofs.YtafclmbecmgbnaaGreatDoor

/-
 FrLay. Conditions: as each theorem says.
-/
namespace Go.Proofs.YtafclmbecmgbnaaGreatDoor
open Go.RowKit
def codeL (k : Int) (s : ByteArray) : Int := if k < 1 ∨ 255 < k then 1 else if 120 < s.size then 8 else 0
def LayAns (c : Int) (p : Pg) (w : World) (e : Ending) (w' : World) : Prop := ∃ v, e = .returned (.tuple #[pgV p, v]) ∧ ErrFrom w' w.heap.size c v ∧ Below w.heap.size w w'
theorem there_of {w : World} {b : Nat} {x : List UInt8} (h : w.rangeAt b 0 (pgCells (pgB x))) (hf : ∀ j, w.frozen? ⟨b, j, none⟩ = false) {off n : Nat} (ho : off + n ≤ x.length) : w.there b off n := fun j hj => by
 refine ⟨?_, hf _⟩
 have := h.isSome (off + j) (by rw [pgCells_len]; omega)
 simpa using this
structure Own (w : World) (b : Nat) (x : List UInt8) : Prop where
 at_ : w.rangeAt b 0 (pgCells (pgB x))
 free : ∀ j, w.frozen? ⟨b, j, none⟩ = false
theorem Own.below {w w' : World} {b B : Nat} {x : List UInt8} (h : Own w b x) (hb : Below B w w') (hB : b < B) : Own w' b x :=
 ⟨fun j v hv => (hb.cell (p := ⟨b, 0 + j, none⟩) hB).trans (h.at_ j v hv), fun j => (hb.frozen (p := ⟨b, j, none⟩) hB).trans (h.free j)⟩
theorem Own.splice {w w2 : World} {b off : Nat} {x t y : List UInt8} (h : Own w b x) (hw : w2 = w.setCells b off (pgCells (pgB t))) (ho : off + t.length ≤ x.length) (hy : x.take off ++ t ++ x.drop (off + t.length) = y) : Own w2 b y := by
 subst hw
 subst hy
 exact ⟨range_splice h.at_ ho, frozen_setCells h.free _ _ _⟩
theorem Own.new {w : World} {x : List UInt8} (t : TypeId) : Own (w.alloc (.cells (pgArr (pgB x)) t)) w.heap.size x := by
 have hh : (w.alloc (.cells (pgArr (pgB x)) t)).heap[w.heap.size]? = some (.cells (pgArr (pgB x)) t (0, 0)) := heap_alloc_last w _
 refine ⟨fun j u hu => ?_, fun j => frozen_of_row _ _ j _ _ hh⟩
 rw [cell_of_row _ w.heap.size (0 + j) _ _ _ hh, Nat.zero_add]
 simpa [pgArr] using hu
theorem below_cells {B b : Nat} {w w2 w0 : World} {vs : List Value} {o : Nat} (h : Below B w0 w) (hw : w2 = w.setCells b o vs) (hb : B ≤ b) : Below B w0 w2 := by
 subst hw
 exact below_setCells hb vs o w h
theorem splice1 (k : UInt8) : (List.replicate 128 (0 : UInt8)).take 4 ++ [k] ++ (List.replicate 128 0).drop (4 + [k].length) = List.replicate 4 0 ++ k :: List.replicate 123 0 := by simp
theorem splice2 (k n : UInt8) : (List.replicate 4 (0 : UInt8) ++ k :: List.replicate 123 0).take 5 ++ [n] ++ (List.replicate 4 (0 : UInt8) ++ k :: List.replicate 123 0).drop (5 + [n].length) = List.replicate 4 0 ++ k :: n :: List.replicate 122 0 := by rfl
theorem splice3 (k n : UInt8) (d : List UInt8) : (List.replicate 4 (0 : UInt8) ++ k :: n :: List.replicate 122 0).take 6 ++ d ++ (List.replicate 4 (0 : UInt8) ++ k :: n :: List.replicate 122 0).drop (6 + d.length) = List.replicate 4 0 ++ k :: n :: (d ++ List.replicate (122 - d.length) 0) := by
 have e1 : List.replicate 4 (0 : UInt8) ++ k :: n :: List.replicate 122 0 = (List.replicate 4 0 ++ [k, n]) ++ List.replicate 122 0 := by simp
 rw [e1, List.take_left' (by simp), show 6 + d.length = (List.replicate 4 (0 : UInt8) ++ [k, n]).length + d.length by simp, ← List.drop_drop, List.drop_left' rfl, List.drop_replicate]
 simp
theorem splice4 (t x : List UInt8) (ht : t.length = 4) : (List.replicate 4 (0 : UInt8) ++ x).take 0 ++ t ++ (List.replicate 4 (0 : UInt8) ++ x).drop (0 + t.length) = t ++ x := by
 rw [ht]
 simp
structure LaySt (w wi : World) (r b : Nat) (x : List UInt8) : Prop where
 own : Own wi b x
 res : Own wi r (List.replicate 128 0)
 below : Below r w wi
 size : r + 2 ≤ wi.heap.size
 rb : b = r + 1
theorem LaySt.drew {w wi : World} {r b : Nat} {x : List UInt8} (h : LaySt w wi r b x) : LaySt w wi.drew r b x := ⟨⟨h.own.at_, h.own.free⟩, ⟨h.res.at_, h.res.free⟩, h.below.drew, h.size, h.rb⟩
theorem LaySt.call {w wi wj : World} {r b : Nat} {x : List UInt8} (h : LaySt w wi r b x) (hb : Below wi.heap.size wi wj) : LaySt w wj r b x :=
 ⟨h.own.below hb (by have := h.size; have := h.rb; omega), h.res.below hb (by have := h.size; omega), h.below.trans (hb.mono (by have := h.size; omega)), Nat.le_trans h.size hb.size, h.rb⟩
theorem LaySt.copy {w wi wj : World} {r b off : Nat} {x t y : List UInt8} (h : LaySt w wi r b x) (hw : wj = wi.setCells b off (pgCells (pgB t))) (ho : off + t.length ≤ x.length) (hy : x.take off ++ t ++ x.drop (off + t.length) = y) : LaySt w wj r b y := by
 refine ⟨h.own.splice hw ho hy, ?_, below_cells h.below hw (by have := h.rb; omega), by rw [hw, setCells_size]; exact h.size, h.rb⟩
 subst hw
 exact ⟨World.rangeAt_setCells_apart h.res.at_ _ _ _ (.inl (by have := h.rb; omega)), frozen_setCells h.res.free _ _ _⟩
theorem LaySt.crc {w wi : World} {r b : Nat} {x : List UInt8} (h : LaySt w wi r b x) (hr : r = w.heap.size) (hg : LaidCrc w) : LaidCrc wi := hg.carry (by rw [← hr]; exact h.below)
theorem be_one (k : Nat) : be 1 k = [UInt8.ofNat k] := rfl
set_option maxRecDepth 100000 in
set_option maxHeartbeats 4000000 in
theorem FrLay_yes (k : Nat) (s : ByteArray) (w : World) (h1 : 1 ≤ k) (h2 : k ≤ 255) (hs : s.size ≤ 120) (hg : LaidCrc w) :
  Calls Tryz.prog 116 #[.int .i64 k, .string s] w fun e w' => e = .returned (.tuple #[pgV (pgB (layB (UInt8.ofNat k) s.data.toList)), .nilIface]) ∧ Below w.heap.size w w' := by
 have HG := Hi hg
 clear hg
 have hz := Tryz.zeroPage
 have hd1 : decide ((120 : Int) < (s.size : Int)) = false := by simp; omega
 have hd2 : decide ((255 : Int) < (k : Int)) = false := by simp; omega
 have hd3 : decide ((k : Int) < 1) = false := by simp; omega
 obtain ⟨y, HY⟩ : ∃ y, Hid (y = layB (UInt8.ofNat k) s.data.toList) := Hy
 rw [← HY.out]
 go_enter Tryz.func116, Tryz.ntmps116
 go_wp2_with fail
 obtain ⟨w0, HW0⟩ : ∃ w0, Hid (w0 = (w.alloc (.cells (pgArr zeroPg) 87)).alloc (.cells (pgArr zeroPg) 87)) := Hy
 obtain ⟨r, HR⟩ : ∃ r, Hid (r = w.heap.size) := Hy
 obtain ⟨b, HB⟩ : ∃ b, Hid (b = w.heap.size + 1) := Hy
 rw [← HW0.out, ← HB.out, ← HR.out]
 have H0 : Hid (LaySt w w0 r b (List.replicate 128 0)) := Hi (by
  refine ⟨?_, ?_, ?_, by rw [HW0.out, HR.out]; simp, by rw [HR.out, HB.out]⟩
  ·rw [HW0.out, HB.out, ← pgB_zero]
   have := Own.new (w := w.alloc (.cells (pgArr (pgB (List.replicate 128 0))) 87)) (x := List.replicate 128 0) 87
   simpa using this
  ·rw [HW0.out, HR.out, ← pgB_zero]
   exact (Own.new (w := w) 87).below ((Below.refl _ _).alloc (Nat.le_refl _) _) (by simp)
  ·rw [HW0.out, HR.out]; exact ((Below.refl _ _).alloc (Nat.le_refl _) _).alloc (by simp) _)
 refine wp_region_held (S := fun _ => True) (by kernel_rfl) ?_
 change wpAnyH _ _ _ _ _ _ _ _ w0.drew
 obtain ⟨w1, HW⟩ : ∃ w1, Hid (w1 = w0.drew) := Hy
 rw [← HW.out]
 have H1 := Hi (H0.out.drew)
 rw [← HW.out] at H1
 clear HW H0
 refine takeK (i := 0) 20 (v := Value.slice (some ⟨b, 4, none⟩) 124 124) rfl rfl trivial ?_
 simp only [Act.put, pU]
 refine takeK (i := 1) 21 (v := .int .i64 (k : Int)) rfl rfl trivial ?_
 simp only [Act.put, pU]
 refine oneH (i := 2) rfl (by kernel_rfl) (fun K hK => ?_)
 go_simp
 refine (Put_yes 1 k _ (by decide) (by decide) (by omega)).mono ?_
 rw [be_one]
 rintro e w2 ⟨rfl, hb⟩
 have H2 := Hi (H1.out.call hb)
 clear hb H1
 refine hK.out _ _ trivial ?_
 clear hK K
 refine oneH (i := 3) (oi := ⟨some 23, _, _, _, _, _⟩) rfl (by kernel_rfl) (fun K hK => ?_)
 refine step_copy_text (by rfl) _ _ _ _ rfl 5 Tryz.underlying75 sizeOne b 4 124 124 rfl ([UInt8.ofNat k]) _ (by simp) rfl (by simp) (there_of H2.out.own.at_ H2.out.own.free (by simp)) (fun w3 HW => ?_)
 refine hK.out _ _ trivial ?_
 clear hK K
 simp only [Act.put, pU]
 have H3 := Hi (H2.out.copy (t := [UInt8.ofNat k]) HW.out (by simp) (splice1 _))
 clear HW H2
 refine wpAnyH_done (by kernel_rfl) ?_ _
 go_wp2_with fail
 refine wp_region_held (S := fun _ => True) (by kernel_rfl) ?_
 change wpAnyH _ _ _ _ _ _ _ _ w3.drew
 obtain ⟨w4, HW⟩ : ∃ w1, Hid (w1 = w3.drew) := Hy
 rw [← HW.out]
 have H4 := Hi (H3.out.drew)
 rw [← HW.out] at H4
 clear HW H3
 refine takeK (i := 0) 24 (v := Value.slice (some ⟨b, 5, none⟩) 123 123) rfl rfl trivial ?_
 simp only [Act.put, pU]
 refine takeK (i := 1) 25 (v := .string s) rfl rfl trivial ?_
 simp only [Act.put, pU]
 refine takeK (i := 2) 26 (v := .int .i64 (s.size : Int)) rfl rfl trivial ?_
 simp only [Act.put, pU]
 refine oneH (i := 3) rfl (by kernel_rfl) (fun K hK => ?_)
 go_simp
 refine (Put_yes 1 s.size _ (by decide) (by decide) (by omega)).mono ?_
 rw [be_one]
 rintro e w5 ⟨rfl, hb⟩
 have H5 := Hi (H4.out.call hb)
 clear hb H4
 refine hK.out _ _ trivial ?_
 clear hK K
 refine oneH (i := 4) (oi := ⟨some 28, _, _, _, _, _⟩) rfl (by kernel_rfl) (fun K hK => ?_)
 refine step_copy_text (by rfl) _ _ _ _ rfl 5 Tryz.underlying75 sizeOne b 5 123 123 rfl ([UInt8.ofNat s.size]) _ (by simp) rfl (by simp) (there_of H5.out.own.at_ H5.out.own.free (by simp)) (fun w6 HW => ?_)
 refine hK.out _ _ trivial ?_
 clear hK K
 simp only [Act.put, pU]
 have H6 := Hi (H5.out.copy (t := [UInt8.ofNat s.size]) HW.out (by simp) (splice2 _ _))
 clear HW H5
 refine wpAnyH_done (by kernel_rfl) ?_ _
 have hsz : s.data.toList.length = s.size := lenS s
 go_wp2_with (with_reducible refine stop_at (o := ⟨some 31, _, _, _, _, _⟩) ?_)
 refine wpList_copy_text rfl _ _ _ _ rfl 5 Tryz.underlying75 sizeOne b 6 122 122 rfl s.data.toList s rfl rfl (by omega) (there_of H6.out.own.at_ H6.out.own.free (by simp; omega)) (fun w7 HW => ?_)
 have H7 := Hi (H6.out.copy (t := s.data.toList) HW.out (by simp; omega) (splice3 _ _ _))
 rw [← hsz] at H7
 clear HW H6
 obtain ⟨x, HX⟩ : ∃ x, Hid (x = bodyB (UInt8.ofNat k) s.data.toList) := Hy
 have H7x : Hid (LaySt w w7 r b (List.replicate 4 0 ++ x)) := Hi (by rw [HX.out]; exact H7.out)
 have hxl : x.length = 124 := by rw [HX.out]; exact bodyB_length (by omega)
 have hl7 : (List.replicate 4 0 ++ x).length = 128 := by rw [List.length_append, hxl]; rfl
 have hdr : (List.replicate 4 0 ++ x).drop 4 = x := List.drop_left' (by simp)
 have HLN : Hid ((List.replicate 4 0 ++ x).length = 128 ∧ (List.replicate 4 0 ++ x).drop 4 = x) := Hi ⟨hl7, hdr⟩
 clear H7 hl7 hdr hsz
 go_wp2_with fail
 refine wp_region_held (S := fun _ => True) (by kernel_rfl) ?_
 change wpAnyH _ _ _ _ _ _ _ _ w7.drew
 obtain ⟨w8, HW⟩ : ∃ w1, Hid (w1 = w7.drew) := Hy
 rw [← HW.out]
 have H8 := Hi (H7x.out.drew)
 rw [← HW.out] at H8
 clear HW H7x
 refine takeK (i := 0) 32 (v := Value.slice (some ⟨b, 0, none⟩) 128 128) rfl rfl trivial ?_
 simp only [Act.put, pU]
 refine oneH (i := 1) (oi := ⟨some 33, _, _, _, _, _⟩) rfl (by kernel_rfl) (fun K hK => ?_)
 rw [if_pos (by rfl)]
 refine wp_load_mid _ _ rfl b 0 rfl (pgCells (pgB (List.replicate 4 0 ++ x))) _ H8.out.own.at_ Tryz.underlying87 rfl (by rw [pgCells_len, HLN.out.1]; exact Tryz.pageSize) ?_
 refine hK.out _ _ trivial ?_
 clear hK K
 rw [show Value.agg (pgCells (pgB (List.replicate 4 0 ++ x))).toArray = pgV (pgB (List.replicate 4 0 ++ x)) from rfl]
 simp only [Act.put, pU]
 refine oneH (i := 2) rfl (by kernel_rfl) (fun K hK => ?_)
 go_simp
 refine (FrSum_any _ HLN.out.1 _ (H8.out.crc HR.out HG.out)).mono ?_
 rw [HLN.out.2]
 rintro e w9 ⟨rfl, hb⟩
 have H9 := Hi (H8.out.call hb)
 clear hb H8
 refine hK.out _ _ trivial ?_
 clear hK K
 refine oneH (i := 3) (oi := ⟨some 35, _, _, _, _, _⟩) rfl (by kernel_rfl) (fun K hK => ?_)
 refine step_copy_text (by rfl) _ _ _ _ rfl 5 Tryz.underlying75 sizeOne b 0 128 128 rfl (sumB x) _ (toArr_list _) rfl (by rw [sumB_length]; decide) (there_of H9.out.own.at_ H9.out.own.free (by rw [sumB_length, HLN.out.1]; decide)) (fun wa HW => ?_)
 have HA := Hi (H9.out.copy (t := sumB x) HW.out (by rw [sumB_length, HLN.out.1]; decide) (splice4 _ _ (sumB_length _)))
 rw [show sumB x ++ x = y by rw [HY.out, HX.out]; rfl] at HA
 have HYL : Hid (y.length = 128) := Hi (by rw [HY.out]; exact layB_length (by rw [lenS]; exact hs))
 clear HW H9
 refine hK.out _ _ trivial ?_
 clear hK K
 simp only [Act.put, pU]
 refine wpAnyH_done (by kernel_rfl) ?_ _
 go_wp2_with (with_reducible refine stop_at (o := ⟨some 36, _, _, _, _, _⟩) ?_)
 refine wpList_load_page rfl _ _ rfl b 0 rfl (pgB y) (by rw [pgB_length]; exact HYL.out) HA.out.own.at_ _ Tryz.underlying87 rfl Tryz.pageSize ?_
 refine wpList_store_page rfl _ _ _ rfl r 0 (pgB y) (by rw [pgB_length]; exact HYL.out) rfl rfl (there_of HA.out.res.at_ HA.out.res.free (by simp)) Tryz.pageSize (fun wb HW => ?_)
 have hrb : wb.rangeAt r 0 (pgCells (pgB y)) := by
  rw [HW.out]
  exact World.rangeAt_setCells_same _ _ _ _ (by rw [pgCells_len, HYL.out]; exact there_of HA.out.res.at_ HA.out.res.free (by simp))
 have HBB : Hid (Below r w wb) := Hi (below_cells HA.out.below HW.out (Nat.le_refl _))
 have HRB := Hi hrb
 clear HW hrb
 go_wp2_with fail
 refine bodyPost_ret (v := .tuple #[pgV (pgB y), .nilIface]) ?_ rfl ⟨rfl, by rw [← HR.out]; exact HBB.out⟩
 rw [results_cell_tmp rfl]
 simp [asAddr, Result.andThen, run_loadVar_mid wb r 0 87 (pgCells (pgB y)) _ HRB.out Tryz.underlying87 rfl (by rw [pgCells_len, HYL.out]; exact Tryz.pageSize)]
 rfl
set_option maxRecDepth 100000 in
theorem FrLay_low (k : Int) (s : ByteArray) (w : World) (h : k < 1) : Calls Tryz.prog 116 #[.int .i64 k, .string s] w (LayAns 1 zeroPg w) := by
 have hz := Tryz.zeroPage
 have hd1 : decide (k < 1) = true := by simpa using h
 go_enter Tryz.func116, Tryz.ntmps116
 go_wp2_with (with_reducible refine stop_at (o := ⟨some 13, _, _, _, _, _⟩) ?_)
 refine wpList_build_none rfl _ rfl _ built_zero ?_
 go_wp2_with fail
 refine (FrFault_any 1 (by decide) _).mono ?_
 rintro e w' ⟨v, rfl, h1, h4⟩
 have H1 := Hi h1
 have H4 := Hi h4
 obtain ⟨t, x, rfl⟩ := H1.out.some (by decide)
 clear h1 h4
 have hh : w'.heap[w.heap.size]? = some (.cells (pgArr zeroPg) 87 (0, 0)) := by
  rw [H4.out.block w.heap.size (by simp)]
  exact heap_alloc_last w _
 have HH := Hi hh
 clear hh
 go_wp2_with (with_reducible refine stop_at (o := ⟨none, _, _, _, _, _⟩) ?_)
 refine wpList_store_same rfl _ _ _ rfl w.heap.size (pgArr zeroPg) HH.out rfl rfl (by rw [pgArr_size, zeroPg_length]; exact Tryz.pageSize) (pgArr_all _) ?_
 go_wp2_with fail
 refine bodyPost_ret (v := .tuple #[pgV zeroPg, .iface t x]) ?_ rfl ⟨_, rfl, H1.out.mono (by simp), ((Below.refl _ _).alloc (Nat.le_refl _) _).trans (H4.out.mono (by simp))⟩
 rw [results_cell_tmp rfl]
 simp [asAddr, Result.andThen, run_loadVar_row w' w.heap.size 87 87 (pgArr zeroPg) (0, 0) _ HH.out Tryz.underlying87 rfl (by rw [pgArr_size, zeroPg_length]; exact Tryz.pageSize)]
set_option maxRecDepth 100000 in
theorem FrLay_high (k : Int) (s : ByteArray) (w : World) (h : 255 < k) : Calls Tryz.prog 116 #[.int .i64 k, .string s] w (LayAns 1 zeroPg w) := by
 have hz := Tryz.zeroPage
 have hd1 : decide (k < 1) = false := by simp; omega
 have hd2 : decide (255 < k) = true := by simpa using h
 go_enter Tryz.func116, Tryz.ntmps116
 go_wp2_with (with_reducible refine stop_at (o := ⟨some 13, _, _, _, _, _⟩) ?_)
 refine wpList_build_none rfl _ rfl _ built_zero ?_
 go_wp2_with fail
 refine (FrFault_any 1 (by decide) _).mono ?_
 rintro e w' ⟨v, rfl, h1, h4⟩
 have H1 := Hi h1
 have H4 := Hi h4
 obtain ⟨t, x, rfl⟩ := H1.out.some (by decide)
 clear h1 h4
 have hh : w'.heap[w.heap.size]? = some (.cells (pgArr zeroPg) 87 (0, 0)) := by
  rw [H4.out.block w.heap.size (by simp)]
  exact heap_alloc_last w _
 have HH := Hi hh
 clear hh
 go_wp2_with (with_reducible refine stop_at (o := ⟨none, _, _, _, _, _⟩) ?_)
 refine wpList_store_same rfl _ _ _ rfl w.heap.size (pgArr zeroPg) HH.out rfl rfl (by rw [pgArr_size, zeroPg_length]; exact Tryz.pageSize) (pgArr_all _) ?_
 go_wp2_with fail
 refine bodyPost_ret (v := .tuple #[pgV zeroPg, .iface t x]) ?_ rfl ⟨_, rfl, H1.out.mono (by simp), ((Below.refl _ _).alloc (Nat.le_refl _) _).trans (H4.out.mono (by simp))⟩
 rw [results_cell_tmp rfl]
 simp [asAddr, Result.andThen, run_loadVar_row w' w.heap.size 87 87 (pgArr zeroPg) (0, 0) _ HH.out Tryz.underlying87 rfl (by rw [pgArr_size, zeroPg_length]; exact Tryz.pageSize)]
set_option maxRecDepth 100000 in
theorem FrLay_long (k : Int) (s : ByteArray) (w : World) (h1 : 1 ≤ k) (h2 : k ≤ 255) (h : 120 < s.size) : Calls Tryz.prog 116 #[.int .i64 k, .string s] w (LayAns 8 zeroPg w) := by
 have hz := Tryz.zeroPage
 have hd1 : decide (k < 1) = false := by simp; omega
 have hd2 : decide (255 < k) = false := by simp; omega
 have hd3 : decide ((120 : Int) < (s.size : Int)) = true := by simp; omega
 go_enter Tryz.func116, Tryz.ntmps116
 go_wp2_with (with_reducible refine stop_at (o := ⟨some 18, _, _, _, _, _⟩) ?_)
 refine wpList_build_none rfl _ rfl _ built_zero ?_
 go_wp2_with fail
 refine (FrFault_any 8 (by decide) _).mono ?_
 rintro e w' ⟨v, rfl, h1, h4⟩
 have H1 := Hi h1
 have H4 := Hi h4
 obtain ⟨t, x, rfl⟩ := H1.out.some (by decide)
 clear h1 h4
 have hh : w'.heap[w.heap.size]? = some (.cells (pgArr zeroPg) 87 (0, 0)) := by
  rw [H4.out.block w.heap.size (by simp)]
  exact heap_alloc_last w _
 have HH := Hi hh
 clear hh
 go_wp2_with (with_reducible refine stop_at (o := ⟨none, _, _, _, _, _⟩) ?_)
 refine wpList_store_same rfl _ _ _ rfl w.heap.size (pgArr zeroPg) HH.out rfl rfl (by rw [pgArr_size, zeroPg_length]; exact Tryz.pageSize) (pgArr_all _) ?_
 go_wp2_with fail
 refine bodyPost_ret (v := .tuple #[pgV zeroPg, .iface t x]) ?_ rfl ⟨_, rfl, H1.out.mono (by simp), ((Below.refl _ _).alloc (Nat.le_refl _) _).trans (H4.out.mono (by simp))⟩
 rw [results_cell_tmp rfl]
 simp [asAddr, Result.andThen, run_loadVar_row w' w.heap.size 87 87 (pgArr zeroPg) (0, 0) _ HH.out Tryz.underlying87 rfl (by rw [pgArr_size, zeroPg_length]; exact Tryz.pageSize)]
def pageL (k : Int) (s : ByteArray) : Pg := if codeL k s = 0 then pgB (layB (UInt8.ofNat k.toNat) s.data.toList) else zeroPg
theorem codeL_zero {k : Int} {s : ByteArray} (h : codeL k s = 0) : ∃ n : Nat, k = n ∧ 1 ≤ n ∧ n ≤ 255 ∧ s.size ≤ 120 := by
 unfold codeL at h
 split at h
 ·cases h
 ·split at h
  ·cases h
  ·exact ⟨k.toNat, by omega, by omega, by omega, by omega⟩
theorem FrLay_any (k : Int) (s : ByteArray) (w : World) (hg : LaidCrc w) : Calls Tryz.prog 116 #[.int .i64 k, .string s] w (LayAns (codeL k s) (pageL k s) w) := by
 by_cases h0 : codeL k s = 0
 ·obtain ⟨n, rfl, h1, h2, hs⟩ := codeL_zero h0
  rw [pageL, if_pos h0, h0]
  exact (FrLay_yes n s w h1 h2 hs hg).mono fun e w' ⟨he, hb⟩ => ⟨_, he, .nil _ _, hb⟩
 ·rw [pageL, if_neg h0]
  unfold codeL at h0 ⊢
  by_cases h1 : k < 1
  ·rw [if_pos (.inl h1)]; exact FrLay_low k s w h1
  ·by_cases h2 : 255 < k
   ·rw [if_pos (.inr h2)]; exact FrLay_high k s w h2
   ·rw [if_neg (by omega)] at h0 ⊢
    by_cases h3 : 120 < s.size
    ·rw [if_pos h3]; exact FrLay_long k s w (by omega) (by omega) h3
    ·rw [if_neg h3] at h0; exact absurd rfl h0
theorem pageL_length (k : Int) (s : ByteArray) : (pageL k s).length = 128 := by
 unfold pageL
 split
 ·rename_i h
  obtain ⟨n, rfl, h1, h2, hs⟩ := codeL_zero h
  rw [pgB_length, layB_length (by rw [lenS]; exact hs)]
 ·exact zeroPg_length
end Go.Proofs.YtafclmbecmgbnaaGreatDoor

/-
 PageEq. Conditions: as each theorem says.
-/
namespace Go.Proofs.YtafclmbecmgbnaaGreatDoor
open Go.RowKit
theorem run_equalIn_two {P : Program} (w : World) (d len : Nat) (t e : TypeId) (p q : Pg) (ht : P.underlying t = some (.array len e)) (he : P.underlying e = some (.int .u8)) (hs : ∀ w, (sizeOf e).run P w = .ok 1 w) (hl : p.length = len) (hm : q.length = len) :
  (Op.equalIn (d + 2) t (.agg (pgArr p)) (.agg (pgArr q))).run P w = .ok (decide (p = q)) w := by
 have hp : ∀ (p : Pg), p.length = len → ∀ i, i < len → (part e (pgArr p) (i * 1)).run P w = .ok (.int .u8 (p.getD i 0)) w := by
  intro p hl i hi
  have hi' : i < p.length := by omega
  simp [part, isAgg, underlying, he, pgArr, pgCells, hi']
 rw [Op.equalIn]
 simp only [Sem.run_bind, run_underlying ht, Result.andThen_ok, hs, Std.Legacy.Range.forIn_eq_forIn_range']
 have key : ∀ l : List Nat, (∀ i ∈ l, i < len) → (forIn l (none, ()) fun i (_ : Option Bool × Unit) => do
   let a ← part e (pgArr p) (i * 1)
   let b ← part e (pgArr q) (i * 1)
   let r ← Op.equalIn (d + 1) e a b
   if (!r) = true then pure (ForInStep.done (some false, ())) else pure (ForInStep.yield ((none : Option Bool), ())) : Sem (Option Bool × Unit)).run P w = .ok (if l.all (fun i => p.getD i 0 == q.getD i 0) then (none, ()) else (some false, ())) w := by
  intro l
  induction l with
  | nil => intro _; simp
  | cons i r ih =>
   intro h
   simp only [List.forIn_cons, Sem.run_bind, hp p hl i (h i (by simp)), hp q hm i (h i (by simp)), Result.andThen_ok, run_equalIn_int w d e .u8 .u8 _ _ he, List.all_cons]
   by_cases hb : (p.getD i 0 == q.getD i 0) = true
   ·simp only [hb, Bool.not_true, Bool.false_eq_true, if_false, Sem.run_pure, Result.andThen_ok, Bool.true_and]
    exact ih fun k hk => h k (by simp [hk])
   ·have hb' : (p.getD i 0 == q.getD i 0) = false := by simpa using hb
    simp only [hb', Bool.not_false, if_true, Sem.run_pure, Result.andThen_ok, Bool.false_and, Bool.false_eq_true, if_false]
 rw [key _ (fun i hi => by have := List.mem_range'.1 hi; obtain ⟨k, hk, rfl⟩ := this; simp at hk; omega)]
 have hall : ((List.range' 0 len).all (fun i => p.getD i 0 == q.getD i 0)) = decide (p = q) := by
  rw [Bool.eq_iff_iff, List.all_eq_true, decide_eq_true_eq]
  constructor
  ·intro h
   refine List.ext_getElem (by omega) fun i h1 h2 => ?_
   have := h i (by simp [List.mem_range']; omega)
   simpa [List.getD_eq_getElem?_getD, h1, h2] using this
  ·rintro rfl i _
   simp
 have hsz : (⟨0, len, 1, by decide⟩ : Std.Legacy.Range).size = len := by simp [Std.Legacy.Range.size]
 rw [hsz, hall]
 by_cases h : p = q <;> simp [h, Result.andThen]
theorem sizeByte1 (w : World) : (sizeOf 5).run Tryz.prog w = .ok 1 w := by kernel_rfl
theorem guardPage1 : Tryz.prog.eqGuardType Tryz.prog.depth 87 = false := by kernel_rfl
theorem equalIn_two (p q : Pg) (hl : p.length = 128) (hm : q.length = 128) (w : World) : (Op.equalIn 10000 87 (pgV p) (pgV q)).run Tryz.prog w = .ok (decide (p = q)) w :=
 run_equalIn_two w 9998 128 87 5 p q Tryz.underlying87 Tryz.underlying5 sizeByte1 hl hm
end Go.Proofs.YtafclmbecmgbnaaGreatDoor

/-
 FrRead. Conditions: as each theorem says.
-/
namespace Go.Proofs.YtafclmbecmgbnaaGreatDoor
open Go.RowKit
def ReadAns (l : List UInt8) (w : World) (e : Ending) (w' : World) : Prop :=
 ∃ v, e = .returned (.tuple #[.int .i64 (if codeB l = 0 then ((kB l).toNat : Int) else 0), .string (if codeB l = 0 then ⟨(dB l).toArray⟩ else ⟨#[]⟩), v]) ∧ ErrFrom w' w.heap.size (codeB l) v ∧ Below w.heap.size w w'
theorem ReadAns.fault {l : List UInt8} {w w1 w' : World} {c : Int} {v : Value} (hc : codeB l = c) (h0 : c ≠ 0) (hb : Below w.heap.size w w1) (he : ErrFrom w' w1.heap.size c v) (hb' : Below w1.heap.size w1 w') :
  ReadAns l w (.returned (.tuple #[.int .i64 0, .string ⟨#[]⟩, v])) w' := by
 refine ⟨v, ?_, by rw [hc]; exact he.mono hb.size, hb.trans (hb'.mono hb.size)⟩
 rw [if_neg (by rw [hc]; exact h0), if_neg (by rw [hc]; exact h0)]
theorem sums_beq (l : List UInt8) : (l.take 4 == sumB (l.drop 4)) = sumOk l := by
 unfold sumOk
 rw [Bool.eq_iff_iff]
 simp
set_option maxRecDepth 100000 in
set_option maxHeartbeats 4000000 in
theorem FrRead_sum (l : List UInt8) (hl : l.length = 128) (hc : sumOk l = false) (w : World) (hg : LaidCrc w) : Calls Tryz.prog 155 #[pgV (pgB l)] w (ReadAns l w) := by
 have HL := Hi hl
 have HC := Hi hc
 have HG := Hi hg
 clear hl hc hg
 obtain ⟨b, HB⟩ : ∃ b, Hid (b = w.heap.size) := Hy
 go_enter Tryz.func155, Tryz.ntmps155
 go_wp2_with fail
 obtain ⟨w0, HW0⟩ : ∃ w0, Hid (w0 = w.alloc (.cells (pgArr (pgB l)) 87)) := Hy
 rw [← HW0.out, ← HB.out]
 have H0 : Hid (w0.rangeAt b 0 (pgCells (pgB l))) := Hi (by rw [HW0.out, HB.out]; exact (Own.new (w := w) 87).at_)
 have HB0 : Hid (Below w.heap.size w w0) := Hi (by rw [HW0.out]; exact (Below.refl _ _).alloc (Nat.le_refl _) _)
 refine wp_region_held (S := fun w' => w'.rangeAt b 0 (pgCells (pgB l))) (by kernel_rfl) ?_
 change wpAnyH _ _ _ _ _ _ _ _ w0.drew
 obtain ⟨w1, HW⟩ : ∃ w1, Hid (w1 = w0.drew) := Hy
 rw [← HW.out]
 have H1 : Hid (w1.rangeAt b 0 (pgCells (pgB l))) := Hi (by rw [HW.out]; exact H0.out)
 have HB1 : Hid (Below w.heap.size w w1) := Hi (by rw [HW.out]; exact HB0.out.drew)
 clear HW H0 HB0 HW0
 refine takeK (i := 0) 10 (v := Value.slice (some ⟨b, 0, none⟩) 4 128) rfl rfl H1.out ?_
 simp only [Act.put, pU]
 refine takeJ (i := 1) 11 (v := .string ⟨(l.take 4).toArray⟩) rfl rfl (.inl ⟨by rfl, fun _ hw => by have hcv := range_text (n := 4) (cap := 128) (range_take hw 4) (by rw [List.length_take, HL.out]; rfl); go_simp⟩) H1.out ?_
 simp only [Act.put, pU]
 refine takeJ (i := 2) 12 (v := pgV (pgB l)) rfl rfl (yieldsIf_load_mid (by rfl) _ _ rfl b 0 rfl (pgCells (pgB l)) _ (fun _ hw => hw) Tryz.underlying87 rfl (by rw [pgCells_len, HL.out]; exact Tryz.pageSize)) H1.out ?_
 simp only [Act.put, pU]
 refine oneH (i := 3) (oi := ⟨some 13, _, _, _, _, _⟩) rfl (by kernel_rfl) (fun K hK => ?_)
 go_simp
 refine (FrSum_any l HL.out w1 (HG.out.carry HB1.out)).mono ?_
 rintro e w2 ⟨rfl, hb⟩
 have HB2 : Hid (Below w.heap.size w w2) := Hi (HB1.out.trans (hb.mono HB1.out.size))
 have H2 : Hid (w2.rangeAt b 0 (pgCells (pgB l))) := Hi (fun j v hv => (hb.cell (p := ⟨b, 0 + j, none⟩) (lt_of_cell (H1.out j v hv))).trans (H1.out j v hv))
 clear hb H1 HB1
 refine hK.out _ _ H2.out ?_
 clear hK K
 refine oneH (i := 4) (oi := ⟨some 14, _, _, _, _, _⟩) rfl (by kernel_rfl) (fun K hK => ?_)
 go_simp
 rw [sums_beq, HC.out]
 refine hK.out _ _ H2.out ?_
 clear hK K
 refine wpAnyH_done (by kernel_rfl) ?_ _
 go_wp2_with fail
 refine (FrFault_any 3 (by decide) _).mono ?_
 rintro e w3 ⟨v, rfl, h1, h4⟩
 have H1 := Hi h1
 have H4 := Hi h4
 clear h1 h4
 go_wp2_with fail
 go_ret3
 have hc3 : codeB l = 3 := by unfold codeB; rw [HC.out]; rfl
 exact ReadAns.fault hc3 (by decide) HB2.out H1.out H4.out
theorem slice_mid (w : World) (b : Nat) {n : Nat} (hn : n ≤ 120) : (Instr.sliceAt 87 (.pointer (some ⟨b, 0, none⟩)) (some (.int .i64 6)) (some (.int .i64 (6 + (n : Int)))) none).run Tryz.prog w = .ok (.slice (some ⟨b, 6, none⟩) n 122) w := by
 have hal : Tryz.prog.arrayLen 87 = 128 := by kernel_rfl
 have h1 : (6 + (n : Int) ≤ Tryz.prog.arrayLen 87) := by rw [hal]; omega
 have hs : (sizeOf (Tryz.prog.elem 87)).run Tryz.prog w = .ok 1 w := by kernel_rfl
 rw [run_sliceAt_array_lh w 87 ⟨b, 0, none⟩ (by kernel_rfl) _ _ _ _ (by decide) (by omega) h1, hs, hal]
 have e : (6 + (n : Int)).toNat = 6 + n := by omega
 simp [slicedAt, Result.andThen, Addr.add, e]
theorem kB_lt (l : List UInt8) : (kB l).toNat < 256 := UInt8.toNat_lt _
theorem wp_region_reads {P : Program} {id : Nat} {Q : Exit → Act → World → Prop} {a : Act} {w : World} {l : List Oper} (hm : P.follows .mixedOrders = true) (hB : Region.lexB .any l.toArray = true)
  (h : ∀ w1, Hid (w1 = w.drew) → wpStill P l.toArray w1 (fun a' => Q .normal a' w1) l a) : (Code.region id l.toArray true).wp P Q a w := wp_region_still_lit hm hB (h _ rfl)
set_option maxRecDepth 100000 in
set_option maxHeartbeats 4000000 in
theorem FrRead_long (l : List UInt8) (hl : l.length = 128) (hc : sumOk l = true) (hlong : 120 < nB l) (w : World) (hg : LaidCrc w) : Calls Tryz.prog 155 #[pgV (pgB l)] w (ReadAns l w) := by
 have hc2 : codeB l = 2 := by unfold codeB; rw [if_pos hc, if_pos hlong]
 have HC2 := Hi hc2
 have HLO := Hi hlong
 clear hc2 hlong
 have HL := Hi hl
 have HC := Hi hc
 have HG := Hi hg
 clear hl hc hg
 obtain ⟨b, HB⟩ : ∃ b, Hid (b = w.heap.size) := Hy
 go_enter Tryz.func155, Tryz.ntmps155
 go_wp2_with fail
 obtain ⟨w0, HW0⟩ : ∃ w0, Hid (w0 = w.alloc (.cells (pgArr (pgB l)) 87)) := Hy
 rw [← HW0.out, ← HB.out]
 have H0 : Hid (w0.rangeAt b 0 (pgCells (pgB l))) := Hi (by rw [HW0.out, HB.out]; exact (Own.new (w := w) 87).at_)
 have HB0 : Hid (Below w.heap.size w w0) := Hi (by rw [HW0.out]; exact (Below.refl _ _).alloc (Nat.le_refl _) _)
 refine wp_region_held (S := fun w' => w'.rangeAt b 0 (pgCells (pgB l))) (by kernel_rfl) ?_
 change wpAnyH _ _ _ _ _ _ _ _ w0.drew
 obtain ⟨w1, HW⟩ : ∃ w1, Hid (w1 = w0.drew) := Hy
 rw [← HW.out]
 have H1 : Hid (w1.rangeAt b 0 (pgCells (pgB l))) := Hi (by rw [HW.out]; exact H0.out)
 have HB1 : Hid (Below w.heap.size w w1) := Hi (by rw [HW.out]; exact HB0.out.drew)
 clear HW H0 HB0 HW0
 refine takeK (i := 0) 10 (v := Value.slice (some ⟨b, 0, none⟩) 4 128) rfl rfl H1.out ?_
 simp only [Act.put, pU]
 refine takeJ (i := 1) 11 (v := .string ⟨(l.take 4).toArray⟩) rfl rfl (.inl ⟨by rfl, fun _ hw => by have hcv := range_text (n := 4) (cap := 128) (range_take hw 4) (by rw [List.length_take, HL.out]; rfl); go_simp⟩) H1.out ?_
 simp only [Act.put, pU]
 refine takeJ (i := 2) 12 (v := pgV (pgB l)) rfl rfl (yieldsIf_load_mid (by rfl) _ _ rfl b 0 rfl (pgCells (pgB l)) _ (fun _ hw => hw) Tryz.underlying87 rfl (by rw [pgCells_len, HL.out]; exact Tryz.pageSize)) H1.out ?_
 simp only [Act.put, pU]
 refine oneH (i := 3) (oi := ⟨some 13, _, _, _, _, _⟩) rfl (by kernel_rfl) (fun K hK => ?_)
 go_simp
 refine (FrSum_any l HL.out w1 (HG.out.carry HB1.out)).mono ?_
 rintro e w2 ⟨rfl, hb⟩
 have HB2 : Hid (Below w.heap.size w w2) := Hi (HB1.out.trans (hb.mono HB1.out.size))
 have H2 : Hid (w2.rangeAt b 0 (pgCells (pgB l))) := Hi (fun j v hv => (hb.cell (p := ⟨b, 0 + j, none⟩) (lt_of_cell (H1.out j v hv))).trans (H1.out j v hv))
 clear hb H1 HB1
 refine hK.out _ _ H2.out ?_
 clear hK K
 refine oneH (i := 4) (oi := ⟨some 14, _, _, _, _, _⟩) rfl (by kernel_rfl) (fun K hK => ?_)
 go_simp
 rw [sums_beq, HC.out]
 refine hK.out _ _ H2.out ?_
 clear hK K
 refine wpAnyH_done (by kernel_rfl) ?_ _
 have hk := kB_lt l
 have hn := nB_lt l
 obtain ⟨k, HK⟩ : ∃ k, Hid (k = (kB l).toNat) := Hy
 obtain ⟨n, HN⟩ : ∃ n, Hid (n = nB l) := Hy
 have c4 : w2.cell? ⟨b, 4, none⟩ = some (.int .u8 (k : Int)) := by
  have := H2.out 4 (.int .u8 ((kB l).toNat : Int)) (by simp [pgCells, pgB, kB, HL.out])
  rw [HK.out]; simpa using this
 have c5 : w2.cell? ⟨b, 5, none⟩ = some (.int .u8 (n : Int)) := by
  have := H2.out 5 (.int .u8 (nB l : Int)) (by simp [pgCells, pgB, nB, HL.out])
  rw [HN.out]; simpa using this
 rw [← HK.out] at hk
 rw [← HN.out] at hn
 have HC4 := Hi c4
 have HC5 := Hi c5
 clear c4 c5
 go_wp2_with fail
 refine wp_region_reads (by kernel_rfl) (by kernel_rfl) (fun w3 HW => ?_)
 have c4 : w3.cell? ⟨b, 4, none⟩ = some (.int .u8 (k : Int)) := by rw [HW.out]; exact HC4.out
 have c5 : w3.cell? ⟨b, 5, none⟩ = some (.int .u8 (n : Int)) := by rw [HW.out]; exact HC5.out
 have H3 : Hid (w3.rangeAt b 0 (pgCells (pgB l))) := Hi (by rw [HW.out]; exact H2.out)
 have HB3 : Hid (Below w.heap.size w w3) := Hi (by rw [HW.out]; exact HB2.out.drew)
 clear HW H2 HB2 HC4 HC5
 have ek : IntKind.i64.wrap (k : Int) = (k : Int) := IntWalk.i64_in _ (by omega)
 have en : IntKind.i64.wrap (n : Int) = (n : Int) := IntWalk.i64_in _ (by omega)
 iterate 8 still_step
 refine wpStill_nil ?_
 clear c4 c5 ek en
 have hd : decide ((120 : Int) < (n : Int)) = true := by have := HLO.out; rw [← HN.out] at this; simp; omega
 go_wp2_with fail
 refine (FrFault_any 2 (by decide) _).mono ?_
 rintro e w4 ⟨v, rfl, h1, h4⟩
 have H1 := Hi h1
 have H4 := Hi h4
 clear h1 h4
 go_wp2_with fail
 go_ret3
 exact ReadAns.fault HC2.out (by decide) HB3.out H1.out H4.out
set_option maxRecDepth 100000 in
set_option maxHeartbeats 4000000 in
theorem FrRead_short (l : List UInt8) (hl : l.length = 128) (hc : sumOk l = true) (hshort : nB l ≤ 120) (w : World) (hg : LaidCrc w) : Calls Tryz.prog 155 #[pgV (pgB l)] w (ReadAns l w) := by
 have HSO := Hi hc
 have HLO := Hi hshort
 clear hshort
 have HL := Hi hl
 have HC := Hi hc
 have HG := Hi hg
 clear hl hc hg
 obtain ⟨b, HB⟩ : ∃ b, Hid (b = w.heap.size) := Hy
 go_enter Tryz.func155, Tryz.ntmps155
 go_wp2_with fail
 obtain ⟨w0, HW0⟩ : ∃ w0, Hid (w0 = w.alloc (.cells (pgArr (pgB l)) 87)) := Hy
 rw [← HW0.out, ← HB.out]
 have H0 : Hid (w0.rangeAt b 0 (pgCells (pgB l))) := Hi (by rw [HW0.out, HB.out]; exact (Own.new (w := w) 87).at_)
 have HB0 : Hid (Below w.heap.size w w0) := Hi (by rw [HW0.out]; exact (Below.refl _ _).alloc (Nat.le_refl _) _)
 refine wp_region_held (S := fun w' => w'.rangeAt b 0 (pgCells (pgB l))) (by kernel_rfl) ?_
 change wpAnyH _ _ _ _ _ _ _ _ w0.drew
 obtain ⟨w1, HW⟩ : ∃ w1, Hid (w1 = w0.drew) := Hy
 rw [← HW.out]
 have H1 : Hid (w1.rangeAt b 0 (pgCells (pgB l))) := Hi (by rw [HW.out]; exact H0.out)
 have HB1 : Hid (Below w.heap.size w w1) := Hi (by rw [HW.out]; exact HB0.out.drew)
 clear HW H0 HB0 HW0
 refine takeK (i := 0) 10 (v := Value.slice (some ⟨b, 0, none⟩) 4 128) rfl rfl H1.out ?_
 simp only [Act.put, pU]
 refine takeJ (i := 1) 11 (v := .string ⟨(l.take 4).toArray⟩) rfl rfl (.inl ⟨by rfl, fun _ hw => by have hcv := range_text (n := 4) (cap := 128) (range_take hw 4) (by rw [List.length_take, HL.out]; rfl); go_simp⟩) H1.out ?_
 simp only [Act.put, pU]
 refine takeJ (i := 2) 12 (v := pgV (pgB l)) rfl rfl (yieldsIf_load_mid (by rfl) _ _ rfl b 0 rfl (pgCells (pgB l)) _ (fun _ hw => hw) Tryz.underlying87 rfl (by rw [pgCells_len, HL.out]; exact Tryz.pageSize)) H1.out ?_
 simp only [Act.put, pU]
 refine oneH (i := 3) (oi := ⟨some 13, _, _, _, _, _⟩) rfl (by kernel_rfl) (fun K hK => ?_)
 go_simp
 refine (FrSum_any l HL.out w1 (HG.out.carry HB1.out)).mono ?_
 rintro e w2 ⟨rfl, hb⟩
 have HB2 : Hid (Below w.heap.size w w2) := Hi (HB1.out.trans (hb.mono HB1.out.size))
 have H2 : Hid (w2.rangeAt b 0 (pgCells (pgB l))) := Hi (fun j v hv => (hb.cell (p := ⟨b, 0 + j, none⟩) (lt_of_cell (H1.out j v hv))).trans (H1.out j v hv))
 clear hb H1 HB1
 refine hK.out _ _ H2.out ?_
 clear hK K
 refine oneH (i := 4) (oi := ⟨some 14, _, _, _, _, _⟩) rfl (by kernel_rfl) (fun K hK => ?_)
 go_simp
 rw [sums_beq, HC.out]
 refine hK.out _ _ H2.out ?_
 clear hK K
 refine wpAnyH_done (by kernel_rfl) ?_ _
 have hk := kB_lt l
 have hn := nB_lt l
 obtain ⟨k, HK⟩ : ∃ k, Hid (k = (kB l).toNat) := Hy
 obtain ⟨n, HN⟩ : ∃ n, Hid (n = nB l) := Hy
 have c4 : w2.cell? ⟨b, 4, none⟩ = some (.int .u8 (k : Int)) := by
  have := H2.out 4 (.int .u8 ((kB l).toNat : Int)) (by simp [pgCells, pgB, kB, HL.out])
  rw [HK.out]; simpa using this
 have c5 : w2.cell? ⟨b, 5, none⟩ = some (.int .u8 (n : Int)) := by
  have := H2.out 5 (.int .u8 (nB l : Int)) (by simp [pgCells, pgB, nB, HL.out])
  rw [HN.out]; simpa using this
 rw [← HK.out] at hk
 rw [← HN.out] at hn
 have HC4 := Hi c4
 have HC5 := Hi c5
 clear c4 c5
 go_wp2_with fail
 refine wp_region_reads (by kernel_rfl) (by kernel_rfl) (fun w3 HW => ?_)
 have c4 : w3.cell? ⟨b, 4, none⟩ = some (.int .u8 (k : Int)) := by rw [HW.out]; exact HC4.out
 have c5 : w3.cell? ⟨b, 5, none⟩ = some (.int .u8 (n : Int)) := by rw [HW.out]; exact HC5.out
 have H3 : Hid (w3.rangeAt b 0 (pgCells (pgB l))) := Hi (by rw [HW.out]; exact H2.out)
 have HB3 : Hid (Below w.heap.size w w3) := Hi (by rw [HW.out]; exact HB2.out.drew)
 clear HW H2 HB2 HC4 HC5
 have ek : IntKind.i64.wrap (k : Int) = (k : Int) := IntWalk.i64_in _ (by omega)
 have en : IntKind.i64.wrap (n : Int) = (n : Int) := IntWalk.i64_in _ (by omega)
 iterate 8 still_step
 refine wpStill_nil ?_
 clear c4 c5 ek en
 have hn0 := HLO.out
 rw [← HN.out] at hn0
 have hd : decide ((120 : Int) < (n : Int)) = false := by simp; omega
 have hcv := range_text (w := w3) (b := b) (o := 6) (n := n) (cap := 122) (l := dB l) (by
  have := range_take (range_drop H3.out 6) (nB l)
  rw [Nat.zero_add] at this
  exact this) (by rw [dB_length HL.out HLO.out, HN.out])
 have hsl := fun w => slice_mid w b hn0
 have hz := Tryz.zeroPage
 obtain ⟨d, HD⟩ : ∃ d : ByteArray, Hid (d = ⟨(dB l).toArray⟩) := Hy
 rw [← HD.out] at hcv
 have HDT : Hid (d.data.toList = dB l) := Hi (by rw [HD.out])
 have HDZ : Hid (d.size ≤ 120) := Hi (by rw [HD.out, toArr_size, dB_length HL.out HLO.out]; exact HLO.out)
 by_cases hk0 : k = 0
 ·have hc2 : codeB l = 2 := by
   unfold codeB
   have : kB l = 0 := UInt8.toNat_inj.1 (by rw [← HK.out, hk0]; rfl)
   rw [if_pos HSO.out, if_neg (by have := HLO.out; omega), if_pos this]
  have HC2 := Hi hc2
  subst hk0
  clear hc2
  go_wp2_with fail
  refine (FrLay_low _ _ _ (by decide)).mono ?_
  rintro e w4 ⟨v, rfl, he, hb⟩
  obtain ⟨t, x, rfl⟩ := he.some (by decide)
  have HB4 : Hid (Below w.heap.size w w4) := Hi (HB3.out.trans (hb.mono HB3.out.size))
  clear hb hcv hsl he
  go_wp2_with (with_reducible refine stop_at (o := ⟨none, _, _, _, _, _⟩) ?_)
  refine wpList_store_last rfl _ _ _ rfl (pgArr zeroPg) (pgArr zeroPg) _ rfl rfl rfl (by rw [pgArr_size, zeroPg_length]; exact Tryz.pageSize) rfl (pgArr_all _) ?_
  obtain ⟨w5, HW⟩ : ∃ w5, Hid (w5 = w4.alloc (.cells (pgArr zeroPg) 87)) := Hy
  rw [← HW.out]
  have HB5 : Hid (Below w.heap.size w w5) := Hi (by rw [HW.out]; exact HB4.out.alloc HB4.out.size _)
  clear HW
  go_wp2_with fail
  refine (FrFault_any 2 (by decide) _).mono ?_
  rintro e w6 ⟨v, rfl, h1, h4⟩
  have H1 := Hi h1
  have H4 := Hi h4
  clear h1 h4
  go_wp2_with fail
  go_ret3
  exact ReadAns.fault HC2.out (by decide) HB5.out H1.out H4.out
 ·have hc0 : codeB l = if layB (kB l) (dB l) = l then 0 else 2 := by
   unfold codeB
   have : kB l ≠ 0 := fun e => hk0 (by rw [HK.out, e]; rfl)
   rw [if_pos HSO.out, if_neg (by have := HLO.out; omega), if_neg this]
  have HC0 := Hi hc0
  obtain ⟨y, HY⟩ : ∃ y, Hid (y = layB (kB l) (dB l)) := Hy
  have HYL : Hid (y.length = 128) := Hi (by rw [HY.out]; exact layB_length (by rw [dB_length HL.out HLO.out]; exact HLO.out))
  have HKB : Hid (UInt8.ofNat k = kB l) := Hi (by rw [HK.out]; exact UInt8.ofNat_toNat)
  clear hc0
  go_wp2_with fail
  refine (FrLay_yes k _ _ (by omega) (by omega) HDZ.out (HG.out.carry HB3.out)).mono ?_
  rw [HDT.out, HKB.out, ← HY.out]
  rintro e w4 ⟨rfl, hb⟩
  have HB4 : Hid (Below w.heap.size w w4) := Hi (HB3.out.trans (hb.mono HB3.out.size))
  have H4r : Hid (w4.rangeAt b 0 (pgCells (pgB l))) := Hi (fun j v hv => (hb.cell (p := ⟨b, 0 + j, none⟩) (lt_of_cell (H3.out j v hv))).trans (H3.out j v hv))
  clear hb hcv hsl
  go_wp2_with (with_reducible refine stop_at (o := ⟨none, _, _, _, _, _⟩) ?_)
  refine wpList_store_last rfl _ _ _ rfl (pgArr zeroPg) (pgArr (pgB y)) _ rfl rfl rfl (by rw [pgArr_size, pgB_length, HYL.out]; exact Tryz.pageSize) (by rw [pgArr_size, pgArr_size, pgB_length, HYL.out]; rfl) (pgArr_all _) ?_
  obtain ⟨w5, HW⟩ : ∃ w5, Hid (w5 = w4.alloc (.cells (pgArr (pgB y)) 87)) := Hy
  obtain ⟨c, HCB⟩ : ∃ c, Hid (c = w4.heap.size) := Hy
  rw [← HW.out, ← HCB.out]
  have HB5 : Hid (Below w.heap.size w w5) := Hi (by rw [HW.out]; exact HB4.out.alloc HB4.out.size _)
  have H5 : Hid (w5.rangeAt b 0 (pgCells (pgB l))) := Hi (by rw [HW.out]; exact World.rangeAt_alloc H4r.out _)
  have H5c : Hid (w5.rangeAt c 0 (pgCells (pgB y))) := Hi (by rw [HW.out, HCB.out]; exact (Own.new _).at_)
  clear HW
  have heq := equalIn_two (pgB y) (pgB l) (by rw [pgB_length]; exact HYL.out) (by rw [pgB_length]; exact HL.out)
  have hgp := guardPage1
  have hde : decide (pgB y = pgB l) = decide (codeB l = 0) := by
   rw [HC0.out, ← HY.out]
   by_cases e : y = l
   ·rw [if_pos e, e]; simp
   ·rw [if_neg e]
    have : pgB y ≠ pgB l := fun h => e (pgB_inj h)
    simp [this]
  rw [hde] at heq
  clear hde
  by_cases h0 : codeB l = 0
  ·have hd0 : decide (codeB l = 0) = true := by simp [h0]
   rw [hd0] at heq
   have HZ := Hi h0
   clear hd0 h0
   go_wp2_with (with_reducible refine stop_at (o := ⟨some 38, _, _, _, _, _⟩) ?_)
   refine BigFrame.wpList_want (by rfl) (fun K hK => ?_)
   refine wp_load_mid _ _ rfl c 0 rfl (pgCells (pgB y)) _ H5c.out Tryz.underlying87 rfl (by rw [pgCells_len, HYL.out]; exact Tryz.pageSize) (hK _ _ ?_)
   rw [show Value.agg (pgCells (pgB y)).toArray = pgV (pgB y) from rfl]
   clear hK K
   refine BigFrame.wpList_want (by rfl) (fun K hK => ?_)
   refine wp_load_mid _ _ rfl b 0 rfl (pgCells (pgB l)) _ H5.out Tryz.underlying87 rfl (by rw [pgCells_len, HL.out]; exact Tryz.pageSize) (hK _ _ ?_)
   rw [show Value.agg (pgCells (pgB l)).toArray = pgV (pgB l) from rfl]
   clear hK K
   go_wp2_with fail
   go_ret3
   refine ⟨.nilIface, ?_, by rw [HZ.out]; exact .nil _ _, HB5.out⟩
   rw [if_pos HZ.out, if_pos HZ.out, ← HD.out, HK.out]
   rfl
  ·have hd0 : decide (codeB l = 0) = false := by simp [h0]
   rw [hd0] at heq
   have HZ : Hid (codeB l = 2) := Hi (by
    have := HC0.out
    rw [this] at h0 ⊢
    by_cases e : layB (kB l) (dB l) = l
    ·rw [if_pos e] at h0; exact absurd rfl h0
    ·rw [if_neg e])
   clear hd0 h0
   go_wp2_with (with_reducible refine stop_at (o := ⟨some 38, _, _, _, _, _⟩) ?_)
   refine BigFrame.wpList_want (by rfl) (fun K hK => ?_)
   refine wp_load_mid _ _ rfl c 0 rfl (pgCells (pgB y)) _ H5c.out Tryz.underlying87 rfl (by rw [pgCells_len, HYL.out]; exact Tryz.pageSize) (hK _ _ ?_)
   rw [show Value.agg (pgCells (pgB y)).toArray = pgV (pgB y) from rfl]
   clear hK K
   refine BigFrame.wpList_want (by rfl) (fun K hK => ?_)
   refine wp_load_mid _ _ rfl b 0 rfl (pgCells (pgB l)) _ H5.out Tryz.underlying87 rfl (by rw [pgCells_len, HL.out]; exact Tryz.pageSize) (hK _ _ ?_)
   rw [show Value.agg (pgCells (pgB l)).toArray = pgV (pgB l) from rfl]
   clear hK K
   go_wp2_with fail
   refine (FrFault_any 2 (by decide) _).mono ?_
   rintro e w6 ⟨v, rfl, h1, h4⟩
   have H1 := Hi h1
   have H4 := Hi h4
   clear h1 h4
   go_wp2_with fail
   go_ret3
   exact ReadAns.fault HZ.out (by decide) HB5.out H1.out H4.out
theorem FrRead_any (l : List UInt8) (hl : l.length = 128) (w : World) (hg : LaidCrc w) : Calls Tryz.prog 155 #[pgV (pgB l)] w (ReadAns l w) := by
 cases hs : sumOk l
 ·exact FrRead_sum l hl hs w hg
 ·by_cases hn : nB l ≤ 120
  ·exact FrRead_short l hl hs hn w hg
  ·exact FrRead_long l hl hs (by omega) w hg
end Go.Proofs.YtafclmbecmgbnaaGreatDoor

/-
 FrDisk. Conditions: as each theorem says.
-/
namespace Go.Proofs.YtafclmbecmgbnaaGreatDoor
open Go.RowKit
def codeLd (c kind : Int) (l : List UInt8) : Int := if c ≠ 0 then c else if codeB l ≠ 0 then codeB l else if ((kB l).toNat : Int) = kind then 0 else 2
def LoadAns (c : Int) (l : List UInt8) (w : World) (e : Ending) (w' : World) : Prop :=
 ∃ v, e = .returned (.tuple #[.string (if c = 0 then ⟨(dB l).toArray⟩ else ⟨#[]⟩), v]) ∧ ErrFrom w' w.heap.size c v ∧ Below w.heap.size w w'
theorem LoadAns.fault {l : List UInt8} {w w1 w' : World} {c : Int} {v : Value} (h0 : c ≠ 0) (hb : Below w.heap.size w w1) (he : ErrFrom w' w1.heap.size c v) (hb' : Below w1.heap.size w1 w') :
  LoadAns c l w (.returned (.tuple #[.string ⟨#[]⟩, v])) w' := by
 refine ⟨v, ?_, he.mono hb.size, hb.trans (hb'.mono hb.size)⟩
 rw [if_neg h0]
set_option maxRecDepth 100000 in
set_option maxHeartbeats 4000000 in
theorem FrLoad_bad (c : Int) (h0 : c ≠ 0) (D : Value) (i kind : Int) (l : List UInt8) (w : World) (hr : Calls Tryz.prog 47 #[D, .int .i64 i] w (ReadPost c zeroPg w)) :
  Calls Tryz.prog 127 #[D, .int .i64 i, .int .i64 kind] w (LoadAns c l w) := by
 have H0 := Hi h0
 have HR := Hi hr
 clear h0 hr
 have hz := Tryz.zeroPage
 go_enter Tryz.func127, Tryz.ntmps127
 go_wp2_with fail
 refine HR.out.mono ?_
 rintro e w1 ⟨v, rfl, he, hb⟩
 obtain ⟨t, x, rfl⟩ := he.some H0.out
 have HE := Hi he
 have HB := Hi hb
 clear he hb
 go_wp2_with (with_reducible refine stop_at (o := ⟨none, _, _, _, _, _⟩) ?_)
 refine wpList_store_last rfl _ _ _ rfl (pgArr zeroPg) (pgArr zeroPg) _ rfl rfl rfl (by rw [pgArr_size, zeroPg_length]; exact Tryz.pageSize) rfl (pgArr_all _) ?_
 obtain ⟨w2, HW⟩ : ∃ w2, Hid (w2 = w1.alloc (.cells (pgArr zeroPg) 87)) := Hy
 rw [← HW.out]
 have hb2 : Below w1.heap.size w1 w2 := by rw [HW.out]; exact (Below.refl _ _).alloc (Nat.le_refl _) _
 have HB2 : Hid (Below w.heap.size w w2) := Hi (HB.out.trans (hb2.mono HB.out.size))
 have HE2 : Hid (ErrFrom w2 w.heap.size c (.iface t x)) := Hi ((HE.out.from_).below hb2)
 clear HW hb2
 go_wp2_with fail
 refine (Tag_from _ w.heap.size c _ w2 HE2.out HB2.out.size).mono ?_
 rintro e w3 ⟨v, rfl, h1, h4⟩
 have H1 := Hi h1
 have H4 := Hi h4
 clear h1 h4
 go_wp2_with fail
 go_ret2
 refine ⟨v, ?_, H1.out, HB2.out.trans (H4.out.mono HB2.out.size)⟩
 rw [if_neg H0.out]
 rfl
set_option maxRecDepth 100000 in
set_option maxHeartbeats 4000000 in
theorem FrLoad_page (D : Value) (i kind : Int) (l : List UInt8) (hl : l.length = 128) (w : World) (hr : Calls Tryz.prog 47 #[D, .int .i64 i] w (ReadPost 0 (pgB l) w)) (hg : LaidCrc w) :
  Calls Tryz.prog 127 #[D, .int .i64 i, .int .i64 kind] w (LoadAns (codeLd 0 kind l) l w) := by
 have HG := Hi hg
 have HR := Hi hr
 have HL := Hi hl
 clear hg hr hl
 have hz := Tryz.zeroPage
 go_enter Tryz.func127, Tryz.ntmps127
 go_wp2_with fail
 refine HR.out.mono ?_
 rintro e w1 ⟨v, rfl, he, hb⟩
 obtain rfl := he.zero
 have HB := Hi hb
 clear he hb
 go_wp2_with (with_reducible refine stop_at (o := ⟨none, _, _, _, _, _⟩) ?_)
 refine wpList_store_last rfl _ _ _ rfl (pgArr zeroPg) (pgArr (pgB l)) _ rfl rfl rfl (by rw [pgArr_size, pgB_length, HL.out]; exact Tryz.pageSize) (by rw [pgArr_size, pgArr_size, pgB_length, HL.out]; rfl) (pgArr_all _) ?_
 obtain ⟨w2, HW⟩ : ∃ w2, Hid (w2 = w1.alloc (.cells (pgArr (pgB l)) 87)) := Hy
 obtain ⟨b, HBB⟩ : ∃ b, Hid (b = w1.heap.size) := Hy
 rw [← HW.out, ← HBB.out]
 have HB2 : Hid (Below w.heap.size w w2) := Hi (by rw [HW.out]; exact HB.out.alloc HB.out.size _)
 have H2 : Hid (w2.rangeAt b 0 (pgCells (pgB l))) := Hi (by rw [HW.out, HBB.out]; exact (Own.new _).at_)
 clear HW HBB
 go_wp2_with (with_reducible refine stop_at (o := ⟨some 23, _, _, _, _, _⟩) ?_)
 refine wpList_load_page rfl _ _ rfl b 0 rfl (pgB l) (by rw [pgB_length]; exact HL.out) H2.out _ Tryz.underlying87 rfl Tryz.pageSize ?_
 go_wp2_with fail
 refine (FrRead_any l HL.out w2 (HG.out.carry HB2.out)).mono ?_
 rintro e w3 ⟨v, rfl, he, hb⟩
 have HB3 := Hi hb
 by_cases hc : codeB l = 0
 ·rw [if_pos hc, if_pos hc]
  rw [hc] at he
  obtain rfl := he.zero
  have HC := Hi hc
  obtain ⟨k, HK⟩ : ∃ k, Hid (k = (kB l).toNat) := Hy
  rw [← HK.out]
  clear he hb hc
  by_cases hk : (k : Int) = kind
  ·have HKK := Hi hk
   have hkk : ((k : Int) == kind) = true := by simp [hk]
   clear hk
   go_wp2_with fail
   go_ret2
   have hz0 : codeLd 0 kind l = 0 := by
    unfold codeLd
    rw [if_neg (by decide), if_neg (by rw [HC.out]; decide), if_pos (by rw [← HK.out]; exact HKK.out)]
   rw [hz0]
   exact ⟨.nilIface, by rw [if_pos rfl]; rfl, .nil _ _, HB2.out.trans (HB3.out.mono HB2.out.size)⟩
  ·have hz2 : codeLd 0 kind l = 2 := by
    unfold codeLd
    rw [if_neg (by decide), if_neg (by rw [HC.out]; decide), if_neg (by rw [← HK.out]; exact hk)]
   have HZ := Hi hz2
   have hkk : ((k : Int) == kind) = false := by simp [hk]
   clear hz2 hk
   go_wp2_with fail
   refine (FrFault_any 2 (by decide) _).mono ?_
   rintro e w4 ⟨v, rfl, h1, h4⟩
   have H1 := Hi h1
   have H4 := Hi h4
   clear h1 h4
   go_wp2_with fail
   go_ret2
   rw [HZ.out]
   exact LoadAns.fault (by decide) (HB2.out.trans (HB3.out.mono HB2.out.size)) H1.out H4.out
 ·have hzc : codeLd 0 kind l = codeB l := by
   unfold codeLd
   rw [if_neg (by decide), if_pos hc]
  have HZ := Hi hzc
  have HC := Hi hc
  have HE := Hi he
  obtain ⟨t, x, rfl⟩ := he.some hc
  rw [if_neg hc, if_neg hc]
  clear he hb hc hzc
  go_wp2_with fail
  go_ret2
  rw [HZ.out]
  exact ⟨.iface t x, by rw [if_neg HC.out]; rfl, HE.out.mono HB2.out.size, HB2.out.trans (HB3.out.mono HB2.out.size)⟩
theorem FrLoad_any {K : Nat → Prop} {D n : Nat} {d : Dk} {w : World} (h : DiskAt K w D n d) (i kind : Int) (l : List UInt8) (hl : l.length = 128) (hp : codeZ d.down n i = 0 → pgAt d.seen i.toNat = pgB l) (hg : LaidCrc w) :
  Calls Tryz.prog 127 #[.pointer (some ⟨D, 0, none⟩), .int .i64 i, .int .i64 kind] w (LoadAns (codeLd (codeZ d.down n i) kind l) l w) := by
 have hr := Read_any h i
 by_cases h0 : codeZ d.down n i = 0
 ·rw [h0, if_pos rfl, hp h0] at hr
  rw [h0]
  exact FrLoad_page _ i kind l hl w hr hg
 ·rw [if_neg h0] at hr
  have : codeLd (codeZ d.down n i) kind l = codeZ d.down n i := by unfold codeLd; rw [if_pos h0]
  rw [this]
  exact FrLoad_bad _ h0 _ i kind l w hr
set_option maxRecDepth 100000 in
theorem FrStore_write {Post : Ending → World → Prop} (D : Value) (i k : Int) (s : ByteArray) (w : World) (hc : codeL k s = 0) (hg : LaidCrc w)
  (h : ∀ w2, Below w.heap.size w w2 → Calls Tryz.prog 48 #[D, .int .i64 i, pgV (pageL k s)] w2 fun e w3 => ∃ v c, e = .returned v ∧ ErrFrom w3 w2.heap.size c v ∧ w2.heap.size ≤ w3.heap.size ∧ ∀ v' w4, ErrFrom w4 w2.heap.size c v' → Below w3.heap.size w3 w4 → Post (.returned v') w4) :
  Calls Tryz.prog 79 #[D, .int .i64 i, .int .i64 k, .string s] w Post := by
 have HL := Hi (FrLay_any k s w hg)
 have HH := Hi h
 rw [hc] at HL
 clear hc hg h
 have hz := Tryz.zeroPage
 go_enter Tryz.func79, Tryz.ntmps79
 go_wp2_with fail
 refine HL.out.mono ?_
 rintro e w1 ⟨v, rfl, he, hb⟩
 obtain rfl := he.zero
 have HB := Hi hb
 have hpl := pageL_length k s
 obtain ⟨p, HP⟩ : ∃ p, Hid (p = pageL k s) := Hy
 rw [← HP.out] at hpl HH ⊢
 have HPL := Hi hpl
 clear he hb hpl
 go_wp2_with (with_reducible refine stop_at (o := ⟨none, _, _, _, _, _⟩) ?_)
 refine wpList_store_last rfl _ _ _ rfl (pgArr zeroPg) (pgArr p) _ rfl rfl rfl (by rw [pgArr_size, HPL.out]; exact Tryz.pageSize) (by rw [pgArr_size, pgArr_size, HPL.out]; rfl) (pgArr_all _) ?_
 obtain ⟨w2, HW⟩ : ∃ w2, Hid (w2 = w1.alloc (.cells (pgArr p) 87)) := Hy
 obtain ⟨b, HBB⟩ : ∃ b, Hid (b = w1.heap.size) := Hy
 rw [← HW.out, ← HBB.out]
 have HB2 : Hid (Below w.heap.size w w2) := Hi (by rw [HW.out]; exact HB.out.alloc HB.out.size _)
 have hbl : w2.heap[b]? = some (.cells (pgArr p) 87 (0, 0)) := by rw [HW.out, HBB.out]; exact heap_alloc_last w1 _
 have HR : Hid (w2.rangeAt b 0 (pgCells p)) := Hi (fun j u hu => by
  rw [cell_of_row w2 b (0 + j) _ _ _ hbl, Nat.zero_add]
  simpa [pgArr] using hu)
 clear HW HBB hbl
 go_wp2_with (with_reducible refine stop_at (o := ⟨some 22, _, _, _, _, _⟩) ?_)
 refine wpList_load_page rfl _ _ rfl b 0 rfl p HPL.out HR.out _ Tryz.underlying87 rfl Tryz.pageSize ?_
 go_wp2_with fail
 refine (HH.out w2 HB2.out).mono ?_
 rintro e w3 ⟨v, c, rfl, he, hs, hp⟩
 have HE := Hi he
 have HS := Hi hs
 have HP3 := Hi hp
 clear he hs hp
 go_wp2_with fail
 refine (Tag_from _ w2.heap.size c v w3 HE.out HS.out).mono ?_
 rintro e w4 ⟨v', rfl, h1, h4⟩
 have H1 := Hi h1
 have H4 := Hi h4
 clear h1 h4
 go_wp2_with fail
 exact HP3.out v' w4 H1.out H4.out
theorem FrStore_yes {K : Nat → Prop} {D n i : Nat} {d : Dk} {w : World} (h : DiskAt K w D n d) (ht : There K w) (hd : d.down = false) (hi : i < n) (hs : d.soft.length ≤ 1000000) (k : Int) (s : ByteArray) (hc : codeL k s = 0) (hg : LaidCrc w) :
  Calls Tryz.prog 79 #[.pointer (some ⟨D, 0, none⟩), .int .i64 i, .int .i64 k, .string s] w fun e w' => e = .returned .nilIface ∧ DiskAt K w' D n (d.write i (pageL k s)) ∧ Kept K w w' := by
 refine FrStore_write _ i k s w hc hg fun w2 hb2 => (Write_yes (h.carry hb2) (ht.below hb2) hd hi (pageL_length k s) hs).mono ?_
 rintro e w3 ⟨rfl, hd3, hk3⟩
 refine ⟨.nilIface, 0, rfl, .nil _ _, hk3.size, fun v' w4 h4 hb4 => ?_⟩
 obtain rfl := h4.zero
 exact ⟨rfl, hd3.carry hb4, ((Kept.of_below hb2 ht).trans hk3).trans (Kept.of_below hb4 fun j hj => Nat.lt_of_lt_of_le ((ht.below hb2) j hj) hk3.size)⟩
end Go.Proofs.YtafclmbecmgbnaaGreatDoor

/-
 FrAwake. Conditions: as each theorem says.
-/
namespace Go.Proofs.YtafclmbecmgbnaaGreatDoor
open Go.RowKit
structure Laid2 (w : World) : Prop where
 err : Laid w
 crc : LaidCrc w
theorem Laid2.carry {w w' : World} (h : Laid2 w) (hb : Below w.heap.size w w') : Laid2 w' := ⟨h.err.carry hb, h.crc.carry hb⟩
end Go.Proofs.YtafclmbecmgbnaaGreatDoor
