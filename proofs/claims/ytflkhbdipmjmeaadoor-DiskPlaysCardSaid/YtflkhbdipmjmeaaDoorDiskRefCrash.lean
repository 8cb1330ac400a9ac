/-
  The contract of the document's own Crash. Conditions: none beyond the premises of each theorem.
-/
import Derived.Test.YtflkhbdipmjmeaaDoorDiskRefFlush
import Derived.Deep.DeepCutAuto
namespace Go.Proofs.YtflkhbdipmjmeaaDoor
open Go.RowKit

theorem over_succ {i : Nat} {q r : Pg} (hq : i < q.length) (hr : i < r.length) : (over i q r).set i q[i] = over (i + 1) q r := by
  unfold over
  have ht : (q.take i).length = i := by rw [List.length_take]; omega
  have e : r.drop i = r[i] :: r.drop (i + 1) := List.drop_eq_getElem_cons hr
  rw [List.set_append_right _ _ (by rw [ht]; exact Nat.le_refl _), ht, Nat.sub_self, e, List.set_cons_zero, List.take_succ_eq_append_getElem hq, List.append_assoc]
  rfl
/-- one byte of one sector -/
theorem Pages.byte {w : World} {b : Nat} {ps : List Pg} (h : Pages w b ps) {a i : Nat} (ha : a < ps.length) (hi : i < 128) (z : Int) : Pages (w.setCell ⟨b, a * 128 + i, none⟩ (.int .u8 z)) b (ps.set a ((pgAt ps a).set i z)) := fun k p hp => by
  obtain ⟨hl, hr⟩ := h.at_ ha
  rw [List.getElem?_set] at hp
  split at hp
  · rename_i e
    subst e
    obtain rfl : (pgAt ps a).set i z = p := by simpa [ha] using hp
    refine ⟨by rw [List.length_set]; exact hl, fun j v hv => ?_⟩
    have hj : j < 128 := by
      have := (List.getElem?_eq_some_iff.1 hv).1
      rwa [pgCells_length, List.length_set, hl] at this
    have e2 : (pgCells ((pgAt ps a).set i z))[j]? = ((pgAt ps a).set i z)[j]?.map (Value.int .u8) := by unfold pgCells; rw [List.getElem?_map]
    rw [e2] at hv
    have hold := hr i (.int .u8 ((pgAt ps a)[i]'(by omega))) (by simp [pgCells, hl, hi])
    by_cases hij : i = j
    · subst hij
      rw [World.cell?_setCell_same _ _ _ hold, ← hv]
      simp [hl, hi]
    · rw [World.cell?_setCell_other _ _ _ _ (fun x => hij (by have := (Addr.mk.inj x).2.1; omega))]
      refine hr j v ?_
      rw [List.getElem?_set_ne hij] at hv
      simpa [pgCells] using hv
  · rename_i e
    obtain ⟨hl2, hr2⟩ := h k p hp
    refine ⟨hl2, fun j v hv => ?_⟩
    have hj : j < 128 := by
      have := (List.getElem?_eq_some_iff.1 hv).1
      rwa [pgCells_length, hl2] at this
    rw [World.cell?_setCell_other _ _ _ _ (fun x => by have := (Addr.mk.inj x).2.1; omega)]
    exact hr2 j v hv
theorem Pages.cellsAt {w : World} {b : Nat} {l : List Pg} (h : Pages w b l) (hw : Whole l) {j : Nat} {u : Value} (hj : (pgsCells l)[j]? = some u) : w.cell? ⟨b, j, none⟩ = some u := by
  have hlt := (List.getElem?_eq_some_iff.1 hj).1
  rw [pgsCells_length hw] at hlt
  have hk : j / 128 < l.length := by omega
  have hm : j % 128 < 128 := Nat.mod_lt _ (by decide)
  have e : j / 128 * 128 + j % 128 = j := by omega
  have hp : l[j / 128]? = some (l[j / 128]) := List.getElem?_eq_getElem hk
  have h2 := (h _ _ hp).2 (j % 128) u
  rw [e] at h2
  refine h2 ?_
  rw [← hj]
  have := flat_at (f := pgCells) (c := 128) (fun q hq => by rw [pgCells_length, hw q hq]) hp hm
  rw [e] at this
  exact this.symm
/-- how far Crash has come -/
structure CrSt (w : World) (b1 b2 g : Nat) (x1 x2 : Value) (n : Nat) (f : List Pg) (wr : World) : Prop where
  below : Below w.heap.size w wr
  a1 : wr.cell? ⟨b1, 1, none⟩ = some x1
  a2 : wr.cell? ⟨b1, 2, none⟩ = some x2
  r0 : wr.cell? ⟨b2, 0, none⟩ = some (.slice none 0 0)
  r1 : wr.cell? ⟨b2, 1, none⟩ = some (.slice none 0 0)
  r2 : wr.cell? ⟨b2, 2, none⟩ = some (.slice none 0 0)
  rf : ∀ j, wr.frozen? ⟨b2, j, none⟩ = false
  pages : Pages wr g f
  len : f.length = n
  gf : ∀ j, wr.frozen? ⟨g, j, none⟩ = false
  ge : w.heap.size ≤ g
  g1 : b1 ≠ g
  g2 : b2 ≠ g
theorem CrSt.drew {w wr : World} {b1 b2 g : Nat} {x1 x2 : Value} {n : Nat} {f : List Pg} (h : CrSt w b1 b2 g x1 x2 n f wr) : CrSt w b1 b2 g x1 x2 n f wr.drew :=
  ⟨h.below.drew, h.a1, h.a2, h.r0, h.r1, h.r2, h.rf, fun i p hp => ⟨(h.pages i p hp).1, (h.pages i p hp).2⟩, h.len, h.gf, h.ge, h.g1, h.g2⟩
theorem CrSt.page {w wr w2 : World} {b1 b2 g : Nat} {x1 x2 : Value} {n a : Nat} {f : List Pg} {q : Pg} (h : CrSt w b1 b2 g x1 x2 n f wr) (hw : w2 = wr.setCells g (a * 128) (pgCells q)) (ha : a < n) (hq : q.length = 128) : CrSt w b1 b2 g x1 x2 n (f.set a q) w2 := by
  subst hw
  exact ⟨below_pages _ h.below h.ge _, by rw [setCells_cell h.g1]; exact h.a1, by rw [setCells_cell h.g1]; exact h.a2, by rw [setCells_cell h.g2]; exact h.r0, by rw [setCells_cell h.g2]; exact h.r1, by rw [setCells_cell h.g2]; exact h.r2,
    frozen_setCells h.rf _ _ _, h.pages.store h.gf (by rw [h.len]; exact ha) hq, by rw [List.length_set]; exact h.len, frozen_setCells h.gf _ _ _, h.ge, h.g1, h.g2⟩
theorem CrSt.byte {w wr : World} {b1 b2 g : Nat} {x1 x2 : Value} {n a i : Nat} {f : List Pg} (h : CrSt w b1 b2 g x1 x2 n f wr) (ha : a < n) (hi : i < 128) (z : Int) : CrSt w b1 b2 g x1 x2 n (f.set a ((pgAt f a).set i z)) (wr.setCell ⟨g, a * 128 + i, none⟩ (.int .u8 z)) := by
  have c : ∀ {b j : Nat}, b ≠ g → (wr.setCell ⟨g, a * 128 + i, none⟩ (.int .u8 z)).cell? ⟨b, j, none⟩ = wr.cell? ⟨b, j, none⟩ := fun {b} {j} hb => World.cell?_setCell_other _ _ _ _ (fun e => hb (Addr.mk.inj e).1.symm)
  exact ⟨h.below.setCell h.ge _, (c h.g1).trans h.a1, (c h.g1).trans h.a2, (c h.g2).trans h.r0, (c h.g2).trans h.r1, (c h.g2).trans h.r2, fun j => by rw [World.frozen?_setCell]; exact h.rf j, h.pages.byte (by rw [h.len]; exact ha) hi z,
    by rw [List.length_set]; exact h.len, fun j => by rw [World.frozen?_setCell]; exact h.gf j, h.ge, h.g1, h.g2⟩
/-- where the crash stands behind k writes -/
def CrRel (w : World) (b1 b2 g : Nat) (x1 x2 : Value) (n m T : Nat) (firm : List Pg) (soft : Soft) (fv i : Value) (wr : World) : Prop :=
  ∃ (k : Nat) (fb : Bool), k ≤ soft.length ∧ i = .int .i64 (k : Int) ∧ fv = .bool fb ∧ (crashK m soft (firm, T) k).2 = (if fb then T else 0) ∧ CrSt w b1 b2 g x1 x2 n (crashK m soft (firm, T) k).1 wr
theorem set_pgAt {f : List Pg} {a : Nat} (h : a < f.length) : f.set a (pgAt f a) = f := by
  have : pgAt f a = f[a] := by rw [pgAt, List.getD_eq_getElem?_getD, List.getElem?_eq_getElem h]; rfl
  rw [this, List.set_getElem_self]
def ByteRel (w : World) (b1 b2 g : Nat) (x1 x2 : Value) (n T a : Nat) (q : Pg) (f : List Pg) (i : Value) (wr : World) : Prop :=
  ∃ j : Nat, j ≤ T ∧ i = .int .i64 (j : Int) ∧ CrSt w b1 b2 g x1 x2 n (f.set a (over j q (pgAt f a))) wr
def BitRel (m e : Nat) (bit j : Value) : Prop := ∃ q : Nat, q ≤ e ∧ j = .int .i64 (q : Int) ∧ bit = .int .u32 ((m / 2 ^ q : Nat) : Int)
theorem crashed_whole {w : World} {F cF n m T k : Nat} {A : Option Addr} {cA : Nat} {W : Option Addr} {cW : Nat} {firm f : List Pg} {soft : Soft} (h : RefRd w F cF A cA W cW n firm soft) (hk : k ≤ soft.length) (hf : f = (crashK m soft (firm, T) k).1) (hT : T ≤ 128) : Whole f := by
  rw [hf]
  exact crashK_whole h.whole (by rw [h.len]; exact h.fits) hT k hk
theorem three_cells {wr : World} {b2 : Nat} {u0 u1 u2 x0 x1 x2 : Value} (r0 : wr.cell? ⟨b2, 0, none⟩ = some u0) (r1 : wr.cell? ⟨b2, 1, none⟩ = some u1) (r2 : wr.cell? ⟨b2, 2, none⟩ = some u2) :
    (((wr.setCell ⟨b2, 0, none⟩ x0).setCell ⟨b2, 1, none⟩ x1).setCell ⟨b2, 2, none⟩ x2).rangeAt b2 0 [x0, x1, x2] := fun i u hu => by
  rw [Nat.zero_add]
  have g0 := World.cell?_setCell_same wr ⟨b2, 0, none⟩ x0 r0
  have g1 := World.cell?_setCell_same (wr.setCell ⟨b2, 0, none⟩ x0) ⟨b2, 1, none⟩ x1 ((World.cell?_setCell_other _ _ _ _ (by simp)).trans r1)
  have g2 := World.cell?_setCell_same ((wr.setCell ⟨b2, 0, none⟩ x0).setCell ⟨b2, 1, none⟩ x1) ⟨b2, 2, none⟩ x2 ((World.cell?_setCell_other _ _ _ _ (by simp)).trans ((World.cell?_setCell_other _ _ _ _ (by simp)).trans r2))
  match i, hu with
  | 0, hu =>
    obtain rfl := Option.some.inj hu
    rw [World.cell?_setCell_other _ _ _ _ (by simp), World.cell?_setCell_other _ _ _ _ (by simp)]
    exact g0
  | 1, hu =>
    obtain rfl := Option.some.inj hu
    rw [World.cell?_setCell_other _ _ _ _ (by simp)]
    exact g1
  | 2, hu =>
    obtain rfl := Option.some.inj hu
    exact g2
  | i + 3, hu => exact absurd hu (by simp)
def NewPgs (n : Nat) (l : List Pg) (w : World) (e : Ending) (w' : World) : Prop :=
  ∃ g cap, e = .returned (refV g cap n none 0 none 0 0) ∧ Pages w' g l ∧ w.heap.size ≤ g ∧ Below w.heap.size w w'
set_option maxRecDepth 100000 in
set_option maxHeartbeats 8000000 in
theorem RefCrash_any {F cF n : Nat} {A : Option Addr} {cA : Nat} {W : Option Addr} {cW : Nat} {firm : List Pg} {soft : Soft} {w : World} (h : RefRd w F cF A cA W cW n firm soft) (hs : soft.length ≤ 1000000) (h1 : 1 ≤ n) (hn : n ≤ 1000) (m : Nat) (hm : m < 4294967296) (t : Int) (ht : t ≤ 9223372036854775807) :
    Calls Tryd.prog 15 #[refV F cF n A cA W cW soft.length, .int .u32 (m : Int), .int .i64 t] w (NewPgs n (crashZ m (leftZ t) soft firm) w) := by
  have HR := Lib.hid h
  clear h
  obtain ⟨T, HTT⟩ : ∃ T, Hid (T = leftZ t) := ⟨_, Lib.hid rfl⟩
  have hT : T < 128 := by rw [HTT.out]; exact leftZ_le _
  obtain ⟨tz, HTZ⟩ : ∃ tz : Int, Hid (tz = if t < 0 then 0 else t) := ⟨_, Lib.hid rfl⟩
  have htz0 : 0 ≤ tz := by rw [HTZ.out]; split <;> omega
  have htz1 : tz ≤ 9223372036854775807 := by rw [HTZ.out]; split <;> omega
  have HKT : Hid (tz % 128 = (T : Int)) := Lib.hid (by rw [HTT.out, HTZ.out]; unfold leftZ; omega)
  rw [← HTT.out]
  go_enter Tryd.func15, Tryd.ntmps15
  go_upto_if 14 with (fail)
  obtain ⟨w0, HW0⟩ : ∃ w0, Hid (w0 = (w.alloc (.cells #[.slice (some ⟨F, 0, none⟩) n cF, .slice A soft.length cA, .slice W soft.length cW] 34)).alloc (.cells #[.slice none 0 0, .slice none 0 0, .slice none 0 0] 34)) := ⟨_, Lib.hid rfl⟩
  obtain ⟨b1, HB1⟩ : ∃ b1, Hid (b1 = w.heap.size) := ⟨_, Lib.hid rfl⟩
  obtain ⟨b2, HB2⟩ : ∃ b2, Hid (b2 = w.heap.size + 1) := ⟨_, Lib.hid rfl⟩
  rw [← HW0.out, ← HB2.out, ← HB1.out]
  go_cut [2] (fun s wx => s = .int .i64 tz ∧ w0 = wx)
  case first =>
    by_cases hneg : t < 0
    · have e : tz = 0 := by rw [HTZ.out, if_pos hneg]
      have hd : decide (t < 0) = true := by simpa using hneg
      subst e
      go_wp2_with fail
      go_meet
      exact ⟨rfl, rfl⟩
    · have e : tz = t := by rw [HTZ.out, if_neg hneg]
      have hd : decide (t < 0) = false := by simpa using hneg
      subst e
      go_wp2_with fail
      go_meet
      exact ⟨rfl, rfl⟩
  case rest =>
    obtain ⟨rfl, rfl⟩ := hcut
    go_upto_region 4 with (fail)
    rw [HKT.out]
    have hh1 : w0.heap[b1]? = some (.cells #[.slice (some ⟨F, 0, none⟩) n cF, .slice A soft.length cA, .slice W soft.length cW] 34 (0, 0)) := by
      rw [HW0.out, HB1.out, Below.heap_alloc _ _ _ (by simp)]
      exact heap_alloc_last w _
    have hh2 : w0.heap[b2]? = some (.cells #[.slice none 0 0, .slice none 0 0, .slice none 0 0] 34 (0, 0)) := by
      rw [HW0.out, HB2.out]
      have := heap_alloc_last (w.alloc (.cells #[.slice (some ⟨F, 0, none⟩) n cF, .slice A soft.length cA, .slice W soft.length cW] 34)) (.cells #[.slice none 0 0, .slice none 0 0, .slice none 0 0] 34)
      simpa using this
    have HBW : Hid (Below w.heap.size w w0) := Lib.hid (by rw [HW0.out]; exact ((Below.refl _ _).alloc (Nat.le_refl _) _).alloc (by simp) _)
    have HSZ : Hid (w0.heap.size = w.heap.size + 2) := Lib.hid (by rw [HW0.out]; simp)
    have c0 : (w0.alloc (.cells #[] 35)).cell? ⟨b1, 0, none⟩ = some (.slice (some ⟨F, 0, none⟩) n cF) := by
      rw [World.cell?_alloc_lt _ _ _ (by show b1 < _; have := HSZ.out; rw [HB1.out]; omega), cell_of_row w0 b1 0 _ _ _ hh1]; rfl
    go_wp2_with (with_reducible refine stop_at (o := ⟨some 20, _, _, _, _, _⟩) ?_)
    obtain ⟨w1, HW1⟩ : ∃ w1, Hid (w1 = w0.alloc (.cells #[] 35)) := ⟨_, Lib.hid rfl⟩
    obtain ⟨g0, HG0⟩ : ∃ g0, Hid (g0 = w0.heap.size) := ⟨_, Lib.hid rfl⟩
    rw [← HW1.out, ← HG0.out]
    clear c0
    have hb1 : Below w0.heap.size w0 w1 := by rw [HW1.out]; exact (Below.refl _ _).alloc (Nat.le_refl _) _
    have HB1W : Hid (Below w.heap.size w w1) := Lib.hid (HBW.out.trans (hb1.mono HBW.out.size))
    have hsz1 : w1.heap.size = w.heap.size + 3 := by rw [HW1.out]; have := HSZ.out; simp; omega
    have HSZ1 := Lib.hid hsz1
    have hx1 : w1.heap[b1]? = _ := (hb1.block b1 (by have := HSZ.out; rw [HB1.out]; omega)).trans hh1
    have hx2 : w1.heap[b2]? = _ := (hb1.block b2 (by have := HSZ.out; rw [HB2.out]; omega)).trans hh2
    have HO1 : Hid (w1.ownsRow w.heap.size 35 128 (.slice (some ⟨g0, 0, none⟩) 0 0) 0 []) := Lib.hid (by
      rw [HW1.out, HG0.out]
      exact World.ownsRow_made w0 #[] 0 (by have := HSZ.out; omega) (by unfold maxLen; omega) rfl)
    have HR1 := Lib.hid (HR.out.carry HB1W.out)
    have HX1 := Lib.hid hx1
    have HX2 := Lib.hid hx2
    clear hb1 hsz1 hx1 hx2 hh1 hh2 HW0 HW1
    obtain ⟨i0, hi0, hz0, hz1, hz2⟩ := info_parts Tryd.infoArr3
    refine wpList_append_lies _ rfl _ _ _ rfl w.heap.size 35 i0 _ 128 128 Tryd.underlying31 hi0 hz0 hz1 hz2 rfl (by omega) (.slice (some ⟨g0, 0, none⟩) 0 0) 0 [] rfl HO1.out ⟨F, 0, none⟩ n cF (pgsCells firm) rfl
      (by rw [pgsCells_length HR.out.whole, HR.out.len]) (fun j u hu => by rw [Addr.add_mid, Nat.zero_add]; exact HR1.out.pages.cellsAt HR.out.whole hu)
      (fun u hu => by
        obtain ⟨p, _, hp⟩ := List.mem_flatMap.1 hu
        exact pgCells_one p u hp)
      (by omega) (by unfold maxLen; omega) (by omega) (by have := HSZ1.out; omega) w1.heap.size rfl ?_
    intro g cap w2 hown hgrow hat hlt2
    have HBG : Hid (b1 ≠ g ∧ b2 ≠ g ∧ w.heap.size ≤ g) := Lib.hid (by
      have e1 := HB1.out
      have e2 := HB2.out
      have e3 := HSZ.out
      have e4 := HSZ1.out
      have e5 := HG0.out
      rcases hat with e | e
      · obtain rfl : g0 = g := by injection e
        omega
      · omega)
    have far : ∀ b, b < w.heap.size + 2 → ∀ j, w2.cell? ⟨b, j, none⟩ = w1.cell? ⟨b, j, none⟩ ∧ w2.frozen? ⟨b, j, none⟩ = w1.frozen? ⟨b, j, none⟩ := fun b hb j => by
      have hne : some b ≠ Value.ownBlock (.slice (some ⟨g0, 0, none⟩) 0 0) := fun e => by
        have : b = g0 := by injection e
        have e3 := HSZ.out
        have e5 := HG0.out
        omega
      have hlt : b < w1.heap.size := by have := HSZ1.out; omega
      exact ⟨hgrow.cell_far ⟨b, j, none⟩ hlt hne, hgrow.frozen_far ⟨b, j, none⟩ hlt hne⟩
    have l1 : b1 < w.heap.size + 2 := by rw [HB1.out]; omega
    have l2 : b2 < w.heap.size + 2 := by rw [HB2.out]; omega
    have hownp : OwnPgs w2 w.heap.size (.slice (some ⟨g, 0, none⟩) n cap) firm := by
      unfold OwnPgs
      rw [HR.out.len]
      simpa using hown
    have H2 : Hid (CrSt w b1 b2 g (.slice A soft.length cA) (.slice W soft.length cW) n firm w2) := Lib.hid
      ⟨HB1W.out.grown hgrow (by have := HSZ1.out; omega) (fun q hq => by
          obtain rfl : g0 = q := (by injection hq)
          have e5 := HG0.out
          have e3 := HSZ.out
          omega),
        by rw [(far b1 l1 1).1, cell_of_row w1 b1 1 _ _ _ HX1.out]; rfl, by rw [(far b1 l1 2).1, cell_of_row w1 b1 2 _ _ _ HX1.out]; rfl,
        by rw [(far b2 l2 0).1, cell_of_row w1 b2 0 _ _ _ HX2.out]; rfl, by rw [(far b2 l2 1).1, cell_of_row w1 b2 1 _ _ _ HX2.out]; rfl, by rw [(far b2 l2 2).1, cell_of_row w1 b2 2 _ _ _ HX2.out]; rfl,
        fun j => by rw [(far b2 l2 j).2]; exact frozen_of_row w1 b2 j _ _ HX2.out, hownp.pages HR.out.whole rfl, HR.out.len, fun j => hown.frozenAt j, HBG.out.2.2, HBG.out.1, HBG.out.2.1⟩
    clear hown hgrow hat hlt2 far l1 l2 hownp hi0 hz0 hz1 hz2 HX1 HX2 HO1 HR1
    have e0n : 0 + n = n := Nat.zero_add n
    rw [e0n]
    clear e0n
    go_wp2_with fail
    go_loopw [8, 9, 10, 11, 12] (fun fv i _ _ _ wr => CrRel w b1 b2 g (.slice A soft.length cA) (.slice W soft.length cW) n m T firm soft fv i wr) (fun _ i _ _ _ _ => soft.length - (intOf i).toNat)
    case atStart => exact ⟨0, true, Nat.zero_le _, rfl, rfl, rfl, H2.out⟩
    case round =>
      obtain ⟨k, fb, hk, rfl, rfl, hleft, hst⟩ := hrel
      have HS := Lib.hid hst
      have HLF := Lib.hid hleft
      clear hst hleft H2
      have a1 := HS.out.a1
      have a2 := HS.out.a2
      by_cases hlt : k < soft.length
      · obtain ⟨x, HX⟩ : ∃ x, Hid (soft[k]? = some x) := ⟨_, Lib.hid (List.getElem?_eq_getElem hlt)⟩
        have hlt' : (k : Int) < (soft.length : Int) := by omega
        have HRR := Lib.hid (HR.out.carry HS.out.below)
        obtain ⟨a, rfl, hca⟩ := HRR.out.at_ k x HX.out
        obtain ⟨b, rfl, hcb⟩ := HRR.out.what k x HX.out
        have HCB := Lib.hid hcb
        have HXE : Hid (soft[k] = (x.1, x.2)) := Lib.hid (by have := HX.out; rw [List.getElem?_eq_getElem hlt] at this; rw [Option.some.inj this])
        have hfit := HR.out.fits.at_ hlt
        rw [HXE.out] at hfit
        have HXL : Hid (x.2.length = 128) := Lib.hid hfit.2
        have hxn : x.1 < n := hfit.1
        have hxi : (x.1 : Int) < (n : Int) := by omega
        obtain ⟨ee, HEE⟩ : ∃ ee, Hid (ee = k % 32) := ⟨_, Lib.hid rfl⟩
        have hke : (k : Int) % 32 = (ee : Int) := by rw [HEE.out]; omega
        obtain ⟨f, HFF⟩ : ∃ f, Hid (f = (crashK m soft (firm, T) k).1) := ⟨_, Lib.hid rfl⟩
        have HSF : Hid (CrSt w b1 b2 g (.slice (some ⟨a, 0, none⟩) soft.length cA) (.slice (some ⟨b, 0, none⟩) soft.length cW) n f wr) := Lib.hid (by rw [HFF.out]; exact HS.out)
        clear hcb hfit HS
        go_wp2_with fail
        obtain ⟨wo, rfl⟩ : ∃ wo : World, wo = wr := ⟨_, rfl⟩
        go_loop [10, 11] (fun bit j => BitRel m ee bit j) (fun _ j => ee - (intOf j).toNat)
        case atStart => exact ⟨0, Nat.zero_le _, rfl, by simp⟩
        case round =>
          obtain ⟨q, hq, rfl, rfl⟩ := hrel
          obtain ⟨y, HY⟩ : ∃ y, Hid (y = m / 2 ^ q) := ⟨_, Lib.hid rfl⟩
          have hy : y < 4294967296 := by rw [HY.out]; exact Nat.lt_of_le_of_lt (Nat.div_le_self _ _) hm
          rw [← HY.out]
          by_cases hqe : q < ee
          · go_wp2_with fail
            go_round
            case rel =>
              refine ⟨q + 1, hqe, by go_num, ?_⟩
              rw [Nat.pow_succ, ← Nat.div_div_eq_div_mul, ← HY.out]
              go_num
            case measure => simp [intOf]; omega
          · obtain rfl : q = ee := by omega
            by_cases hkp : kept m k
            · have HKP := Lib.hid hkp
              have hodd : ((y : Int) % 2 == 1) = true := by
                have : y % 2 = 1 := by rw [HY.out, HEE.out]; exact hkp
                simp; omega
              clear hkp
              go_wp2_with fail
              refine wp_region_tail 12 (by kernel_rfl) (by kernel_rfl) (fun w4 HW4 => ?_)
              simp only [List.take_succ_cons, List.take_zero, List.drop_succ_cons, List.drop_zero]
              have HS4 : Hid (CrSt w b1 b2 g (.slice (some ⟨a, 0, none⟩) soft.length cA) (.slice (some ⟨b, 0, none⟩) soft.length cW) n f w4) := Lib.hid (by rw [HW4.out]; exact HSF.out.drew)
              have HCB4 : Hid (w4.rangeAt b (k * 128) (pgCells x.2)) := Lib.hid (by rw [HW4.out]; exact HCB.out)
              have hca4 : w4.cell? ⟨a, k, none⟩ = some (.int .i64 (x.1 : Int)) := by rw [HW4.out]; exact hca
              have a14 := HS4.out.a1
              have a24 := HS4.out.a2
              clear HW4 HSF HCB hca a1 a2
              iterate 10 still_step
              refine wpStill_load_page rfl _ _ rfl b (k * 128) rfl x.2 HXL.out HCB4.out _ Tryd.underlying35 rfl Tryd.arrSize ?_
              still_step
              refine wpStill_nil ?_
              clear a14 a24 hca4
              go_wp2_with (with_reducible refine stop_at (o := ⟨none, _, _, _, _, _⟩) ?_)
              refine wpList_store_page rfl _ _ _ rfl g (x.1 * 128) x.2 HXL.out rfl rfl (HS4.out.pages.there HS4.out.gf (by rw [HS4.out.len]; exact hxn)) Tryd.arrSize (fun w5 HW5 => ?_)
              have HS5 := Lib.hid (HS4.out.page HW5.out hxn HXL.out)
              clear HW5 HS4
              go_wp2_with fail
              have hcr : crashK m soft (firm, T) (k + 1) = (f.set x.1 x.2, (crashK m soft (firm, T) k).2) := by rw [HFF.out]; exact crashK_kept hlt HXE.out HKP.out
              have HCR := Lib.hid hcr
              clear hcr
              exact ⟨⟨k + 1, fb, hlt, by go_num, rfl, by rw [HCR.out]; exact HLF.out, by rw [HCR.out]; exact HS5.out⟩, by simp [intOf]; omega⟩
            · have heven : ((y : Int) % 2 == 1) = false := by
                have : ¬ y % 2 = 1 := by rw [HY.out, HEE.out]; exact hkp
                simp; omega
              have hcr : crashK m soft (firm, T) (k + 1) = (f.set x.1 (over (if fb then T else 0) x.2 (pgAt f x.1)), 0) := by rw [HFF.out, ← HLF.out]; exact crashK_torn hlt HXE.out hkp
              have HCR := Lib.hid hcr
              clear hcr hkp
              cases fb
              · have HFA : Hid (crashK m soft (firm, T) (k + 1) = (f, 0)) := Lib.hid (by
                  rw [HCR.out, if_neg (by decide), over_zero, set_pgAt (by rw [HSF.out.len]; exact hxn)])
                go_wp2_with fail
                go_loopw [12] (fun i wx => i = .int .i64 0 ∧ wo = wx) (fun _ _ => 0)
                case atStart => exact ⟨rfl, rfl⟩
                case round =>
                  obtain ⟨rfl, rfl⟩ := hrel
                  by_cases hT0 : 0 < T
                  · have hdT : decide (0 < T) = true := by simpa using hT0
                    clear hT0
                    go_wp2_with fail
                    exact ⟨⟨k + 1, false, hlt, by go_num, rfl, by rw [HFA.out]; rfl, by rw [HFA.out]; exact HSF.out⟩, by simp [intOf]; omega⟩
                  · have hdT : decide (0 < T) = false := by simpa using hT0
                    clear hT0
                    go_wp2_with fail
                    exact ⟨⟨k + 1, false, hlt, by go_num, rfl, by rw [HFA.out]; rfl, by rw [HFA.out]; exact HSF.out⟩, by simp [intOf]; omega⟩
              · go_wp2_with fail
                go_loopw [12] (fun i wx => ByteRel w b1 b2 g (.slice (some ⟨a, 0, none⟩) soft.length cA) (.slice (some ⟨b, 0, none⟩) soft.length cW) n T x.1 x.2 f i wx) (fun i _ => T - (intOf i).toNat)
                case atStart => exact ⟨0, Nat.zero_le _, rfl, by rw [over_zero, set_pgAt (by rw [HSF.out.len]; exact hxn)]; exact HSF.out⟩
                case round =>
                  obtain ⟨j, hj, rfl, hst⟩ := hrel
                  have HSJ := Lib.hid hst
                  clear hst
                  by_cases hjT : j < T
                  · have hdT : decide (j < T) = true := by simpa using hjT
                    have hj128 : j < 128 := by omega
                    have hji : (j : Int) < 128 := by omega
                    go_wp2_with fail
                    refine wp_region_tail 16 (by kernel_rfl) (by kernel_rfl) (fun w4 HW4 => ?_)
                    simp only [List.take_succ_cons, List.take_zero, List.drop_succ_cons, List.drop_zero]
                    have HS4 : Hid (CrSt w b1 b2 g (.slice (some ⟨a, 0, none⟩) soft.length cA) (.slice (some ⟨b, 0, none⟩) soft.length cW) n (f.set x.1 (over j x.2 (pgAt f x.1))) w4) := Lib.hid (by rw [HW4.out]; exact HSJ.out.drew)
                    have HR4 := Lib.hid (HR.out.carry HS4.out.below)
                    obtain ⟨a', ea, hca4⟩ := HR4.out.at_ k x HX.out
                    obtain ⟨b', eb, hcb4⟩ := HR4.out.what k x HX.out
                    obtain rfl : a = a' := by injection ea with ea; injection ea
                    obtain rfl : b = b' := by injection eb with eb; injection eb
                    obtain ⟨z, HZ⟩ : ∃ z, Hid (x.2[j]? = some z) := ⟨_, Lib.hid (List.getElem?_eq_getElem (by rw [HXL.out]; exact hj128))⟩
                    have hcz := hcb4 j _ (pgCells_at HZ.out)
                    have a14 := HS4.out.a1
                    have a24 := HS4.out.a2
                    clear HW4 HSJ hcb4 ea eb a1 a2 hca HCB
                    iterate 16 still_step
                    refine wpStill_nil ?_
                    clear a14 a24 hca4 hcz
                    obtain ⟨z0, c1⟩ : ∃ z0 : Value, w4.cell? ⟨g, x.1 * 128 + j, none⟩ = some z0 := by
                      have := HS4.out.pages.there HS4.out.gf (i := x.1) (by rw [HS4.out.len]; exact hxn) j hj128
                      exact Option.isSome_iff_exists.1 this.1
                    have c2 := HS4.out.gf (x.1 * 128 + j)
                    have HS5 : Hid (CrSt w b1 b2 g (.slice (some ⟨a, 0, none⟩) soft.length cA) (.slice (some ⟨b, 0, none⟩) soft.length cW) n (f.set x.1 (over (j + 1) x.2 (pgAt f x.1))) (w4.setCell ⟨g, x.1 * 128 + j, none⟩ (.int .u8 z))) := Lib.hid (by
                      have h5 := HS4.out.byte (a := x.1) (i := j) hxn hj128 z
                      have hfl : x.1 < f.length := by have := HS4.out.len; rw [List.length_set] at this; rw [this]; exact hxn
                      rw [pgAt_set hfl, if_pos rfl, List.set_set] at h5
                      have hzj : x.2[j]'(by rw [HXL.out]; exact hj128) = z := by have := HZ.out; rw [List.getElem?_eq_getElem (by rw [HXL.out]; exact hj128)] at this; exact Option.some.inj this
                      have hpl : (pgAt f x.1).length = 128 := pgAt_length (crashed_whole HR.out (Nat.le_of_lt hlt) HFF.out (by omega)) hfl
                      have ho := over_succ (i := j) (q := x.2) (r := pgAt f x.1) (by rw [HXL.out]; exact hj128) (by rw [hpl]; exact hj128)
                      rw [hzj] at ho
                      rw [ho] at h5
                      exact h5)
                    clear HS4
                    go_wp2_with fail
                    go_roundw
                    case rel => exact ⟨j + 1, hjT, by go_num, HS5.out⟩
                    case measure => simp [intOf]; omega
                  · obtain rfl : j = T := by omega
                    have hdT : decide (j < j) = false := by simp
                    have HFA : Hid (crashK m soft (firm, j) (k + 1) = (f.set x.1 (over j x.2 (pgAt f x.1)), 0)) := Lib.hid (by rw [HCR.out]; rfl)
                    go_wp2_with fail
                    exact ⟨⟨k + 1, false, hlt, by go_num, rfl, by rw [HFA.out]; rfl, by rw [HFA.out]; exact HSJ.out⟩, by simp [intOf]; omega⟩
      · obtain rfl : k = soft.length := by omega
        have r0 := HS.out.r0
        have r1 := HS.out.r1
        have r2 := HS.out.r2
        have rf0 := HS.out.rf 0
        have rf1 := HS.out.rf 1
        have rf2 := HS.out.rf 2
        have hgb : w.heap.size ≤ b2 := by rw [HB2.out]; omega
        have HBW2 : Hid (Below w.heap.size w (((wr.setCell ⟨b2, 0, none⟩ (.slice (some ⟨g, 0, none⟩) n cap)).setCell ⟨b2, 1, none⟩ (.slice none 0 0)).setCell ⟨b2, 2, none⟩ (.slice none 0 0))) := Lib.hid (((HS.out.below.setCell hgb _).setCell hgb _).setCell hgb _)
        have HRW : Hid ((((wr.setCell ⟨b2, 0, none⟩ (.slice (some ⟨g, 0, none⟩) n cap)).setCell ⟨b2, 1, none⟩ (.slice none 0 0)).setCell ⟨b2, 2, none⟩ (.slice none 0 0)).rangeAt b2 0 [.slice (some ⟨g, 0, none⟩) n cap, .slice none 0 0, .slice none 0 0]) := Lib.hid (three_cells r0 r1 r2)
        have HPW : Hid (Pages (((wr.setCell ⟨b2, 0, none⟩ (.slice (some ⟨g, 0, none⟩) n cap)).setCell ⟨b2, 1, none⟩ (.slice none 0 0)).setCell ⟨b2, 2, none⟩ (.slice none 0 0)) g (crashZ m T soft firm)) := Lib.hid (by
          refine HS.out.pages.carry ?_
          have hg2 := Ne.symm HS.out.g2
          rw [setCell_heap_other _ b2 2 _ g hg2, setCell_heap_other _ b2 1 _ g hg2, setCell_heap_other _ b2 0 _ g hg2])
        go_wp2_with fail
        exact bodyPost_ret (results_cell_mid rfl _ _ b2 0 _ _ rfl HRW.out Tryd.underlying34 rfl Tryd.refSize) rfl ⟨g, cap, rfl, HPW.out, HBG.out.2.2, HBW2.out⟩
end Go.Proofs.YtflkhbdipmjmeaaDoor
