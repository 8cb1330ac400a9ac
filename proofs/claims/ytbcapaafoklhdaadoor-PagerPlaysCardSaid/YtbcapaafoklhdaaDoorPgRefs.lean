/-
  PgRefs: several texts in one file. Conditions: as each part says.
-/
import Derived.Test.YtbcapaafoklhdaaDoorMaths
import Derived.Test.YtbcapaafoklhdaaDoorSb
import Derived.Test.YtbcapaafoklhdaaDoorDisks
import Derived.Test.YtbcapaafoklhdaaDoorFrames
/-
  The contracts of the document's own pager for layer 8: Of, Now, Next, Commit, Abort. Conditions: none beyond the premises of each theorem.
-/
namespace Go.Proofs.YtbcapaafoklhdaaDoor
open Go.RowKit

theorem Tryd.infoBool8 : (Tryd.prog.info? 4).map (fun i => (i.zero, i.size, i.bytes)) = some (some (.bool false), 1, 1) := by kernel_rfl
/-- a row of n truth values, that may be written -/
structure BRowN (w : World) (g n : Nat) (f : Nat → Bool) : Prop where
  at_ : ∀ i, i < n → w.cell? ⟨g, i, none⟩ = some (.bool (f i))
  free : ∀ i, w.frozen? ⟨g, i, none⟩ = false
  lt : g < w.heap.size
theorem BRowN.below {w w' : World} {g n B : Nat} {f : Nat → Bool} (h : BRowN w g n f) (hb : Below B w w') (hB : g < B) (hs : w.heap.size ≤ w'.heap.size) : BRowN w' g n f :=
  ⟨fun i hi => (hb.cell (p := ⟨g, i, none⟩) hB).trans (h.at_ i hi), fun i => (hb.frozen (p := ⟨g, i, none⟩) hB).trans (h.free i), Nat.lt_of_lt_of_le h.lt hs⟩
theorem BRowN.carry {w w' : World} {g n : Nat} {f : Nat → Bool} (h : BRowN w g n f) (hb : Below w.heap.size w w') : BRowN w' g n f := h.below hb h.lt hb.size
theorem BRowN.block {w w' : World} {g n : Nat} {f : Nat → Bool} (h : BRowN w g n f) (hb : w'.heap[g]? = w.heap[g]?) (hs : w.heap.size ≤ w'.heap.size) : BRowN w' g n f :=
  ⟨fun i hi => (World.cell?_of_block (w := w) (a := ⟨g, i, none⟩) hb).trans (h.at_ i hi), fun i => (World.frozen?_of_block (w := w) (a := ⟨g, i, none⟩) hb).trans (h.free i), Nat.lt_of_lt_of_le h.lt hs⟩
theorem BRowN.congr {w : World} {g n : Nat} {f h : Nat → Bool} (hr : BRowN w g n f) (hf : ∀ i, i < n → h i = f i) : BRowN w g n h :=
  ⟨fun i hi => by rw [hf i hi]; exact hr.at_ i hi, hr.free, hr.lt⟩
theorem setCell_size (w : World) (p : Addr) (v : Value) : (w.setCell p v).heap.size = w.heap.size := by simp
theorem BRowN.put {w : World} {g n : Nat} {f : Nat → Bool} (hr : BRowN w g n f) {i : Nat} (hi : i < n) (v : Bool) : BRowN (w.setCell ⟨g, i, none⟩ (.bool v)) g n (fun j => if j = i then v else f j) := by
  refine ⟨fun j hj => ?_, fun j => by rw [World.frozen?_setCell]; exact hr.free j, by rw [setCell_size]; exact hr.lt⟩
  show _ = some (Value.bool (if j = i then v else f j))
  by_cases e : j = i
  · subst e
    rw [if_pos rfl]
    exact World.cell?_setCell_same _ _ _ (hr.at_ j hj)
  · rw [if_neg e]
    exact (World.cell?_setCell_other _ _ _ _ (by intro hh; injection hh; omega)).trans (hr.at_ j hj)
theorem BRowN.other {w : World} {g n c : Nat} {f : Nat → Bool} (hr : BRowN w g n f) (hc : c ≠ g) (i : Nat) (v : Value) : BRowN (w.setCell ⟨c, i, none⟩ v) g n f :=
  ⟨fun j hj => (World.cell?_setCell_other _ _ _ _ (by intro hh; injection hh; omega)).trans (hr.at_ j hj), fun j => by rw [World.frozen?_setCell]; exact hr.free j, by rw [setCell_size]; exact hr.lt⟩
theorem BRowN.drew {w : World} {g n : Nat} {f : Nat → Bool} (h : BRowN w g n f) : BRowN w.drew g n f := ⟨h.at_, h.free, h.lt⟩
/-- what make lays -/
theorem made_bools {w : World} {g n : Nat} {M : Array Value} (hM : M = madeCells #[Value.bool false] (n * 1)) (hb : w.heap[g]? = some (.cells M 4 (0, 0))) : BRowN w g n (fun _ => false) := by
  refine ⟨fun i hi => ?_, fun i => frozen_of_row w g i _ _ hb, (Array.getElem?_eq_some_iff.1 hb).1⟩
  rw [cell_of_row w g i M _ _ hb, hM]
  simp [madeCells, hi, Nat.mod_one]
/-- the document's pager as a value -/
def rpArr (n a b c : Nat) (root : Int) (gen : Nat) : Array Value := #[.slice (some ⟨a, 0, none⟩) n n, .slice (some ⟨b, 0, none⟩) n n, .slice (some ⟨c, 0, none⟩) n n, .int .i64 root, .int .u32 (gen : Int)]
abbrev rpV (n a b c : Nat) (root : Int) (gen : Nat) : Value := .agg (rpArr n a b c root gen)
/-- its three rows -/
structure Rows3 (w : World) (n a b c : Nat) (fu fn fg : Nat → Bool) : Prop where
  ru : BRowN w a n fu
  rn : BRowN w b n fn
  rg : BRowN w c n fg
  ab : a ≠ b
  ac : a ≠ c
  bc : b ≠ c
theorem Rows3.carry {w w' : World} {n a b c : Nat} {fu fn fg : Nat → Bool} (h : Rows3 w n a b c fu fn fg) (hb : Below w.heap.size w w') : Rows3 w' n a b c fu fn fg := ⟨h.ru.carry hb, h.rn.carry hb, h.rg.carry hb, h.ab, h.ac, h.bc⟩
theorem Rows3.drew {w : World} {n a b c : Nat} {fu fn fg : Nat → Bool} (h : Rows3 w n a b c fu fn fg) : Rows3 w.drew n a b c fu fn fg := ⟨h.ru.drew, h.rn.drew, h.rg.drew, h.ab, h.ac, h.bc⟩
/-- new rows -/
def OfPost (n : Nat) (root : Int) (gen : Nat) (fu : Nat → Bool) (w : World) (e : Ending) (w' : World) : Prop :=
  ∃ a b c, e = .returned (rpV n a b c root gen) ∧ Rows3 w' n a b c fu (fun _ => false) (fun _ => false) ∧ w.heap.size ≤ a ∧ w.heap.size ≤ b ∧ w.heap.size ≤ c ∧ Below w.heap.size w w'
theorem Tryd.zeroRp (w : World) : (zeroValue 37).run Tryd.prog w = .ok (.agg #[.slice none 0 0, .slice none 0 0, .slice none 0 0, .int .i64 0, .int .u32 0]) w := by kernel_rfl
theorem Tryd.rpSize : (Tryd.prog.info? 37).map (·.size) = some 5 := by kernel_rfl
/-- a result that lies in a cell -/
theorem results_rp {fn : Func} {p : Tmp} (h : fn.results = #[.cell p 37]) (tmps : Array Value) (w : World) (g n a b c : Nat) (root : Int) (gen : Nat)
    (hp : tmps.getD p undef = .pointer (some ⟨g, 0, none⟩)) (hc : w.heap[g]? = some (.cells (rpArr n a b c root gen) 37 (0, 0))) : (results fn tmps).run Tryd.prog w = .ok (rpV n a b c root gen) w := by
  have hp' : tmps[p]?.getD undef = .pointer (some ⟨g, 0, none⟩) := by simpa using hp
  have hl := run_loadVar_row w g 37 37 (rpArr n a b c root gen) (0, 0) _ hc Tryd.underlying37 rfl Tryd.rpSize
  simp [results, h, hp', asAddr, hl]
/-- what Of lays, in whatever order -/
def ofW (w : World) (M : Array Value) (n a b c gen : Nat) : World := ((((w.alloc (.cells (rpArr n a b c 0 gen) 37)).alloc (.cells M 4)).alloc (.cells M 4)).alloc (.cells M 4)).drew
theorem ofW_at {w : World} {M : Array Value} {n a b c gen : Nat} : (ofW w M n a b c gen).heap[w.heap.size]? = some (.cells (rpArr n a b c 0 gen) 37 (0, 0)) := by
  show ((((w.alloc _).alloc _).alloc _).alloc _).heap[_]? = _
  rw [Below.heap_alloc _ _ _ (by simp <;> omega), Below.heap_alloc _ _ _ (by simp <;> omega), Below.heap_alloc _ _ _ (by simp)]
  exact heap_alloc_last w _
theorem ofW_row {w : World} {M : Array Value} {n a b c gen : Nat} (k : Nat) (h : k = w.heap.size + 1 ∨ k = w.heap.size + 2 ∨ k = w.heap.size + 3) : (ofW w M n a b c gen).heap[k]? = some (.cells M 4 (0, 0)) := by
  show ((((w.alloc _).alloc _).alloc _).alloc _).heap[_]? = _
  rcases h with rfl | rfl | rfl
  · rw [Below.heap_alloc _ _ _ (by simp <;> omega), Below.heap_alloc _ _ _ (by simp)]
    have := heap_alloc_last (w.alloc (.cells (rpArr n a b c 0 gen) 37)) (.cells M 4)
    simpa using this
  · rw [Below.heap_alloc _ _ _ (by simp)]
    have := heap_alloc_last ((w.alloc (.cells (rpArr n a b c 0 gen) 37)).alloc (.cells M 4)) (.cells M 4)
    simpa using this
  · have := heap_alloc_last (((w.alloc (.cells (rpArr n a b c 0 gen) 37)).alloc (.cells M 4)).alloc (.cells M 4)) (.cells M 4)
    simpa using this
theorem ofW_below {w : World} {M : Array Value} {n a b c gen : Nat} : Below w.heap.size w (ofW w M n a b c gen) :=
  ((((((Below.refl _ _).alloc (Nat.le_refl _) _).alloc (by simp) _).alloc (by simp <;> omega) _).alloc (by simp <;> omega) _)).drew
theorem of_post {w : World} {M : Array Value} {n a b c gen : Nat} (hM : M = madeCells #[Value.bool false] (n * 1)) (h : (a = w.heap.size + 1 ∨ a = w.heap.size + 2 ∨ a = w.heap.size + 3) ∧ (b = w.heap.size + 1 ∨ b = w.heap.size + 2 ∨ b = w.heap.size + 3) ∧ (c = w.heap.size + 1 ∨ c = w.heap.size + 2 ∨ c = w.heap.size + 3) ∧ a ≠ b ∧ a ≠ c ∧ b ≠ c) :
    OfPost n 0 gen (fun _ => false) w (.returned (rpV n a b c 0 gen)) (ofW w M n a b c gen) :=
  ⟨a, b, c, rfl, ⟨made_bools hM (ofW_row a h.1), made_bools hM (ofW_row b h.2.1), made_bools hM (ofW_row c h.2.2.1), h.2.2.2.1, h.2.2.2.2.1, h.2.2.2.2.2⟩, by omega, by omega, by omega, ofW_below⟩
set_option maxRecDepth 100000 in
set_option maxHeartbeats 4000000 in
theorem RefOf_any (n gen : Nat) (h2 : n ≤ 240) (w : World) : Calls Tryd.prog 13 #[.int .i64 n, .int .u32 gen] w (OfPost n 0 gen (fun _ => false) w) := by
  have hz := Tryd.zeroRp
  go_enter Tryd.func13, Tryd.ntmps13
  go_upto_region 1 with (fail)
  obtain ⟨M, HM⟩ : ∃ M, Hid (M = madeCells #[Value.bool false] (n * 1)) := ⟨_, Lib.hid rfl⟩
  obtain ⟨i0, hi0, hz0, hz1, hz2⟩ := info_parts Tryd.infoBool8
  have hmk : ∀ w', (Instr.makeSlice 34 (.int .i64 (n : Int)) (.int .i64 (n : Int))).run Tryd.prog w' = .ok (.slice (some ⟨w'.heap.size, 0, none⟩) n n) (w'.alloc (.cells M 4)) := fun w' => by
    have := run_make (P := Tryd.prog) w' 34 4 i0 _ Tryd.underlying34 hi0 hz0 .i64 .i64 n n (Int.natCast_nonneg n) (Int.le_refl _) (by rw [hz2]; omega) (by omega)
    rw [this, HM.out, hz1]
    rfl
  clear hi0 hz0 hz1 hz2
  go_region
  all_goals
    go_wp2_with fail
    refine bodyPost_ret (results_rp rfl _ (ofW w M n _ _ _ gen) w.heap.size n _ _ _ 0 gen rfl ofW_at) rfl (of_post HM.out ?_)
    omega
/-- the document's pager in a block of the call's own -/
structure RpAt (w : World) (g n a b c : Nat) (root : Int) (gen : Nat) : Prop where
  h0 : w.cell? ⟨g, 0, none⟩ = some (.slice (some ⟨a, 0, none⟩) n n)
  h1 : w.cell? ⟨g, 1, none⟩ = some (.slice (some ⟨b, 0, none⟩) n n)
  h2 : w.cell? ⟨g, 2, none⟩ = some (.slice (some ⟨c, 0, none⟩) n n)
  h3 : w.cell? ⟨g, 3, none⟩ = some (.int .i64 root)
  h4 : w.cell? ⟨g, 4, none⟩ = some (.int .u32 (gen : Int))
  free : ∀ j, w.frozen? ⟨g, j, none⟩ = false
theorem RpAt.new (w : World) (n a b c : Nat) (root : Int) (gen : Nat) (t : TypeId) : RpAt (w.alloc (.cells (rpArr n a b c root gen) t)) w.heap.size n a b c root gen := by
  have hh := heap_alloc_last w (.cells (rpArr n a b c root gen) t)
  exact ⟨by rw [cell_of_row _ _ 0 _ _ _ hh]; rfl, by rw [cell_of_row _ _ 1 _ _ _ hh]; rfl, by rw [cell_of_row _ _ 2 _ _ _ hh]; rfl, by rw [cell_of_row _ _ 3 _ _ _ hh]; rfl, by rw [cell_of_row _ _ 4 _ _ _ hh]; rfl, fun j => frozen_of_row _ _ j _ _ hh⟩
theorem RpAt.lt {w : World} {g n a b c : Nat} {root : Int} {gen : Nat} (h : RpAt w g n a b c root gen) : g < w.heap.size := lt_of_cell h.h0
theorem RpAt.below {w w' : World} {g n a b c B : Nat} {root : Int} {gen : Nat} (h : RpAt w g n a b c root gen) (hb : Below B w w') (hB : g < B) : RpAt w' g n a b c root gen :=
  ⟨(hb.cell (p := ⟨g, 0, none⟩) hB).trans h.h0, (hb.cell (p := ⟨g, 1, none⟩) hB).trans h.h1, (hb.cell (p := ⟨g, 2, none⟩) hB).trans h.h2, (hb.cell (p := ⟨g, 3, none⟩) hB).trans h.h3, (hb.cell (p := ⟨g, 4, none⟩) hB).trans h.h4, fun j => (hb.frozen (p := ⟨g, j, none⟩) hB).trans (h.free j)⟩
theorem RpAt.carry {w w' : World} {g n a b c : Nat} {root : Int} {gen : Nat} (h : RpAt w g n a b c root gen) (hb : Below w.heap.size w w') : RpAt w' g n a b c root gen := h.below hb h.lt
theorem RpAt.block {w w' : World} {g n a b c : Nat} {root : Int} {gen : Nat} (h : RpAt w g n a b c root gen) (hb : w'.heap[g]? = w.heap[g]?) : RpAt w' g n a b c root gen :=
  ⟨(World.cell?_of_block (w := w) (a := ⟨g, 0, none⟩) hb).trans h.h0, (World.cell?_of_block (w := w) (a := ⟨g, 1, none⟩) hb).trans h.h1, (World.cell?_of_block (w := w) (a := ⟨g, 2, none⟩) hb).trans h.h2, (World.cell?_of_block (w := w) (a := ⟨g, 3, none⟩) hb).trans h.h3, (World.cell?_of_block (w := w) (a := ⟨g, 4, none⟩) hb).trans h.h4, fun j => (World.frozen?_of_block (w := w) (a := ⟨g, j, none⟩) hb).trans (h.free j)⟩
theorem RpAt.drew {w : World} {g n a b c : Nat} {root : Int} {gen : Nat} (h : RpAt w g n a b c root gen) : RpAt w.drew g n a b c root gen := ⟨h.h0, h.h1, h.h2, h.h3, h.h4, h.free⟩
theorem RpAt.other {w : World} {g n a b c k : Nat} {root : Int} {gen : Nat} (h : RpAt w g n a b c root gen) (hk : k ≠ g) (i : Nat) (v : Value) : RpAt (w.setCell ⟨k, i, none⟩ v) g n a b c root gen := by
  have e : ∀ j, (w.setCell ⟨k, i, none⟩ v).cell? ⟨g, j, none⟩ = w.cell? ⟨g, j, none⟩ := fun j => World.cell?_setCell_other _ _ _ _ (by intro hh; injection hh; omega)
  exact ⟨(e 0).trans h.h0, (e 1).trans h.h1, (e 2).trans h.h2, (e 3).trans h.h3, (e 4).trans h.h4, fun j => by rw [World.frozen?_setCell]; exact h.free j⟩
/-- all of it, as a range -/
theorem RpAt.range {w : World} {g n a b c : Nat} {root : Int} {gen : Nat} (h : RpAt w g n a b c root gen) : w.rangeAt g 0 (rpArr n a b c root gen).toList := fun j v hv => by
  rw [Nat.zero_add]
  match j, hv with
  | 0, hv => obtain rfl := Option.some.inj hv; exact h.h0
  | 1, hv => obtain rfl := Option.some.inj hv; exact h.h1
  | 2, hv => obtain rfl := Option.some.inj hv; exact h.h2
  | 3, hv => obtain rfl := Option.some.inj hv; exact h.h3
  | 4, hv => obtain rfl := Option.some.inj hv; exact h.h4
/-- is a sector used now? -/
def nowZ (n : Nat) (fu fn fg : Nat → Bool) (i : Int) : Bool := decide (2 ≤ i ∧ i < n) && (fu i.toNat || fn i.toNat) && !fg i.toNat
theorem nowZ_out {n : Nat} {fu fn fg : Nat → Bool} {i : Int} (h : ¬ (2 ≤ i ∧ i < n)) : nowZ n fu fn fg i = false := by
  unfold nowZ
  rw [decide_eq_false h]
  rfl
theorem nowZ_in {n : Nat} {fu fn fg : Nat → Bool} {k : Nat} (h1 : 2 ≤ k) (h2 : k < n) : nowZ n fu fn fg (k : Int) = ((fu k || fn k) && !fg k) := by
  unfold nowZ
  rw [decide_eq_true (by omega), Bool.true_and, Int.toNat_natCast]
set_option maxRecDepth 100000 in
theorem RefNow_any {w : World} {n a b c : Nat} {fu fn fg : Nat → Bool} (h : Rows3 w n a b c fu fn fg) (root : Int) (gen : Nat) (i : Int) :
    Calls Tryd.prog 14 #[rpV n a b c root gen, .int .i64 i] w fun e w' => e = .returned (.bool (nowZ n fu fn fg i)) ∧ Below w.heap.size w w' := by
  have hsz := (show (rpArr n a b c root gen).size = 5 from rfl)
  obtain ⟨V, HV⟩ : ∃ V, Hid (V = nowZ n fu fn fg i) := ⟨_, Lib.hid rfl⟩
  rw [← HV.out]
  obtain ⟨x, HX⟩ : ∃ x, Hid (x = rpArr n a b c root gen) := ⟨_, Lib.hid rfl⟩
  obtain ⟨g, HG⟩ : ∃ g, Hid (g = w.heap.size) := ⟨_, Lib.hid rfl⟩
  obtain ⟨w1, HW⟩ : ∃ w1, Hid (w1 = w.alloc (.cells x 37)) := ⟨_, Lib.hid rfl⟩
  have HB1 : Hid (Below w.heap.size w w1) := Lib.hid (by rw [HW.out]; exact (Below.refl _ _).alloc (Nat.le_refl _) _)
  have HP : Hid (RpAt w1 g n a b c root gen) := Lib.hid (by rw [HW.out, HG.out, HX.out]; exact RpAt.new _ _ _ _ _ _ _ _)
  have HR : Hid (Rows3 w1 n a b c fu fn fg) := Lib.hid (h.carry HB1.out)
  show Calls Tryd.prog 14 #[.agg (rpArr n a b c root gen), .int .i64 i] w _
  rw [← HX.out]
  clear h hsz
  have c0 := HP.out.h0
  have c1 := HP.out.h1
  have c2 := HP.out.h2
  go_enter Tryd.func14, Tryd.ntmps14
  go_upto_region 1 with (fail)
  rw [← HW.out, ← HG.out]
  clear HW
  by_cases h2 : 2 ≤ i
  · by_cases hn : i < (n : Int)
    · obtain ⟨k, rfl⟩ : ∃ k : Nat, i = (k : Int) := ⟨i.toNat, by omega⟩
      have hk2 : 2 ≤ k := by omega
      have hkn : k < n := by omega
      have hV := HV.out
      rw [nowZ_in hk2 hkn] at hV
      have r0 := HR.out.ru.at_ k hkn
      have r1 := HR.out.rn.at_ k hkn
      have r2 := HR.out.rg.at_ k hkn
      generalize fu k = u at r0 hV
      generalize fn k = v at r1 hV
      generalize fg k = z at r2 hV
      clear hk2 HV
      cases u <;> cases v <;> cases z
      all_goals
        obtain rfl := hV
        go_wp2_with fail
        go_ret
        exact ⟨rfl, HB1.out⟩
    · obtain rfl : V = false := by rw [HV.out, nowZ_out (by omega)]
      have hd : decide (i < (n : Int)) = false := decide_eq_false hn
      go_wp2_with fail
      go_ret
      exact ⟨rfl, HB1.out⟩
  · obtain rfl : V = false := by rw [HV.out, nowZ_out (by omega)]
    have hd : decide (2 ≤ i) = false := decide_eq_false h2
    go_wp2_with fail
    go_ret
    exact ⟨rfl, HB1.out⟩
end Go.Proofs.YtbcapaafoklhdaaDoor

/-
  The contract of the document's own Next for layer 8. Conditions: none beyond the premises of each theorem.
-/
namespace Go.Proofs.YtbcapaafoklhdaaDoor
open Go.RowKit

/-- the next page's sector, or none -/
def NextIs (n : Nat) (fu fn : Nat → Bool) (r : Int) : Prop :=
  (∃ k : Nat, r = (k : Int) ∧ 2 ≤ k ∧ k < n ∧ (fu k || fn k) = false ∧ ∀ m, 2 ≤ m → m < k → (fu m || fn m) = true) ∨ (r = -1 ∧ ∀ m, 2 ≤ m → m < n → (fu m || fn m) = true)
def NextRel (n : Nat) (fu fn : Nat → Bool) (i : Value) : Prop := ∃ k : Nat, 2 ≤ k ∧ k ≤ n ∧ i = .int .i64 (k : Int) ∧ ∀ m, 2 ≤ m → m < k → (fu m || fn m) = true
set_option maxRecDepth 100000 in
theorem RefNext_any {w : World} {n a b c : Nat} {fu fn fg : Nat → Bool} (h : Rows3 w n a b c fu fn fg) (hn2 : 2 ≤ n) (h240 : n ≤ 240) (root : Int) (gen : Nat) :
    Calls Tryd.prog 25 #[rpV n a b c root gen] w fun e w' => ∃ r : Int, e = .returned (.int .i64 r) ∧ NextIs n fu fn r ∧ Below w.heap.size w w' := by
  obtain ⟨x, HX⟩ : ∃ x, Hid (x = rpArr n a b c root gen) := ⟨_, Lib.hid rfl⟩
  obtain ⟨g, HG⟩ : ∃ g, Hid (g = w.heap.size) := ⟨_, Lib.hid rfl⟩
  obtain ⟨w1, HW⟩ : ∃ w1, Hid (w1 = w.alloc (.cells x 37)) := ⟨_, Lib.hid rfl⟩
  have HB1 : Hid (Below w.heap.size w w1) := Lib.hid (by rw [HW.out]; exact (Below.refl _ _).alloc (Nat.le_refl _) _)
  have HP : Hid (RpAt w1 g n a b c root gen) := Lib.hid (by rw [HW.out, HG.out, HX.out]; exact RpAt.new _ _ _ _ _ _ _ _)
  have HR : Hid (Rows3 w1 n a b c fu fn fg) := Lib.hid (h.carry HB1.out)
  show Calls Tryd.prog 25 #[.agg (rpArr n a b c root gen)] w _
  rw [← HX.out]
  clear h
  have c0 := HP.out.h0
  have c1 := HP.out.h1
  go_enter Tryd.func25, Tryd.ntmps25
  go_upto_region 1 with (fail)
  rw [← HW.out, ← HG.out]
  clear HW
  go_wp2_with fail
  go_loop [3] (fun i => NextRel n fu fn i) (fun i => n - (intOf i).toNat)
  case atStart => exact ⟨2, Nat.le_refl _, hn2, rfl, fun m h1 h2 => absurd h1 (by omega)⟩
  case round =>
    obtain ⟨k, hk2, hkn, rfl, hall⟩ := hrel
    have HA := Lib.hid hall
    clear hall
    by_cases hlt : k < n
    · have hlt2 : (k : Int) < (n : Int) := by omega
      have r0 := HR.out.ru.at_ k hlt
      have r1 := HR.out.rn.at_ k hlt
      cases hu : fu k with
      | true =>
        have HU := Lib.hid hu
        rw [hu] at r0
        clear hu
        go_wp2_with fail
        go_round
        case rel =>
          refine ⟨k + 1, by omega, hlt, by go_num, fun m h1 h2 => ?_⟩
          by_cases e : m = k
          · rw [e, HU.out]; rfl
          · exact HA.out m h1 (by omega)
        case measure => simp [intOf]; omega
      | false =>
        have HU := Lib.hid hu
        rw [hu] at r0
        clear hu
        cases hv : fn k with
        | true =>
          have HV := Lib.hid hv
          rw [hv] at r1
          clear hv
          go_wp2_with fail
          go_round
          case rel =>
            refine ⟨k + 1, by omega, hlt, by go_num, fun m h1 h2 => ?_⟩
            by_cases e : m = k
            · rw [e, HU.out, HV.out]; rfl
            · exact HA.out m h1 (by omega)
          case measure => simp [intOf]; omega
        | false =>
          have HV := Lib.hid hv
          rw [hv] at r1
          clear hv
          go_wp2_with fail
          go_ret
          exact ⟨(k : Int), rfl, .inl ⟨k, rfl, hk2, hlt, by rw [HU.out, HV.out]; rfl, HA.out⟩, HB1.out⟩
    · obtain rfl : k = n := by omega
      go_wp2_with fail
      go_ret
      exact ⟨-1, rfl, .inr ⟨rfl, HA.out⟩, HB1.out⟩
end Go.Proofs.YtbcapaafoklhdaaDoor

/-
  The contracts of the document's own Commit and Abort for layer 8. Conditions: none beyond the premises of each theorem.
-/
namespace Go.Proofs.YtbcapaafoklhdaaDoor
open Go.RowKit

def zeroRp : List Value := [.slice none 0 0, .slice none 0 0, .slice none 0 0, .int .i64 0, .int .u32 0]
/-- a result's block, not written yet -/
structure ROwn (w : World) (r : Nat) : Prop where
  at_ : w.rangeAt r 0 zeroRp
  free : ∀ j, w.frozen? ⟨r, j, none⟩ = false
theorem ROwn.new (w : World) (t : TypeId) : ROwn (w.alloc (.cells zeroRp.toArray t)) w.heap.size := by
  have hh := heap_alloc_last w (.cells zeroRp.toArray t)
  refine ⟨fun j u hu => ?_, fun j => frozen_of_row _ _ j _ _ hh⟩
  rw [cell_of_row _ w.heap.size (0 + j) _ _ _ hh, Nat.zero_add]
  simpa using hu
theorem ROwn.lt {w : World} {r : Nat} (h : ROwn w r) : r < w.heap.size := below_block (h.at_ 0 _ rfl)
theorem ROwn.carry {w w' : World} {r : Nat} (h : ROwn w r) (hb : Below w.heap.size w w') : ROwn w' r := ⟨range_below h.at_ hb, fun j => (hb.frozen (p := ⟨r, j, none⟩) h.lt).trans (h.free j)⟩
theorem ROwn.drew {w : World} {r : Nat} (h : ROwn w r) : ROwn w.drew r := ⟨h.at_, h.free⟩
theorem ROwn.other {w : World} {r c : Nat} (h : ROwn w r) (hc : c ≠ r) (i : Nat) (v : Value) : ROwn (w.setCell ⟨c, i, none⟩ v) r :=
  ⟨fun j u hu => by rw [World.cell?_setCell_other _ _ _ _ (by intro hh; injection hh; omega)]; exact h.at_ j u hu, fun j => by rw [World.frozen?_setCell]; exact h.free j⟩
theorem ROwn.there {w : World} {r : Nat} (h : ROwn w r) : w.there r 0 5 := fun j hj => ⟨by rw [h.at_ j _ (List.getElem?_eq_getElem (l := zeroRp) hj)]; rfl, h.free _⟩
/-- the document's pager loaded, stored whole -/
theorem rpOne {n a b c : Nat} {root : Int} {gen : Nat} : ∀ v ∈ (rpArr n a b c root gen).toList, v.oneCell' = true := by
  intro v hv
  simp only [rpArr, List.mem_cons, List.not_mem_nil, or_false] at hv
  rcases hv with rfl | rfl | rfl | rfl | rfl <;> rfl
theorem rpAll {n a b c : Nat} {root : Int} {gen : Nat} : (rpArr n a b c root gen).all (·.oneCell') = true := all_oneCell_toArray (cs := (rpArr n a b c root gen).toList) rpOne
theorem loadRp {w : World} {g n a b c : Nat} {root : Int} {gen : Nat} (h : RpAt w g n a b c root gen) : (loadVar 37 ⟨g, 0, none⟩).run Tryd.prog w = .ok (rpV n a b c root gen) w :=
  run_loadVar_mid w g 0 37 (rpArr n a b c root gen).toList _ h.range Tryd.underlying37 rfl Tryd.rpSize
theorem wpList_load_rp {ops : Array Oper} {rest : List Oper} {op : Oper} {a : Act} {w : World} {Q : Exit → Act → World → Prop} (hw : Region.wanted op (yielded ops a.tmps) = true) (x : Operand) (ho : op.op = .load 37 x)
    {g n p q r : Nat} {root : Int} {gen : Nat} (hx : a.eval x = .pointer (some ⟨g, 0, none⟩)) (hc : RpAt w g n p q r root gen)
    (h : wpList Tryd.prog ops Q rest (a.put op.dst (rpV n p q r root gen)) w) : wpList Tryd.prog ops Q (op :: rest) a w :=
  wpList_step fun _ hK => by
    rw [if_pos hw]
    exact wp_load_mid 37 x ho g 0 hx (rpArr n p q r root gen).toList _ hc.range Tryd.underlying37 rfl Tryd.rpSize (hK _ _ h)
theorem yieldsIf_rp {ops : Array Oper} {S : World → Prop} {op : Oper} {a : Act} (hw : Region.wanted op (yielded ops a.tmps) = true) (x : Operand) (ho : op.op = .load 37 x)
    {g n p q r : Nat} {root : Int} {gen : Nat} (hx : a.eval x = .pointer (some ⟨g, 0, none⟩)) (hS : ∀ w, S w → RpAt w g n p q r root gen) : YieldsIf Tryd.prog ops S op (rpV n p q r root gen) a :=
  yieldsIf_load_mid hw 37 x ho g 0 hx (rpArr n p q r root gen).toList _ (fun w h => (hS w h).range) Tryd.underlying37 rfl Tryd.rpSize
theorem RpAt.laid {w : World} {g n a b c : Nat} {root : Int} {gen : Nat} (ht : w.there g 0 5) (hf : ∀ j, w.frozen? ⟨g, j, none⟩ = false) : RpAt (w.setCells g 0 (rpArr n a b c root gen).toList) g n a b c root gen := by
  have h := World.rangeAt_setCells_same w g 0 (rpArr n a b c root gen).toList ht
  have e : ∀ j v, (rpArr n a b c root gen).toList[j]? = some v → (w.setCells g 0 (rpArr n a b c root gen).toList).cell? ⟨g, j, none⟩ = some v := fun j v hv => by
    have := h j v hv
    rwa [Nat.zero_add] at this
  exact ⟨e 0 _ rfl, e 1 _ rfl, e 2 _ rfl, e 3 _ rfl, e 4 _ rfl, fun j => by rw [World.frozen?_setCells]; exact hf j⟩
theorem RpAt.there {w : World} {g n a b c : Nat} {root : Int} {gen : Nat} (h : RpAt w g n a b c root gen) : w.there g 0 5 := fun j hj => ⟨by rw [h.range j _ (List.getElem?_eq_getElem (l := (rpArr n a b c root gen).toList) hj)]; rfl, h.free _⟩
/-- a store of the whole: the world behind it is a letter -/
theorem wpList_store_rp {ops : Array Oper} {rest : List Oper} {op : Oper} {a : Act} {w : World} {Q : Exit → Act → World → Prop} (hgd : op.guard = none) (x y : Operand) (ho : op.op = .store 37 x y)
    {g n p q r : Nat} {root : Int} {gen : Nat} (hx : a.eval x = .pointer (some ⟨g, 0, none⟩)) (hy : a.eval y = rpV n p q r root gen) (ht : w.there g 0 5) (hf : ∀ j, w.frozen? ⟨g, j, none⟩ = false)
    (h : ∀ w2, Hid (w2 = w.setCells g 0 (rpArr n p q r root gen).toList) → Hid (RpAt w2 g n p q r root gen) → wpList Tryd.prog ops Q rest (a.put op.dst undef) w2) : wpList Tryd.prog ops Q (op :: rest) a w :=
  wpList_store_mid hgd _ x y ho g 0 (rpArr n p q r root gen) hx hy ht Tryd.rpSize rpAll (h _ (Lib.hid rfl) (Lib.hid (RpAt.laid ht hf)))
theorem results_rp2 {fn : Func} {p : Tmp} (h : fn.results = #[.cell p 37]) (tmps : Array Value) {w : World} {g n a b c : Nat} {root : Int} {gen : Nat}
    (hp : tmps.getD p undef = .pointer (some ⟨g, 0, none⟩)) (hc : RpAt w g n a b c root gen) : (results fn tmps).run Tryd.prog w = .ok (rpV n a b c root gen) w := by
  have hp' : tmps[p]?.getD undef = .pointer (some ⟨g, 0, none⟩) := by simpa using hp
  simp [results, h, hp', asAddr, loadRp hc]
theorem Rows3.cells {w : World} {n a b c h o : Nat} {vs : List Value} {fu fn fg : Nat → Bool} (r : Rows3 w n a b c fu fn fg) (h1 : h ≠ a) (h2 : h ≠ b) (h3 : h ≠ c) : Rows3 (w.setCells h o vs) n a b c fu fn fg := by
  have e : ∀ k, h ≠ k → (w.setCells h o vs).heap[k]? = w.heap[k]? := fun k hk => setCells_block h (Ne.symm hk) _ _ _
  have hs : w.heap.size ≤ (w.setCells h o vs).heap.size := (below_cells_of (B := 0) (w0 := w) (w := w) ⟨rfl, rfl, rfl, Nat.le_refl _, fun _ h => absurd h (Nat.not_lt_zero _)⟩ rfl (Nat.zero_le _)).size
  exact ⟨r.ru.block (e a h1) hs, r.rn.block (e b h2) hs, r.rg.block (e c h3) hs, r.ab, r.ac, r.bc⟩
/-- how far Commit has come -/
structure RCSt (w : World) (g r h n a b c : Nat) (root : Int) (gen : Nat) (fu fn fg : Nat → Bool) (p q s : Nat) (gen2 : Nat) (f : Nat → Bool) (wr : World) : Prop where
  src : RpAt wr g n a b c root gen
  rows : Rows3 wr n a b c fu fn fg
  res : ROwn wr r
  out : RpAt wr h n p q s 0 gen2
  news : Rows3 wr n p q s f (fun _ => false) (fun _ => false)
  below : Below w.heap.size w wr
theorem RCSt.carry {w : World} {g r h n a b c : Nat} {root : Int} {gen : Nat} {fu fn fg : Nat → Bool} {p q s gen2 : Nat} {f : Nat → Bool} {wr w' : World} (x : RCSt w g r h n a b c root gen fu fn fg p q s gen2 f wr) (hb : Below wr.heap.size wr w') : RCSt w g r h n a b c root gen fu fn fg p q s gen2 f w' :=
  ⟨x.src.carry hb, x.rows.carry hb, x.res.carry hb, x.out.carry hb, x.news.carry hb, x.below.trans (hb.mono x.below.size)⟩
theorem RCSt.drew {w : World} {g r h n a b c : Nat} {root : Int} {gen : Nat} {fu fn fg : Nat → Bool} {p q s gen2 : Nat} {f : Nat → Bool} {wr : World} (x : RCSt w g r h n a b c root gen fu fn fg p q s gen2 f wr) : RCSt w g r h n a b c root gen fu fn fg p q s gen2 f wr.drew := x.carry (Below.refl _ _).drew
/-- the blocks are unlike -/
structure RCNe (w : World) (g r h a b c p q s : Nat) : Prop where
  pg : g ≠ p
  pr : r ≠ p
  ph : h ≠ p
  pa : a ≠ p
  pb : b ≠ p
  pc : c ≠ p
  pw : w.heap.size ≤ p
  hq : h ≠ q
  hs : h ≠ s
  hp : h ≠ p
  hg : h ≠ g
  hr : h ≠ r
  ha : h ≠ a
  hb : h ≠ b
  hc : h ≠ c
  hw : w.heap.size ≤ h
  rw_ : w.heap.size ≤ r
  rq : r ≠ q
  rs : r ≠ s
theorem RCSt.put {w : World} {g r h n a b c : Nat} {root : Int} {gen : Nat} {fu fn fg : Nat → Bool} {p q s gen2 : Nat} {f : Nat → Bool} {wr : World} (x : RCSt w g r h n a b c root gen fu fn fg p q s gen2 f wr) (hn : RCNe w g r h a b c p q s) {k : Nat} (hk : k < n) (v : Bool) :
    RCSt w g r h n a b c root gen fu fn fg p q s gen2 (fun j => if j = k then v else f j) (wr.setCell ⟨p, k, none⟩ (.bool v)) :=
  ⟨x.src.other hn.pg.symm _ _, ⟨x.rows.ru.other hn.pa.symm _ _, x.rows.rn.other hn.pb.symm _ _, x.rows.rg.other hn.pc.symm _ _, x.rows.ab, x.rows.ac, x.rows.bc⟩, x.res.other hn.pr.symm _ _, x.out.other hn.ph.symm _ _,
    ⟨x.news.ru.put hk v, x.news.rn.other x.news.ab _ _, x.news.rg.other x.news.ac _ _, x.news.ab, x.news.ac, x.news.bc⟩, x.below.setCell (by show w.heap.size ≤ p; exact hn.pw) _⟩
theorem RpAt.put3 {w : World} {g n a b c : Nat} {root : Int} {gen : Nat} (h : RpAt w g n a b c root gen) (r : Int) : RpAt (w.setCell ⟨g, 3, none⟩ (.int .i64 r)) g n a b c r gen := by
  have e : ∀ j, j ≠ 3 → (w.setCell ⟨g, 3, none⟩ (.int .i64 r)).cell? ⟨g, j, none⟩ = w.cell? ⟨g, j, none⟩ := fun j hj => World.cell?_setCell_other _ _ _ _ (by intro hh; injection hh; omega)
  exact ⟨(e 0 (by decide)).trans h.h0, (e 1 (by decide)).trans h.h1, (e 2 (by decide)).trans h.h2, World.cell?_setCell_same _ _ _ h.h3, (e 4 (by decide)).trans h.h4, fun j => by rw [World.frozen?_setCell]; exact h.free j⟩
theorem RCSt.root {w : World} {g r h n a b c : Nat} {root : Int} {gen : Nat} {fu fn fg : Nat → Bool} {p q s gen2 : Nat} {f : Nat → Bool} {wr : World} (x : RCSt w g r h n a b c root gen fu fn fg p q s gen2 f wr) (hn : RCNe w g r h a b c p q s) (k : Int) :
    RpAt (wr.setCell ⟨h, 3, none⟩ (.int .i64 k)) h n p q s k gen2 ∧ Rows3 (wr.setCell ⟨h, 3, none⟩ (.int .i64 k)) n p q s f (fun _ => false) (fun _ => false) ∧ ROwn (wr.setCell ⟨h, 3, none⟩ (.int .i64 k)) r ∧ Below w.heap.size w (wr.setCell ⟨h, 3, none⟩ (.int .i64 k)) :=
  ⟨x.out.put3 k, ⟨x.news.ru.other hn.hp _ _, x.news.rn.other hn.hq _ _, x.news.rg.other hn.hs _ _, x.news.ab, x.news.ac, x.news.bc⟩, x.res.other hn.hr _ _, x.below.setCell (by show w.heap.size ≤ h; exact hn.hw) _⟩
def CommitRel (w : World) (g r h n a b c : Nat) (root : Int) (gen : Nat) (fu fn fg : Nat → Bool) (p q s gen2 : Nat) (i : Value) (wr : World) : Prop :=
  ∃ k : Nat, k ≤ n ∧ i = .int .i64 (k : Int) ∧ RCSt w g r h n a b c root gen fu fn fg p q s gen2 (fun j => if j < k then nowZ n fu fn fg (j : Int) else false) wr
set_option maxRecDepth 100000 in
set_option maxHeartbeats 4000000 in
theorem RefCommit_any {w : World} {n a b c : Nat} {fu fn fg : Nat → Bool} (h : Rows3 w n a b c fu fn fg) (h240 : n ≤ 240) (root : Int) (gen : Nat) (hgen : gen + 1 < 4294967296) (k : Int) :
    Calls Tryd.prog 16 #[rpV n a b c root gen, .int .i64 k] w (OfPost n k (gen + 1) (fun j => nowZ n fu fn fg (j : Int)) w) := by
  have hz := Tryd.zeroRp
  obtain ⟨P, HPP⟩ : ∃ P, Hid (P = OfPost n k (gen + 1) (fun j => nowZ n fu fn fg (j : Int)) w) := ⟨_, Lib.hid rfl⟩
  rw [← HPP.out]
  obtain ⟨x, HX⟩ : ∃ x, Hid (x = rpArr n a b c root gen) := ⟨_, Lib.hid rfl⟩
  obtain ⟨g, HG⟩ : ∃ g, Hid (g = w.heap.size) := ⟨_, Lib.hid rfl⟩
  obtain ⟨w1, HW⟩ : ∃ w1, Hid (w1 = (w.alloc (.cells x 37)).alloc (.cells #[.slice none 0 0, .slice none 0 0, .slice none 0 0, .int .i64 0, .int .u32 0] 37)) := ⟨_, Lib.hid rfl⟩
  have hb1 : Below w.heap.size w (w.alloc (.cells x 37)) := (Below.refl _ _).alloc (Nat.le_refl _) _
  have hb2 : Below (w.alloc (.cells x 37)).heap.size (w.alloc (.cells x 37)) w1 := by rw [HW.out]; exact (Below.refl _ _).alloc (Nat.le_refl _) _
  have HB1 : Hid (Below w.heap.size w w1) := Lib.hid (hb1.trans (hb2.mono hb1.size))
  have HP : Hid (RpAt w1 g n a b c root gen) := Lib.hid ((by rw [HG.out, HX.out]; exact RpAt.new _ _ _ _ _ _ _ _ : RpAt (w.alloc (.cells x 37)) g n a b c root gen).carry hb2)
  have HO : Hid (ROwn w1 (g + 1)) := Lib.hid (by have := ROwn.new (w.alloc (.cells x 37)) 37; rw [size_alloc_one] at this; rw [HW.out, HG.out]; exact this)
  have HR : Hid (Rows3 w1 n a b c fu fn fg) := Lib.hid (h.carry HB1.out)
  have HLA : Hid (a < g ∧ b < g ∧ c < g) := Lib.hid (by rw [HG.out]; exact ⟨h.ru.lt, h.rn.lt, h.rg.lt⟩)
  have hgv : ((gen : Int) + 1) % 4294967296 = ((gen + 1 : Nat) : Int) := by omega
  show Calls Tryd.prog 16 #[.agg (rpArr n a b c root gen), .int .i64 k] w _
  rw [← HX.out]
  clear h hb1 hb2
  have c0 := HP.out.h0
  have c4 := HP.out.h4
  go_enter Tryd.func16, Tryd.ntmps16
  go_upto_region 1 with (fail)
  rw [← HW.out, ← HG.out]
  clear HW
  go_wp2_with fail
  rw [show ((gen : Int) + 1) = ((gen + 1 : Nat) : Int) by omega]
  refine (RefOf_any n (gen + 1) h240 w1).mono ?_
  rintro e w2 ⟨p, q, s, rfl, hr, hp, hq, hs, hb⟩
  have HG1 : Hid (g + 1 < w1.heap.size) := Lib.hid HO.out.lt
  obtain ⟨h, HH⟩ : ∃ h, Hid (h = w2.heap.size) := ⟨_, Lib.hid rfl⟩
  obtain ⟨w3, HW⟩ : ∃ w3, Hid (w3 = w2.alloc (.cells (rpArr n p q s 0 (gen + 1)) 37)) := ⟨_, Lib.hid rfl⟩
  have hb3 : Below w2.heap.size w2 w3 := by rw [HW.out]; exact (Below.refl _ _).alloc (Nat.le_refl _) _
  have HST : Hid (RCSt w g (g + 1) h n a b c root gen fu fn fg p q s (gen + 1) (fun _ => false) w3) := Lib.hid
    ⟨(HP.out.carry hb).carry hb3, (HR.out.carry hb).carry hb3, (HO.out.carry hb).carry hb3, by rw [HW.out, HH.out]; exact RpAt.new _ _ _ _ _ _ _ _, hr.carry hb3, (HB1.out.trans (hb.mono HB1.out.size)).trans (hb3.mono (Nat.le_trans HB1.out.size hb.size))⟩
  have HNE : Hid (RCNe w g (g + 1) h a b c p q s) := Lib.hid (by
    have h1 := hr.ru.lt
    have h2 := hr.rn.lt
    have h3 := hr.rg.lt
    have h4 := HG1.out
    have h5 := HLA.out
    have h6 := HG.out
    rw [← HH.out] at h1 h2 h3
    constructor <;> omega)
  have HQW : Hid (w.heap.size ≤ q ∧ w.heap.size ≤ s) := Lib.hid ⟨Nat.le_trans HB1.out.size hq, Nat.le_trans HB1.out.size hs⟩
  clear hr hp hq hs hb hb3 c0 c4 HP HR HO HB1 HLA HG1
  go_wp2_with (with_reducible refine stop_at (o := ⟨none, _, _, _, _, _⟩) ?_)
  refine wpList_store_last rfl _ _ _ rfl _ (rpArr n p q s 0 (gen + 1)) _ rfl rfl rfl Tryd.rpSize rfl rpAll ?_
  rw [← HW.out, ← HH.out]
  clear HW HH
  go_wp2_with fail
  go_loopw [6] (fun i wr => CommitRel w g (g + 1) h n a b c root gen fu fn fg p q s (gen + 1) i wr) (fun i _ => n - (intOf i).toNat)
  case atStart => exact ⟨0, Nat.zero_le _, rfl, ⟨HST.out.src, HST.out.rows, HST.out.res, HST.out.out, ⟨HST.out.news.ru.congr fun i _ => by simp, HST.out.news.rn, HST.out.news.rg, HST.out.news.ab, HST.out.news.ac, HST.out.news.bc⟩, HST.out.below⟩⟩
  case round =>
    obtain ⟨j, hj, rfl, hst⟩ := hrel
    have HS := Lib.hid hst
    clear hst HST
    have c0 := HS.out.src.h0
    by_cases hlt : j < n
    · have hlt2 : (j : Int) < (n : Int) := by omega
      go_upto_region 5 with (fail)
      obtain ⟨f, HF⟩ : ∃ f : Nat → Bool, Hid (f = fun m => if m < j then nowZ n fu fn fg (m : Int) else false) := ⟨_, Lib.hid rfl⟩
      rw [← HF.out] at HS
      obtain ⟨v, HV⟩ : ∃ v, Hid (v = nowZ n fu fn fg (j : Int)) := ⟨_, Lib.hid rfl⟩
      refine wp_region_held (S := fun wr => ∃ f, RCSt w g (g + 1) h n a b c root gen fu fn fg p q s (gen + 1) f wr) (by kernel_rfl) ?_
      change wpAnyH _ _ _ _ _ _ _ _ wr.drew
      obtain ⟨wa, HWA⟩ : ∃ wa, Hid (wa = wr.drew) := ⟨_, Lib.hid rfl⟩
      rw [← HWA.out]
      have hS : RCSt w g (g + 1) h n a b c root gen fu fn fg p q s (gen + 1) f wa := by rw [HWA.out]; exact HS.out.drew
      clear HWA HS c0
      refine takeH (i := 0) 21 (v := .pointer (some ⟨h, 0, none⟩)) rfl (by kernel_rfl) (by kernel_rfl) (by kernel_rfl) rfl (fun _ _ _ h => h) (.inl ⟨by rfl, fun _ _ => by go_simp⟩) ⟨f, hS⟩ ?_
      simp only [Act.put, List.setIfInBounds_toArray, List.set_cons_zero, List.set_cons_succ]
      refine takeH (i := 1) 22 (v := .slice (some ⟨p, 0, none⟩) n n) rfl (by kernel_rfl) (by kernel_rfl) (by kernel_rfl) rfl (fun _ _ _ h => h) (.inl ⟨by rfl, fun _ ⟨_, h⟩ => by have c0 := h.out.h0; go_simp⟩) ⟨f, hS⟩ ?_
      simp only [Act.put, List.setIfInBounds_toArray, List.set_cons_zero, List.set_cons_succ]
      refine takeH (i := 2) 23 (v := .int .i64 (j : Int)) rfl (by kernel_rfl) (by kernel_rfl) (by kernel_rfl) rfl (fun _ _ _ h => h) (.inl ⟨by rfl, fun _ _ => by go_simp⟩) ⟨f, hS⟩ ?_
      simp only [Act.put, List.setIfInBounds_toArray, List.set_cons_zero, List.set_cons_succ]
      refine takeH (i := 3) 24 (v := rpV n a b c root gen) rfl (by kernel_rfl) (by kernel_rfl) (by kernel_rfl) rfl (fun _ _ _ h => h) (yieldsIf_rp (by rfl) _ rfl rfl (fun _ ⟨_, h⟩ => h.src)) ⟨f, hS⟩ ?_
      simp only [Act.put, List.setIfInBounds_toArray, List.set_cons_zero, List.set_cons_succ]
      refine takeH (i := 4) 25 (v := .int .i64 (j : Int)) rfl (by kernel_rfl) (by kernel_rfl) (by kernel_rfl) rfl (fun _ _ _ h => h) (.inl ⟨by rfl, fun _ _ => by go_simp⟩) ⟨f, hS⟩ ?_
      simp only [Act.put, List.setIfInBounds_toArray, List.set_cons_zero, List.set_cons_succ]
      refine oneH (i := 5) (oi := ⟨some 26, _, _, _, _, _⟩) rfl (by kernel_rfl) (fun K hK => ?_)
      go_simp
      refine (RefNow_any hS.rows root gen (j : Int)).mono ?_
      rw [← HV.out]
      rintro e wn ⟨rfl, hb⟩
      have hS2 := hS.carry hb
      clear hb hS
      refine hK.out _ _ ⟨f, hS2⟩ ?_
      clear hK K
      have hS := hS2
      clear hS2
      refine takeH (i := 6) 27 (v := .pointer (some ⟨p, j, none⟩)) rfl (by kernel_rfl) (by kernel_rfl) (by kernel_rfl) rfl (fun _ _ _ h => h) (.inl ⟨by rfl, fun _ _ => by go_simp⟩) ⟨f, hS⟩ ?_
      simp only [Act.put, List.setIfInBounds_toArray, List.set_cons_zero, List.set_cons_succ]
      refine oneH (i := 7) (oi := ⟨none, _, _, _, _, _⟩) rfl (by kernel_rfl) (fun K hK => ?_)
      have c5 := hS.news.ru.at_ j hlt
      have f5 := hS.news.ru.free j
      have hp := hS.put HNE.out hlt v
      go_simp
      refine hK.out _ _ ⟨_, hp⟩ ?_
      clear hK K
      refine wpAnyH_done (by kernel_rfl) ?_ _
      go_wp2_with fail
      go_roundw
      case rel =>
        refine ⟨j + 1, hlt, by go_num, ?_⟩
        have e : ∀ m, (if m < j + 1 then nowZ n fu fn fg (m : Int) else false) = if m = j then v else f m := fun m => by
          by_cases hm : m = j
          · rw [if_pos hm, if_pos (by omega), hm, HV.out]
          · rw [if_neg hm, HF.out]
            show _ = if m < j then nowZ n fu fn fg (m : Int) else false
            by_cases h2 : m < j
            · rw [if_pos (by omega), if_pos h2]
            · rw [if_neg (by omega), if_neg h2]
        exact ⟨hp.src, hp.rows, hp.res, hp.out, ⟨hp.news.ru.congr fun m _ => e m, hp.news.rn, hp.news.rg, hp.news.ab, hp.news.ac, hp.news.bc⟩, hp.below⟩
      case measure => simp [intOf]; omega
    · obtain rfl : j = n := by omega
      have c3 := HS.out.out.h3
      have f3 := HS.out.out.free 3
      have HPUT := Lib.hid (HS.out.root HNE.out k)
      go_upto_region 7 with (fail)
      obtain ⟨w4, HW⟩ : ∃ w4, Hid (w4 = wr.setCell ⟨h, 3, none⟩ (.int .i64 k)) := ⟨_, Lib.hid rfl⟩
      rw [← HW.out] at HPUT ⊢
      clear HW c0 c3 f3 HS
      go_wp2_with (with_reducible refine stop_at (o := ⟨some 30, _, _, _, _, _⟩) ?_)
      refine wpList_load_rp (by rfl) _ rfl rfl HPUT.out.1 ?_
      refine wpList_store_rp rfl _ _ rfl rfl rfl HPUT.out.2.2.1.there HPUT.out.2.2.1.free ?_
      intro w5 HW5 HO5
      go_wp2_with fail
      have hb5 := below_cells_of HPUT.out.2.2.2 HW5.out HNE.out.rw_
      rw [HPP.out]
      refine bodyPost_ret (results_rp2 rfl _ rfl HO5.out) rfl ⟨p, q, s, rfl, ?_, HNE.out.pw, HQW.out.1, HQW.out.2, hb5⟩
      rw [HW5.out]
      have hr5 := HPUT.out.2.1.cells (o := 0) (vs := (rpArr j p q s k (gen + 1)).toList) HNE.out.pr HNE.out.rq HNE.out.rs
      exact ⟨hr5.ru.congr fun m hm => by rw [if_pos hm], hr5.rn, hr5.rg, hr5.ab, hr5.ac, hr5.bc⟩
/-- n truth values, as cells -/
def blN (n : Nat) (f : Nat → Bool) : List Value := (List.range n).map fun i => .bool (f i)
theorem blN_length (n : Nat) (f : Nat → Bool) : (blN n f).length = n := by simp [blN]
theorem blN_at {n : Nat} {f : Nat → Bool} {i : Nat} {v : Value} (h : (blN n f)[i]? = some v) : i < n ∧ v = .bool (f i) := by
  have hi : i < n := by have := (List.getElem?_eq_some_iff.1 h).1; rwa [blN_length] at this
  refine ⟨hi, ?_⟩
  simp [blN, hi] at h
  exact h.symm
theorem blN_one (n : Nat) (f : Nat → Bool) : ∀ v ∈ blN n f, v.oneCell' = true := by
  intro v hv
  obtain ⟨m, _, rfl⟩ := List.mem_map.1 hv
  rfl
theorem BRowN.copied {w : World} {g n : Nat} {f h : Nat → Bool} (hr : BRowN w g n f) : BRowN (w.setCells g 0 (blN n h)) g n h := by
  refine ⟨fun i hi => ?_, fun i => by rw [World.frozen?_setCells]; exact hr.free i, ?_⟩
  · have := World.rangeAt_setCells_same w g 0 (blN n h) (fun j hj => ⟨by rw [Nat.zero_add, hr.at_ j (by rwa [blN_length] at hj)]; rfl, hr.free _⟩) i (.bool (h i)) (by simp [blN, hi])
    rwa [Nat.zero_add] at this
  · exact Nat.lt_of_lt_of_le hr.lt (below_cells_of (B := 0) (w0 := w) (w := w) ⟨rfl, rfl, rfl, Nat.le_refl _, fun _ h => absurd h (Nat.not_lt_zero _)⟩ rfl (Nat.zero_le _)).size
theorem BRowN.apart {w : World} {g n c o : Nat} {vs : List Value} {f : Nat → Bool} (hr : BRowN w g n f) (hc : c ≠ g) : BRowN (w.setCells c o vs) g n f :=
  hr.block (setCells_block c (Ne.symm hc) _ _ _) (below_cells_of (B := 0) (w0 := w) (w := w) ⟨rfl, rfl, rfl, Nat.le_refl _, fun _ h => absurd h (Nat.not_lt_zero _)⟩ rfl (Nat.zero_le _)).size
theorem RpAt.apart {w : World} {g n a b c h o : Nat} {vs : List Value} {root : Int} {gen : Nat} (x : RpAt w g n a b c root gen) (hc : h ≠ g) : RpAt (w.setCells h o vs) g n a b c root gen := x.block (setCells_block h (Ne.symm hc) _ _ _)
theorem ROwn.apart {w : World} {r h o : Nat} {vs : List Value} (x : ROwn w r) (hc : h ≠ r) : ROwn (w.setCells h o vs) r :=
  ⟨fun j v hv => by rw [World.cell?_setCells_out h vs o w _ (fun e _ => absurd e.symm hc)]; exact x.at_ j v hv, fun j => by rw [World.frozen?_setCells]; exact x.free j⟩
theorem RCSt.copied {w : World} {g r h n a b c : Nat} {root : Int} {gen : Nat} {fu fn fg : Nat → Bool} {p q s gen2 : Nat} {f : Nat → Bool} {wr w2 : World} (x : RCSt w g r h n a b c root gen fu fn fg p q s gen2 f wr) (hn : RCNe w g r h a b c p q s) (hw : w2 = wr.setCells p 0 (blN n fu)) :
    RCSt w g r h n a b c root gen fu fn fg p q s gen2 fu w2 := by
  have hb := below_cells_of x.below hw hn.pw
  subst hw
  exact ⟨x.src.apart hn.pg.symm, ⟨x.rows.ru.apart hn.pa.symm, x.rows.rn.apart hn.pb.symm, x.rows.rg.apart hn.pc.symm, x.rows.ab, x.rows.ac, x.rows.bc⟩, x.res.apart hn.pr.symm, x.out.apart hn.ph.symm,
    ⟨x.news.ru.copied, x.news.rn.apart x.news.ab, x.news.rg.apart x.news.ac, x.news.ab, x.news.ac, x.news.bc⟩, hb⟩
set_option maxRecDepth 100000 in
set_option maxHeartbeats 4000000 in
theorem RefAbort_any {w : World} {n a b c : Nat} {fu fn fg : Nat → Bool} (h : Rows3 w n a b c fu fn fg) (h240 : n ≤ 240) (root : Int) (gen : Nat) :
    Calls Tryd.prog 19 #[rpV n a b c root gen] w (OfPost n root gen fu w) := by
  have hz := Tryd.zeroRp
  obtain ⟨P, HPP⟩ : ∃ P, Hid (P = OfPost n root gen fu w) := ⟨_, Lib.hid rfl⟩
  rw [← HPP.out]
  obtain ⟨x, HX⟩ : ∃ x, Hid (x = rpArr n a b c root gen) := ⟨_, Lib.hid rfl⟩
  obtain ⟨g, HG⟩ : ∃ g, Hid (g = w.heap.size) := ⟨_, Lib.hid rfl⟩
  obtain ⟨w1, HW⟩ : ∃ w1, Hid (w1 = (w.alloc (.cells x 37)).alloc (.cells #[.slice none 0 0, .slice none 0 0, .slice none 0 0, .int .i64 0, .int .u32 0] 37)) := ⟨_, Lib.hid rfl⟩
  have hb1 : Below w.heap.size w (w.alloc (.cells x 37)) := (Below.refl _ _).alloc (Nat.le_refl _) _
  have hb2 : Below (w.alloc (.cells x 37)).heap.size (w.alloc (.cells x 37)) w1 := by rw [HW.out]; exact (Below.refl _ _).alloc (Nat.le_refl _) _
  have HB1 : Hid (Below w.heap.size w w1) := Lib.hid (hb1.trans (hb2.mono hb1.size))
  have HP : Hid (RpAt w1 g n a b c root gen) := Lib.hid ((by rw [HG.out, HX.out]; exact RpAt.new _ _ _ _ _ _ _ _ : RpAt (w.alloc (.cells x 37)) g n a b c root gen).carry hb2)
  have HO : Hid (ROwn w1 (g + 1)) := Lib.hid (by have := ROwn.new (w.alloc (.cells x 37)) 37; rw [size_alloc_one] at this; rw [HW.out, HG.out]; exact this)
  have HR : Hid (Rows3 w1 n a b c fu fn fg) := Lib.hid (h.carry HB1.out)
  have HLA : Hid (a < g ∧ b < g ∧ c < g) := Lib.hid (by rw [HG.out]; exact ⟨h.ru.lt, h.rn.lt, h.rg.lt⟩)
  show Calls Tryd.prog 19 #[.agg (rpArr n a b c root gen)] w _
  rw [← HX.out]
  clear h hb1 hb2
  have c0 := HP.out.h0
  have c4 := HP.out.h4
  go_enter Tryd.func19, Tryd.ntmps19
  go_upto_region 1 with (fail)
  rw [← HW.out, ← HG.out]
  clear HW
  go_wp2_with fail
  refine (RefOf_any n gen h240 w1).mono ?_
  rintro e w2 ⟨p, q, s, rfl, hr, hp, hq, hs, hb⟩
  have HG1 : Hid (g + 1 < w1.heap.size) := Lib.hid HO.out.lt
  obtain ⟨h, HH⟩ : ∃ h, Hid (h = w2.heap.size) := ⟨_, Lib.hid rfl⟩
  obtain ⟨w3, HW⟩ : ∃ w3, Hid (w3 = w2.alloc (.cells (rpArr n p q s 0 gen) 37)) := ⟨_, Lib.hid rfl⟩
  have hb3 : Below w2.heap.size w2 w3 := by rw [HW.out]; exact (Below.refl _ _).alloc (Nat.le_refl _) _
  have HST : Hid (RCSt w g (g + 1) h n a b c root gen fu fn fg p q s gen (fun _ => false) w3) := Lib.hid
    ⟨(HP.out.carry hb).carry hb3, (HR.out.carry hb).carry hb3, (HO.out.carry hb).carry hb3, by rw [HW.out, HH.out]; exact RpAt.new _ _ _ _ _ _ _ _, hr.carry hb3, (HB1.out.trans (hb.mono HB1.out.size)).trans (hb3.mono (Nat.le_trans HB1.out.size hb.size))⟩
  have HNE : Hid (RCNe w g (g + 1) h a b c p q s) := Lib.hid (by
    have h1 := hr.ru.lt
    have h2 := hr.rn.lt
    have h3 := hr.rg.lt
    have h4 := HG1.out
    have h5 := HLA.out
    have h6 := HG.out
    rw [← HH.out] at h1 h2 h3
    constructor <;> omega)
  have HQW : Hid (w.heap.size ≤ q ∧ w.heap.size ≤ s) := Lib.hid ⟨Nat.le_trans HB1.out.size hq, Nat.le_trans HB1.out.size hs⟩
  clear hr hp hq hs hb hb3 c0 c4 HP HR HO HB1 HLA HG1
  go_wp2_with (with_reducible refine stop_at (o := ⟨none, _, _, _, _, _⟩) ?_)
  refine wpList_store_last rfl _ _ _ rfl _ (rpArr n p q s 0 gen) _ rfl rfl rfl Tryd.rpSize rfl rpAll ?_
  rw [← HW.out, ← HH.out]
  clear HW HH
  have c0 := HST.out.src.h0
  have d0 := HST.out.out.h0
  go_wp2_with (with_reducible refine stop_at (o := ⟨some 14, _, _, _, _, _⟩) ?_)
  refine wpList_copy_cells rfl _ _ _ _ rfl _ Tryd.underlying34 (by kernel_rfl) p 0 n n ⟨a, 0, none⟩ n n rfl rfl (blN n fu) (by rw [blN_length]; exact (Nat.min_self n).symm) ?_ ?_ ?_ (blN_one n fu) ?_
  · intro j v hv
    obtain ⟨hj, rfl⟩ := blN_at hv
    have := HST.out.rows.ru.at_ j hj
    cases j with
    | zero => simpa [Addr.add] using this
    | succ j => simpa [Addr.add] using this
  · intro j hj
    rw [blN_length] at hj
    rw [Nat.zero_add, HST.out.news.ru.at_ j hj]
    rfl
  · intro j _
    exact HST.out.news.ru.free _
  intro w4 HW4
  have HS4 := Lib.hid (HST.out.copied HNE.out HW4.out)
  clear HW4 HST c0 d0
  have c3 := HS4.out.src.h3
  have d3 := HS4.out.out.h3
  have f3 := HS4.out.out.free 3
  have HPUT := Lib.hid (HS4.out.root HNE.out root)
  have hne := HNE.out.hg
  have hne2 := HNE.out.hg.symm
  go_upto_region 4 with (fail)
  obtain ⟨w5, HW⟩ : ∃ w5, Hid (w5 = w4.setCell ⟨h, 3, none⟩ (.int .i64 root)) := ⟨_, Lib.hid rfl⟩
  rw [← HW.out] at HPUT ⊢
  clear HW c3 d3 f3 HS4 hne hne2
  go_wp2_with (with_reducible refine stop_at (o := ⟨some 18, _, _, _, _, _⟩) ?_)
  refine wpList_load_rp (by rfl) _ rfl rfl HPUT.out.1 ?_
  refine wpList_store_rp rfl _ _ rfl rfl rfl HPUT.out.2.2.1.there HPUT.out.2.2.1.free ?_
  intro w6 HW6 HO6
  go_wp2_with fail
  have hb6 := below_cells_of HPUT.out.2.2.2 HW6.out HNE.out.rw_
  rw [HPP.out]
  refine bodyPost_ret (results_rp2 rfl _ rfl HO6.out) rfl ⟨p, q, s, rfl, ?_, HNE.out.pw, HQW.out.1, HQW.out.2, hb6⟩
  rw [HW6.out]
  exact HPUT.out.2.1.cells HNE.out.pr HNE.out.rq HNE.out.rs
end Go.Proofs.YtbcapaafoklhdaaDoor
