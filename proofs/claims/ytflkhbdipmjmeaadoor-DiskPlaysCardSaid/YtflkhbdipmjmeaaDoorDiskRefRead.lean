/-
  The document's own disk in memory, as a value of three slices; the contract of its Read. Conditions: none beyond the premises of each theorem.
-/
import Derived.Test.YtflkhbdipmjmeaaDoorDiskLastWalk
namespace Go.Proofs.YtflkhbdipmjmeaaDoor
open Go.RowKit

theorem Tryd.infoArr : (Tryd.prog.info? 35).map (fun i => (i.zero, i.size)) = some (some (pgV zeroPg), 128) := by kernel_rfl
theorem Tryd.arrSize : (Tryd.prog.info? 35).map (·.size) = some 128 := by kernel_rfl
theorem Tryd.zeroArr (w : World) : (zeroValue 35).run Tryd.prog w = .ok (pgV zeroPg) w := (zero_of_info Tryd.infoArr).1 w
/-- the parts of the document's disk: what is firm; where, and what, was written since -/
structure RefRd (w : World) (F cF : Nat) (A : Option Addr) (cA : Nat) (W : Option Addr) (cW n : Nat) (firm : List Pg) (soft : Soft) : Prop where
  pages : Pages w F firm
  len : firm.length = n
  whole : Whole firm
  fits : Fits n soft
  at_ : ∀ i x, soft[i]? = some x → ∃ a, A = some ⟨a, 0, none⟩ ∧ w.cell? ⟨a, i, none⟩ = some (.int .i64 (x.1 : Int))
  what : ∀ i x, soft[i]? = some x → ∃ b, W = some ⟨b, 0, none⟩ ∧ w.rangeAt b (i * 128) (pgCells x.2)
/-- .. as a value -/
abbrev refV (F cF n : Nat) (A : Option Addr) (cA : Nat) (W : Option Addr) (cW k : Nat) : Value := .agg #[.slice (some ⟨F, 0, none⟩) n cF, .slice A k cA, .slice W k cW]
theorem range_keep {w w' : World} {b o : Nat} {cs : List Value} (h : w.rangeAt b o cs) (hb : Below w.heap.size w w') : w'.rangeAt b o cs := fun j v hv => (hb.cell (p := ⟨b, o + j, none⟩) (lt_of_cell (h j v hv))).trans (h j v hv)
theorem RefRd.carry {w w' : World} {F cF n : Nat} {A : Option Addr} {cA : Nat} {W : Option Addr} {cW : Nat} {firm : List Pg} {soft : Soft} (h : RefRd w F cF A cA W cW n firm soft) (hb : Below w.heap.size w w') : RefRd w' F cF A cA W cW n firm soft :=
  ⟨fun i p hp => ⟨(h.pages i p hp).1, range_keep (h.pages i p hp).2 hb⟩, h.len, h.whole, h.fits,
    fun i x hx => by obtain ⟨a, e, hc⟩ := h.at_ i x hx; exact ⟨a, e, (hb.cell (p := ⟨a, i, none⟩) (lt_of_cell hc)).trans hc⟩,
    fun i x hx => by obtain ⟨b, e, hc⟩ := h.what i x hx; exact ⟨b, e, range_keep hc hb⟩⟩
theorem below_pages {B b : Nat} {a : World} : ∀ (vs : List Value) {w : World} (_ : Below B a w) (_ : B ≤ b) (o : Nat), Below B a (w.setCells b o vs)
  | [], _, h, _, _ => h
  | v :: r, w, h, hb, o => by
    rw [World.setCells]
    exact below_pages r (h.setCell (by exact hb) v) hb (o + 1)
/-- how far Read has come -/
structure RdSt (w : World) (bx br bo : Nat) (va vw : Value) (cur : Pg) (wr : World) : Prop where
  below : Below w.heap.size w wr
  ca : wr.cell? ⟨bx, 1, none⟩ = some va
  cw : wr.cell? ⟨bx, 2, none⟩ = some vw
  out : wr.rangeAt bo 0 (pgCells cur)
  len : cur.length = 128
  free : ∀ j, wr.frozen? ⟨bo, j, none⟩ = false
  res : wr.rangeAt br 0 (pgCells zeroPg)
  rfree : ∀ j, wr.frozen? ⟨br, j, none⟩ = false
theorem RdSt.store {w wr w2 : World} {bx br bo : Nat} {va vw : Value} {cur q : Pg} (h : RdSt w bx br bo va vw cur wr) (hw : w2 = wr.setCells bo 0 (pgCells q)) (hq : q.length = 128) (h1 : bx ≠ bo) (h2 : br ≠ bo) (h3 : w.heap.size ≤ bo) : RdSt w bx br bo va vw q w2 := by
  subst hw
  refine ⟨below_pages _ h.below h3 _, by rw [setCells_cell h1]; exact h.ca, by rw [setCells_cell h1]; exact h.cw, World.rangeAt_setCells_same _ _ _ _ ?_, hq, frozen_setCells h.free _ _ _, World.rangeAt_setCells_apart h.res _ _ _ (.inl h2), frozen_setCells h.rfree _ _ _⟩
  rw [pgCells_length, hq]
  intro j hj
  exact ⟨h.out.isSome j (by rw [pgCells_length, h.len]; exact hj), h.free _⟩
def RdRel (w : World) (bx br bo : Nat) (va vw : Value) (firm : List Pg) (soft : Soft) (i : Nat) (k : Value) (wr : World) : Prop := ∃ j : Nat, j ≤ soft.length ∧ k = .int .i64 (j : Int) ∧ RdSt w bx br bo va vw (readK firm soft i j) wr
theorem results_cell_mid {P : Program} {fn : Func} {p : Tmp} {ty : TypeId} (h : fn.results = #[.cell p ty]) (tmps : Array Value) (w : World) (b o : Nat) (cs : List Value) (d : TypeDesc)
    (hp : tmps.getD p undef = .pointer (some ⟨b, o, none⟩)) (hc : w.rangeAt b o cs) (hu : P.underlying ty = some d) (hd : d.isRow = true) (hi : (P.info? ty).map (·.size) = some cs.length) :
    (results fn tmps).run P w = .ok (.agg cs.toArray) w := by
  have hp' : tmps[p]?.getD undef = .pointer (some ⟨b, o, none⟩) := by simpa using hp
  simp [results, h, hp', asAddr, run_loadVar_mid w b o ty cs d hc hu hd hi]
theorem range_new (w : World) (p : Pg) (t : TypeId) : (w.alloc (.cells (pgArr p) t)).rangeAt w.heap.size 0 (pgCells p) := fun j u hu => by
  rw [cell_of_row _ w.heap.size (0 + j) _ _ _ (heap_alloc_last w _), Nat.zero_add]
  simpa [pgArr] using hu
set_option maxRecDepth 100000 in
set_option maxHeartbeats 4000000 in
theorem RefRead_any {F cF n : Nat} {A : Option Addr} {cA : Nat} {W : Option Addr} {cW : Nat} {firm : List Pg} {soft : Soft} {w : World} (h : RefRd w F cF A cA W cW n firm soft) (i : Nat) (hi : i < n) (hs : soft.length ≤ 1000000) :
    Calls Tryd.prog 19 #[refV F cF n A cA W cW soft.length, .int .i64 i] w fun e w' => e = .returned (pgV (readZ firm soft i)) ∧ Below w.heap.size w w' := by
  have HR := Lib.hid h
  have hz := Tryd.zeroArr
  clear h
  have hi' : (i : Int) < (n : Int) := by omega
  obtain ⟨p, HP⟩ : ∃ p, Hid (p = pgAt firm i) := ⟨_, Lib.hid rfl⟩
  have HPA : Hid (p.length = 128 ∧ w.rangeAt F (i * 128) (pgCells p)) := Lib.hid (by rw [HP.out]; exact HR.out.pages.at_ (by rw [HR.out.len]; exact hi))
  go_enter Tryd.func19, Tryd.ntmps19
  go_wp2_with (with_reducible refine stop_at (o := ⟨some 11, _, _, _, _, _⟩) ?_)
  obtain ⟨w0, HW0⟩ : ∃ w0, Hid (w0 = (w.alloc (.cells #[.slice (some ⟨F, 0, none⟩) n cF, .slice A soft.length cA, .slice W soft.length cW] 34)).alloc (.cells (pgArr zeroPg) 35)) := ⟨_, Lib.hid rfl⟩
  obtain ⟨bx, HBX⟩ : ∃ bx, Hid (bx = w.heap.size) := ⟨_, Lib.hid rfl⟩
  obtain ⟨br, HBR⟩ : ∃ br, Hid (br = w.heap.size + 1) := ⟨_, Lib.hid rfl⟩
  rw [← HW0.out, ← HBR.out, ← HBX.out]
  have hb0 : Below w.heap.size w w0 := by rw [HW0.out]; exact ((Below.refl _ _).alloc (Nat.le_refl _) _).alloc (by simp) _
  have HS0 : Hid (w0.heap.size = w.heap.size + 2) := Lib.hid (by rw [HW0.out]; simp)
  have hh : w0.heap[bx]? = some (.cells #[.slice (some ⟨F, 0, none⟩) n cF, .slice A soft.length cA, .slice W soft.length cW] 34 (0, 0)) := by
    rw [HW0.out, HBX.out, Below.heap_alloc _ _ _ (by simp)]
    exact heap_alloc_last w _
  have hr : w0.heap[br]? = some (.cells (pgArr zeroPg) 35 (0, 0)) := by
    rw [HW0.out, HBR.out]
    have := heap_alloc_last (w.alloc (.cells #[.slice (some ⟨F, 0, none⟩) n cF, .slice A soft.length cA, .slice W soft.length cW] 34)) (.cells (pgArr zeroPg) 35)
    simpa using this
  have HR0 := Lib.hid (HR.out.carry hb0)
  refine wpList_load_page rfl _ _ rfl F (i * 128) rfl p HPA.out.1 (range_keep HPA.out.2 hb0) _ Tryd.underlying35 rfl Tryd.arrSize ?_
  go_wp2_with (with_reducible refine stop_at (o := ⟨none, _, _, _, _, _⟩) ?_)
  refine wpList_store_last rfl _ _ _ rfl (pgArr zeroPg) (pgArr p) _ rfl rfl rfl (by rw [pgArr_size, HPA.out.1]; exact Tryd.arrSize) (by rw [pgArr_size, pgArr_size, HPA.out.1]; rfl) (pgArr_all _) ?_
  obtain ⟨w1, HW1⟩ : ∃ w1, Hid (w1 = w0.alloc (.cells (pgArr p) 35)) := ⟨_, Lib.hid rfl⟩
  obtain ⟨bo, HBO⟩ : ∃ bo, Hid (bo = w0.heap.size) := ⟨_, Lib.hid rfl⟩
  rw [← HW1.out, ← HBO.out]
  have hs0 := HS0.out
  have hb1 : Below w0.heap.size w0 w1 := by rw [HW1.out]; exact (Below.refl _ _).alloc (Nat.le_refl _) _
  have hne1 : bx ≠ bo := by rw [HBO.out, HBX.out]; omega
  have hne2 : br ≠ bo := by rw [HBO.out, HBR.out]; omega
  have hle : w.heap.size ≤ bo := by rw [HBO.out]; omega
  have hw1 : w1.heap[bo]? = some (.cells (pgArr p) 35 (0, 0)) := by rw [HW1.out, HBO.out]; exact heap_alloc_last w0 _
  have hx1 : w1.heap[bx]? = _ := (hb1.block bx (by rw [HBX.out]; omega)).trans hh
  have hr1 : w1.heap[br]? = _ := (hb1.block br (by rw [HBR.out]; omega)).trans hr
  have HS1 : Hid (RdSt w bx br bo (.slice A soft.length cA) (.slice W soft.length cW) p w1) := Lib.hid
    ⟨hb0.trans (hb1.mono (by omega)), by rw [cell_of_row w1 bx 1 _ _ _ hx1]; rfl, by rw [cell_of_row w1 bx 2 _ _ _ hx1]; rfl, by rw [HW1.out, HBO.out]; exact range_new _ _ _, HPA.out.1, fun j => frozen_of_row w1 bo j _ _ hw1,
      fun j u hu => by rw [cell_of_row w1 br (0 + j) _ _ _ hr1, Nat.zero_add]; simpa [pgArr] using hu, fun j => frozen_of_row w1 br j _ _ hr1⟩
  have HNE : Hid (bx ≠ bo ∧ br ≠ bo ∧ w.heap.size ≤ bo) := Lib.hid ⟨hne1, hne2, hle⟩
  have HR1 := Lib.hid HR.out
  clear hb0 hs0 HS0 hh hr hb1 hne1 hne2 hle hw1 hx1 hr1 HW0 HW1 HR0
  go_wp2_with fail
  go_loopw [6] (fun k wr => RdRel w bx br bo (.slice A soft.length cA) (.slice W soft.length cW) firm soft i k wr) (fun k _ => soft.length - (intOf k).toNat)
  case atStart => exact ⟨0, Nat.zero_le _, rfl, by rw [show readK firm soft i 0 = p from HP.out.symm ▸ rfl]; exact HS1.out⟩
  case round =>
    obtain ⟨k, hk, rfl, hst⟩ := hrel
    have HS := Lib.hid hst
    clear hst HS1
    have ca := HS.out.ca
    have cw := HS.out.cw
    by_cases hlt : k < soft.length
    · obtain ⟨x, HX⟩ : ∃ x, Hid (soft[k]? = some x) := ⟨_, Lib.hid (List.getElem?_eq_getElem hlt)⟩
      have hlt' : (k : Int) < (soft.length : Int) := by omega
      have HRR := Lib.hid (HR1.out.carry HS.out.below)
      obtain ⟨a, rfl, hca⟩ := HRR.out.at_ k x HX.out
      obtain ⟨b, rfl, hcb⟩ := HRR.out.what k x HX.out
      have HCB := Lib.hid hcb
      have HXL : Hid (x.2.length = 128) := Lib.hid (by
        have := HR1.out.fits.at_ hlt
        rw [List.getElem?_eq_getElem hlt] at HX
        rw [← Option.some.inj HX.out]
        exact this.2)
      have hrk : readK firm soft i (k + 1) = if x.1 = i then x.2 else readK firm soft i k := by
        rw [readK, List.getD_eq_getElem?_getD, HX.out]
        rfl
      have HRK := Lib.hid hrk
      clear hcb hrk
      by_cases hxi : x.1 = i
      · have he1 : ((x.1 : Int) == (i : Int)) = true := by simp [hxi]
        have HRK2 : Hid (readK firm soft i (k + 1) = x.2) := Lib.hid (by rw [HRK.out, if_pos hxi])
        clear hxi
        go_wp2_with (with_reducible refine stop_at (o := ⟨some 30, _, _, _, _, _⟩) ?_)
        refine wpList_load_page rfl _ _ rfl b (k * 128) rfl x.2 HXL.out HCB.out _ Tryd.underlying35 rfl Tryd.arrSize ?_
        refine wpList_store_page rfl _ _ _ rfl bo 0 x.2 HXL.out rfl rfl (fun j hj => ⟨by have := HS.out.out.isSome j (by rw [pgCells_length, HS.out.len]; exact hj); simpa using this, HS.out.free _⟩) Tryd.arrSize (fun w2 HW => ?_)
        have HS2 := Lib.hid (HS.out.store HW.out HXL.out HNE.out.1 HNE.out.2.1 HNE.out.2.2)
        clear HW ca cw hca
        go_wp2_with fail
        go_roundw
        case rel => exact ⟨k + 1, hlt, by go_num, by rw [HRK2.out]; exact HS2.out⟩
        case measure => simp [intOf]; omega
      · have he1 : ((x.1 : Int) == (i : Int)) = false := by simp; omega
        have HRK2 : Hid (readK firm soft i (k + 1) = readK firm soft i k) := Lib.hid (by rw [HRK.out, if_neg hxi])
        clear hxi
        go_wp2_with fail
        go_roundw
        case rel => exact ⟨k + 1, hlt, by go_num, by rw [HRK2.out]; exact HS.out⟩
        case measure => simp [intOf]; omega
    · obtain rfl : k = soft.length := by omega
      go_wp2_with (with_reducible refine stop_at (o := ⟨some 31, _, _, _, _, _⟩) ?_)
      refine wpList_load_page rfl _ _ rfl bo 0 rfl (readK firm soft i soft.length) HS.out.len HS.out.out _ Tryd.underlying35 rfl Tryd.arrSize ?_
      refine wpList_store_page rfl _ _ _ rfl br 0 (readK firm soft i soft.length) HS.out.len rfl rfl (fun j hj => ⟨by have := HS.out.res.isSome j (by rw [pgCells_length, zeroPg_length]; exact hj); simpa using this, HS.out.rfree _⟩) Tryd.arrSize (fun w2 HW => ?_)
      have HRX : Hid (w2.rangeAt br 0 (pgCells (readK firm soft i soft.length))) := Lib.hid (by
        rw [HW.out]
        refine World.rangeAt_setCells_same _ _ _ _ ?_
        rw [pgCells_length, HS.out.len]
        exact fun j hj => ⟨by have := HS.out.res.isSome j (by rw [pgCells_length, zeroPg_length]; exact hj); simpa using this, HS.out.rfree _⟩)
      have HB2 : Hid (Below w.heap.size w w2) := Lib.hid (by rw [HW.out]; exact below_pages _ HS.out.below (by rw [HBR.out]; omega) _)
      clear HW ca cw
      go_wp2_with fail
      refine bodyPost_ret (v := pgV (readZ firm soft i)) ?_ rfl ⟨rfl, HB2.out⟩
      exact results_cell_mid rfl _ _ br 0 (pgCells (readK firm soft i soft.length)) _ rfl HRX.out Tryd.underlying35 rfl (by rw [pgCells_length, HS.out.len]; exact Tryd.arrSize)
end Go.Proofs.YtflkhbdipmjmeaaDoor
