/-
  The contracts of the document's own answers for layer 5: Lay and Read. Conditions: none beyond the premises of each theorem.
-/
import Derived.Test.YtcpekkajcjgoiaaDoorFrRead
import Derived.Test.YtcpekkajcjgoiaaDoorCrcRef
import Derived.Test.YtcpekkajcjgoiaaDoorPackRefFew
import Derived.Deep.QuietTactic
import Derived.BigQuiet
namespace Go.Proofs.YtcpekkajcjgoiaaDoor
open Go.RowKit

theorem Tryd.infoArr : (Tryd.prog.info? 23).map (fun i => (i.zero, i.size)) = some (some (pgV zeroPg), 128) := by kernel_rfl
theorem Tryd.arrSize : (Tryd.prog.info? 23).map (·.size) = some 128 := by kernel_rfl
theorem Tryd.zeroArr (w : World) : (zeroValue 23).run Tryd.prog w = .ok (pgV zeroPg) w := (zero_of_info Tryd.infoArr).1 w
/-- a text of two bytes -/
theorem two_text (w : World) (a b : UInt8) : (convert 37 9 (.slice (some ⟨w.heap.size, 0, none⟩) 2 2)).run Tryd.prog (w.alloc (.cells #[.int .u8 (a.toNat : Int), .int .u8 (b.toNat : Int)] 5)) = .ok (.string ⟨#[a, b]⟩) (w.alloc (.cells #[.int .u8 (a.toNat : Int), .int .u8 (b.toNat : Int)] 5)) := by
  have hr : Row (w.alloc (.cells #[.int .u8 (a.toNat : Int), .int .u8 (b.toNat : Int)] 5)) w.heap.size [a, b] := by
    intro i hi
    have : i = 0 ∨ i = 1 := by simp at hi; omega
    rcases this with rfl | rfl <;> exact ⟨by simp, by simp⟩
  exact hr.text 2 2 rfl
theorem app_arr (a b : List UInt8) : (⟨a.toArray⟩ : ByteArray) ++ ⟨b.toArray⟩ = ⟨(a ++ b).toArray⟩ := by
  apply ByteArray.ext
  simp
theorem arr_of (s : ByteArray) : s = ⟨s.data.toList.toArray⟩ := by simp
def PadRel (h : List UInt8) (s : Value) : Prop := ∃ (j : Nat) (u : ByteArray), h.length + j ≤ 124 ∧ s = .string u ∧ u = ⟨(h ++ List.replicate j 0).toArray⟩
theorem run_add_arr (a b : List UInt8) (h : a.length + b.length ≤ 1000) (w : World) : (Op.stringOp .add ⟨a.toArray⟩ ⟨b.toArray⟩).run Tryd.prog w = .ok (.string ⟨(a ++ b).toArray⟩) w := by
  rw [← app_arr]
  exact run_string_add_sum w _ _ (by rw [toArr_size, toArr_size]; omega)
/-- how far the document's Lay has come -/
def CopyRel (w : World) (r b : Nat) (l : List UInt8) (i : Value) (wr : World) : Prop := ∃ j : Nat, j ≤ 128 ∧ i = .int .i64 (j : Int) ∧ Own wr b (l.take j ++ List.replicate (128 - j) 0) ∧ Own wr r (List.replicate 128 0) ∧ Below r w wr
theorem range_put {w : World} {b j : Nat} {l : List UInt8} (h : w.rangeAt b 0 (pgCells (pgB l))) (hj : j < l.length) (c : UInt8) : (w.setCell ⟨b, j, none⟩ (.int .u8 (c.toNat : Int))).rangeAt b 0 (pgCells (pgB (l.set j c))) := fun i v hv => by
  rw [Nat.zero_add]
  have hi : i < l.length := by
    have := (List.getElem?_eq_some_iff.1 hv).1
    simpa [pgCells, pgB] using this
  have e : ∀ (l : List UInt8) (j : Nat), (pgCells (pgB l))[j]? = (l[j]?).map fun c => Value.int .u8 (c.toNat : Int) := fun l j => by simp [pgCells, pgB]; rfl
  rw [e] at hv
  have hcj := h j (.int .u8 (l[j].toNat : Int)) (by rw [e, List.getElem?_eq_getElem hj]; rfl)
  rw [Nat.zero_add] at hcj
  by_cases hij : j = i
  · subst hij
    rw [World.cell?_setCell_same _ _ _ hcj, ← hv]
    simp [hj]
  · rw [World.cell?_setCell_other _ _ _ _ (fun x => hij (Addr.mk.inj x).2.1)]
    have := h i v (by rw [e, ← hv, List.getElem?_set_ne hij])
    rwa [Nat.zero_add] at this
theorem take_put {y x : List UInt8} {j : Nat} (hy : j < y.length) (hx : x.length = y.length) : (y.take j ++ x.drop j).set j y[j] = y.take (j + 1) ++ x.drop (j + 1) := by
  have ht : (y.take j).length = j := by rw [List.length_take]; omega
  have e : x.drop j = x[j]'(by omega) :: x.drop (j + 1) := List.drop_eq_getElem_cons (by omega)
  rw [List.set_append_right _ _ (by rw [ht]; exact Nat.le_refl _), ht, Nat.sub_self, e, List.set_cons_zero, List.take_succ_eq_append_getElem hy, List.append_assoc]
  rfl
theorem results_cell_mid {P : Program} {fn : Func} {p : Tmp} {ty : TypeId} (h : fn.results = #[.cell p ty]) (tmps : Array Value) (w : World) (b o : Nat) (cs : List Value) (d : TypeDesc)
    (hp : tmps.getD p undef = .pointer (some ⟨b, o, none⟩)) (hc : w.rangeAt b o cs) (hu : P.underlying ty = some d) (hd : d.isRow = true) (hi : (P.info? ty).map (·.size) = some cs.length) :
    (results fn tmps).run P w = .ok (.agg cs.toArray) w := by
  have hp' : tmps[p]?.getD undef = .pointer (some ⟨b, o, none⟩) := by simpa using hp
  simp [results, h, hp', asAddr, run_loadVar_mid w b o ty cs d hc hu hd hi]
theorem Own.put {w : World} {b j : Nat} {x y : List UInt8} (h : Own w b (y.take j ++ x.drop j)) (hy : j < y.length) (hx : x.length = y.length) : Own (w.setCell ⟨b, j, none⟩ (.int .u8 (y[j].toNat : Int))) b (y.take (j + 1) ++ x.drop (j + 1)) := by
  have hl : j < (y.take j ++ x.drop j).length := by rw [List.length_append, List.length_take, List.length_drop]; omega
  have := range_put h.at_ hl y[j]
  rw [take_put hy hx] at this
  exact ⟨this, fun i => by rw [World.frozen?_setCell]; exact h.free i⟩
theorem Own.apart {w : World} {b c j : Nat} {x : List UInt8} (h : Own w b x) (hne : b ≠ c) (u : Value) : Own (w.setCell ⟨c, j, none⟩ u) b x :=
  ⟨fun i v hv => by rw [World.cell?_setCell_other _ _ _ _ (fun e => hne (Addr.mk.inj e).1.symm)]; exact h.at_ i v hv, fun i => by rw [World.frozen?_setCell]; exact h.free i⟩
theorem Own.cell {w : World} {b j : Nat} {x : List UInt8} (h : Own w b x) (hj : j < x.length) : w.cell? ⟨b, j, none⟩ = some (.int .u8 (x[j].toNat : Int)) := by
  have := h.at_ j (.int .u8 (x[j].toNat : Int)) (by simp [pgCells, pgB, hj])
  rwa [Nat.zero_add] at this
set_option maxRecDepth 100000 in
set_option maxHeartbeats 4000000 in
theorem RefLay_yes (k : Nat) (s : ByteArray) (w : World) (h1 : 1 ≤ k) (h2 : k ≤ 255) (hs : s.size ≤ 120) :
    Calls Tryd.prog 12 #[.int .i64 k, .string s] w fun e w' => e = .returned (pgV (pgB (layB (UInt8.ofNat k) s.data.toList))) ∧ Below w.heap.size w w' := by
  obtain ⟨d, HD⟩ : ∃ d, Hid (d = s.data.toList) := ⟨_, Lib.hid rfl⟩
  have hdl : d.length ≤ 120 := by rw [HD.out, lenS]; exact hs
  obtain ⟨a, HA⟩ : ∃ a, Hid (a = UInt8.ofNat k) := ⟨_, Lib.hid rfl⟩
  obtain ⟨c, HC⟩ : ∃ c, Hid (c = UInt8.ofNat d.length) := ⟨_, Lib.hid rfl⟩
  obtain ⟨y, HY⟩ : ∃ y, Hid (y = layB (UInt8.ofNat k) s.data.toList) := ⟨_, Lib.hid rfl⟩
  have HYL : Hid (y.length = 128) := Lib.hid (by rw [HY.out]; exact layB_length (by rw [lenS]; exact hs))
  obtain ⟨r, HR⟩ : ∃ r, Hid (r = w.heap.size) := ⟨_, Lib.hid rfl⟩
  rw [← HY.out]
  have hz := Tryd.zeroArr
  have hcv := two_text (w.alloc (.cells (pgArr zeroPg) 23)) a c
  rw [show (a.toNat : Int) = (k : Int) by rw [HA.out, UInt8.toNat_ofNat']; omega, show (c.toNat : Int) = (s.size : Int) by rw [HC.out, HD.out, lenS, UInt8.toNat_ofNat']; omega,
    show (w.alloc (.cells (pgArr zeroPg) 23)).heap.size = w.heap.size + 1 by simp] at hcv
  have hsum : ∀ w, (Op.stringOp .add ⟨#[a, c]⟩ s).run Tryd.prog w = .ok (.string ⟨([a, c] ++ d).toArray⟩) w := fun w => by
    have := run_add_arr [a, c] d (by simp; omega) w
    rw [HD.out] at this ⊢
    rw [← arr_of] at this
    exact this
  go_enter Tryd.func12, Tryd.ntmps12
  go_wp2_with fail
  clear hcv hsum
  obtain ⟨w0, HW0⟩ : ∃ w0, Hid (w0 = ((w.alloc (.cells (pgArr zeroPg) 23)).alloc (.cells #[.int .u8 (k : Int), .int .u8 (s.size : Int)] 5))) := ⟨_, Lib.hid rfl⟩
  rw [← HW0.out, ← HR.out]
  have HR0 : Hid (Own w0 r (List.replicate 128 0)) := Lib.hid (by
    rw [HW0.out, HR.out, ← pgB_zero]
    exact (Own.new (w := w) 23).below ((Below.refl _ _).alloc (Nat.le_refl _) _) (by simp))
  have HB0 : Hid (Below r w w0) := Lib.hid (by rw [HW0.out, HR.out]; exact ((Below.refl _ _).alloc (Nat.le_refl _) _).alloc (by simp) _)
  have HS0 : Hid (r + 2 ≤ w0.heap.size) := Lib.hid (by rw [HW0.out, HR.out]; simp)
  clear HW0
  obtain ⟨h, HH⟩ : ∃ h, Hid (h = a :: c :: d) := ⟨_, Lib.hid rfl⟩
  have hhl : h.length ≤ 122 := by rw [HH.out]; simp; omega
  have HHB : Hid (h ++ List.replicate (124 - h.length) 0 = bodyB (UInt8.ofNat k) s.data.toList) := Lib.hid (by
    rw [HH.out, ← HD.out, ← HA.out]
    unfold bodyB
    rw [← HC.out]
    show a :: c :: (d ++ List.replicate (124 - (d.length + 1 + 1)) 0) = _
    rw [show 124 - (d.length + 1 + 1) = 122 - d.length by omega])
  rw [← HH.out]
  go_loop [5] (fun t => PadRel h t) (fun t => match t with | .string u => 124 - u.size | _ => 0)
  case atStart => exact ⟨0, ⟨h.toArray⟩, by omega, rfl, by simp⟩
  case round =>
    obtain ⟨j, u, hj, rfl, hu⟩ := hrel
    have HU := Lib.hid hu
    have HUS : Hid (u.size = h.length + j) := Lib.hid (by rw [hu, toArr_size]; simp)
    have hu1 : u.size ≤ 124 := by rw [HUS.out]; exact hj
    clear hu
    by_cases hlt : u.size < 124
    · obtain ⟨u2, HU2⟩ : ∃ u2 : ByteArray, Hid (u2 = ⟨(h ++ List.replicate (j + 1) 0).toArray⟩) := ⟨_, Lib.hid rfl⟩
      have HUZ : Hid (u2.size = u.size + 1) := Lib.hid (by rw [HU2.out, toArr_size, HUS.out]; simp; omega)
      have hcat : ∀ w, (Op.stringOp .add u ⟨#[0]⟩).run Tryd.prog w = .ok (.string u2) w := fun w => by
        have h1 := HUS.out
        have := run_add_arr (h ++ List.replicate j 0) [0] (by simp; omega) w
        rw [← HU.out] at this
        rw [HU2.out, List.replicate_succ', ← List.append_assoc]
        exact this
      go_wp2_with fail
      go_round
      case rel => exact ⟨j + 1, u2, by have := HUS.out; omega, rfl, HU2.out⟩
      case measure => have := HUZ.out; simp; omega
    · have HUB : Hid (u = ⟨(bodyB (UInt8.ofNat k) s.data.toList).toArray⟩) := Lib.hid (by
        have h1 := HUS.out
        rw [HU.out, ← HHB.out, show j = 124 - h.length by omega])
      have HUZ : Hid (u.size = 124) := Lib.hid (by omega)
      clear HU HUS
      go_wp2_with fail
      refine (RefSum_any u _ (by rw [HUZ.out]; decide)).mono ?_
      obtain ⟨m, HM⟩ : ∃ m, Hid (m = (Crc.more 0#32 (bodyB (UInt8.ofNat k) s.data.toList)).toNat) := ⟨_, Lib.hid rfl⟩
      have hm : m < 4294967296 := by rw [HM.out]; exact BitVec.isLt _
      rw [show val (sum u) = (m : Int) by rw [HM.out, HUB.out]; rfl]
      rintro e w' ⟨rfl, rfl⟩
      go_wp2_with fail
      refine (RefPut_nat 4 m _ (by decide) hm).mono ?_
      obtain ⟨t, HTT⟩ : ∃ t : ByteArray, Hid (t = ⟨(be 4 m).toArray⟩) := ⟨_, Lib.hid rfl⟩
      obtain ⟨z, HZZ⟩ : ∃ z : ByteArray, Hid (z = ⟨y.toArray⟩) := ⟨_, Lib.hid rfl⟩
      have hcat : ∀ w, (Op.stringOp .add t u).run Tryd.prog w = .ok (.string z) w := fun w => by
        have := run_add_arr (be 4 m) (bodyB (UInt8.ofNat k) s.data.toList) (by rw [be_length, ← toArr_size (bodyB (UInt8.ofNat k) s.data.toList), ← HUB.out, HUZ.out]; decide) w
        rw [HTT.out, HZZ.out, HUB.out, HY.out]
        rw [this, HM.out]
        rfl
      rw [← HTT.out]
      rintro e w2 ⟨rfl, hb⟩
      have HR2 : Hid (Own w2 r (List.replicate 128 0)) := Lib.hid (HR0.out.below hb (by have := HS0.out; omega))
      have HB2 : Hid (Below r w w2) := Lib.hid (HB0.out.trans (hb.mono (by have := HS0.out; omega)))
      have HS2 : Hid (r + 2 ≤ w2.heap.size) := Lib.hid (Nat.le_trans HS0.out hb.size)
      clear hb HR0 HB0 HS0
      go_wp2_with fail
      clear hcat
      obtain ⟨w3, HW3⟩ : ∃ w3, Hid (w3 = w2.alloc (.cells (pgArr zeroPg) 23)) := ⟨_, Lib.hid rfl⟩
      obtain ⟨b, HBB⟩ : ∃ b, Hid (b = w2.heap.size) := ⟨_, Lib.hid rfl⟩
      rw [← HW3.out, ← HBB.out]
      have hb3 : Below w2.heap.size w2 w3 := by rw [HW3.out]; exact (Below.refl _ _).alloc (Nat.le_refl _) _
      have HR3 : Hid (Own w3 r (List.replicate 128 0)) := Lib.hid (HR2.out.below hb3 (by have := HS2.out; omega))
      have HB3 : Hid (Below r w w3) := Lib.hid (HB2.out.trans (hb3.mono (by have := HS2.out; omega)))
      have HO3 : Hid (Own w3 b (List.replicate 128 0)) := Lib.hid (by rw [HW3.out, HBB.out, ← pgB_zero]; exact Own.new _)
      have HRB : Hid (r < b) := Lib.hid (by rw [HBB.out]; have := HS2.out; omega)
      have HZL : Hid (z.size = 128) := Lib.hid (by rw [HZZ.out, toArr_size]; exact HYL.out)
      clear hb3 HW3 HR2 HB2 HS2 HBB
      go_loopw [7] (fun i wr => CopyRel w r b y i wr) (fun i _ => 128 - (intOf i).toNat)
      case atStart => exact ⟨0, by decide, rfl, by simpa using HO3.out, HR3.out, HB3.out⟩
      case round =>
        obtain ⟨j, hj, rfl, ho, hr, hb⟩ := hrel
        have HO := Lib.hid ho
        have HRR := Lib.hid hr
        have HB := Lib.hid hb
        clear ho hr hb HR3 HB3 HO3
        by_cases hlt : j < 128
        · have hjz : j < z.size := by rw [HZL.out]; exact hlt
          have HZJ : Hid (y[j]? = some z[j]) := Lib.hid (by
            have := HZZ.out
            subst this
            rw [List.getElem?_eq_getElem (by rw [HYL.out]; exact hlt)]
            rfl)
          have HO' : Hid (Own wr b (y.take j ++ (List.replicate 128 (0 : UInt8)).drop j)) := Lib.hid (by rw [List.drop_replicate]; exact HO.out)
          obtain ⟨x0, c1⟩ : ∃ x0 : UInt8, wr.cell? ⟨b, j, none⟩ = some (.int .u8 (x0.toNat : Int)) := ⟨_, HO'.out.cell (j := j) (by rw [List.length_append, List.length_take, List.length_drop, HYL.out]; simp; omega)⟩
          have c2 := HO'.out.free j
          go_wp2_with fail
          go_roundw
          case rel =>
            refine ⟨j + 1, hlt, by go_num, ?_, HRR.out.apart (by have := HRB.out; omega) _, HB.out.setCell (by have := HRB.out; show r ≤ b; omega) _⟩
            have hyj : j < y.length := by rw [HYL.out]; exact hlt
            have := HO'.out.put hyj (by rw [HYL.out]; simp)
            rw [List.drop_replicate] at this
            have e := HZJ.out
            rw [List.getElem?_eq_getElem hyj] at e
            rw [← Option.some.inj e]
            exact this
          case measure => simp [intOf]; omega
        · obtain rfl : j = 128 := by omega
          have HOY : Hid (Own wr b y) := Lib.hid (by
            have := HO.out
            rw [List.take_of_length_le (by rw [HYL.out]; exact Nat.le_refl _)] at this
            simpa using this)
          clear HO
          go_wp2_with (with_reducible refine stop_at (o := ⟨some 37, _, _, _, _, _⟩) ?_)
          refine wpList_load_page rfl _ _ rfl b 0 rfl (pgB y) (by rw [pgB_length]; exact HYL.out) HOY.out.at_ _ Tryd.underlying23 rfl Tryd.arrSize ?_
          refine wpList_store_page rfl _ _ _ rfl r 0 (pgB y) (by rw [pgB_length]; exact HYL.out) rfl rfl (there_of HRR.out.at_ HRR.out.free (by simp)) Tryd.arrSize (fun wb HW => ?_)
          have hrb : wb.rangeAt r 0 (pgCells (pgB y)) := by
            rw [HW.out]
            exact World.rangeAt_setCells_same _ _ _ _ (by rw [pgCells_len, HYL.out]; exact there_of HRR.out.at_ HRR.out.free (by simp))
          have HBB : Hid (Below r w wb) := Lib.hid (below_cells HB.out HW.out (Nat.le_refl _))
          have HRX := Lib.hid hrb
          clear HW hrb
          go_wp2_with fail
          refine bodyPost_ret (v := pgV (pgB y)) ?_ rfl ⟨rfl, by rw [← HR.out]; exact HBB.out⟩
          exact results_cell_mid rfl _ _ r 0 (pgCells (pgB y)) _ rfl HRX.out Tryd.underlying23 rfl (by rw [pgCells_len, HYL.out]; exact Tryd.arrSize)
end Go.Proofs.YtcpekkajcjgoiaaDoor
