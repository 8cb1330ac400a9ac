/-
  The contract of the document's own Lay for layer 9, of right nodes. Conditions: none beyond the premises of each theorem.
-/
import Derived.Test.YtakpjphgkpaipaaDoorNodeRefRight
import Derived.Test.YtakpjphgkpaipaaDoorPackRefFew
namespace Go.Proofs.YtakpjphgkpaipaaDoor
open Go.RowKit

theorem cat_arr (a b : List UInt8) : (⟨a.toArray⟩ : ByteArray) ++ ⟨b.toArray⟩ = ⟨(a ++ b).toArray⟩ := by
  apply ByteArray.ext
  rw [ByteArray.data_append]
  simp
theorem cat_bytes (a : List UInt8) (s : ByteArray) : (⟨a.toArray⟩ : ByteArray) ++ s = ⟨(a ++ s.data.toList).toArray⟩ := by
  have := cat_arr a s.data.toList
  simpa using this
theorem keysD_take {l : List Int} {k : Nat} (h : k < l.length) : keysD (l.take (k + 1)) = keysD (l.take k) ++ be 4 l[k].toNat := by
  unfold keysD
  rw [List.take_succ_eq_append_getElem h, List.flatMap_append, List.flatMap_singleton]
theorem valsD_take {l : List ByteArray} {k : Nat} (h : k < l.length) : valsD (l.take (k + 1)) = valsD (l.take k) ++ l[k].data.toList := by
  unfold valsD
  rw [List.take_succ_eq_append_getElem h, List.flatMap_append, List.flatMap_singleton]
theorem kidsD_take {l : List Int} {k : Nat} (h : k < l.length) : kidsD (l.take (k + 1)) = kidsD (l.take k) ++ [UInt8.ofNat l[k].toNat] := by
  unfold kidsD
  rw [List.take_succ_eq_append_getElem h, List.map_append]
  rfl
def KeyTxt (w : World) (p : Nat) (l : Lay3) (x : Nd) (hd : List UInt8) (s i : Value) (wr : World) : Prop := ∃ k : Nat, k ≤ x.keys.length ∧ i = .int .i64 (k : Int) ∧ s = .string ⟨(hd ++ keysD (x.keys.take k)).toArray⟩ ∧ BoxS w p l x wr
def ValTxt (w : World) (p : Nat) (l : Lay3) (x : Nd) (hd : List UInt8) (s i : Value) (wr : World) : Prop := ∃ k : Nat, k ≤ x.vals.length ∧ i = .int .i64 (k : Int) ∧ s = .string ⟨(hd ++ valsD (x.vals.take k)).toArray⟩ ∧ BoxS w p l x wr
def KidTxt (w : World) (p : Nat) (l : Lay3) (x : Nd) (hd : List UInt8) (s i : Value) (wr : World) : Prop := ∃ k : Nat, k ≤ x.kids.length ∧ i = .int .i64 (k : Int) ∧ s = .string ⟨(hd ++ kidsD (x.kids.take k)).toArray⟩ ∧ BoxS w p l x wr
/-- bounds of a right node -/
structure RightFew (x : Nd) : Prop where
  keys : x.keys.length ≤ 7
  vals : x.vals.length ≤ 7
  kids : x.kids.length ≤ 8
  key : ∀ z ∈ x.keys, ∃ m : Nat, z = (m : Int) ∧ m < 4294967296
  val : ∀ v ∈ x.vals, v.size = 12
  kid : ∀ z ∈ x.kids, ∃ m : Nat, z = (m : Int) ∧ 2 ≤ m ∧ m < 240
theorem right_few {x : Nd} (h : rightN x = true) : RightFew x := by
  obtain ⟨h1, h2, h3⟩ := right_parts h
  have hk := (keysB_iff.1 h1).1
  refine ⟨h2, ?_, ?_, fun z hz => ⟨z.toNat, by have := hk z hz; omega, by have := hk z hz; omega⟩, fun v hv => ?_, fun z hz => ?_⟩
  · rcases h3 with ⟨_, _, h4⟩ | ⟨_, _, h4, _⟩
    · omega
    · rw [h4]; exact Nat.zero_le _
  · rcases h3 with ⟨h4, _⟩ | ⟨_, _, _, _, h4⟩
    · rw [h4]; exact Nat.zero_le _
    · omega
  · rcases h3 with ⟨_, h4, _⟩ | ⟨_, _, h4, _⟩
    · exact of_decide_eq_true (List.all_eq_true.1 h4 v hv)
    · rw [h4] at hv; cases hv
  · rcases h3 with ⟨h4, _⟩ | ⟨_, h4, _⟩
    · rw [h4] at hz; cases hz
    · have := (kidsB_iff.1 h4).1 z hz
      exact ⟨z.toNat, by omega, by omega, by omega⟩
theorem RightFew.val_len {x : Nd} (h : RightFew x) (k : Nat) : (valsD (x.vals.take k)).length ≤ 84 := by
  have h1 : (x.vals.take k).all okVal = true := by
    rw [List.all_eq_true]
    intro v hv
    exact decide_eq_true (h.val v (List.mem_of_mem_take hv))
  rw [valsD_length h1]
  have := h.vals
  rw [List.length_take]
  omega
set_option maxRecDepth 100000 in
set_option maxHeartbeats 4000000 in
theorem RefLay_any {w : World} {l : Lay3} {x : Nd} (h : NdIs w l x) (hr : rightN x = true) : Calls Tryd.prog 18 #[ndV l x] w fun e w' => e = .returned (.string ⟨(layN x).toArray⟩) ∧ Below w.heap.size w w' := by
  obtain ⟨A, B, C, ca, cb, cc⟩ := l
  obtain ⟨T, HTT⟩ : ∃ T : List UInt8, Hid (T = layN x) := ⟨_, Lib.hid rfl⟩
  rw [← HTT.out]
  obtain ⟨p, HP⟩ : ∃ p, Hid (p = w.heap.size) := ⟨_, Lib.hid rfl⟩
  obtain ⟨w1, HW⟩ : ∃ w1, Hid (w1 = w.alloc (.cells #[.slice A x.keys.length ca, .slice B x.vals.length cb, .slice C x.kids.length cc] 25)) := ⟨_, Lib.hid rfl⟩
  have HS : Hid (BoxS w p ⟨A, B, C, ca, cb, cc⟩ x w1) := Lib.hid (by
    rw [HW.out, HP.out]
    exact ⟨NdBox.new (l := ⟨A, B, C, ca, cb, cc⟩) (x := x) _, (Below.refl _ _).alloc (Nat.le_refl _) _⟩)
  have HN := Lib.hid h
  have HFW := Lib.hid (right_few hr)
  obtain ⟨n, HNN⟩ : ∃ n, Hid (n = x.keys.length) := ⟨_, Lib.hid rfl⟩
  obtain ⟨m, HMM⟩ : ∃ m, Hid (m = x.vals.length) := ⟨_, Lib.hid rfl⟩
  obtain ⟨n2, HN2⟩ : ∃ n2, Hid (n2 = x.kids.length) := ⟨_, Lib.hid rfl⟩
  have hn7 : n ≤ 7 := by rw [HNN.out]; exact HFW.out.keys
  have hm7 : m ≤ 7 := by rw [HMM.out]; exact HFW.out.vals
  have hk8 : n2 ≤ 8 := by rw [HN2.out]; exact HFW.out.kids
  have p0 : w1.cell? ⟨p, 0, none⟩ = some (.slice A x.keys.length ca) := HS.out.a.c0
  have p2 : w1.cell? ⟨p, 2, none⟩ = some (.slice C x.kids.length cc) := HS.out.a.c2
  rw [← HNN.out] at p0
  rw [← HN2.out] at p2
  obtain ⟨c, HC⟩ : ∃ c : UInt8, Hid (c = UInt8.ofNat n) := ⟨_, Lib.hid rfl⟩
  have hcv : IntKind.u8.wrap (n : Int) = (c.toNat : Int) := by rw [HC.out, UInt8.toNat_ofNat', IntKind.wrap_u8]; omega
  clear h hr
  go_enter Tryd.func18, Tryd.ntmps18
  go_upto_region 1 with (fail)
  rw [← HW.out, ← HP.out]
  clear HW HP
  go_upto_region 2 with (fail)
  obtain ⟨g, HG⟩ : ∃ g, Hid (g = w1.heap.size) := ⟨_, Lib.hid rfl⟩
  obtain ⟨w2, HW2⟩ : ∃ w2, Hid (w2 = w1.alloc (.cells #[.int .u8 0, .int .u8 (c.toNat : Int)] 5)) := ⟨_, Lib.hid rfl⟩
  rw [← HG.out, ← HW2.out]
  have hb2 : Below w1.heap.size w1 w2 := by rw [HW2.out]; exact (Below.refl _ _).alloc (Nat.le_refl _) _
  have HS2 := Lib.hid (HS.out.carry hb2)
  have HGW : Hid (w.heap.size ≤ g) := Lib.hid (by rw [HG.out]; exact HS.out.below.size)
  have HPG : Hid (p ≠ g) := Lib.hid (by have := HS.out.a.lt; rw [HG.out]; omega)
  have hg0 : w2.cell? ⟨g, 0, none⟩ = some (.int .u8 0) := by rw [HW2.out, HG.out]; simp
  have hg1 : w2.cell? ⟨g, 1, none⟩ = some (.int .u8 (c.toNat : Int)) := by rw [HW2.out, HG.out]; simp
  have hf0 : w2.frozen? ⟨g, 0, none⟩ = false := by rw [HW2.out, HG.out]; simp
  have hf1 : w2.frozen? ⟨g, 1, none⟩ = false := by rw [HW2.out, HG.out]; simp
  have HROW : Hid (Row w2 g [0, c]) := Lib.hid fun i hi => by
    match i, hi with
    | 0, _ => exact ⟨by simpa using hg0, hf0⟩
    | 1, _ => exact ⟨by simpa using hg1, hf1⟩
  have p2 : w2.cell? ⟨p, 2, none⟩ = some (.slice C x.kids.length cc) := HS2.out.a.c2
  rw [← HN2.out] at p2
  have HT0 : Hid (layN x = (if n2 = 0 then (0 : UInt8) else 1) :: c :: (keysD x.keys ++ valsD x.vals ++ kidsD x.kids)) := Lib.hid (by rw [HN2.out, HC.out, HNN.out]; rfl)
  clear hb2 HS HG HW2
  by_cases hk0 : n2 = 0
  case' pos =>
    have hk0' : decide (0 < n2) = false := decide_eq_false (by omega)
    obtain ⟨hd, HHD⟩ : ∃ hd : List UInt8, Hid (hd = [0, c]) := ⟨_, Lib.hid rfl⟩
    have HT : Hid (T = hd ++ (keysD x.keys ++ valsD x.vals ++ kidsD x.kids)) := Lib.hid (by rw [HTT.out, HT0.out, if_pos hk0, HHD.out]; rfl)
    have htx := HROW.out.text 2 2 rfl
    rw [← HHD.out] at htx
    obtain ⟨w3, HW3⟩ : ∃ w3, Hid (w3 = w2) := ⟨_, Lib.hid rfl⟩
    have HS3 : Hid (BoxS w p ⟨A, B, C, ca, cb, cc⟩ x w3) := Lib.hid (by rw [HW3.out]; exact HS2.out)
    rw [← HW3.out] at htx
    clear hk0
    go_upto_region 4 with (fail)
    rw [← HW3.out]
  case' neg =>
    have hk0' : decide (0 < n2) = true := decide_eq_true (by omega)
    obtain ⟨hd, HHD⟩ : ∃ hd : List UInt8, Hid (hd = [1, c]) := ⟨_, Lib.hid rfl⟩
    have HT : Hid (T = hd ++ (keysD x.keys ++ valsD x.vals ++ kidsD x.kids)) := Lib.hid (by rw [HTT.out, HT0.out, if_neg hk0, HHD.out]; rfl)
    obtain ⟨w3, HW3⟩ : ∃ w3, Hid (w3 = w2.setCell ⟨g, 0, none⟩ (.int .u8 1)) := ⟨_, Lib.hid rfl⟩
    have hr3 : Row w3 g [1, c] := by rw [HW3.out]; exact HROW.out.store 0 1
    have htx := hr3.text 2 2 rfl
    rw [← HHD.out] at htx
    have HS3 : Hid (BoxS w p ⟨A, B, C, ca, cb, cc⟩ x w3) := Lib.hid (by
      rw [HW3.out]
      have hp := HPG.out
      exact ⟨⟨(World.cell?_setCell_other _ _ _ _ (by intro hh; injection hh; omega)).trans HS2.out.a.c0, (World.cell?_setCell_other _ _ _ _ (by intro hh; injection hh; omega)).trans HS2.out.a.c1, (World.cell?_setCell_other _ _ _ _ (by intro hh; injection hh; omega)).trans HS2.out.a.c2⟩,
        HS2.out.below.setCell HGW.out _⟩)
    clear hk0 hr3
    go_upto_region 4 with (fail)
    rw [← HW3.out]
  all_goals
    have HDL : Hid (hd.length = 2) := Lib.hid (by rw [HHD.out]; rfl)
    clear HW3 hg0 hg1 hf0 hf1 HROW HS2 HTT HT0 HC hcv p0 p2
    go_wp2_with fail
    clear htx
    go_loopw [4, 5] (fun s i wr => KeyTxt w p ⟨A, B, C, ca, cb, cc⟩ x hd s i wr) (fun _ i _ => n - (intOf i).toNat)
    case atStart => exact ⟨0, Nat.zero_le _, rfl, by simp [keysD], HS3.out⟩
    case round =>
      obtain ⟨k, hk, rfl, rfl, hs⟩ := hrel
      have HSR := Lib.hid hs
      rw [← HNN.out] at hk
      clear hs HS3
      have p0 : wr.cell? ⟨p, 0, none⟩ = some (.slice A x.keys.length ca) := HSR.out.a.c0
      rw [← HNN.out] at p0
      obtain ⟨s, HST⟩ : ∃ s : ByteArray, Hid (s = ⟨(hd ++ keysD (x.keys.take k)).toArray⟩) := ⟨_, Lib.hid rfl⟩
      have hsz : s.size ≤ 30 := by
        rw [HST.out]
        show (hd ++ keysD (x.keys.take k)).length ≤ 30
        rw [List.length_append, HDL.out, keysD_length, List.length_take]
        omega
      rw [← HST.out]
      by_cases hlt : k < n
      · have hk1 : k < x.keys.length := by have := HNN.out; omega
        obtain ⟨a, rfl, hc⟩ := nums_cell (HN.out.carry HSR.out.below).keys hk1
        obtain ⟨z, HZ, hz⟩ := HFW.out.key _ (List.getElem_mem hk1)
        have HZZ := Lib.hid HZ
        rw [HZ] at hc
        clear HZ
        go_wp2_with fail
        refine (RefPut_nat 4 z _ (by decide) hz).mono ?_
        rintro e w5 ⟨rfl, hb⟩
        have HS5 := Lib.hid (HSR.out.carry hb)
        obtain ⟨t, HTX⟩ : ∃ t : ByteArray, Hid (t = ⟨(be 4 z).toArray⟩) := ⟨_, Lib.hid rfl⟩
        have htz : t.size = 4 := by rw [HTX.out]; exact be_length 4 z
        have hcat : ∀ w, (Op.stringOp .add s t).run Tryd.prog w = .ok (.string (s ++ t)) w := fun w => run_string_add_sum w _ _ (by omega)
        rw [← HTX.out]
        clear hb HSR p0 hc
        go_wp2_with fail
        go_roundw
        case rel =>
          refine ⟨k + 1, hk1, by go_num, ?_, HS5.out⟩
          rw [HST.out, HTX.out, cat_arr, keysD_take hk1, HZZ.out, Int.toNat_natCast, List.append_assoc]
        case measure => simp [intOf]; omega
      · obtain rfl : k = n := by omega
        have HKT : Hid (s = ⟨(hd ++ keysD x.keys).toArray⟩) := Lib.hid (by rw [HST.out, HNN.out, List.take_length])
        obtain ⟨h2, HH2⟩ : ∃ h2 : List UInt8, Hid (h2 = hd ++ keysD x.keys) := ⟨_, Lib.hid rfl⟩
        have HL2 : Hid (h2.length ≤ 30) := Lib.hid (by rw [HH2.out, List.length_append, HDL.out, keysD_length, ← HNN.out]; omega)
        rw [← HH2.out] at HKT
        have HTK : Hid (T = h2 ++ (valsD x.vals ++ kidsD x.kids)) := Lib.hid (by simp only [HT.out, HH2.out, List.append_assoc])
        clear HST HT
        go_wp2_with fail
        clear p0
        go_loopw [4, 6] (fun s i wr => ValTxt w p ⟨A, B, C, ca, cb, cc⟩ x h2 s i wr) (fun _ i _ => m - (intOf i).toNat)
        case atStart => exact ⟨0, Nat.zero_le _, rfl, by rw [HKT.out]; simp [valsD], HSR.out⟩
        case round =>
          obtain ⟨k, hk, rfl, rfl, hs⟩ := hrel
          have HSV := Lib.hid hs
          rw [← HMM.out] at hk
          clear hs HSR HKT hsz
          have p1 : wr.cell? ⟨p, 1, none⟩ = some (.slice B x.vals.length cb) := HSV.out.a.c1
          rw [← HMM.out] at p1
          obtain ⟨s, HST⟩ : ∃ s : ByteArray, Hid (s = ⟨(h2 ++ valsD (x.vals.take k)).toArray⟩) := ⟨_, Lib.hid rfl⟩
          have hsz : s.size ≤ 114 := by
            rw [HST.out]
            show (h2 ++ valsD (x.vals.take k)).length ≤ 114
            have := HL2.out
            have := HFW.out.val_len k
            rw [List.length_append]
            omega
          rw [← HST.out]
          by_cases hlt2 : k < m
          · have hk1 : k < x.vals.length := by have := HMM.out; omega
            obtain ⟨a, rfl, hc⟩ := strs_cell (HN.out.carry HSV.out.below).vals hk1
            have hv12 := HFW.out.val _ (List.getElem_mem hk1)
            obtain ⟨v, HV⟩ : ∃ v, Hid (v = x.vals[k]) := ⟨_, Lib.hid rfl⟩
            rw [← HV.out] at hc hv12
            have hcat : ∀ w, (Op.stringOp .add s v).run Tryd.prog w = .ok (.string (s ++ v)) w := fun w => run_string_add_sum w _ _ (by omega)
            go_wp2_with fail
            go_roundw
            case rel =>
              refine ⟨k + 1, hk1, by go_num, ?_, HSV.out⟩
              rw [HST.out, cat_bytes, valsD_take hk1, ← HV.out, List.append_assoc]
            case measure => simp [intOf]; omega
          · obtain rfl : k = m := by omega
            have HKT : Hid (s = ⟨(h2 ++ valsD x.vals).toArray⟩) := Lib.hid (by rw [HST.out, HMM.out, List.take_length])
            obtain ⟨h3, HH3⟩ : ∃ h3 : List UInt8, Hid (h3 = h2 ++ valsD x.vals) := ⟨_, Lib.hid rfl⟩
            have HL3 : Hid (h3.length ≤ 114) := Lib.hid (by
              have := HL2.out
              have := HFW.out.val_len x.vals.length
              rw [List.take_length] at this
              rw [HH3.out, List.length_append]
              omega)
            rw [← HH3.out] at HKT
            have HTV : Hid (T = h3 ++ kidsD x.kids) := Lib.hid (by rw [HTK.out, HH3.out, List.append_assoc])
            clear HST HTK
            go_wp2_with fail
            clear p1
            go_loopw [4, 7] (fun s i wr => KidTxt w p ⟨A, B, C, ca, cb, cc⟩ x h3 s i wr) (fun _ i _ => n2 - (intOf i).toNat)
            case atStart => exact ⟨0, Nat.zero_le _, rfl, by rw [HKT.out]; simp [kidsD], HSV.out⟩
            case round =>
              obtain ⟨k, hk, rfl, rfl, hs⟩ := hrel
              have HSC := Lib.hid hs
              rw [← HN2.out] at hk
              clear hs HSV HKT hsz
              have p2 : wr.cell? ⟨p, 2, none⟩ = some (.slice C x.kids.length cc) := HSC.out.a.c2
              rw [← HN2.out] at p2
              obtain ⟨s, HST⟩ : ∃ s : ByteArray, Hid (s = ⟨(h3 ++ kidsD (x.kids.take k)).toArray⟩) := ⟨_, Lib.hid rfl⟩
              have hsz : s.size ≤ 122 := by
                rw [HST.out]
                show (h3 ++ kidsD (x.kids.take k)).length ≤ 122
                have := HL3.out
                rw [List.length_append, kidsD_length, List.length_take]
                omega
              rw [← HST.out]
              by_cases hlt3 : k < n2
              · have hk1 : k < x.kids.length := by have := HN2.out; omega
                obtain ⟨a, rfl, hc⟩ := nums_cell (HN.out.carry HSC.out.below).kids hk1
                obtain ⟨z, HZ, hz2, hz⟩ := HFW.out.kid _ (List.getElem_mem hk1)
                have HZZ := Lib.hid HZ
                rw [HZ] at hc
                clear HZ hz2
                obtain ⟨q, HQQ⟩ : ∃ q : UInt8, Hid (q = UInt8.ofNat z) := ⟨_, Lib.hid rfl⟩
                have hqv : IntKind.u8.wrap (z : Int) = (q.toNat : Int) := by rw [HQQ.out, UInt8.toNat_ofNat', IntKind.wrap_u8]; omega
                have htx := one_text wr q
                have hcat : ∀ w, (Op.stringOp .add s ⟨#[q]⟩).run Tryd.prog w = .ok (.string (s ++ ⟨#[q]⟩)) w := fun w => run_string_add_sum w _ _ (by
                  have e : (⟨#[q]⟩ : ByteArray).size = 1 := rfl
                  omega)
                go_wp2_with fail
                go_roundw
                case rel =>
                  refine ⟨k + 1, hk1, by go_num, ?_, HSC.out.carry ((Below.refl _ _).alloc (Nat.le_refl _) _)⟩
                  have e : (⟨#[q]⟩ : ByteArray) = ⟨[q].toArray⟩ := rfl
                  rw [HST.out, e, cat_arr, kidsD_take hk1, HZZ.out, Int.toNat_natCast, ← HQQ.out, List.append_assoc]
                case measure => simp [intOf]; omega
              · obtain rfl : k = n2 := by omega
                have HKT : Hid (s = ⟨T.toArray⟩) := Lib.hid (by rw [HST.out, HTV.out, HN2.out, List.take_length])
                go_wp2_with fail
                go_ret
                exact ⟨by rw [← HKT.out]; rfl, HSC.out.below⟩
end Go.Proofs.YtakpjphgkpaipaaDoor
