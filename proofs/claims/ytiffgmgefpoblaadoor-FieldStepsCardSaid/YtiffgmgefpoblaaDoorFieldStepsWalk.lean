/-
  The walk of FieldSteps: the costs of neighbours differ by a step at most; a way down ends at the source and takes as many steps as the cost says. Conditions: none beyond the premises of each theorem.
-/
import Derived.Test.YtiffgmgefpoblaaDoorFieldMoreWalk
namespace Go.Proofs.YtiffgmgefpoblaaDoor
open Go.RowKit Hp Fld

theorem byte_wall9 (s : ByteArray) (n : Nat) (hn : n < s.size) : ((s[n].toNat : Int) == 35) = !(Grid.openAt s.data.toList n) := by
  rw [← byte_ne_int s n hn]
  cases h : ((s[n].toNat : Int) == 35) <;> simp [bne, h]
section
variable {W H : Int} {s : ByteArray} {wd i : Nat} {k : Int} {F : List Int}
theorem steps_open (hr : rightM W H s = true) (hW : W = wd) (hs : 1 ≤ k) (ho : Grid.openAt s.data.toList i = true) (hf : IsField s.data.toList wd [(i : Int)] k F) (j : Nat) : decide (fat F j < 0) = !(Grid.openAt s.data.toList j) := by
  cases hj : Grid.openAt s.data.toList j with
  | false =>
    rw [hf.no fun r hr => by have := hr.open_; rw [hj] at this; cases this]
    rfl
  | true =>
    have hJ := (Grid.rightB_iff.1 hr).2.2
    rw [hW] at hJ
    have h1 := (Grid.joined_iff.1 hJ).2 i j ho hj
    obtain ⟨r, hr⟩ := walk_reach ho h1
    obtain ⟨m, _, h2, _⟩ := hf.walk hr
    have := mul_nn m hs
    simp only [Bool.not_true, decide_eq_false_iff_not]
    omega
theorem near_of (hr : rightM W H s = true) (hW : W = wd) {j : Nat} (hj : Grid.openAt s.data.toList j = true) : nearM W H s (j : Int) = Grid.nears s.data.toList wd j := by
  have hlt := Grid.openAt_lt hj
  rw [size_list] at hlt
  unfold nearM
  rw [openM_on hlt, hj, hr, hW]
  rfl
theorem near_wall {j : Nat} (hj : Grid.openAt s.data.toList j = false) (hlt : j < s.size) : nearM W H s (j : Int) = [] := by
  unfold nearM
  rw [openM_on hlt, hj]
  rfl
theorem steps_near (hs : 1 ≤ k) (hr : rightM W H s = true) (hW : W = wd) (ho : Grid.openAt s.data.toList i = true) (hf : IsField s.data.toList wd [(i : Int)] k F) {j n : Nat} (hj : Grid.openAt s.data.toList j = true) (hn : n ∈ Grid.nears s.data.toList wd j) :
    -k ≤ fat F n - fat F j ∧ fat F n - fat F j ≤ k ∧ 0 ≤ fat F n ∧ 0 ≤ fat F j := by
  obtain ⟨h1, h2⟩ := Grid.mem_nears.1 hn
  have hJ := (Grid.rightB_iff.1 hr).2.2
  rw [hW] at hJ
  obtain ⟨r, hr1⟩ := walk_reach ho ((Grid.joined_iff.1 hJ).2 i j ho hj)
  obtain ⟨m, _, e1, l1⟩ := hf.walk hr1
  obtain ⟨q, _, e2, l2⟩ := hf.walk (.step l1.1 h2 h1)
  have a1 := l1.next l2 h2
  have a2 := l2.next l1 (by rw [Grid.beside_comm]; exact h2)
  have b1 := (mul_le hs).2 a1
  have b2 := (mul_le hs).2 a2
  rw [mul_succ] at b1 b2
  have := mul_nn m hs
  have := mul_nn q hs
  rw [e1, e2]
  omega
def lessB (F : List Int) (k : Int) (i j : Nat) (l : List Nat) : Bool := decide (j = i) || l.any fun n => decide (fat F n - fat F j = -k)
theorem lessB_snoc (F : List Int) (k : Int) (i j : Nat) (l : List Nat) (n : Nat) : lessB F k i j (l ++ [n]) = (lessB F k i j l || decide (fat F n - fat F j = -k)) := by
  unfold lessB
  rw [List.any_append, ← Bool.or_assoc]
  simp
theorem steps_less (hf : IsField s.data.toList wd [(i : Int)] k F) {j : Nat} (hj : 0 ≤ fat F j) : lessB F k i j (Grid.nears s.data.toList wd j) = true := by
  rcases hf.at_ j with ⟨h1, _⟩ | ⟨m, e1, l1⟩
  · rw [h1] at hj; exact absurd hj (by decide)
  · unfold lessB
    rw [Bool.or_eq_true]
    cases m with
    | zero =>
      have := l1.1.zero
      simp only [List.mem_singleton] at this
      exact .inl (decide_eq_true (by omega))
    | succ m =>
      obtain ⟨a, la, hb⟩ := l1.pred
      refine .inr (List.any_eq_true.2 ⟨a, Grid.mem_nears.2 ⟨la.1.open_, by rw [Grid.beside_comm]; exact hb⟩, decide_eq_true ?_⟩)
      rw [hf.least la, e1, mul_succ]
      omega
theorem steps_way (hr : rightM W H s = true) (hW : W = wd) (hs : 1 ≤ k) (hf : IsField s.data.toList wd [(i : Int)] k F) {c : Nat} (hc : 0 ≤ fat F c) :
    ∃ m : Nat, m < 64 ∧ fat F c = k * m ∧ (wayZ W H s F (c : Int)).length = m ∧ (m = 0 → c = i) ∧ (0 < m → (wayZ W H s F (c : Int)).getLast? = some i) := by
  obtain ⟨_, _, _, _, _, _, _, _, hlen, _, h64⟩ := right_small hr
  rcases hf.at_ c with ⟨h1, _⟩ | ⟨m, e1, l1⟩
  · rw [h1] at hc; exact absurd hc (by decide)
  · have hm := l1.lt
    have h := wayM_field hf hs (dn := fun c => downZ W H s F c) (fun c ho => by
      show downZ W H s F (c : Int) = _
      unfold downZ
      rw [if_pos (by rw [hf.len, hlen]), near_of hr hW ho]
      rfl) m 64 c (by omega) l1
    exact ⟨m, by omega, e1, h.1, h.2.1, h.2.2⟩
theorem way_wall {c : Nat} (hj : Grid.openAt s.data.toList c = false) (hlt : c < s.size) : wayZ W H s F (c : Int) = [] := by
  refine wayM_nil ?_
  show downZ W H s F (c : Int) = []
  unfold downZ
  rw [near_wall hj hlt]
  split <;> rfl
end
set_option maxRecDepth 100000 in
set_option maxHeartbeats 2000000 in
theorem steps_walk (W H : Int) (s : ByteArray) (a c b : Nat) (ha : a < 256) (hc : c < 256) (_hb : b < 256) (w : World) : Calls Tryd.prog 4 #[.agg #[.int .i64 W, .int .i64 H, .string s], .int .u8 (a : Int), .int .u8 (c : Int), .int .u8 (b : Int)] w fun e w' => e = .returned (.bool true) ∧ Below w.heap.size w w' := by
  obtain ⟨w1, HW1⟩ : ∃ w1, Hid (w1 = w.alloc (.cells #[.int .i64 W, .int .i64 H, .string s] 23)) := ⟨_, Lib.hid rfl⟩
  obtain ⟨p, HP⟩ : ∃ p, Hid (p = w.heap.size) := ⟨_, Lib.hid rfl⟩
  have HR1 : Hid (RefAt w1 p W H s) := Lib.hid (by rw [HW1.out, HP.out]; exact heap_alloc_new w _)
  have HB1 : Hid (Below w.heap.size w w1) := Lib.hid (by rw [HW1.out]; exact (Below.refl _ _).alloc (Nat.le_refl _) _)
  go_enter Tryd.func4, Tryd.ntmps4
  go_upto_region 1 with (fail)
  rw [← HP.out, ← HW1.out]
  clear HP HW1
  go_wp2_with fail
  refine (awake_any w1).mono ?_
  rintro e w2 ⟨rfl, hbw⟩
  have HR2 := Lib.hid (HR1.out.carry hbw)
  have HB2 := Lib.hid (HB1.out.trans (hbw.mono HB1.out.size))
  clear hbw HR1 HB1
  dsimp only
  have c0 := HR2.out.w_
  have c1 := HR2.out.h_
  have c2 := HR2.out.s_
  go_wp2_with fail
  refine (RefRight_any W H s w2).mono ?_
  obtain ⟨z, HZ⟩ : ∃ z, Hid (z = rightM W H s) := ⟨_, Lib.hid rfl⟩
  rw [← HZ.out]
  rintro e w3 ⟨rfl, hbw⟩
  have HR3 := Lib.hid (HR2.out.carry hbw)
  have HB3 := Lib.hid (HB2.out.trans (hbw.mono HB2.out.size))
  clear hbw HR2 HB2 c0 c1 c2
  dsimp only
  cases z with
  | false =>
    go_wp2_with fail
    refine (awake_any w3).mono ?_
    rintro e w4 ⟨rfl, hbw⟩
    have HB4 := Lib.hid (HB3.out.trans (hbw.mono HB3.out.size))
    clear hbw
    dsimp only
    go_wp2_with fail
    go_ret
    exact ⟨rfl, HB4.out⟩
  | true =>
    have HRT : Hid (rightM W H s = true) := Lib.hid HZ.out.symm
    obtain ⟨wd, hgt, e1, e2, h1, h8, hh1, hh8, hl, hpos, h64⟩ := right_small HRT.out
    have HWE := Lib.hid e1
    have HHE := Lib.hid e2
    have HLE := Lib.hid hl
    have hsm : s.size ≤ maxLen := by unfold maxLen; omega
    have HSM := Lib.hid hsm
    clear HZ e1 e2 hh1 hh8 hl hsm
    have c0 := HR3.out.w_
    have c1 := HR3.out.h_
    have c2 := HR3.out.s_
    obtain ⟨i, HI9⟩ : ∃ i, Hid (i = a % s.size) := ⟨_, Lib.hid rfl⟩
    have hi9 : i < s.size := by rw [HI9.out]; exact Nat.mod_lt _ hpos
    have i1 : (a : Int).tmod (s.size : Int) = (i : Int) := by rw [HI9.out, Int.tmod_eq_emod_of_nonneg (Int.natCast_nonneg _), Int.natCast_emod]
    have i2 : (a : Int) % (s.size : Int) = (i : Int) := by rw [HI9.out, Int.natCast_emod]
    have i4 : wrap64 (i : Int) = (i : Int) := wrap64_small (Nat.lt_of_lt_of_le hi9 (Nat.le_trans h64 (by decide)))
    have i5 : IntKind.i64.wrap (i : Int) = (i : Int) := wrapI_small (Nat.lt_of_lt_of_le hi9 (Nat.le_trans h64 (by decide)))
    have i6 : wrap64 (a : Int) = (a : Int) := wrap64_small (Nat.lt_of_lt_of_le ha (by decide))
    have i7 : IntKind.i64.wrap (a : Int) = (a : Int) := wrapI_small (Nat.lt_of_lt_of_le ha (by decide))
    have i3 : ¬ s.size = 0 := by omega
    obtain ⟨k, HK⟩ : ∃ k : Int, Hid (k = 1 + (b : Int) % 9) := ⟨_, Lib.hid rfl⟩
    have hk1 : 1 ≤ k := by rw [HK.out]; omega
    have hk9 : k ≤ 9 := by rw [HK.out]; omega
    go_upto_region 5 with (fail)
    rw [← HK.out]
    have c0 := HR3.out.w_
    have c1 := HR3.out.h_
    have c2 := HR3.out.s_
    clear i1 i2 i4 i5 i6 i7
    go_wp2_with fail
    refine (Of_any W H s w3).mono ?_
    rintro e w4 ⟨rfl, hbw⟩
    have HR4 := Lib.hid (HR3.out.carry hbw)
    have HB4 := Lib.hid (HB3.out.trans (hbw.mono HB3.out.size))
    clear hbw HR3 HB3 c0 c1 c2
    go_wp2_with (with_reducible refine stop_at (o := ⟨some 42, _, _, _, _, _⟩) ?_)
    unfold Stopped
    refine wpList_nums rfl 24 3 .i64 1 _ rfl [(i : Int)] Tryd.underlying24 oneInt7 (by kernel_rfl) rfl (by decide) (by decide) rfl ?_
    intro w5 p9 hpe hnm hbl
    have HR5 := Lib.hid (HR4.out.carry hbl.out)
    have HB5 := Lib.hid (HB4.out.trans (hbl.out.mono HB4.out.size))
    have hco := Lib.hid (Costs_yes (cap := 1) (st := k) W H s hnm.out HRT.out hk1 (by omega) (by show 1 ≤ 64; decide))
    clear hpe hnm hbl HR4 HB4
    simp only [Act.put, List.setIfInBounds_toArray, List.set_cons_zero, List.set_cons_succ]
    go_wp2_with fail
    refine hco.out.mono ?_
    rintro e w6 ⟨gF, F, rfl, hg9, hrow, hfi, hbm⟩
    have hlF : F.length = s.size := by rw [hfi.len]; exact HLE.out
    rw [hlF]
    rw [HWE.out] at hfi
    have HLF := Lib.hid hlF
    have HIF : Hid (IsField s.data.toList wd [(i : Int)] k F) := Lib.hid hfi
    have HNF : Hid (Nums w6 .i64 (some ⟨gF, 0, none⟩) F) := Lib.hid hrow.nums
    have HR6 := Lib.hid (HR5.out.carry hbm)
    have HB6 := Lib.hid (HB5.out.trans (hbm.mono HB5.out.size))
    clear hco hg9 hrow hfi hbm hlF HR5 HB5
    have c0 := HR6.out.w_
    have c1 := HR6.out.h_
    have c2 := HR6.out.s_
    have hbw := byte_wall9 s i hi9
    obtain ⟨op, HOP⟩ : ∃ op, Hid (op = Grid.openAt s.data.toList i) := ⟨_, Lib.hid rfl⟩
    rw [← HOP.out] at hbw
    cases op with
    | false =>
      have r0 := nums_row HNF.out (i := i) (by rw [HLF.out]; exact hi9)
      rw [HIF.out.no fun r hr => no_walk (S := [(i : Int)]) (fun t ht => by simp only [List.mem_singleton] at ht; rw [Int.ofNat.inj ht]; exact HOP.out.symm) hr] at r0
      have hwo := fun (w9 : World) (h9 : Nums w9 .i64 (some ⟨gF, 0, none⟩) F) => Way_any (w := w9) (cap := s.size) (F := F) W H s (i : Int) HSM.out (by rw [HLF.out]; exact HSM.out) h9
      rw [way_wall HOP.out.symm hi9, HLF.out] at hwo
      have HWO := Lib.hid hwo
      clear hwo
      go_wp2_with (go_at_call 13; refine (Num_nil _).mono ?_; rintro e w9 ⟨rfl, rfl⟩)
      refine (Of_any W H s w6).mono ?_
      rintro e w7 ⟨rfl, hbx⟩
      have HB7 := Lib.hid (HB6.out.trans (hbx.mono HB6.out.size))
      have hwo := Lib.hid (HWO.out w7 (HNF.out.carry hbx))
      clear hbx HB6 c0 c1 c2 r0
      go_wp2_with fail
      refine hwo.out.mono ?_
      rintro e wz ⟨A8, cap8, rfl, _, hb8, _⟩
      have HBz : Hid (Below w.heap.size w wz) := Lib.hid (HB7.out.trans (hb8.mono HB7.out.size))
      clear hb8 hwo
      go_wp2_with fail
      go_ret
      exact ⟨rfl, HBz.out⟩
    | true =>
      go_wp2_with (go_at_call 13; refine (Num_nil _).mono ?_; rintro e w9 ⟨rfl, rfl⟩)
      go_loopw [13] (fun u wr => ∃ j : Nat, u = .int .i64 (j : Int) ∧ j ≤ s.size ∧ Below w6.heap.size w6 wr) (fun u _ => s.size - (intOf u).toNat)
      case atStart => exact ⟨0, rfl, Nat.zero_le _, Below.refl _ _⟩
      case round =>
        obtain ⟨j, rfl, hj, hbr⟩ := hrel
        have HBR := Lib.hid hbr
        have HRr := Lib.hid (HR6.out.carry hbr)
        have HNr := Lib.hid (HNF.out.carry hbr)
        have HBr := Lib.hid (HB6.out.trans (hbr.mono HB6.out.size))
        clear hbr c0 c1 c2
        have c0 := HRr.out.w_
        have c1 := HRr.out.h_
        have c2 := HRr.out.s_
        by_cases hjl : j < s.size
        · have hbj := byte_wall9 s j hjl
          have hop := steps_open HRT.out HWE.out hk1 HOP.out.symm HIF.out j
          have r0 := nums_row HNr.out (i := j) (by rw [HLF.out]; exact hjl)
          obtain ⟨x, HX⟩ : ∃ x, Hid (x = fat F j) := ⟨_, Lib.hid rfl⟩
          rw [← HX.out] at r0 hop
          obtain ⟨oj, HOJ⟩ : ∃ oj, Hid (oj = Grid.openAt s.data.toList j) := ⟨_, Lib.hid rfl⟩
          rw [← HOJ.out] at hbj hop
          have hne := Near_any W H s (j : Int) HSM.out
          cases oj with
          | false =>
            rw [near_wall HOJ.out.symm hjl] at hne
            have HNE := Lib.hid hne
            have hx : x < 0 := of_decide_eq_true hop
            have hji : ¬ j = i := fun e => by
              have h1 := HOJ.out
              rw [e, ← HOP.out] at h1
              cases h1
            clear hop hne
            go_wp2_with fail
            go_quiet (fail)
            clear hbj
            obtain ⟨w7, HW7⟩ : ∃ w7, Hid (w7 = wr.drewN nq) := ⟨_, Lib.hid rfl⟩
            rw [← HW7.out]
            have HB7 : Hid (Below w6.heap.size w6 w7) := Lib.hid (by rw [HW7.out]; exact below_drewN HBR.out nq)
            clear HW7 HBR HRr HNr HBr c0 c1 c2 r0
            have HR7 := Lib.hid (HR6.out.carry HB7.out)
            have c0 := HR7.out.w_
            have c1 := HR7.out.h_
            have c2 := HR7.out.s_
            go_wp2_with fail
            refine (Of_any W H s w7).mono ?_
            rintro e w8 ⟨rfl, hb8⟩
            have HB8 : Hid (Below w6.heap.size w6 w8) := Lib.hid (HB7.out.trans (hb8.mono HB7.out.size))
            clear hb8 HR7 HB7 c0 c1 c2
            have hne := Lib.hid (HNE.out w8)
            go_wp2_with fail
            refine hne.out.mono ?_
            rintro e w9 ⟨A, capn, rfl, _, hb9⟩
            have HB9 : Hid (Below w6.heap.size w6 w9) := Lib.hid (HB8.out.trans (hb9.mono HB8.out.size))
            clear hne hb9 HB8
            have r0 := nums_row (HNF.out.carry HB9.out) (i := j) (by rw [HLF.out]; exact hjl)
            rw [← HX.out] at r0
            have hji2 : ¬ (j : Int) = (i : Int) := by omega
            go_wp2_with fail
            go_loopw [15, 16] (fun u15 u wr2 => u15 = .bool false ∧ u = .int .i64 0 ∧ wr2 = w9) (fun _ _ _ => 0)
            case atStart => exact ⟨by simp [hji2], rfl, rfl⟩
            case round =>
              obtain ⟨rfl, rfl, rfl⟩ := hrel
              go_wp2_with fail
              go_roundw
              case rel => exact ⟨j + 1, by go_num, hjl, HB9.out⟩
              case measure => simp [intOf]; omega
          | true =>
            have hx : ¬ x < 0 := of_decide_eq_false hop
            have hx0 : 0 ≤ x := by omega
            have HLS := Lib.hid (steps_less (i := i) HIF.out (by rw [← HX.out]; exact hx0 : 0 ≤ fat F j))
            have HSN := Lib.hid (fun n hn => steps_near hk1 HRT.out HWE.out HOP.out.symm HIF.out (j := j) (n := n) HOJ.out.symm hn)
            rw [near_of HRT.out HWE.out HOJ.out.symm] at hne
            obtain ⟨l, HL⟩ : ∃ l, Hid (l = Grid.nears s.data.toList wd j) := ⟨_, Lib.hid rfl⟩
            rw [← HL.out] at hne HLS HSN
            have HNE := Lib.hid hne
            have HLL : Hid (l.length ≤ 4 ∧ ∀ n ∈ l, n < s.size) := Lib.hid (by
              rw [HL.out]
              refine ⟨Grid.nears_length_le h1 h8, fun n hn => ?_⟩
              have := Grid.openAt_lt (Grid.mem_nears.1 hn).1
              rwa [HLE.out] at this)
            clear hop hne
            go_wp2_with fail
            go_quiet (fail)
            clear hbj
            obtain ⟨w7, HW7⟩ : ∃ w7, Hid (w7 = wr.drewN nq) := ⟨_, Lib.hid rfl⟩
            rw [← HW7.out]
            have HB7 : Hid (Below w6.heap.size w6 w7) := Lib.hid (by rw [HW7.out]; exact below_drewN HBR.out nq)
            clear HW7 HBR HRr HNr HBr c0 c1 c2 r0
            have HR7 := Lib.hid (HR6.out.carry HB7.out)
            have c0 := HR7.out.w_
            have c1 := HR7.out.h_
            have c2 := HR7.out.s_
            go_wp2_with fail
            refine (Of_any W H s w7).mono ?_
            rintro e w8 ⟨rfl, hb8⟩
            have HB8 : Hid (Below w6.heap.size w6 w8) := Lib.hid (HB7.out.trans (hb8.mono HB7.out.size))
            clear hb8 HR7 HB7 c0 c1 c2
            have hne := Lib.hid (HNE.out w8)
            go_wp2_with fail
            refine hne.out.mono ?_
            rintro e w9 ⟨A, capn, rfl, hnn, hb9⟩
            have HB9 : Hid (Below w6.heap.size w6 w9) := Lib.hid (HB8.out.trans (hb9.mono HB8.out.size))
            have HNN := Lib.hid hnn
            clear hne hb9 HB8 hnn
            obtain ⟨b0, HB0⟩ : ∃ b0, Hid (b0 = decide (j = i)) := ⟨_, Lib.hid rfl⟩
            have hbi : ((j : Int) == (i : Int)) = b0 := by
              rw [HB0.out, Bool.eq_iff_iff]
              simp only [beq_iff_eq, decide_eq_true_eq]
              omega
            have hk2 : wrap64 (-k) = -k := by unfold wrap64; omega
            have hk3 : IntKind.i64.wrap (-k) = -k := by rw [IntKind.wrap_i64]; omega
            go_wp2_with fail
            clear hbi
            go_loopw [15, 16] (fun u15 u wr2 => ∃ t : Nat, u15 = .bool (lessB F k i j (l.take t)) ∧ u = .int .i64 (t : Int) ∧ t ≤ l.length ∧ Below w9.heap.size w9 wr2) (fun _ u _ => l.length - (intOf u).toNat)
            case atStart => exact ⟨0, by rw [HB0.out]; simp [lessB], rfl, Nat.zero_le _, Below.refl _ _⟩
            case round =>
              obtain ⟨t, rfl, rfl, ht, hbt⟩ := hrel
              have HBT := Lib.hid hbt
              have HB10 : Hid (Below w6.heap.size w6 wr) := Lib.hid (HB9.out.trans (hbt.mono HB9.out.size))
              have r0 := nums_row (HNF.out.carry HB10.out) (i := j) (by rw [HLF.out]; exact hjl)
              rw [← HX.out] at r0
              have HTT := Lib.hid ht
              clear hbt ht
              by_cases htl : t < l.length
              · obtain ⟨n, HN⟩ : ∃ n, Hid (n = l[t]) := ⟨_, Lib.hid rfl⟩
                have HNM : Hid (n ∈ l) := Lib.hid (by rw [HN.out]; exact List.getElem_mem htl)
                have HTK : Hid (l.take (t + 1) = l.take t ++ [n]) := Lib.hid (by rw [List.take_add_one, List.getElem?_eq_getElem htl, HN.out]; rfl)
                obtain ⟨ad, hcA, hcc⟩ := (HNN.out.carry HBT.out).at_ (ints_at htl)
                subst hcA
                rw [← HN.out] at hcc
                have hnl : n < s.size := HLL.out.2 n HNM.out
                have r1 := nums_row (HNF.out.carry HB10.out) (i := n) (by rw [HLF.out]; exact hnl)
                obtain ⟨sn1, sn2, sn3, sn4⟩ := HSN.out n HNM.out
                obtain ⟨y, HY⟩ : ∃ y, Hid (y = fat F n) := ⟨_, Lib.hid rfl⟩
                rw [← HY.out] at r1 sn1 sn2 sn3
                rw [← HX.out] at sn1 sn2
                obtain ⟨d, HD⟩ : ∃ d, Hid (d = y - x) := ⟨_, Lib.hid rfl⟩
                rw [← HD.out] at sn1 sn2
                have hd1 : wrap64 (y - x) = d := by
                  have := HD.out
                  unfold wrap64
                  omega
                have hd2 : IntKind.i64.wrap (y - x) = d := by
                  have := HD.out
                  rw [IntKind.wrap_i64]
                  omega
                have hd3 : ¬ k < d := by omega
                have hd4 : ¬ d < -k := by omega
                have HLN : Hid (lessB F k i j (l.take (t + 1)) = (lessB F k i j (l.take t) || decide (d = -k))) := Lib.hid (by rw [HTK.out, lessB_snoc, ← HY.out, ← HX.out, ← HD.out])
                clear sn1 sn2 sn3 sn4
                have hl4 := HLL.out.1
                obtain ⟨b1, HB1⟩ : ∃ b1, Hid (b1 = lessB F k i j (l.take t)) := ⟨_, Lib.hid rfl⟩
                rw [← HB1.out] at HLN ⊢
                go_wp2_with fail
                go_quiet (fail)
                clear r0 r1 hcc
                cases b1 with
                | true =>
                  go_wp2_with fail
                  go_roundw
                  case rel => exact ⟨t + 1, by rw [HLN.out]; rfl, by first | go_num | (rw [show wrap64 ((t : Int) + 1) = ((t + 1 : Nat) : Int) by have := HLL.out.1; unfold wrap64; omega]), htl, below_drewN HBT.out nq⟩
                  case measure => simp [intOf]; omega
                | false =>
                  by_cases hdk : d = -k
                  · go_wp2_with fail
                    go_roundw
                    case rel => exact ⟨t + 1, by rw [HLN.out, decide_eq_true hdk]; first | rfl | simp [hdk], by first | go_num | (rw [show wrap64 ((t : Int) + 1) = ((t + 1 : Nat) : Int) by have := HLL.out.1; unfold wrap64; omega]), htl, below_drewN HBT.out nq⟩
                    case measure => simp [intOf]; omega
                  · go_wp2_with fail
                    go_roundw
                    case rel => exact ⟨t + 1, by rw [HLN.out, decide_eq_false hdk]; first | rfl | simp [hdk], by first | go_num | (rw [show wrap64 ((t : Int) + 1) = ((t + 1 : Nat) : Int) by have := HLL.out.1; unfold wrap64; omega]), htl, below_drewN HBT.out nq⟩
                    case measure => simp [intOf]; omega
              · obtain rfl : t = l.length := by have := HTT.out; omega
                rw [List.take_length, HLS.out]
                go_wp2_with fail
                go_roundw
                case rel => exact ⟨j + 1, by go_num, hjl, HB10.out⟩
                case measure => simp [intOf]; omega
        · obtain rfl : j = s.size := by omega
          obtain ⟨c9, HCM⟩ : ∃ c9, Hid (c9 = c % s.size) := ⟨_, Lib.hid rfl⟩
          have hc9l : c9 < s.size := by rw [HCM.out]; exact Nat.mod_lt _ hpos
          have c91 : (c : Int).tmod (s.size : Int) = (c9 : Int) := by rw [HCM.out, Int.tmod_eq_emod_of_nonneg (Int.natCast_nonneg _), Int.natCast_emod]
          have c92 : (c : Int) % (s.size : Int) = (c9 : Int) := by rw [HCM.out, Int.natCast_emod]
          have c94 : wrap64 (c9 : Int) = (c9 : Int) := wrap64_small (Nat.lt_of_lt_of_le hc9l (Nat.le_trans h64 (by decide)))
          have c95 : IntKind.i64.wrap (c9 : Int) = (c9 : Int) := wrapI_small (Nat.lt_of_lt_of_le hc9l (Nat.le_trans h64 (by decide)))
          have c96 : wrap64 (c : Int) = (c : Int) := wrap64_small (Nat.lt_of_lt_of_le hc (by decide))
          have c97 : IntKind.i64.wrap (c : Int) = (c : Int) := wrapI_small (Nat.lt_of_lt_of_le hc (by decide))
          obtain ⟨x, HX⟩ : ∃ x, Hid (x = fat F c9) := ⟨_, Lib.hid rfl⟩
          have hop := steps_open HRT.out HWE.out hk1 HOP.out.symm HIF.out c9
          rw [← HX.out] at hop
          obtain ⟨way, HWY⟩ : ∃ way, Hid (way = wayZ W H s F (c9 : Int)) := ⟨_, Lib.hid rfl⟩
          have hwo := fun (w9 : World) (h9 : Nums w9 .i64 (some ⟨gF, 0, none⟩) F) => Way_any (w := w9) (cap := s.size) (F := F) W H s (c9 : Int) HSM.out (by rw [HLF.out]; exact HSM.out) h9
          rw [← HWY.out, HLF.out] at hwo
          have HWO := Lib.hid hwo
          clear hwo
          go_wp2_with fail
          refine (Of_any W H s wr).mono ?_
          rintro e w7 ⟨rfl, hb7⟩
          have HB7 : Hid (Below w6.heap.size w6 w7) := Lib.hid (HBR.out.trans (hb7.mono HBR.out.size))
          clear hb7 HBR HRr HNr HBr c0 c1 c2
          have hwo := Lib.hid (HWO.out w7 (HNF.out.carry HB7.out))
          go_wp2_with fail
          refine hwo.out.mono ?_
          rintro e w8 ⟨A8, cap8, rfl, hn8, hb8, _⟩
          have HB8 : Hid (Below w6.heap.size w6 w8) := Lib.hid (HB7.out.trans (hb8.mono HB7.out.size))
          have HBz : Hid (Below w.heap.size w w8) := Lib.hid (HB6.out.trans (HB8.out.mono HB6.out.size))
          have HN8 := Lib.hid hn8
          clear hwo hn8 hb8 HB7
          have r0 := nums_row (HNF.out.carry HB8.out) (i := c9) (by rw [HLF.out]; exact hc9l)
          rw [← HX.out] at r0
          clear c91 c92 c94 c95 c96 c97
          cases hoc : Grid.openAt s.data.toList c9 with
          | false =>
            rw [hoc] at hop
            have hx : x < 0 := of_decide_eq_true hop
            have hw0 : way = [] := by rw [HWY.out]; exact way_wall hoc hc9l
            subst hw0
            clear hop
            go_wp2_with fail
            go_ret
            exact ⟨rfl, HBz.out⟩
          | true =>
            rw [hoc] at hop
            have hx : ¬ x < 0 := of_decide_eq_false hop
            clear hop
            obtain ⟨m, hm, hxe, hwl, hw0, hw1⟩ := steps_way HRT.out HWE.out hk1 HIF.out (c := c9) (by rw [← HX.out]; omega)
            rw [← HX.out] at hxe
            rw [← HWY.out] at hwl hw1
            have HWL := Lib.hid hwl
            have HW0 := Lib.hid hw0
            have HW1 := Lib.hid hw1
            have HXE := Lib.hid hxe
            have hmk : wrap64 ((m : Int) * k) = x := by
              have h1 : 0 ≤ k * (m : Int) := mul_nn m hk1
              have h2 : k * (m : Int) ≤ 100000 := mul_bound (by omega) (by omega)
              rw [hxe, Int.mul_comm]
              unfold wrap64
              omega
            have hmk2 : IntKind.i64.wrap ((m : Int) * k) = x := by rw [← hmk]; unfold wrap64; exact IntKind.wrap_i64 _
            rw [hwl]
            clear hwl hw0 hw1 hxe
            by_cases hm0 : m = 0
            · subst hm0
              have hci := HW0.out rfl
              have hx1 : x = 0 := by rw [HXE.out]; simp
              subst hx1
              subst hci
              clear hmk hmk2
              go_wp2_with fail
              go_ret
              exact ⟨rfl, HBz.out⟩
            · have hl1 := HW1.out (by omega)
              obtain ⟨ad, hA, hcl⟩ := HN8.out.at_ (i := m - 1) (z := (i : Int)) (by
                unfold ints
                rw [List.getElem?_map]
                rw [List.getLast?_eq_getElem?, HWL.out] at hl1
                rw [hl1]
                rfl)
              subst hA
              have hm1 : wrap64 ((m : Int) - 1) = ((m - 1 : Nat) : Int) := by unfold wrap64; omega
              have hm2 : IntKind.i64.wrap ((m : Int) - 1) = ((m - 1 : Nat) : Int) := by rw [IntKind.wrap_i64]; omega
              have hm3 : 0 < m := by omega
              have hm4 : m - 1 < m := by omega
              clear hl1
              go_wp2_with fail
              go_ret
              exact ⟨rfl, HBz.out⟩
end Go.Proofs.YtiffgmgefpoblaaDoor
