/-
  The walk of GridMirrors: a map is right just if its rows, each the other way round, are. Conditions: none beyond the premises of each theorem.
-/
import Derived.Test.YtoempilmofbhdaaDoorGridLaw
import Derived.Test.YtoempilmofbhdaaDoorRow
namespace Go.Proofs.YtoempilmofbhdaaDoor
open Go.RowKit

/-- a text whose first k signs are turned round, row by row -/
def mirTo (a k : Nat) (xs : List UInt8) : List UInt8 := (List.range xs.length).map fun i => xs.getD (if i < k then Grid.mir a i else i) 0
theorem mirTo_length (a k : Nat) (xs : List UInt8) : (mirTo a k xs).length = xs.length := by simp [mirTo]
theorem mirTo_zero (a : Nat) (xs : List UInt8) : mirTo a 0 xs = xs := by
  refine List.ext_getElem (mirTo_length a 0 xs) fun i h1 h2 => ?_
  simp [mirTo, h2]
theorem mirTo_set {a k : Nat} {xs : List UInt8} : (mirTo a k xs).set k (xs.getD (Grid.mir a k) 0) = mirTo a (k + 1) xs := by
  refine List.ext_getElem (by simp [mirTo_length]) fun i h1 h2 => ?_
  rw [List.getElem_set]
  by_cases e : k = i
  · subst e
    simp [mirTo]
  · rw [if_neg e]
    simp only [mirTo, List.getElem_map, List.getElem_range]
    by_cases hi : i < k
    · rw [if_pos hi, if_pos (by omega)]
    · rw [if_neg hi, if_neg (by omega)]
theorem mirTo_all {a h : Nat} {xs : List UInt8} (h1 : 1 ≤ a) (h8 : a ≤ 8) (hn : xs.length = a * h) : Grid.Mirror a h xs (mirTo a xs.length xs) := by
  refine ⟨hn, by rw [mirTo_length, hn], fun i hi => ?_⟩
  have hf := (Grid.mir_facts h1 h8 hi).1
  have h2 : i < xs.length := by omega
  have h3 : Grid.mir a i < xs.length := by omega
  simp [mirTo, h2, h3]
/-- what the region of the mirrored cell computes -/
structure MirAt (a k u r v j n : Nat) : Prop where
  q : (k : Int).tdiv (a : Int) = (u : Int)
  m : (u : Int) * (a : Int) = (r : Int)
  t : (k : Int).tmod (a : Int) = (v : Int)
  e : (r : Int) + (a : Int) - 1 - (v : Int) = (j : Int)
  lr : r ≤ 64
  lu : u ≤ 64
  lv : v < a
  lj : j < n
theorem mirAt {a h k n : Nat} (h1 : 1 ≤ a) (h8 : a ≤ 8) (hn : n = a * h) (h64 : n ≤ 64) (hk : k < n) : ∃ u r v, MirAt a k u r v (Grid.mir a k) n := by
  have hf := (Grid.mir_facts h1 h8 (show k < a * h by omega)).1
  have hm : k % a < a := Nat.mod_lt _ (by omega)
  have hd : k / a * a + k % a = k := by rw [Nat.mul_comm]; exact Nat.div_add_mod k a
  have hu : k / a ≤ k := Nat.div_le_self _ _
  refine ⟨k / a, k / a * a, k % a, ?_, by simp, ?_, ?_, by omega, by omega, hm, by omega⟩
  · rw [Int.tdiv_eq_ediv_of_nonneg (by omega), Int.natCast_ediv]
  · rw [Int.tmod_eq_emod_of_nonneg (by omega), Int.natCast_emod]
  · unfold Grid.mir
    omega
/-- the law's variables while it turns the rows round -/
structure MSt (w0 : World) (p B : Nat) (W H : Int) (s : ByteArray) (xs : List UInt8) (w : World) : Prop where
  ref : RefAt w p W H s
  row : Row w B xs
  below : Below w0.heap.size w0 w
  far : w0.heap.size ≤ B
  ne : p ≠ B
theorem MSt.drew {w0 w : World} {p B : Nat} {W H : Int} {s : ByteArray} {xs : List UInt8} (h : MSt w0 p B W H s xs w) : MSt w0 p B W H s xs w.drew := ⟨h.ref, h.row, h.below.drew, h.far, h.ne⟩
theorem MSt.set {w0 w : World} {p B : Nat} {W H : Int} {s : ByteArray} {xs : List UInt8} (h : MSt w0 p B W H s xs w) (k : Nat) (c : UInt8) : MSt w0 p B W H s (xs.set k c) (w.setCell ⟨B, k, none⟩ (.int .u8 (c.toNat : Int))) :=
  ⟨(Below.heap_setCell _ _ _ _ h.ne).trans h.ref, h.row.store k c, h.below.setCell h.far _, h.far, h.ne⟩
/-- the law's variables behind that: m, and n, whose cells are turned round -/
structure TSt (w0 : World) (p q : Nat) (W H : Int) (s t : ByteArray) (w : World) : Prop where
  ref : RefAt w p W H s
  at_ : MapAt w q W H t
  below : Below w0.heap.size w0 w
theorem TSt.carry {w0 w w' : World} {p q : Nat} {W H : Int} {s t : ByteArray} (h : TSt w0 p q W H s t w) (hb : Below w.heap.size w w') : TSt w0 p q W H s t w' :=
  ⟨h.ref.carry hb, h.at_.carry hb, h.below.trans (hb.mono h.below.size)⟩
theorem TSt.drew {w0 w : World} {p q : Nat} {W H : Int} {s t : ByteArray} (h : TSt w0 p q W H s t w) : TSt w0 p q W H s t w.drew := ⟨h.ref, h.at_, h.below.drew⟩
theorem mirror_right {a m : Nat} {s t : ByteArray} (h1 : 1 ≤ a) (h8 : a ≤ 8) (hm : Grid.Mirror a m s.data.toList t.data.toList) : rightM (a : Int) (m : Int) t = rightM (a : Int) (m : Int) s := hm.right h1 h8
theorem mirror_near {a m i j : Nat} {s t : ByteArray} (h1 : 1 ≤ a) (h8 : a ≤ 8) (hm : Grid.Mirror a m s.data.toList t.data.toList) (hi : i < s.size) (hj : j < s.size) (hn : s.size = a * m) (e : j = Grid.mir a i) (ht : t.size = s.size) :
    (nearM (a : Int) (m : Int) t (j : Int)).length = (nearM (a : Int) (m : Int) s (i : Int)).length := by
  have h3 := hm.near h1 h8 (show i < a * m by omega)
  have h4 := hm.openAt (show j < a * m by omega)
  have h5 := (Grid.mir_facts h1 h8 (show i < a * m by omega)).2
  rw [e, h5, ← e] at h4
  rw [← e] at h3
  unfold nearM
  rw [openM_on hi, openM_on (show j < t.size by omega), h4, mirror_right h1 h8 hm]
  split
  · exact h3.symm
  · rfl
set_option maxRecDepth 100000 in
set_option maxHeartbeats 2000000 in
theorem mirrors_walk (W H : Int) (s : ByteArray) (b : Nat) (hb : b < 256) (w : World) : Calls Tryd.prog 6 #[.agg #[.int .i64 W, .int .i64 H, .string s], .int .u8 (b : Int)] w fun e w' => e = .returned (.bool true) ∧ Below w.heap.size w w' := by
  obtain ⟨w1, HW1⟩ : ∃ w1, Hid (w1 = w.alloc (.cells #[.int .i64 W, .int .i64 H, .string s] 23)) := ⟨_, Lib.hid rfl⟩
  obtain ⟨p, HP⟩ : ∃ p, Hid (p = w.heap.size) := ⟨_, Lib.hid rfl⟩
  have HR1 : Hid (RefAt w1 p W H s) := Lib.hid (by rw [HW1.out, HP.out]; exact heap_alloc_new w _)
  have HB1 : Hid (Below w.heap.size w w1) := Lib.hid (by rw [HW1.out]; exact (Below.refl _ _).alloc (Nat.le_refl _) _)
  go_enter Tryd.func6, Tryd.ntmps6
  go_upto_region 1 with (fail)
  rw [← HP.out, ← HW1.out]
  clear HP HW1
  go_wp2_with fail
  refine (awake_any w1).mono ?_
  rintro e w2 ⟨rfl, hbw⟩
  have HR2 := Lib.hid (HR1.out.carry hbw)
  have HB2 := Lib.hid (HB1.out.trans (hbw.mono HB1.out.size))
  clear hbw HR1 HB1
  dsimp only
  have c0 := HR2.out.w_
  have c1 := HR2.out.h_
  have c2 := HR2.out.s_
  by_cases hs : 64 < s.size
  · go_wp2_with fail
    refine (awake_any w2).mono ?_
    rintro e w3 ⟨rfl, hbw⟩
    have HB3 := Lib.hid (HB2.out.trans (hbw.mono HB2.out.size))
    clear hbw
    dsimp only
    go_wp2_with fail
    go_ret
    exact ⟨rfl, HB3.out⟩
  · by_cases h : 1 ≤ W ∧ W ≤ 8 ∧ 1 ≤ H ∧ H ≤ 8
    · have hm := mul_small h
      by_cases he : (s.size : Int) = W * H
      · obtain ⟨g1, g2, g3, g4⟩ := h
        obtain ⟨a, rfl⟩ := Int.eq_ofNat_of_zero_le (show 0 ≤ W by omega)
        obtain ⟨m, rfl⟩ := Int.eq_ofNat_of_zero_le (show 0 ≤ H by omega)
        have hn : s.size = a * m := by exact_mod_cast he
        have h1 : 1 ≤ a := by omega
        have h8 : a ≤ 8 := by omega
        have h64 : s.size ≤ 64 := by omega
        have hsm : s.size ≤ maxLen := by unfold maxLen; omega
        have HN := Lib.hid hn
        have he2 : ((s.size : Int) != (a : Int) * (m : Int)) = false := by rw [he]; simp
        have hl : s.data.toList.length = s.size := by rw [Array.length_toList]; rfl
        have HPL : Hid (p < w2.heap.size) := Lib.hid HR2.out.lt
        have hpos : 0 < s.size := by rw [hn]; exact Nat.mul_pos (by omega) (by omega)
        clear he hs hn
        obtain ⟨w3, cap, hconv, hrow, hb3⟩ := bytes_of s w2
        obtain ⟨B, HBB⟩ : ∃ B, Hid (B = w2.heap.size) := ⟨_, Lib.hid rfl⟩
        rw [← HBB.out] at hconv hrow
        have HM3 : Hid (MSt w p B a m s s.data.toList w3) := Lib.hid ⟨HR2.out.carry hb3, hrow, HB2.out.trans (hb3.mono HB2.out.size), by rw [HBB.out]; exact HB2.out.size, by have := HPL.out; rw [HBB.out]; omega⟩
        clear hrow hb3 HR2 HB2
        go_wp2_with fail
        rw [← mirTo_zero a s.data.toList] at HM3
        go_loopw [6] (fun i wr => ∃ k : Nat, k ≤ s.size ∧ i = .int .i64 (k : Int) ∧ MSt w p B a m s (mirTo a k s.data.toList) wr) (fun i _ => s.size - (intOf i).toNat)
        case atStart => exact ⟨0, Nat.zero_le _, rfl, HM3.out⟩
        case round =>
          obtain ⟨k, hk, rfl, hst⟩ := hrel
          have HST := Lib.hid hst
          clear hst HM3
          have c0 := HST.out.ref.w_
          have c1 := HST.out.ref.h_
          have c2 := HST.out.ref.s_
          by_cases hlt : k < s.size
          · obtain ⟨u, r, v, hma⟩ := mirAt h1 h8 HN.out h64 hlt
            obtain ⟨j, HJ⟩ : ∃ j, Hid (j = Grid.mir a k) := ⟨_, Lib.hid rfl⟩
            rw [← HJ.out] at hma
            have hj := hma.lj
            obtain ⟨c, HC⟩ : ∃ c, Hid (c = s[j]) := ⟨_, Lib.hid rfl⟩
            have hcj : s[j] = c := HC.out.symm
            go_upto_region 7 with (fail)
            refine wp_region_head (MSt w p B a m s (mirTo a k s.data.toList)) 22 (by kernel_rfl) (by kernel_rfl) (fun wa HWA => ?_)
            have hS : MSt w p B a m s (mirTo a k s.data.toList) wa := by rw [HWA.out]; exact HST.out.drew
            clear HWA HST c0 c1 c2
            have q1 := hma.q
            have q2 := hma.m
            have q3 := hma.t
            have q4 := hma.e
            have q5 := hma.lr
            have q6 := hma.lu
            have q7 := hma.lv
            have k1 : IntKind.i64.wrap (u : Int) = (u : Int) := by rw [IntKind.wrap_i64]; omega
            have k2 : IntKind.i64.wrap (r : Int) = (r : Int) := by rw [IntKind.wrap_i64]; omega
            have k3 : IntKind.i64.wrap (v : Int) = (v : Int) := by rw [IntKind.wrap_i64]; omega
            have k4 : IntKind.i64.wrap (j : Int) = (j : Int) := by rw [IntKind.wrap_i64]; omega
            have k5 : IntKind.i64.wrap ((r : Int) + (a : Int)) = (r : Int) + (a : Int) := by rw [IntKind.wrap_i64]; omega
            have k6 : IntKind.i64.wrap ((r : Int) + (a : Int) - 1) = (r : Int) + (a : Int) - 1 := by rw [IntKind.wrap_i64]; omega
            have k7 : ¬ a = 0 := by omega
            -- region 7
            refine takeH (i := 0) 59 (v := .slice (some ⟨B, 0, none⟩) s.size cap) rfl (by kernel_rfl) (by kernel_rfl) (by kernel_rfl) rfl (fun _ _ _ h => h) (.inl ⟨by rfl, fun _ _ => by go_simp⟩) hS ?_
            simp only [Act.put, List.setIfInBounds_toArray, List.set_cons_zero, List.set_cons_succ]
            refine takeH (i := 1) 60 (v := .int .i64 (k : Int)) rfl (by kernel_rfl) (by kernel_rfl) (by kernel_rfl) rfl (fun _ _ _ h => h) (.inl ⟨by rfl, fun _ _ => by go_simp⟩) hS ?_
            simp only [Act.put, List.setIfInBounds_toArray, List.set_cons_zero, List.set_cons_succ]
            refine takeH (i := 2) 61 (v := .pointer (some ⟨p, 2, none⟩)) rfl (by kernel_rfl) (by kernel_rfl) (by kernel_rfl) rfl (fun _ _ _ h => h) (.inl ⟨by rfl, fun _ _ => by go_simp⟩) hS ?_
            simp only [Act.put, List.setIfInBounds_toArray, List.set_cons_zero, List.set_cons_succ]
            refine takeH (i := 3) 62 (v := .string s) rfl (by kernel_rfl) (by kernel_rfl) (by kernel_rfl) rfl (fun _ _ _ h => h) (.inl ⟨by rfl, fun _ h => by have c0 := h.ref.s_; go_simp⟩) hS ?_
            simp only [Act.put, List.setIfInBounds_toArray, List.set_cons_zero, List.set_cons_succ]
            refine takeH (i := 4) 63 (v := .int .i64 (k : Int)) rfl (by kernel_rfl) (by kernel_rfl) (by kernel_rfl) rfl (fun _ _ _ h => h) (.inl ⟨by rfl, fun _ _ => by go_simp⟩) hS ?_
            simp only [Act.put, List.setIfInBounds_toArray, List.set_cons_zero, List.set_cons_succ]
            refine takeH (i := 5) 64 (v := .pointer (some ⟨p, 0, none⟩)) rfl (by kernel_rfl) (by kernel_rfl) (by kernel_rfl) rfl (fun _ _ _ h => h) (.inl ⟨by rfl, fun _ _ => by go_simp⟩) hS ?_
            simp only [Act.put, List.setIfInBounds_toArray, List.set_cons_zero, List.set_cons_succ]
            refine takeH (i := 6) 65 (v := .int .i64 (a : Int)) rfl (by kernel_rfl) (by kernel_rfl) (by kernel_rfl) rfl (fun _ _ _ h => h) (.inl ⟨by rfl, fun _ h => by have c0 := h.ref.w_; go_simp⟩) hS ?_
            simp only [Act.put, List.setIfInBounds_toArray, List.set_cons_zero, List.set_cons_succ]
            refine takeH (i := 7) 66 (v := .int .i64 (u : Int)) rfl (by kernel_rfl) (by kernel_rfl) (by kernel_rfl) rfl (fun _ _ _ h => h) (.inl ⟨by rfl, fun _ _ => by go_simp⟩) hS ?_
            simp only [Act.put, List.setIfInBounds_toArray, List.set_cons_zero, List.set_cons_succ]
            refine takeH (i := 8) 67 (v := .pointer (some ⟨p, 0, none⟩)) rfl (by kernel_rfl) (by kernel_rfl) (by kernel_rfl) rfl (fun _ _ _ h => h) (.inl ⟨by rfl, fun _ _ => by go_simp⟩) hS ?_
            simp only [Act.put, List.setIfInBounds_toArray, List.set_cons_zero, List.set_cons_succ]
            refine takeH (i := 9) 68 (v := .int .i64 (a : Int)) rfl (by kernel_rfl) (by kernel_rfl) (by kernel_rfl) rfl (fun _ _ _ h => h) (.inl ⟨by rfl, fun _ h => by have c0 := h.ref.w_; go_simp⟩) hS ?_
            simp only [Act.put, List.setIfInBounds_toArray, List.set_cons_zero, List.set_cons_succ]
            refine takeH (i := 10) 69 (v := .int .i64 (r : Int)) rfl (by kernel_rfl) (by kernel_rfl) (by kernel_rfl) rfl (fun _ _ _ h => h) (.inl ⟨by rfl, fun _ _ => by go_simp⟩) hS ?_
            simp only [Act.put, List.setIfInBounds_toArray, List.set_cons_zero, List.set_cons_succ]
            refine takeH (i := 11) 70 (v := .pointer (some ⟨p, 0, none⟩)) rfl (by kernel_rfl) (by kernel_rfl) (by kernel_rfl) rfl (fun _ _ _ h => h) (.inl ⟨by rfl, fun _ _ => by go_simp⟩) hS ?_
            simp only [Act.put, List.setIfInBounds_toArray, List.set_cons_zero, List.set_cons_succ]
            refine takeH (i := 12) 71 (v := .int .i64 (a : Int)) rfl (by kernel_rfl) (by kernel_rfl) (by kernel_rfl) rfl (fun _ _ _ h => h) (.inl ⟨by rfl, fun _ h => by have c0 := h.ref.w_; go_simp⟩) hS ?_
            simp only [Act.put, List.setIfInBounds_toArray, List.set_cons_zero, List.set_cons_succ]
            refine takeH (i := 13) 72 (v := .int .i64 ((r : Int) + (a : Int))) rfl (by kernel_rfl) (by kernel_rfl) (by kernel_rfl) rfl (fun _ _ _ h => h) (.inl ⟨by rfl, fun _ _ => by go_simp⟩) hS ?_
            simp only [Act.put, List.setIfInBounds_toArray, List.set_cons_zero, List.set_cons_succ]
            refine takeH (i := 14) 73 (v := .int .i64 ((r : Int) + (a : Int) - 1)) rfl (by kernel_rfl) (by kernel_rfl) (by kernel_rfl) rfl (fun _ _ _ h => h) (.inl ⟨by rfl, fun _ _ => by go_simp⟩) hS ?_
            simp only [Act.put, List.setIfInBounds_toArray, List.set_cons_zero, List.set_cons_succ]
            refine takeH (i := 15) 74 (v := .int .i64 (k : Int)) rfl (by kernel_rfl) (by kernel_rfl) (by kernel_rfl) rfl (fun _ _ _ h => h) (.inl ⟨by rfl, fun _ _ => by go_simp⟩) hS ?_
            simp only [Act.put, List.setIfInBounds_toArray, List.set_cons_zero, List.set_cons_succ]
            refine takeH (i := 16) 75 (v := .pointer (some ⟨p, 0, none⟩)) rfl (by kernel_rfl) (by kernel_rfl) (by kernel_rfl) rfl (fun _ _ _ h => h) (.inl ⟨by rfl, fun _ _ => by go_simp⟩) hS ?_
            simp only [Act.put, List.setIfInBounds_toArray, List.set_cons_zero, List.set_cons_succ]
            refine takeH (i := 17) 76 (v := .int .i64 (a : Int)) rfl (by kernel_rfl) (by kernel_rfl) (by kernel_rfl) rfl (fun _ _ _ h => h) (.inl ⟨by rfl, fun _ h => by have c0 := h.ref.w_; go_simp⟩) hS ?_
            simp only [Act.put, List.setIfInBounds_toArray, List.set_cons_zero, List.set_cons_succ]
            refine takeH (i := 18) 77 (v := .int .i64 (v : Int)) rfl (by kernel_rfl) (by kernel_rfl) (by kernel_rfl) rfl (fun _ _ _ h => h) (.inl ⟨by rfl, fun _ _ => by go_simp⟩) hS ?_
            simp only [Act.put, List.setIfInBounds_toArray, List.set_cons_zero, List.set_cons_succ]
            refine takeH (i := 19) 78 (v := .int .i64 (j : Int)) rfl (by kernel_rfl) (by kernel_rfl) (by kernel_rfl) rfl (fun _ _ _ h => h) (.inl ⟨by rfl, fun _ _ => by go_simp⟩) hS ?_
            simp only [Act.put, List.setIfInBounds_toArray, List.set_cons_zero, List.set_cons_succ]
            refine takeH (i := 20) 79 (v := .int .u8 (c.toNat : Int)) rfl (by kernel_rfl) (by kernel_rfl) (by kernel_rfl) rfl (fun _ _ _ h => h) (.inl ⟨by rfl, fun _ _ => by go_simp⟩) hS ?_
            simp only [Act.put, List.setIfInBounds_toArray, List.set_cons_zero, List.set_cons_succ]
            refine takeH (i := 21) 80 (v := .pointer (some ⟨B, k, none⟩)) rfl (by kernel_rfl) (by kernel_rfl) (by kernel_rfl) rfl (fun _ _ _ h => h) (.inl ⟨by rfl, fun _ _ => by go_simp⟩) hS ?_
            simp only [Act.put, List.setIfInBounds_toArray, List.set_cons_zero, List.set_cons_succ]
            refine wpAnyH_done (by kernel_rfl) ?_ _
            -- behind region 7
            unfold HeadPost
            simp only [List.drop_succ_cons, List.drop_zero]
            have HST := Lib.hid hS
            clear hS
            have c5 := (HST.out.row k (by rw [mirTo_length, hl]; exact hlt)).1
            have f5 := (HST.out.row k (by rw [mirTo_length, hl]; exact hlt)).2
            go_wp2_with fail
            go_roundw
            case rel =>
              refine ⟨k + 1, hlt, by go_num, ?_⟩
              have h9 := HST.out.set k c
              have e9 : (mirTo a k s.data.toList).set k c = mirTo a (k + 1) s.data.toList := by
                rw [← mirTo_set, ← HJ.out, HC.out]
                congr 1
                have hj9 : j < s.data.toList.length := by omega
                rw [List.getD_eq_getElem?_getD, List.getElem?_eq_getElem hj9]
                simp
                rfl
              rw [e9] at h9
              exact h9
            case measure => simp [intOf]; omega
          · obtain rfl : k = s.size := by omega
            obtain ⟨ys, HY⟩ : ∃ ys, Hid (ys = mirTo a s.size s.data.toList) := ⟨_, Lib.hid rfl⟩
            have hyl : ys.length = s.size := by rw [HY.out, mirTo_length, hl]
            have HMI : Hid (Grid.Mirror a m s.data.toList ys) := Lib.hid (by rw [HY.out, ← hl]; exact mirTo_all h1 h8 (by rw [hl]; exact HN.out))
            rw [← HY.out] at HST
            obtain ⟨t, HT⟩ : ∃ t : ByteArray, Hid (t = ⟨ys.toArray⟩) := ⟨_, Lib.hid rfl⟩
            have htx := HST.out.row.text cap s.size hyl
            rw [← HT.out] at htx
            have hts : t.size = s.size := by rw [HT.out, ← hyl]; show ys.toArray.size = _; simp
            have HMT : Hid (Grid.Mirror a m s.data.toList t.data.toList) := Lib.hid (by rw [HT.out]; exact HMI.out)
            obtain ⟨i, HI⟩ : ∃ i, Hid (i = b % s.size) := ⟨_, Lib.hid rfl⟩
            have hi : i < s.size := by rw [HI.out]; exact Nat.mod_lt _ hpos
            have i1 : (b : Int).tmod (s.size : Int) = (i : Int) := by rw [HI.out, Int.tmod_eq_emod_of_nonneg (by omega), Int.natCast_emod]
            have i2 : (b : Int) % (s.size : Int) = (i : Int) := by rw [HI.out, Int.natCast_emod]
            have i3 : ¬ s.size = 0 := by omega
            have i4 : wrap64 (i : Int) = (i : Int) := by unfold wrap64; omega
            have htsm : t.size ≤ maxLen := by rw [hts]; exact hsm
            obtain ⟨u, r, v, hma⟩ := mirAt h1 h8 HN.out h64 hi
            obtain ⟨j, HJ⟩ : ∃ j, Hid (j = Grid.mir a i) := ⟨_, Lib.hid rfl⟩
            rw [← HJ.out] at hma
            have HJN : Hid (j < s.size) := Lib.hid hma.lj
            clear HY HMI HT
            obtain ⟨w4, HW4⟩ : ∃ w4, Hid (w4 = wr.alloc (.cells #[.int .i64 (a : Int), .int .i64 (m : Int), .string t] 29)) := ⟨_, Lib.hid rfl⟩
            obtain ⟨q, HQ⟩ : ∃ q, Hid (q = wr.heap.size) := ⟨_, Lib.hid rfl⟩
            have HL4 : Hid (TSt w p q a m s t w4) := Lib.hid (by
              rw [HW4.out, HQ.out]
              exact ⟨HST.out.ref.carry ((Below.refl _ _).alloc (Nat.le_refl _) _), heap_alloc_new wr _, HST.out.below.alloc HST.out.below.size _⟩)
            have HZR := Lib.hid (mirror_right h1 h8 HMT.out)
            have HNR := Lib.hid (mirror_near h1 h8 HMT.out hi HJN.out HN.out HJ.out hts)
            obtain ⟨z, HZ⟩ : ∃ z, Hid (rightM (a : Int) (m : Int) s = z) := ⟨_, Lib.hid rfl⟩
            obtain ⟨n, HNN⟩ : ∃ n, Hid ((nearM (a : Int) (m : Int) s (i : Int)).length = n) := ⟨_, Lib.hid rfl⟩
            rw [HZ.out] at HZR
            rw [HNN.out] at HNR
            go_upto_region 10 with (fail)
            rw [← HQ.out, ← HW4.out]
            clear HQ HW4 HST
            refine wp_region_held (S := TSt w p q a m s t) (by kernel_rfl) ?_
            change wpAnyH _ _ _ _ _ _ _ _ w4.drew
            obtain ⟨wa, HWA⟩ : ∃ wa, Hid (wa = w4.drew) := ⟨_, Lib.hid rfl⟩
            rw [← HWA.out]
            have hS : TSt w p q a m s t wa := by rw [HWA.out]; exact HL4.out.drew
            clear HWA HL4 c0 c1 c2 htx
            have q1 := hma.q
            have q2 := hma.m
            have q3 := hma.t
            have q4 := hma.e
            have q5 := hma.lr
            have q6 := hma.lu
            have q7 := hma.lv
            have k1 : IntKind.i64.wrap (u : Int) = (u : Int) := by rw [IntKind.wrap_i64]; omega
            have k2 : IntKind.i64.wrap (r : Int) = (r : Int) := by rw [IntKind.wrap_i64]; omega
            have k3 : IntKind.i64.wrap (v : Int) = (v : Int) := by rw [IntKind.wrap_i64]; omega
            have k4 : IntKind.i64.wrap (j : Int) = (j : Int) := by have := HJN.out; rw [IntKind.wrap_i64]; omega
            have k5 : IntKind.i64.wrap ((r : Int) + (a : Int)) = (r : Int) + (a : Int) := by rw [IntKind.wrap_i64]; omega
            have k6 : IntKind.i64.wrap ((r : Int) + (a : Int) - 1) = (r : Int) + (a : Int) - 1 := by rw [IntKind.wrap_i64]; omega
            have k7 : ¬ a = 0 := by omega
            -- region 10
            refine takeH (i := 0) 93 (v := .int .i64 (i : Int)) rfl (by kernel_rfl) (by kernel_rfl) (by kernel_rfl) rfl (fun _ _ _ h => h) (.inl ⟨by rfl, fun _ _ => by go_simp⟩) hS ?_
            simp only [Act.put, List.setIfInBounds_toArray, List.set_cons_zero, List.set_cons_succ]
            refine takeH (i := 1) 94 (v := .pointer (some ⟨p, 0, none⟩)) rfl (by kernel_rfl) (by kernel_rfl) (by kernel_rfl) rfl (fun _ _ _ h => h) (.inl ⟨by rfl, fun _ _ => by go_simp⟩) hS ?_
            simp only [Act.put, List.setIfInBounds_toArray, List.set_cons_zero, List.set_cons_succ]
            refine takeH (i := 2) 95 (v := .int .i64 (a : Int)) rfl (by kernel_rfl) (by kernel_rfl) (by kernel_rfl) rfl (fun _ _ _ h => h) (.inl ⟨by rfl, fun _ h => by have c0 := h.ref.w_; go_simp⟩) hS ?_
            simp only [Act.put, List.setIfInBounds_toArray, List.set_cons_zero, List.set_cons_succ]
            refine takeH (i := 3) 96 (v := .int .i64 (u : Int)) rfl (by kernel_rfl) (by kernel_rfl) (by kernel_rfl) rfl (fun _ _ _ h => h) (.inl ⟨by rfl, fun _ _ => by go_simp⟩) hS ?_
            simp only [Act.put, List.setIfInBounds_toArray, List.set_cons_zero, List.set_cons_succ]
            refine takeH (i := 4) 97 (v := .pointer (some ⟨p, 0, none⟩)) rfl (by kernel_rfl) (by kernel_rfl) (by kernel_rfl) rfl (fun _ _ _ h => h) (.inl ⟨by rfl, fun _ _ => by go_simp⟩) hS ?_
            simp only [Act.put, List.setIfInBounds_toArray, List.set_cons_zero, List.set_cons_succ]
            refine takeH (i := 5) 98 (v := .int .i64 (a : Int)) rfl (by kernel_rfl) (by kernel_rfl) (by kernel_rfl) rfl (fun _ _ _ h => h) (.inl ⟨by rfl, fun _ h => by have c0 := h.ref.w_; go_simp⟩) hS ?_
            simp only [Act.put, List.setIfInBounds_toArray, List.set_cons_zero, List.set_cons_succ]
            refine takeH (i := 6) 99 (v := .int .i64 (r : Int)) rfl (by kernel_rfl) (by kernel_rfl) (by kernel_rfl) rfl (fun _ _ _ h => h) (.inl ⟨by rfl, fun _ _ => by go_simp⟩) hS ?_
            simp only [Act.put, List.setIfInBounds_toArray, List.set_cons_zero, List.set_cons_succ]
            refine takeH (i := 7) 100 (v := .pointer (some ⟨p, 0, none⟩)) rfl (by kernel_rfl) (by kernel_rfl) (by kernel_rfl) rfl (fun _ _ _ h => h) (.inl ⟨by rfl, fun _ _ => by go_simp⟩) hS ?_
            simp only [Act.put, List.setIfInBounds_toArray, List.set_cons_zero, List.set_cons_succ]
            refine takeH (i := 8) 101 (v := .int .i64 (a : Int)) rfl (by kernel_rfl) (by kernel_rfl) (by kernel_rfl) rfl (fun _ _ _ h => h) (.inl ⟨by rfl, fun _ h => by have c0 := h.ref.w_; go_simp⟩) hS ?_
            simp only [Act.put, List.setIfInBounds_toArray, List.set_cons_zero, List.set_cons_succ]
            refine takeH (i := 9) 102 (v := .int .i64 ((r : Int) + (a : Int))) rfl (by kernel_rfl) (by kernel_rfl) (by kernel_rfl) rfl (fun _ _ _ h => h) (.inl ⟨by rfl, fun _ _ => by go_simp⟩) hS ?_
            simp only [Act.put, List.setIfInBounds_toArray, List.set_cons_zero, List.set_cons_succ]
            refine takeH (i := 10) 103 (v := .int .i64 ((r : Int) + (a : Int) - 1)) rfl (by kernel_rfl) (by kernel_rfl) (by kernel_rfl) rfl (fun _ _ _ h => h) (.inl ⟨by rfl, fun _ _ => by go_simp⟩) hS ?_
            simp only [Act.put, List.setIfInBounds_toArray, List.set_cons_zero, List.set_cons_succ]
            refine takeH (i := 11) 104 (v := .int .i64 (i : Int)) rfl (by kernel_rfl) (by kernel_rfl) (by kernel_rfl) rfl (fun _ _ _ h => h) (.inl ⟨by rfl, fun _ _ => by go_simp⟩) hS ?_
            simp only [Act.put, List.setIfInBounds_toArray, List.set_cons_zero, List.set_cons_succ]
            refine takeH (i := 12) 105 (v := .pointer (some ⟨p, 0, none⟩)) rfl (by kernel_rfl) (by kernel_rfl) (by kernel_rfl) rfl (fun _ _ _ h => h) (.inl ⟨by rfl, fun _ _ => by go_simp⟩) hS ?_
            simp only [Act.put, List.setIfInBounds_toArray, List.set_cons_zero, List.set_cons_succ]
            refine takeH (i := 13) 106 (v := .int .i64 (a : Int)) rfl (by kernel_rfl) (by kernel_rfl) (by kernel_rfl) rfl (fun _ _ _ h => h) (.inl ⟨by rfl, fun _ h => by have c0 := h.ref.w_; go_simp⟩) hS ?_
            simp only [Act.put, List.setIfInBounds_toArray, List.set_cons_zero, List.set_cons_succ]
            refine takeH (i := 14) 107 (v := .int .i64 (v : Int)) rfl (by kernel_rfl) (by kernel_rfl) (by kernel_rfl) rfl (fun _ _ _ h => h) (.inl ⟨by rfl, fun _ _ => by go_simp⟩) hS ?_
            simp only [Act.put, List.setIfInBounds_toArray, List.set_cons_zero, List.set_cons_succ]
            refine takeH (i := 15) 108 (v := .int .i64 (j : Int)) rfl (by kernel_rfl) (by kernel_rfl) (by kernel_rfl) rfl (fun _ _ _ h => h) (.inl ⟨by rfl, fun _ _ => by go_simp⟩) hS ?_
            simp only [Act.put, List.setIfInBounds_toArray, List.set_cons_zero, List.set_cons_succ]
            refine takeH (i := 16) 9 (v := .int .i64 (j : Int)) rfl (by kernel_rfl) (by kernel_rfl) (by kernel_rfl) rfl (fun _ _ _ h => h) (.inl ⟨by rfl, fun _ _ => by go_simp⟩) hS ?_
            simp only [Act.put, List.setIfInBounds_toArray, List.set_cons_zero, List.set_cons_succ]
            refine wpAnyH_done (by kernel_rfl) ?_ _
            -- behind region 10
            have HS10 := Lib.hid hS
            clear hS q1 q2 q3 q4 q5 q6 q7 k1 k2 k3 k4 k5 k6 k7 hma i1 i2 i3 i4
            go_upto_region 11 with (fail)
            refine wp_region_held (S := TSt w p q a m s t) (by kernel_rfl) ?_
            change wpAnyH _ _ _ _ _ _ _ _ wa.drew
            obtain ⟨wc, HWC⟩ : ∃ wc, Hid (wc = wa.drew) := ⟨_, Lib.hid rfl⟩
            rw [← HWC.out]
            have hS : TSt w p q a m s t wc := by rw [HWC.out]; exact HS10.out.drew
            clear HWC HS10
            -- region 11
            refine takeH (i := 0) 109 (v := .agg #[.int .i64 (a : Int), .int .i64 (m : Int), .string t]) rfl (by kernel_rfl) (by kernel_rfl) (by kernel_rfl) rfl (fun _ _ _ h => h) (.inl ⟨by rfl, fun _ h => by have c0 := h.at_.w_; have c1 := h.at_.h_; have c2 := h.at_.s_; go_simp⟩) hS ?_
            simp only [Act.put, List.setIfInBounds_toArray, List.set_cons_zero, List.set_cons_succ]
            refine takeH (i := 2) 111 (v := .agg #[.int .i64 (a : Int), .int .i64 (m : Int), .string s]) rfl (by kernel_rfl) (by kernel_rfl) (by kernel_rfl) rfl (fun _ _ _ h => h) (.inl ⟨by rfl, fun _ h => by have c0 := h.ref.w_; have c1 := h.ref.h_; have c2 := h.ref.s_; go_simp⟩) hS ?_
            simp only [Act.put, List.setIfInBounds_toArray, List.set_cons_zero, List.set_cons_succ]
            refine oneH (i := 1) (oi := ⟨some 110, _, _, _, _, _⟩) rfl (by kernel_rfl) (fun K hK => ?_)
            go_simp
            refine (Right_any (a : Int) (m : Int) t htsm _).mono ?_
            rw [HZR.out]
            rintro e wn ⟨rfl, hb⟩
            have hS2 := hS.carry hb
            refine hK.out _ _ hS2 ?_
            clear hK K hb hS
            have hS := hS2
            clear hS2
            refine oneH (i := 3) (oi := ⟨some 112, _, _, _, _, _⟩) rfl (by kernel_rfl) (fun K hK => ?_)
            go_simp
            refine (Of_any (a : Int) (m : Int) s _).mono ?_
            rintro e wn ⟨rfl, hb⟩
            have hS2 := hS.carry hb
            refine hK.out _ _ hS2 ?_
            clear hK K hb hS
            have hS := hS2
            clear hS2
            refine oneH (i := 4) (oi := ⟨some 113, _, _, _, _, _⟩) rfl (by kernel_rfl) (fun K hK => ?_)
            go_simp
            refine (Right_any (a : Int) (m : Int) s hsm _).mono ?_
            rw [HZ.out]
            rintro e wn ⟨rfl, hb⟩
            have hS2 := hS.carry hb
            refine hK.out _ _ hS2 ?_
            clear hK K hb hS
            have hS := hS2
            clear hS2
            refine takeH (i := 5) 114 (v := .bool true) rfl (by kernel_rfl) (by kernel_rfl) (by kernel_rfl) rfl (fun _ _ _ h => h) (.inl ⟨by rfl, fun _ _ => by go_simp⟩) hS ?_
            simp only [Act.put, List.setIfInBounds_toArray, List.set_cons_zero, List.set_cons_succ]
            refine takeH (i := 6) 115 (v := .bool true) rfl (by kernel_rfl) (by kernel_rfl) (by kernel_rfl) rfl (fun _ _ _ h => h) (.inl ⟨by rfl, fun _ _ => by go_simp⟩) hS ?_
            simp only [Act.put, List.setIfInBounds_toArray, List.set_cons_zero, List.set_cons_succ]
            refine takeH (i := 7) 116 (v := .agg #[.int .i64 (a : Int), .int .i64 (m : Int), .string s]) rfl (by kernel_rfl) (by kernel_rfl) (by kernel_rfl) rfl (fun _ _ _ h => h) (.inl ⟨by rfl, fun _ h => by have c0 := h.ref.w_; have c1 := h.ref.h_; have c2 := h.ref.s_; go_simp⟩) hS ?_
            simp only [Act.put, List.setIfInBounds_toArray, List.set_cons_zero, List.set_cons_succ]
            refine takeH (i := 9) 118 (v := .int .i64 (i : Int)) rfl (by kernel_rfl) (by kernel_rfl) (by kernel_rfl) rfl (fun _ _ _ h => h) (.inl ⟨by rfl, fun _ _ => by go_simp⟩) hS ?_
            simp only [Act.put, List.setIfInBounds_toArray, List.set_cons_zero, List.set_cons_succ]
            refine takeH (i := 12) 121 (v := .agg #[.int .i64 (a : Int), .int .i64 (m : Int), .string t]) rfl (by kernel_rfl) (by kernel_rfl) (by kernel_rfl) rfl (fun _ _ _ h => h) (.inl ⟨by rfl, fun _ h => by have c0 := h.at_.w_; have c1 := h.at_.h_; have c2 := h.at_.s_; go_simp⟩) hS ?_
            simp only [Act.put, List.setIfInBounds_toArray, List.set_cons_zero, List.set_cons_succ]
            refine takeH (i := 13) 122 (v := .int .i64 (j : Int)) rfl (by kernel_rfl) (by kernel_rfl) (by kernel_rfl) rfl (fun _ _ _ h => h) (.inl ⟨by rfl, fun _ _ => by go_simp⟩) hS ?_
            simp only [Act.put, List.setIfInBounds_toArray, List.set_cons_zero, List.set_cons_succ]
            refine oneH (i := 8) (oi := ⟨some 117, _, _, _, _, _⟩) rfl (by kernel_rfl) (fun K hK => ?_)
            rw [if_pos (by rfl)]
            go_simp
            refine (Of_any (a : Int) (m : Int) s _).mono ?_
            rintro e wn ⟨rfl, hb⟩
            have hS2 := hS.carry hb
            refine hK.out _ _ hS2 ?_
            clear hK K hb hS
            have hS := hS2
            clear hS2
            refine oneH (i := 10) (oi := ⟨some 119, _, _, _, _, _⟩) rfl (by kernel_rfl) (fun K hK => ?_)
            rw [if_pos (by rfl)]
            go_simp
            refine (Near_any (a : Int) (m : Int) s (i : Int) hsm _).mono ?_
            rintro e wn ⟨A1, c1, rfl, -, hb⟩
            rw [HNN.out]
            have hS2 := hS.carry hb
            refine hK.out _ _ hS2 ?_
            clear hK K hb hS
            have hS := hS2
            clear hS2
            refine takeH (i := 11) 120 (v := .int .i64 (n : Int)) rfl (by kernel_rfl) (by kernel_rfl) (by kernel_rfl) rfl (fun _ _ _ h => h) (.inl ⟨by rfl, fun _ _ => by go_simp⟩) hS ?_
            simp only [Act.put, List.setIfInBounds_toArray, List.set_cons_zero, List.set_cons_succ]
            refine oneH (i := 14) (oi := ⟨some 123, _, _, _, _, _⟩) rfl (by kernel_rfl) (fun K hK => ?_)
            rw [if_pos (by rfl)]
            go_simp
            refine (Near_any (a : Int) (m : Int) t (j : Int) htsm _).mono ?_
            rintro e wn ⟨A2, c2, rfl, -, hb⟩
            rw [HNR.out]
            have hS2 := hS.carry hb
            refine hK.out _ _ hS2 ?_
            clear hK K hb hS
            have hS := hS2
            clear hS2
            refine takeH (i := 15) 124 (v := .int .i64 (n : Int)) rfl (by kernel_rfl) (by kernel_rfl) (by kernel_rfl) rfl (fun _ _ _ h => h) (.inl ⟨by rfl, fun _ _ => by go_simp⟩) hS ?_
            simp only [Act.put, List.setIfInBounds_toArray, List.set_cons_zero, List.set_cons_succ]
            refine takeH (i := 16) 125 (v := .bool true) rfl (by kernel_rfl) (by kernel_rfl) (by kernel_rfl) rfl (fun _ _ _ h => h) (.inl ⟨by rfl, fun _ _ => by go_simp⟩) hS ?_
            simp only [Act.put, List.setIfInBounds_toArray, List.set_cons_zero, List.set_cons_succ]
            refine takeH (i := 17) 126 (v := .bool true) rfl (by kernel_rfl) (by kernel_rfl) (by kernel_rfl) rfl (fun _ _ _ h => h) (.inl ⟨by rfl, fun _ _ => by go_simp⟩) hS ?_
            simp only [Act.put, List.setIfInBounds_toArray, List.set_cons_zero, List.set_cons_succ]
            refine takeH (i := 18) 4 (v := .bool true) rfl (by kernel_rfl) (by kernel_rfl) (by kernel_rfl) rfl (fun _ _ _ h => h) (.inl ⟨by rfl, fun _ _ => by go_simp⟩) hS ?_
            simp only [Act.put, List.setIfInBounds_toArray, List.set_cons_zero, List.set_cons_succ]
            refine wpAnyH_done (by kernel_rfl) ?_ _
            -- behind region 11
            have HST := Lib.hid hS
            clear hS
            go_wp2_with fail
            go_ret
            exact ⟨rfl, HST.out.below⟩
      · obtain ⟨g1, g2, g3, g4⟩ := h
        have he2 : ((s.size : Int) != W * H) = true := by simp [he]
        clear he
        go_wp2_with fail
        refine (awake_any w2).mono ?_
        rintro e w3 ⟨rfl, hbw⟩
        have HB3 := Lib.hid (HB2.out.trans (hbw.mono HB2.out.size))
        clear hbw
        dsimp only
        go_wp2_with fail
        go_ret
        exact ⟨rfl, HB3.out⟩
    · go_wp2_with fail
      all_goals first
        | (exfalso; omega)
        | (refine (awake_any w2).mono ?_
           rintro e w3 ⟨rfl, hbw⟩
           have HB3 := Lib.hid (HB2.out.trans (hbw.mono HB2.out.size))
           clear hbw
           dsimp only
           go_wp2_with fail
           go_ret
           exact ⟨rfl, HB3.out⟩)
end Go.Proofs.YtoempilmofbhdaaDoor
