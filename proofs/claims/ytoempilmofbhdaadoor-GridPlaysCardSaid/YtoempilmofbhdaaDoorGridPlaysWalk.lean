/-
  The walk of GridPlays: whether a map is right, its text, and the map of a text, are the document's. Conditions: none beyond the premises of each theorem.
-/
import Derived.Test.YtoempilmofbhdaaDoorGridBackWalk
import Derived.Test.YtoempilmofbhdaaDoorGridReadWalk
import Derived.Test.YtoempilmofbhdaaDoorGridRefLay
namespace Go.Proofs.YtoempilmofbhdaaDoor
open Go Go.RowKit Go.Shelf

theorem Read_on {s : ByteArray} (hs : s.size ≤ 200) {a h : Nat} {c : List UInt8} (e : parseM s.data.toList = some (a, h, c)) (w : World) :
    Calls Tryd.prog 17 #[.string s] w fun e w' => e = .returned (.tuple #[.agg #[.int .i64 (a : Int), .int .i64 (h : Int), .string (ofBytes c)], .bool true]) ∧ Below w.heap.size w w' :=
  (RefRead_any s hs w).mono fun e1 w' h => by
    rw [e] at h
    exact ⟨h.2, h.1⟩
theorem Read_off {s : ByteArray} (hs : s.size ≤ 200) (e : parseM s.data.toList = none) (w : World) :
    Calls Tryd.prog 17 #[.string s] w fun e w' => e = .returned (.tuple #[.agg #[.int .i64 0, .int .i64 0, .string ⟨#[]⟩], .bool false]) ∧ Below w.heap.size w w' :=
  (RefRead_any s hs w).mono fun e1 w' h => by
    rw [e] at h
    exact ⟨h.2, h.1⟩
/-- the law's variables in the end: x in q, y in r, and the error -/
structure PlSt (w0 : World) (q r : Nat) (W H : Int) (s : ByteArray) (lo : Nat) (c : Int) (v : Value) (w : World) : Prop where
  at_ : MapAt w q W H s
  ref : RefAt w r W H s
  err : ErrFrom w lo c v
  laid : Laid w
  below : Below w0.heap.size w0 w
theorem PlSt.carry {w0 w w' : World} {q r lo : Nat} {c : Int} {v : Value} {W H : Int} {s : ByteArray} (h : PlSt w0 q r W H s lo c v w) (hb : Below w.heap.size w w') : PlSt w0 q r W H s lo c v w' :=
  ⟨h.at_.carry hb, h.ref.carry hb, h.err.below hb, h.laid.carry hb, h.below.trans (hb.mono h.below.size)⟩
set_option maxRecDepth 100000 in
set_option maxHeartbeats 2000000 in
theorem plays_walk (W H : Int) (s t : ByteArray) (w : World) (hg : Laid w) : Calls Tryd.prog 4 #[.agg #[.int .i64 W, .int .i64 H, .string s], .string t] w fun e w' => e = .returned (.bool true) ∧ Below w.heap.size w w' := by
  have HG := Lib.hid hg
  clear hg
  obtain ⟨w1, HW1⟩ : ∃ w1, Hid (w1 = w.alloc (.cells #[.int .i64 W, .int .i64 H, .string s] 23)) := ⟨_, Lib.hid rfl⟩
  obtain ⟨p, HP⟩ : ∃ p, Hid (p = w.heap.size) := ⟨_, Lib.hid rfl⟩
  have HR1 : Hid (RefAt w1 p W H s) := Lib.hid (by rw [HW1.out, HP.out]; exact heap_alloc_new w _)
  have HB1 : Hid (Below w.heap.size w w1) := Lib.hid (by rw [HW1.out]; exact (Below.refl _ _).alloc (Nat.le_refl _) _)
  go_enter Tryd.func4, Tryd.ntmps4
  go_upto_region 1 with (fail)
  rw [← HP.out, ← HW1.out]
  clear HP HW1
  go_wp2_with fail
  refine (awake_any w1).mono ?_
  rintro e w2 ⟨rfl, hbw⟩
  have HR2 := Lib.hid (HR1.out.carry hbw)
  have HB2 := Lib.hid (HB1.out.trans (hbw.mono HB1.out.size))
  clear hbw HR1 HB1
  dsimp only
  have c0 := HR2.out.w_
  have c1 := HR2.out.h_
  have c2 := HR2.out.s_
  by_cases hs2 : 200 < s.size
  · go_wp2_with fail
    refine (awake_any w2).mono ?_
    rintro e w3 ⟨rfl, hbw⟩
    have HB3 := Lib.hid (HB2.out.trans (hbw.mono HB2.out.size))
    clear hbw
    dsimp only
    go_wp2_with fail
    go_ret
    exact ⟨rfl, HB3.out⟩
  · by_cases ht2 : 200 < t.size
    · go_wp2_with fail
      refine (awake_any w2).mono ?_
      rintro e w3 ⟨rfl, hbw⟩
      have HB3 := Lib.hid (HB2.out.trans (hbw.mono HB2.out.size))
      clear hbw
      dsimp only
      go_wp2_with fail
      go_ret
      exact ⟨rfl, HB3.out⟩
    · have hsm : s.size ≤ maxLen := by unfold maxLen; omega
      have htm : t.size ≤ maxLen := by unfold maxLen; omega
      have hs3 : s.size ≤ 200 := by omega
      have ht3 : t.size ≤ 200 := by omega
      clear hs2 ht2
      go_wp2_with fail
      refine (Of_any W H s w2).mono ?_
      rintro e w3 ⟨rfl, hbw⟩
      have HR3 := Lib.hid (HR2.out.carry hbw)
      have HB3 := Lib.hid (HB2.out.trans (hbw.mono HB2.out.size))
      clear hbw HR2 HB2 c0 c1 c2
      dsimp only
      go_wp2_with fail
      obtain ⟨z, HZ⟩ : ∃ z, Hid (rightM W H s = z) := ⟨_, Lib.hid rfl⟩
      cases z with
      | false =>
        refine (Lay_off hsm HZ.out w3).mono ?_
        rintro e w4 ⟨v, rfl, hv, hbw⟩
        have HV4 := Lib.hid hv
        have HR4 := Lib.hid (HR3.out.carry hbw)
        have HB4 := Lib.hid (HB3.out.trans (hbw.mono HB3.out.size))
        clear hbw hv HR3 HB3
        dsimp only
        have c0 := HR4.out.w_
        have c1 := HR4.out.h_
        have c2 := HR4.out.s_
        go_wp2_with fail
        refine (RefRight_any W H s w4).mono ?_
        rw [HZ.out]
        rintro e w5 ⟨rfl, hbw⟩
        have HR5 := Lib.hid (HR4.out.carry hbw)
        have HB5 := Lib.hid (HB4.out.trans (hbw.mono HB4.out.size))
        have HX5 := Lib.hid hbw
        clear hbw HR4 HB4 c0 c1 c2
        dsimp only
        have c0 := HR5.out.w_
        have c1 := HR5.out.h_
        have c2 := HR5.out.s_
        go_wp2_with fail
        refine (Of_any W H s w5).mono ?_
        rintro e w6 ⟨rfl, hbw⟩
        have HR6 := Lib.hid (HR5.out.carry hbw)
        have HB6 := Lib.hid (HB5.out.trans (hbw.mono HB5.out.size))
        have HX6 := Lib.hid hbw
        clear hbw HR5 HB5 c0 c1 c2
        dsimp only
        go_wp2_with fail
        refine (Right_any W H s hsm w6).mono ?_
        rw [HZ.out]
        rintro e w7 ⟨rfl, hbw⟩
        have HR7 := Lib.hid (HR6.out.carry hbw)
        have HB7 := Lib.hid (HB6.out.trans (hbw.mono HB6.out.size))
        have HX7 := Lib.hid hbw
        clear hbw HR6 HB6
        dsimp only
        have HV7 := Lib.hid (((HV4.out.below HX5.out).below HX6.out).below HX7.out)
        clear HX5 HX6 HX7 HV4
        go_wp2_with fail
        refine (Num_any 1 v w7 HV7.out.is (HG.out.carry HB7.out)).mono ?_
        rintro e w6 ⟨rfl, hbw⟩
        have HB6 := Lib.hid (HB7.out.trans (hbw.mono HB7.out.size))
        clear hbw HV7 HB7 HR7
        dsimp only
        go_wp2_with fail
        cases hpt : parseM t.data.toList with
        | none =>
          refine (Parse_off htm hpt w6).mono ?_
          rintro e w7 ⟨v2, rfl, hv, hbw⟩
          have HB7 := Lib.hid (HB6.out.trans (hbw.mono HB6.out.size))
          have HV7 := Lib.hid hv
          clear hbw hv HB6
          dsimp only
          obtain ⟨w8, HW8⟩ : ∃ w8, Hid (w8 = w7.alloc (.cells #[.int .i64 0, .int .i64 0, .string ⟨#[]⟩] 29)) := ⟨_, Lib.hid rfl⟩
          obtain ⟨q, HQ⟩ : ∃ q, Hid (q = w7.heap.size) := ⟨_, Lib.hid rfl⟩
          have HM8 : Hid (MapAt w8 q 0 0 ⟨#[]⟩) := Lib.hid (by rw [HW8.out, HQ.out]; exact heap_alloc_new w7 _)
          have HV8 : Hid (ErrFrom w8 w6.heap.size 2 v2) := Lib.hid (HV7.out.below (by rw [HW8.out]; exact (Below.refl _ _).alloc (Nat.le_refl _) _))
          have HB8 : Hid (Below w.heap.size w w8) := Lib.hid (by rw [HW8.out]; exact HB7.out.alloc HB7.out.size _)
          go_upto_region 8 with (fail)
          rw [← HQ.out, ← HW8.out]
          clear HQ HW8 HV7 HB7
          go_wp2_with fail
          refine (Read_off ht3 hpt w8).mono ?_
          rintro e w9 ⟨rfl, hbw⟩
          have HM9 := Lib.hid (HM8.out.carry hbw)
          have HV9 := Lib.hid (HV8.out.below hbw)
          have HB9 := Lib.hid (HB8.out.trans (hbw.mono HB8.out.size))
          clear hbw HM8 HV8 HB8
          dsimp only
          obtain ⟨w10, HW10⟩ : ∃ w10, Hid (w10 = w9.alloc (.cells #[.int .i64 0, .int .i64 0, .string ⟨#[]⟩] 23)) := ⟨_, Lib.hid rfl⟩
          obtain ⟨r, HR⟩ : ∃ r, Hid (r = w9.heap.size) := ⟨_, Lib.hid rfl⟩
          have hbw : Below w9.heap.size w9 w10 := by rw [HW10.out]; exact (Below.refl _ _).alloc (Nat.le_refl _) _
          have HS10 : Hid (PlSt w q r 0 0 ⟨#[]⟩ w6.heap.size 2 v2 w10) := Lib.hid ⟨HM9.out.carry hbw, by rw [HW10.out, HR.out]; exact heap_alloc_new w9 _, HV9.out.below hbw, HG.out.carry (HB9.out.trans (hbw.mono HB9.out.size)), HB9.out.trans (hbw.mono HB9.out.size)⟩
          clear hbw HM9 HV9 HB9
          go_upto_region 9 with (fail)
          rw [← HR.out, ← HW10.out]
          clear HR HW10
          refine wp_region_held (S := PlSt w q r 0 0 ⟨#[]⟩ w6.heap.size 2 v2) (by kernel_rfl) ?_
          change wpAnyH _ _ _ _ _ _ _ _ w10.drew
          obtain ⟨wa, HWA⟩ : ∃ wa, Hid (wa = w10.drew) := ⟨_, Lib.hid rfl⟩
          rw [← HWA.out]
          have hS : PlSt w q r 0 0 ⟨#[]⟩ w6.heap.size 2 v2 wa := by rw [HWA.out]; exact HS10.out.carry (Below.refl _ _).drew
          clear HWA HS10
          -- region 9
          refine takeH (i := 0) 65 (v := .agg #[.int .i64 0, .int .i64 0, .string ⟨#[]⟩]) rfl (by kernel_rfl) (by kernel_rfl) (by kernel_rfl) rfl (fun _ _ _ h => h) (.inl ⟨by rfl, fun _ h => by have c0 := h.at_.w_; have c1 := h.at_.h_; have c2 := h.at_.s_; go_simp⟩) hS ?_
          simp only [Act.put, List.setIfInBounds_toArray, List.set_cons_zero, List.set_cons_succ]
          refine takeH (i := 1) 66 (v := .agg #[.int .i64 0, .int .i64 0, .string ⟨#[]⟩]) rfl (by kernel_rfl) (by kernel_rfl) (by kernel_rfl) rfl (fun _ _ _ h => h) (.inl ⟨by rfl, fun _ h => by have c0 := h.ref.w_; have c1 := h.ref.h_; have c2 := h.ref.s_; go_simp⟩) hS ?_
          simp only [Act.put, List.setIfInBounds_toArray, List.set_cons_zero, List.set_cons_succ]
          refine oneH (i := 2) (oi := ⟨some 67, _, _, _, _, _⟩) rfl (by kernel_rfl) (fun K hK => ?_)
          go_simp
          refine (Of_any 0 0 ⟨#[]⟩ _).mono ?_
          rintro e wn ⟨rfl, hbw⟩
          have hS2 := hS.carry hbw
          refine hK.out _ _ hS2 ?_
          clear hK K hbw hS
          have hS := hS2
          clear hS2
          refine takeH (i := 3) 68 (v := .bool true) rfl (by kernel_rfl) (by kernel_rfl) (by kernel_rfl) rfl (fun _ _ _ h => h) (.inl ⟨by rfl, fun _ _ => by go_simp⟩) hS ?_
          simp only [Act.put, List.setIfInBounds_toArray, List.set_cons_zero, List.set_cons_succ]
          refine takeH (i := 4) 69 (v := .bool true) rfl (by kernel_rfl) (by kernel_rfl) (by kernel_rfl) rfl (fun _ _ _ h => h) (.inl ⟨by rfl, fun _ _ => by go_simp⟩) hS ?_
          simp only [Act.put, List.setIfInBounds_toArray, List.set_cons_zero, List.set_cons_succ]
          refine takeH (i := 5) 70 (v := .bool false) rfl (by kernel_rfl) (by kernel_rfl) (by kernel_rfl) rfl (fun _ _ _ h => h) (.inl ⟨by rfl, fun _ _ => by go_simp⟩) hS ?_
          simp only [Act.put, List.setIfInBounds_toArray, List.set_cons_zero, List.set_cons_succ]
          refine takeH (i := 6) 71 (v := v2) rfl (by kernel_rfl) (by kernel_rfl) (by kernel_rfl) rfl (fun _ _ _ h => h) (.inl ⟨by rfl, fun _ _ => by go_simp⟩) hS ?_
          simp only [Act.put, List.setIfInBounds_toArray, List.set_cons_zero, List.set_cons_succ]
          refine oneH (i := 7) (oi := ⟨some 72, _, _, _, _, _⟩) rfl (by kernel_rfl) (fun K hK => ?_)
          rw [if_pos (by rfl)]
          go_simp
          refine (Num_any 2 v2 _ hS.err.is hS.laid).mono ?_
          rintro e wn ⟨rfl, hbw⟩
          have hS2 := hS.carry hbw
          refine hK.out _ _ hS2 ?_
          clear hK K hbw hS
          have hS := hS2
          clear hS2
          refine takeH (i := 8) 73 (v := .bool false) rfl (by kernel_rfl) (by kernel_rfl) (by kernel_rfl) rfl (fun _ _ _ h => h) (.inl ⟨by rfl, fun _ _ => by go_simp⟩) hS ?_
          simp only [Act.put, List.setIfInBounds_toArray, List.set_cons_zero, List.set_cons_succ]
          refine takeH (i := 9) 74 (v := .bool true) rfl (by kernel_rfl) (by kernel_rfl) (by kernel_rfl) rfl (fun _ _ _ h => h) (.inl ⟨by rfl, fun _ _ => by go_simp⟩) hS ?_
          simp only [Act.put, List.setIfInBounds_toArray, List.set_cons_zero, List.set_cons_succ]
          refine takeH (i := 10) 75 (v := .bool true) rfl (by kernel_rfl) (by kernel_rfl) (by kernel_rfl) rfl (fun _ _ _ h => h) (.inl ⟨by rfl, fun _ _ => by go_simp⟩) hS ?_
          simp only [Act.put, List.setIfInBounds_toArray, List.set_cons_zero, List.set_cons_succ]
          refine takeH (i := 11) 4 (v := .bool true) rfl (by kernel_rfl) (by kernel_rfl) (by kernel_rfl) rfl (fun _ _ _ h => h) (.inl ⟨by rfl, fun _ _ => by go_simp⟩) hS ?_
          simp only [Act.put, List.setIfInBounds_toArray, List.set_cons_zero, List.set_cons_succ]
          refine wpAnyH_done (by kernel_rfl) ?_ _
          -- behind region 9
          have HSE := Lib.hid hS
          clear hS
          go_wp2_with fail
          go_ret
          exact ⟨rfl, HSE.out.below⟩
        | some x =>
          obtain ⟨a2, h2, cs⟩ := x
          refine (Parse_on htm hpt w6).mono ?_
          rintro e w7 ⟨rfl, hbw⟩
          have HB7 := Lib.hid (HB6.out.trans (hbw.mono HB6.out.size))
          have HV7 : Hid (ErrFrom w7 w6.heap.size 0 .nilIface) := Lib.hid (ErrFrom.nil _ _)
          clear hbw HB6
          have HRD := Lib.hid (Read_on ht3 hpt)
          clear hpt
          obtain ⟨u, HU⟩ : ∃ u, Hid (ofBytes cs = u) := ⟨_, Lib.hid rfl⟩
          rw [HU.out] at HRD ⊢
          clear HU
          dsimp only
          obtain ⟨w8, HW8⟩ : ∃ w8, Hid (w8 = w7.alloc (.cells #[.int .i64 (a2 : Int), .int .i64 (h2 : Int), .string u] 29)) := ⟨_, Lib.hid rfl⟩
          obtain ⟨q, HQ⟩ : ∃ q, Hid (q = w7.heap.size) := ⟨_, Lib.hid rfl⟩
          have HM8 : Hid (MapAt w8 q (a2 : Int) (h2 : Int) u) := Lib.hid (by rw [HW8.out, HQ.out]; exact heap_alloc_new w7 _)
          have HV8 : Hid (ErrFrom w8 w6.heap.size 0 .nilIface) := Lib.hid (HV7.out.below (by rw [HW8.out]; exact (Below.refl _ _).alloc (Nat.le_refl _) _))
          have HB8 : Hid (Below w.heap.size w w8) := Lib.hid (by rw [HW8.out]; exact HB7.out.alloc HB7.out.size _)
          go_upto_region 8 with (fail)
          rw [← HQ.out, ← HW8.out]
          clear HQ HW8 HV7 HB7
          go_wp2_with fail
          refine (HRD.out w8).mono ?_
          rintro e w9 ⟨rfl, hbw⟩
          have HM9 := Lib.hid (HM8.out.carry hbw)
          have HV9 := Lib.hid (HV8.out.below hbw)
          have HB9 := Lib.hid (HB8.out.trans (hbw.mono HB8.out.size))
          clear hbw HM8 HV8 HB8
          dsimp only
          obtain ⟨w10, HW10⟩ : ∃ w10, Hid (w10 = w9.alloc (.cells #[.int .i64 (a2 : Int), .int .i64 (h2 : Int), .string u] 23)) := ⟨_, Lib.hid rfl⟩
          obtain ⟨r, HR⟩ : ∃ r, Hid (r = w9.heap.size) := ⟨_, Lib.hid rfl⟩
          have hbw : Below w9.heap.size w9 w10 := by rw [HW10.out]; exact (Below.refl _ _).alloc (Nat.le_refl _) _
          have HS10 : Hid (PlSt w q r (a2 : Int) (h2 : Int) u w6.heap.size 0 .nilIface w10) := Lib.hid ⟨HM9.out.carry hbw, by rw [HW10.out, HR.out]; exact heap_alloc_new w9 _, HV9.out.below hbw, HG.out.carry (HB9.out.trans (hbw.mono HB9.out.size)), HB9.out.trans (hbw.mono HB9.out.size)⟩
          clear hbw HM9 HV9 HB9
          go_upto_region 9 with (fail)
          rw [← HR.out, ← HW10.out]
          clear HR HW10
          refine wp_region_held (S := PlSt w q r (a2 : Int) (h2 : Int) u w6.heap.size 0 .nilIface) (by kernel_rfl) ?_
          change wpAnyH _ _ _ _ _ _ _ _ w10.drew
          obtain ⟨wa, HWA⟩ : ∃ wa, Hid (wa = w10.drew) := ⟨_, Lib.hid rfl⟩
          rw [← HWA.out]
          have hS : PlSt w q r (a2 : Int) (h2 : Int) u w6.heap.size 0 .nilIface wa := by rw [HWA.out]; exact HS10.out.carry (Below.refl _ _).drew
          clear HWA HS10
          -- region 9
          refine takeH (i := 0) 65 (v := .agg #[.int .i64 (a2 : Int), .int .i64 (h2 : Int), .string u]) rfl (by kernel_rfl) (by kernel_rfl) (by kernel_rfl) rfl (fun _ _ _ h => h) (.inl ⟨by rfl, fun _ h => by have c0 := h.at_.w_; have c1 := h.at_.h_; have c2 := h.at_.s_; go_simp⟩) hS ?_
          simp only [Act.put, List.setIfInBounds_toArray, List.set_cons_zero, List.set_cons_succ]
          refine takeH (i := 1) 66 (v := .agg #[.int .i64 (a2 : Int), .int .i64 (h2 : Int), .string u]) rfl (by kernel_rfl) (by kernel_rfl) (by kernel_rfl) rfl (fun _ _ _ h => h) (.inl ⟨by rfl, fun _ h => by have c0 := h.ref.w_; have c1 := h.ref.h_; have c2 := h.ref.s_; go_simp⟩) hS ?_
          simp only [Act.put, List.setIfInBounds_toArray, List.set_cons_zero, List.set_cons_succ]
          refine oneH (i := 2) (oi := ⟨some 67, _, _, _, _, _⟩) rfl (by kernel_rfl) (fun K hK => ?_)
          go_simp
          refine (Of_any (a2 : Int) (h2 : Int) u _).mono ?_
          rintro e wn ⟨rfl, hbw⟩
          have hS2 := hS.carry hbw
          refine hK.out _ _ hS2 ?_
          clear hK K hbw hS
          have hS := hS2
          clear hS2
          refine takeH (i := 3) 68 (v := .bool true) rfl (by kernel_rfl) (by kernel_rfl) (by kernel_rfl) rfl (fun _ _ _ h => h) (.inl ⟨by rfl, fun _ _ => by go_simp⟩) hS ?_
          simp only [Act.put, List.setIfInBounds_toArray, List.set_cons_zero, List.set_cons_succ]
          refine takeH (i := 4) 69 (v := .bool true) rfl (by kernel_rfl) (by kernel_rfl) (by kernel_rfl) rfl (fun _ _ _ h => h) (.inl ⟨by rfl, fun _ _ => by go_simp⟩) hS ?_
          simp only [Act.put, List.setIfInBounds_toArray, List.set_cons_zero, List.set_cons_succ]
          refine takeH (i := 5) 70 (v := .bool true) rfl (by kernel_rfl) (by kernel_rfl) (by kernel_rfl) rfl (fun _ _ _ h => h) (.inl ⟨by rfl, fun _ _ => by go_simp⟩) hS ?_
          simp only [Act.put, List.setIfInBounds_toArray, List.set_cons_zero, List.set_cons_succ]
          refine takeH (i := 6) 71 (v := .nilIface) rfl (by kernel_rfl) (by kernel_rfl) (by kernel_rfl) rfl (fun _ _ _ h => h) (.inl ⟨by rfl, fun _ _ => by go_simp⟩) hS ?_
          simp only [Act.put, List.setIfInBounds_toArray, List.set_cons_zero, List.set_cons_succ]
          refine oneH (i := 7) (oi := ⟨some 72, _, _, _, _, _⟩) rfl (by kernel_rfl) (fun K hK => ?_)
          rw [if_pos (by rfl)]
          go_simp
          refine (Num_any 0 .nilIface _ hS.err.is hS.laid).mono ?_
          rintro e wn ⟨rfl, hbw⟩
          have hS2 := hS.carry hbw
          refine hK.out _ _ hS2 ?_
          clear hK K hbw hS
          have hS := hS2
          clear hS2
          refine takeH (i := 8) 73 (v := .bool true) rfl (by kernel_rfl) (by kernel_rfl) (by kernel_rfl) rfl (fun _ _ _ h => h) (.inl ⟨by rfl, fun _ _ => by go_simp⟩) hS ?_
          simp only [Act.put, List.setIfInBounds_toArray, List.set_cons_zero, List.set_cons_succ]
          refine takeH (i := 9) 74 (v := .bool true) rfl (by kernel_rfl) (by kernel_rfl) (by kernel_rfl) rfl (fun _ _ _ h => h) (.inl ⟨by rfl, fun _ _ => by go_simp⟩) hS ?_
          simp only [Act.put, List.setIfInBounds_toArray, List.set_cons_zero, List.set_cons_succ]
          refine takeH (i := 10) 75 (v := .bool true) rfl (by kernel_rfl) (by kernel_rfl) (by kernel_rfl) rfl (fun _ _ _ h => h) (.inl ⟨by rfl, fun _ _ => by go_simp⟩) hS ?_
          simp only [Act.put, List.setIfInBounds_toArray, List.set_cons_zero, List.set_cons_succ]
          refine takeH (i := 11) 4 (v := .bool true) rfl (by kernel_rfl) (by kernel_rfl) (by kernel_rfl) rfl (fun _ _ _ h => h) (.inl ⟨by rfl, fun _ _ => by go_simp⟩) hS ?_
          simp only [Act.put, List.setIfInBounds_toArray, List.set_cons_zero, List.set_cons_succ]
          refine wpAnyH_done (by kernel_rfl) ?_ _
          -- behind region 9
          have HSE := Lib.hid hS
          clear hS
          go_wp2_with fail
          go_ret
          exact ⟨rfl, HSE.out.below⟩
      | true =>
        have hr := Grid.rightB_iff.1 HZ.out
        obtain ⟨a, h, rfl, rfl, h1, h8, hh1, hh8, hn, _⟩ := Grid.sized_nat hr.1
        clear hr hn
        refine (Lay_on hsm HZ.out w3).mono ?_
        rw [Int.toNat_natCast, Int.toNat_natCast]
        obtain ⟨T, HT⟩ : ∃ T, Hid (ofBytes (layOf s.data.toList a (List.range h)) = T) := ⟨_, Lib.hid rfl⟩
        rw [HT.out]
        rintro e w4 ⟨rfl, hbw⟩
        have HR4 := Lib.hid (HR3.out.carry hbw)
        have HB4 := Lib.hid (HB3.out.trans (hbw.mono HB3.out.size))
        clear hbw HR3 HB3
        dsimp only
        have c0 := HR4.out.w_
        have c1 := HR4.out.h_
        have c2 := HR4.out.s_
        go_wp2_with fail
        refine (RefRight_any (a : Int) (h : Int) s w4).mono ?_
        rw [HZ.out]
        rintro e w5 ⟨rfl, hbw⟩
        have HR5 := Lib.hid (HR4.out.carry hbw)
        have HB5 := Lib.hid (HB4.out.trans (hbw.mono HB4.out.size))
        have HX5 := Lib.hid hbw
        clear hbw HR4 HB4 c0 c1 c2
        dsimp only
        have c0 := HR5.out.w_
        have c1 := HR5.out.h_
        have c2 := HR5.out.s_
        go_wp2_with fail
        refine (Of_any (a : Int) (h : Int) s w5).mono ?_
        rintro e w6 ⟨rfl, hbw⟩
        have HR6 := Lib.hid (HR5.out.carry hbw)
        have HB6 := Lib.hid (HB5.out.trans (hbw.mono HB5.out.size))
        have HX6 := Lib.hid hbw
        clear hbw HR5 HB5 c0 c1 c2
        dsimp only
        go_wp2_with fail
        refine (Right_any (a : Int) (h : Int) s hsm w6).mono ?_
        rw [HZ.out]
        rintro e w7 ⟨rfl, hbw⟩
        have HR7 := Lib.hid (HR6.out.carry hbw)
        have HB7 := Lib.hid (HB6.out.trans (hbw.mono HB6.out.size))
        have HX7 := Lib.hid hbw
        clear hbw HR6 HB6
        dsimp only
        clear HX5 HX6 HX7
        have c0 := HR7.out.w_
        have c1 := HR7.out.h_
        have c2 := HR7.out.s_
        go_wp2_with fail
        refine (Num_nil _).mono ?_
        rintro e w9 ⟨rfl, rfl⟩
        dsimp only
        go_wp2_with fail
        refine (RefLay_any a h s HZ.out w7).mono ?_
        rw [HT.out]
        rintro e w6 ⟨rfl, hbw⟩
        have HB6 := Lib.hid (HB7.out.trans (hbw.mono HB7.out.size))
        clear hbw HB7 HR7 c0 c1 c2
        dsimp only
        go_wp2_with fail
        cases hpt : parseM t.data.toList with
        | none =>
          refine (Parse_off htm hpt w6).mono ?_
          rintro e w7 ⟨v2, rfl, hv, hbw⟩
          have HB7 := Lib.hid (HB6.out.trans (hbw.mono HB6.out.size))
          have HV7 := Lib.hid hv
          clear hbw hv HB6
          dsimp only
          obtain ⟨w8, HW8⟩ : ∃ w8, Hid (w8 = w7.alloc (.cells #[.int .i64 0, .int .i64 0, .string ⟨#[]⟩] 29)) := ⟨_, Lib.hid rfl⟩
          obtain ⟨q, HQ⟩ : ∃ q, Hid (q = w7.heap.size) := ⟨_, Lib.hid rfl⟩
          have HM8 : Hid (MapAt w8 q 0 0 ⟨#[]⟩) := Lib.hid (by rw [HW8.out, HQ.out]; exact heap_alloc_new w7 _)
          have HV8 : Hid (ErrFrom w8 w6.heap.size 2 v2) := Lib.hid (HV7.out.below (by rw [HW8.out]; exact (Below.refl _ _).alloc (Nat.le_refl _) _))
          have HB8 : Hid (Below w.heap.size w w8) := Lib.hid (by rw [HW8.out]; exact HB7.out.alloc HB7.out.size _)
          go_upto_region 8 with (fail)
          rw [← HQ.out, ← HW8.out]
          clear HQ HW8 HV7 HB7
          go_wp2_with fail
          refine (Read_off ht3 hpt w8).mono ?_
          rintro e w9 ⟨rfl, hbw⟩
          have HM9 := Lib.hid (HM8.out.carry hbw)
          have HV9 := Lib.hid (HV8.out.below hbw)
          have HB9 := Lib.hid (HB8.out.trans (hbw.mono HB8.out.size))
          clear hbw HM8 HV8 HB8
          dsimp only
          obtain ⟨w10, HW10⟩ : ∃ w10, Hid (w10 = w9.alloc (.cells #[.int .i64 0, .int .i64 0, .string ⟨#[]⟩] 23)) := ⟨_, Lib.hid rfl⟩
          obtain ⟨r, HR⟩ : ∃ r, Hid (r = w9.heap.size) := ⟨_, Lib.hid rfl⟩
          have hbw : Below w9.heap.size w9 w10 := by rw [HW10.out]; exact (Below.refl _ _).alloc (Nat.le_refl _) _
          have HS10 : Hid (PlSt w q r 0 0 ⟨#[]⟩ w6.heap.size 2 v2 w10) := Lib.hid ⟨HM9.out.carry hbw, by rw [HW10.out, HR.out]; exact heap_alloc_new w9 _, HV9.out.below hbw, HG.out.carry (HB9.out.trans (hbw.mono HB9.out.size)), HB9.out.trans (hbw.mono HB9.out.size)⟩
          clear hbw HM9 HV9 HB9
          go_upto_region 9 with (fail)
          rw [← HR.out, ← HW10.out]
          clear HR HW10
          refine wp_region_held (S := PlSt w q r 0 0 ⟨#[]⟩ w6.heap.size 2 v2) (by kernel_rfl) ?_
          change wpAnyH _ _ _ _ _ _ _ _ w10.drew
          obtain ⟨wa, HWA⟩ : ∃ wa, Hid (wa = w10.drew) := ⟨_, Lib.hid rfl⟩
          rw [← HWA.out]
          have hS : PlSt w q r 0 0 ⟨#[]⟩ w6.heap.size 2 v2 wa := by rw [HWA.out]; exact HS10.out.carry (Below.refl _ _).drew
          clear HWA HS10
          -- region 9
          refine takeH (i := 0) 65 (v := .agg #[.int .i64 0, .int .i64 0, .string ⟨#[]⟩]) rfl (by kernel_rfl) (by kernel_rfl) (by kernel_rfl) rfl (fun _ _ _ h => h) (.inl ⟨by rfl, fun _ h => by have c0 := h.at_.w_; have c1 := h.at_.h_; have c2 := h.at_.s_; go_simp⟩) hS ?_
          simp only [Act.put, List.setIfInBounds_toArray, List.set_cons_zero, List.set_cons_succ]
          refine takeH (i := 1) 66 (v := .agg #[.int .i64 0, .int .i64 0, .string ⟨#[]⟩]) rfl (by kernel_rfl) (by kernel_rfl) (by kernel_rfl) rfl (fun _ _ _ h => h) (.inl ⟨by rfl, fun _ h => by have c0 := h.ref.w_; have c1 := h.ref.h_; have c2 := h.ref.s_; go_simp⟩) hS ?_
          simp only [Act.put, List.setIfInBounds_toArray, List.set_cons_zero, List.set_cons_succ]
          refine oneH (i := 2) (oi := ⟨some 67, _, _, _, _, _⟩) rfl (by kernel_rfl) (fun K hK => ?_)
          go_simp
          refine (Of_any 0 0 ⟨#[]⟩ _).mono ?_
          rintro e wn ⟨rfl, hbw⟩
          have hS2 := hS.carry hbw
          refine hK.out _ _ hS2 ?_
          clear hK K hbw hS
          have hS := hS2
          clear hS2
          refine takeH (i := 3) 68 (v := .bool true) rfl (by kernel_rfl) (by kernel_rfl) (by kernel_rfl) rfl (fun _ _ _ h => h) (.inl ⟨by rfl, fun _ _ => by go_simp⟩) hS ?_
          simp only [Act.put, List.setIfInBounds_toArray, List.set_cons_zero, List.set_cons_succ]
          refine takeH (i := 4) 69 (v := .bool true) rfl (by kernel_rfl) (by kernel_rfl) (by kernel_rfl) rfl (fun _ _ _ h => h) (.inl ⟨by rfl, fun _ _ => by go_simp⟩) hS ?_
          simp only [Act.put, List.setIfInBounds_toArray, List.set_cons_zero, List.set_cons_succ]
          refine takeH (i := 5) 70 (v := .bool false) rfl (by kernel_rfl) (by kernel_rfl) (by kernel_rfl) rfl (fun _ _ _ h => h) (.inl ⟨by rfl, fun _ _ => by go_simp⟩) hS ?_
          simp only [Act.put, List.setIfInBounds_toArray, List.set_cons_zero, List.set_cons_succ]
          refine takeH (i := 6) 71 (v := v2) rfl (by kernel_rfl) (by kernel_rfl) (by kernel_rfl) rfl (fun _ _ _ h => h) (.inl ⟨by rfl, fun _ _ => by go_simp⟩) hS ?_
          simp only [Act.put, List.setIfInBounds_toArray, List.set_cons_zero, List.set_cons_succ]
          refine oneH (i := 7) (oi := ⟨some 72, _, _, _, _, _⟩) rfl (by kernel_rfl) (fun K hK => ?_)
          rw [if_pos (by rfl)]
          go_simp
          refine (Num_any 2 v2 _ hS.err.is hS.laid).mono ?_
          rintro e wn ⟨rfl, hbw⟩
          have hS2 := hS.carry hbw
          refine hK.out _ _ hS2 ?_
          clear hK K hbw hS
          have hS := hS2
          clear hS2
          refine takeH (i := 8) 73 (v := .bool false) rfl (by kernel_rfl) (by kernel_rfl) (by kernel_rfl) rfl (fun _ _ _ h => h) (.inl ⟨by rfl, fun _ _ => by go_simp⟩) hS ?_
          simp only [Act.put, List.setIfInBounds_toArray, List.set_cons_zero, List.set_cons_succ]
          refine takeH (i := 9) 74 (v := .bool true) rfl (by kernel_rfl) (by kernel_rfl) (by kernel_rfl) rfl (fun _ _ _ h => h) (.inl ⟨by rfl, fun _ _ => by go_simp⟩) hS ?_
          simp only [Act.put, List.setIfInBounds_toArray, List.set_cons_zero, List.set_cons_succ]
          refine takeH (i := 10) 75 (v := .bool true) rfl (by kernel_rfl) (by kernel_rfl) (by kernel_rfl) rfl (fun _ _ _ h => h) (.inl ⟨by rfl, fun _ _ => by go_simp⟩) hS ?_
          simp only [Act.put, List.setIfInBounds_toArray, List.set_cons_zero, List.set_cons_succ]
          refine takeH (i := 11) 4 (v := .bool true) rfl (by kernel_rfl) (by kernel_rfl) (by kernel_rfl) rfl (fun _ _ _ h => h) (.inl ⟨by rfl, fun _ _ => by go_simp⟩) hS ?_
          simp only [Act.put, List.setIfInBounds_toArray, List.set_cons_zero, List.set_cons_succ]
          refine wpAnyH_done (by kernel_rfl) ?_ _
          -- behind region 9
          have HSE := Lib.hid hS
          clear hS
          go_wp2_with fail
          go_ret
          exact ⟨rfl, HSE.out.below⟩
        | some x =>
          obtain ⟨a2, h2, cs⟩ := x
          refine (Parse_on htm hpt w6).mono ?_
          rintro e w7 ⟨rfl, hbw⟩
          have HB7 := Lib.hid (HB6.out.trans (hbw.mono HB6.out.size))
          have HV7 : Hid (ErrFrom w7 w6.heap.size 0 .nilIface) := Lib.hid (ErrFrom.nil _ _)
          clear hbw HB6
          have HRD := Lib.hid (Read_on ht3 hpt)
          clear hpt
          obtain ⟨u, HU⟩ : ∃ u, Hid (ofBytes cs = u) := ⟨_, Lib.hid rfl⟩
          rw [HU.out] at HRD ⊢
          clear HU
          dsimp only
          obtain ⟨w8, HW8⟩ : ∃ w8, Hid (w8 = w7.alloc (.cells #[.int .i64 (a2 : Int), .int .i64 (h2 : Int), .string u] 29)) := ⟨_, Lib.hid rfl⟩
          obtain ⟨q, HQ⟩ : ∃ q, Hid (q = w7.heap.size) := ⟨_, Lib.hid rfl⟩
          have HM8 : Hid (MapAt w8 q (a2 : Int) (h2 : Int) u) := Lib.hid (by rw [HW8.out, HQ.out]; exact heap_alloc_new w7 _)
          have HV8 : Hid (ErrFrom w8 w6.heap.size 0 .nilIface) := Lib.hid (HV7.out.below (by rw [HW8.out]; exact (Below.refl _ _).alloc (Nat.le_refl _) _))
          have HB8 : Hid (Below w.heap.size w w8) := Lib.hid (by rw [HW8.out]; exact HB7.out.alloc HB7.out.size _)
          go_upto_region 8 with (fail)
          rw [← HQ.out, ← HW8.out]
          clear HQ HW8 HV7 HB7
          go_wp2_with fail
          refine (HRD.out w8).mono ?_
          rintro e w9 ⟨rfl, hbw⟩
          have HM9 := Lib.hid (HM8.out.carry hbw)
          have HV9 := Lib.hid (HV8.out.below hbw)
          have HB9 := Lib.hid (HB8.out.trans (hbw.mono HB8.out.size))
          clear hbw HM8 HV8 HB8
          dsimp only
          obtain ⟨w10, HW10⟩ : ∃ w10, Hid (w10 = w9.alloc (.cells #[.int .i64 (a2 : Int), .int .i64 (h2 : Int), .string u] 23)) := ⟨_, Lib.hid rfl⟩
          obtain ⟨r, HR⟩ : ∃ r, Hid (r = w9.heap.size) := ⟨_, Lib.hid rfl⟩
          have hbw : Below w9.heap.size w9 w10 := by rw [HW10.out]; exact (Below.refl _ _).alloc (Nat.le_refl _) _
          have HS10 : Hid (PlSt w q r (a2 : Int) (h2 : Int) u w6.heap.size 0 .nilIface w10) := Lib.hid ⟨HM9.out.carry hbw, by rw [HW10.out, HR.out]; exact heap_alloc_new w9 _, HV9.out.below hbw, HG.out.carry (HB9.out.trans (hbw.mono HB9.out.size)), HB9.out.trans (hbw.mono HB9.out.size)⟩
          clear hbw HM9 HV9 HB9
          go_upto_region 9 with (fail)
          rw [← HR.out, ← HW10.out]
          clear HR HW10
          refine wp_region_held (S := PlSt w q r (a2 : Int) (h2 : Int) u w6.heap.size 0 .nilIface) (by kernel_rfl) ?_
          change wpAnyH _ _ _ _ _ _ _ _ w10.drew
          obtain ⟨wa, HWA⟩ : ∃ wa, Hid (wa = w10.drew) := ⟨_, Lib.hid rfl⟩
          rw [← HWA.out]
          have hS : PlSt w q r (a2 : Int) (h2 : Int) u w6.heap.size 0 .nilIface wa := by rw [HWA.out]; exact HS10.out.carry (Below.refl _ _).drew
          clear HWA HS10
          -- region 9
          refine takeH (i := 0) 65 (v := .agg #[.int .i64 (a2 : Int), .int .i64 (h2 : Int), .string u]) rfl (by kernel_rfl) (by kernel_rfl) (by kernel_rfl) rfl (fun _ _ _ h => h) (.inl ⟨by rfl, fun _ h => by have c0 := h.at_.w_; have c1 := h.at_.h_; have c2 := h.at_.s_; go_simp⟩) hS ?_
          simp only [Act.put, List.setIfInBounds_toArray, List.set_cons_zero, List.set_cons_succ]
          refine takeH (i := 1) 66 (v := .agg #[.int .i64 (a2 : Int), .int .i64 (h2 : Int), .string u]) rfl (by kernel_rfl) (by kernel_rfl) (by kernel_rfl) rfl (fun _ _ _ h => h) (.inl ⟨by rfl, fun _ h => by have c0 := h.ref.w_; have c1 := h.ref.h_; have c2 := h.ref.s_; go_simp⟩) hS ?_
          simp only [Act.put, List.setIfInBounds_toArray, List.set_cons_zero, List.set_cons_succ]
          refine oneH (i := 2) (oi := ⟨some 67, _, _, _, _, _⟩) rfl (by kernel_rfl) (fun K hK => ?_)
          go_simp
          refine (Of_any (a2 : Int) (h2 : Int) u _).mono ?_
          rintro e wn ⟨rfl, hbw⟩
          have hS2 := hS.carry hbw
          refine hK.out _ _ hS2 ?_
          clear hK K hbw hS
          have hS := hS2
          clear hS2
          refine takeH (i := 3) 68 (v := .bool true) rfl (by kernel_rfl) (by kernel_rfl) (by kernel_rfl) rfl (fun _ _ _ h => h) (.inl ⟨by rfl, fun _ _ => by go_simp⟩) hS ?_
          simp only [Act.put, List.setIfInBounds_toArray, List.set_cons_zero, List.set_cons_succ]
          refine takeH (i := 4) 69 (v := .bool true) rfl (by kernel_rfl) (by kernel_rfl) (by kernel_rfl) rfl (fun _ _ _ h => h) (.inl ⟨by rfl, fun _ _ => by go_simp⟩) hS ?_
          simp only [Act.put, List.setIfInBounds_toArray, List.set_cons_zero, List.set_cons_succ]
          refine takeH (i := 5) 70 (v := .bool true) rfl (by kernel_rfl) (by kernel_rfl) (by kernel_rfl) rfl (fun _ _ _ h => h) (.inl ⟨by rfl, fun _ _ => by go_simp⟩) hS ?_
          simp only [Act.put, List.setIfInBounds_toArray, List.set_cons_zero, List.set_cons_succ]
          refine takeH (i := 6) 71 (v := .nilIface) rfl (by kernel_rfl) (by kernel_rfl) (by kernel_rfl) rfl (fun _ _ _ h => h) (.inl ⟨by rfl, fun _ _ => by go_simp⟩) hS ?_
          simp only [Act.put, List.setIfInBounds_toArray, List.set_cons_zero, List.set_cons_succ]
          refine oneH (i := 7) (oi := ⟨some 72, _, _, _, _, _⟩) rfl (by kernel_rfl) (fun K hK => ?_)
          rw [if_pos (by rfl)]
          go_simp
          refine (Num_any 0 .nilIface _ hS.err.is hS.laid).mono ?_
          rintro e wn ⟨rfl, hbw⟩
          have hS2 := hS.carry hbw
          refine hK.out _ _ hS2 ?_
          clear hK K hbw hS
          have hS := hS2
          clear hS2
          refine takeH (i := 8) 73 (v := .bool true) rfl (by kernel_rfl) (by kernel_rfl) (by kernel_rfl) rfl (fun _ _ _ h => h) (.inl ⟨by rfl, fun _ _ => by go_simp⟩) hS ?_
          simp only [Act.put, List.setIfInBounds_toArray, List.set_cons_zero, List.set_cons_succ]
          refine takeH (i := 9) 74 (v := .bool true) rfl (by kernel_rfl) (by kernel_rfl) (by kernel_rfl) rfl (fun _ _ _ h => h) (.inl ⟨by rfl, fun _ _ => by go_simp⟩) hS ?_
          simp only [Act.put, List.setIfInBounds_toArray, List.set_cons_zero, List.set_cons_succ]
          refine takeH (i := 10) 75 (v := .bool true) rfl (by kernel_rfl) (by kernel_rfl) (by kernel_rfl) rfl (fun _ _ _ h => h) (.inl ⟨by rfl, fun _ _ => by go_simp⟩) hS ?_
          simp only [Act.put, List.setIfInBounds_toArray, List.set_cons_zero, List.set_cons_succ]
          refine takeH (i := 11) 4 (v := .bool true) rfl (by kernel_rfl) (by kernel_rfl) (by kernel_rfl) rfl (fun _ _ _ h => h) (.inl ⟨by rfl, fun _ _ => by go_simp⟩) hS ?_
          simp only [Act.put, List.setIfInBounds_toArray, List.set_cons_zero, List.set_cons_succ]
          refine wpAnyH_done (by kernel_rfl) ?_ _
          -- behind region 9
          have HSE := Lib.hid hS
          clear hS
          go_wp2_with fail
          go_ret
          exact ⟨rfl, HSE.out.below⟩
end Go.Proofs.YtoempilmofbhdaaDoor
