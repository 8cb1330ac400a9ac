/-
  The walk of GridBack: what is laid is read as it was; what is read is laid as it stands there. Conditions: none beyond the premises of each theorem.
-/
import Derived.Test.YtoempilmofbhdaaDoorGridLayMath
import Derived.Test.YtoempilmofbhdaaDoorGridLaw
namespace Go.Proofs.YtoempilmofbhdaaDoor
open Go Go.RowKit Go.Shelf

/-- the contract of Lay in the words of a walk -/
theorem Lay_on {W H : Int} {s : ByteArray} (hsm : s.size ≤ maxLen) (hr : rightM W H s = true) (w : World) :
    Calls Tryd.prog 10 #[.agg #[.int .i64 W, .int .i64 H, .string s]] w fun e w' => e = .returned (.tuple #[.string (ofBytes (layOf s.data.toList W.toNat (List.range H.toNat))), .nilIface]) ∧ Below w.heap.size w w' :=
  (Lay_any W H s hsm w).mono fun e w' h => by
    rcases h.2 with ⟨_, h2⟩ | ⟨h2, _⟩
    · exact ⟨h2, h.1⟩
    · rw [hr] at h2; cases h2
theorem Lay_off {W H : Int} {s : ByteArray} (hsm : s.size ≤ maxLen) (hr : rightM W H s = false) (w : World) :
    Calls Tryd.prog 10 #[.agg #[.int .i64 W, .int .i64 H, .string s]] w fun e w' => ∃ v, e = .returned (.tuple #[.string ⟨#[]⟩, v]) ∧ ErrFrom w' w.heap.size 1 v ∧ Below w.heap.size w w' :=
  (Lay_any W H s hsm w).mono fun e w' h => by
    rcases h.2 with ⟨h2, _⟩ | ⟨_, v, h2, h3⟩
    · rw [hr] at h2; cases h2
    · exact ⟨v, h2, h3, h.1⟩
theorem Parse_on {s : ByteArray} (hs : s.size ≤ maxLen) {a h : Nat} {c : List UInt8} (e : parseM s.data.toList = some (a, h, c)) (w : World) :
    Calls Tryd.prog 13 #[.string s] w fun e w' => e = .returned (.tuple #[.agg #[.int .i64 (a : Int), .int .i64 (h : Int), .string (ofBytes c)], .nilIface]) ∧ Below w.heap.size w w' :=
  (Parse_any s hs w).mono fun e1 w' h => by
    rw [e] at h
    exact ⟨h.2, h.1⟩
theorem Parse_off {s : ByteArray} (hs : s.size ≤ maxLen) (e : parseM s.data.toList = none) (w : World) :
    Calls Tryd.prog 13 #[.string s] w fun e w' => ∃ v, e = .returned (.tuple #[.agg #[.int .i64 0, .int .i64 0, .string ⟨#[]⟩], v]) ∧ ErrFrom w' w.heap.size 2 v ∧ Below w.heap.size w w' :=
  (Parse_any s hs w).mono fun e1 w' h => by
    rw [e] at h
    obtain ⟨h1, v, h2, h3⟩ := h
    exact ⟨v, h2, h3, h1⟩
-- the walk
/-- the law's variables: m in p, and the map read in q -/
structure BSt (w0 : World) (p q : Nat) (W H : Int) (s : ByteArray) (w : World) : Prop where
  ref : RefAt w p W H s
  at_ : MapAt w q W H s
  below : Below w0.heap.size w0 w
theorem BSt.carry {w0 w w' : World} {p q : Nat} {W H : Int} {s : ByteArray} (h : BSt w0 p q W H s w) (hb : Below w.heap.size w w') : BSt w0 p q W H s w' :=
  ⟨h.ref.carry hb, h.at_.carry hb, h.below.trans (hb.mono h.below.size)⟩
theorem BSt.drew {w0 w : World} {p q : Nat} {W H : Int} {s : ByteArray} (h : BSt w0 p q W H s w) : BSt w0 p q W H s w.drew := ⟨h.ref, h.at_, h.below.drew⟩
set_option maxRecDepth 100000 in
set_option maxHeartbeats 2000000 in
theorem back_walk (W H : Int) (s t : ByteArray) (w : World) (hg : Laid w) : Calls Tryd.prog 3 #[.agg #[.int .i64 W, .int .i64 H, .string s], .string t] w fun e w' => e = .returned (.bool true) ∧ Below w.heap.size w w' := by
  have HG := Lib.hid hg
  clear hg
  obtain ⟨w1, HW1⟩ : ∃ w1, Hid (w1 = w.alloc (.cells #[.int .i64 W, .int .i64 H, .string s] 23)) := ⟨_, Lib.hid rfl⟩
  obtain ⟨p, HP⟩ : ∃ p, Hid (p = w.heap.size) := ⟨_, Lib.hid rfl⟩
  have HR1 : Hid (RefAt w1 p W H s) := Lib.hid (by rw [HW1.out, HP.out]; exact heap_alloc_new w _)
  have HB1 : Hid (Below w.heap.size w w1) := Lib.hid (by rw [HW1.out]; exact (Below.refl _ _).alloc (Nat.le_refl _) _)
  go_enter Tryd.func3, Tryd.ntmps3
  go_upto_region 1 with (fail)
  rw [← HP.out, ← HW1.out]
  clear HP HW1
  go_wp2_with fail
  refine (awake_any w1).mono ?_
  rintro e w2 ⟨rfl, hbw⟩
  have HR2 := Lib.hid (HR1.out.carry hbw)
  have HB2 := Lib.hid (HB1.out.trans (hbw.mono HB1.out.size))
  clear hbw HR1 HB1
  dsimp only
  have c0 := HR2.out.w_
  have c1 := HR2.out.h_
  have c2 := HR2.out.s_
  by_cases hs2 : 200 < s.size
  · go_wp2_with fail
    refine (awake_any w2).mono ?_
    rintro e w3 ⟨rfl, hbw⟩
    have HB3 := Lib.hid (HB2.out.trans (hbw.mono HB2.out.size))
    clear hbw
    dsimp only
    go_wp2_with fail
    go_ret
    exact ⟨rfl, HB3.out⟩
  · by_cases ht2 : 200 < t.size
    · go_wp2_with fail
      refine (awake_any w2).mono ?_
      rintro e w3 ⟨rfl, hbw⟩
      have HB3 := Lib.hid (HB2.out.trans (hbw.mono HB2.out.size))
      clear hbw
      dsimp only
      go_wp2_with fail
      go_ret
      exact ⟨rfl, HB3.out⟩
    · have hsm : s.size ≤ maxLen := by unfold maxLen; omega
      have htm : t.size ≤ maxLen := by unfold maxLen; omega
      have hs3 : s.size ≤ 200 := by omega
      have ht3 : t.size ≤ 200 := by omega
      clear hs2 ht2
      go_wp2_with fail
      refine (Of_any W H s w2).mono ?_
      rintro e w3 ⟨rfl, hbw⟩
      have HR3 := Lib.hid (HR2.out.carry hbw)
      have HB3 := Lib.hid (HB2.out.trans (hbw.mono HB2.out.size))
      clear hbw HR2 HB2 c0 c1 c2
      dsimp only
      go_wp2_with fail
      obtain ⟨z, HZ⟩ : ∃ z, Hid (rightM W H s = z) := ⟨_, Lib.hid rfl⟩
      cases z with
      | false =>
        refine (Lay_off hsm HZ.out w3).mono ?_
        rintro e w4 ⟨v, rfl, hv, hbw⟩
        have HV4 := Lib.hid hv
        have HB4 := Lib.hid (HB3.out.trans (hbw.mono HB3.out.size))
        clear hbw hv HR3 HB3
        dsimp only
        go_wp2_with fail
        refine (Num_any 1 v w4 HV4.out.is (HG.out.carry HB4.out)).mono ?_
        rintro e w5 ⟨rfl, hbw⟩
        have HV5 := Lib.hid (HV4.out.below hbw)
        have HB5 := Lib.hid (HB4.out.trans (hbw.mono HB4.out.size))
        clear hbw HV4 HB4
        dsimp only
        go_wp2_with fail
        refine (Num_any 1 v w5 HV5.out.is (HG.out.carry HB5.out)).mono ?_
        rintro e w6 ⟨rfl, hbw⟩
        have HB6 := Lib.hid (HB5.out.trans (hbw.mono HB5.out.size))
        clear hbw HV5 HB5
        dsimp only
        go_wp2_with fail
        cases hpt : parseM t.data.toList with
        | none =>
          refine (Parse_off htm hpt w6).mono ?_
          rintro e w7 ⟨v2, rfl, hv, hbw⟩
          have HB7 := Lib.hid (HB6.out.trans (hbw.mono HB6.out.size))
          have HV7 := Lib.hid hv
          clear hbw hv HB6 hpt
          dsimp only
          obtain ⟨w8, HW8⟩ : ∃ w8, Hid (w8 = w7.alloc (.cells #[.int .i64 0, .int .i64 0, .string ⟨#[]⟩] 29)) := ⟨_, Lib.hid rfl⟩
          obtain ⟨y, HY⟩ : ∃ y, Hid (y = w7.heap.size) := ⟨_, Lib.hid rfl⟩
          have HM8 : Hid (MapAt w8 y 0 0 ⟨#[]⟩) := Lib.hid (by rw [HW8.out, HY.out]; exact heap_alloc_new w7 _)
          have HV8 : Hid (ErrFrom w8 w6.heap.size 2 v2) := Lib.hid (HV7.out.below (by rw [HW8.out]; exact (Below.refl _ _).alloc (Nat.le_refl _) _))
          have HB8 : Hid (Below w.heap.size w w8) := Lib.hid (by rw [HW8.out]; exact HB7.out.alloc HB7.out.size _)
          go_upto_region 11 with (fail)
          rw [← HY.out, ← HW8.out]
          clear HY HW8 HV7 HB7
          go_wp2_with fail
          refine (Num_any 2 v2 w8 HV8.out.is (HG.out.carry HB8.out)).mono ?_
          rintro e w9 ⟨rfl, hbw⟩
          have HV9 := Lib.hid (HV8.out.below hbw)
          have HM9 : Hid (MapAt w9 y 0 0 ⟨#[]⟩) := Lib.hid (HM8.out.carry hbw)
          have HB9 := Lib.hid (HB8.out.trans (hbw.mono HB8.out.size))
          clear hbw HV8 HM8 HB8
          dsimp only
          go_wp2_with fail
          refine (Num_any 2 v2 w9 HV9.out.is (HG.out.carry HB9.out)).mono ?_
          rintro e w10 ⟨rfl, hbw⟩
          have HM10 : Hid (MapAt w10 y 0 0 ⟨#[]⟩) := Lib.hid (HM9.out.carry hbw)
          have HB10 := Lib.hid (HB9.out.trans (hbw.mono HB9.out.size))
          clear hbw HV9 HM9 HB9
          dsimp only
          have c0 := HM10.out.w_
          have c1 := HM10.out.h_
          have c2 := HM10.out.s_
          go_wp2_with fail
          go_ret
          exact ⟨rfl, HB10.out⟩
        | some x =>
          obtain ⟨a2, h2, cs⟩ := x
          obtain ⟨k1, k2⟩ := lay_parse hpt
          refine (Parse_on htm hpt w6).mono ?_
          obtain ⟨u, HU⟩ : ∃ u, Hid (u = ofBytes cs) := ⟨_, Lib.hid rfl⟩
          have HRU : Hid (rightM (a2 : Int) (h2 : Int) u = true) := Lib.hid (by rw [HU.out]; unfold rightM; rw [ofBytes_list]; exact k1)
          have HLU : Hid (ofBytes (layOf u.data.toList a2 (List.range h2)) = t) := Lib.hid (by rw [HU.out, ofBytes_list, k2, ofBytes_self])
          have husm : u.size ≤ maxLen := by
            have h9 := (Grid.rightB_iff.1 k1).1
            obtain ⟨a9, h9, ha, hh, _, _, _, _, _, h64⟩ := Grid.sized_nat h9
            rw [HU.out, ofBytes_size]
            unfold maxLen
            omega
          rw [← HU.out]
          clear HU k1 k2 hpt
          rintro e w7 ⟨rfl, hbw⟩
          have HB7 := Lib.hid (HB6.out.trans (hbw.mono HB6.out.size))
          clear hbw HB6
          dsimp only
          obtain ⟨w8, HW8⟩ : ∃ w8, Hid (w8 = w7.alloc (.cells #[.int .i64 (a2 : Int), .int .i64 (h2 : Int), .string u] 29)) := ⟨_, Lib.hid rfl⟩
          obtain ⟨y, HY⟩ : ∃ y, Hid (y = w7.heap.size) := ⟨_, Lib.hid rfl⟩
          have HM8 : Hid (MapAt w8 y a2 h2 u) := Lib.hid (by rw [HW8.out, HY.out]; exact heap_alloc_new w7 _)
          have HB8 : Hid (Below w.heap.size w w8) := Lib.hid (by rw [HW8.out]; exact HB7.out.alloc HB7.out.size _)
          go_upto_region 11 with (fail)
          rw [← HY.out, ← HW8.out]
          clear HY HW8 HB7
          have c0 := HM8.out.w_
          have c1 := HM8.out.h_
          have c2 := HM8.out.s_
          go_wp2_with fail
          refine (Num_nil _).mono ?_
          rintro e w9 ⟨rfl, rfl⟩
          dsimp only
          go_wp2_with fail
          refine (Lay_on husm HRU.out w8).mono ?_
          rw [Int.toNat_natCast, Int.toNat_natCast, HLU.out]
          rintro e w9 ⟨rfl, hbw⟩
          have HM9 : Hid (MapAt w9 y a2 h2 u) := Lib.hid (HM8.out.carry hbw)
          have HB9 := Lib.hid (HB8.out.trans (hbw.mono HB8.out.size))
          clear hbw HM8 HB8 c0 c1 c2
          dsimp only
          have c0 := HM9.out.w_
          have c1 := HM9.out.h_
          have c2 := HM9.out.s_
          go_wp2_with fail
          refine (Num_nil _).mono ?_
          rintro e w10 ⟨rfl, rfl⟩
          dsimp only
          go_wp2_with fail
          refine (Right_any (a2 : Int) (h2 : Int) u husm w9).mono ?_
          rw [HRU.out]
          rintro e w10 ⟨rfl, hbw⟩
          have HB10 := Lib.hid (HB9.out.trans (hbw.mono HB9.out.size))
          clear hbw
          dsimp only
          go_wp2_with fail
          go_ret
          exact ⟨rfl, HB10.out⟩
      | true =>
        have hr := Grid.rightB_iff.1 HZ.out
        obtain ⟨a, h, rfl, rfl, h1, h8, hh1, hh8, hn, _⟩ := Grid.sized_nat hr.1
        refine (Lay_on hsm HZ.out w3).mono ?_
        rw [Int.toNat_natCast, Int.toNat_natCast]
        obtain ⟨T, HT⟩ : ∃ T, Hid (T = ofBytes (layOf s.data.toList a (List.range h))) := ⟨_, Lib.hid rfl⟩
        rw [← HT.out]
        have htl : T.size ≤ maxLen := by
          rw [HT.out, ofBytes_size, layOf_length hn _ (fun k hk => List.mem_range.1 hk), List.length_range]
          have := Nat.mul_le_mul hh8 (show a + 1 ≤ 9 by omega)
          unfold maxLen
          omega
        have HPL : Hid (parseM T.data.toList = some (a, h, s.data.toList)) := Lib.hid (by rw [HT.out, ofBytes_list]; exact parse_lay HZ.out)
        clear hr hn
        rintro e w4 ⟨rfl, hbw⟩
        have HR4 := Lib.hid (HR3.out.carry hbw)
        have HB4 := Lib.hid (HB3.out.trans (hbw.mono HB3.out.size))
        clear hbw HR3 HB3
        dsimp only
        go_wp2_with fail
        refine (Num_nil _).mono ?_
        rintro e w9 ⟨rfl, rfl⟩
        dsimp only
        go_wp2_with fail
        refine (Parse_on htl HPL.out w4).mono ?_
        rw [ofBytes_self]
        rintro e w5 ⟨rfl, hbw⟩
        have HR5 := Lib.hid (HR4.out.carry hbw)
        have HB5 := Lib.hid (HB4.out.trans (hbw.mono HB4.out.size))
        clear hbw HR4 HB4
        dsimp only
        obtain ⟨w6, HW6⟩ : ∃ w6, Hid (w6 = w5.alloc (.cells #[.int .i64 (a : Int), .int .i64 (h : Int), .string s] 29)) := ⟨_, Lib.hid rfl⟩
        obtain ⟨q, HQ⟩ : ∃ q, Hid (q = w5.heap.size) := ⟨_, Lib.hid rfl⟩
        have HS6 : Hid (BSt w p q a h s w6) := Lib.hid (by
          rw [HW6.out, HQ.out]
          exact ⟨HR5.out.carry ((Below.refl _ _).alloc (Nat.le_refl _) _), heap_alloc_new w5 _, HB5.out.alloc HB5.out.size _⟩)
        go_upto_region 6 with (fail)
        rw [← HQ.out, ← HW6.out]
        clear HQ HW6 HR5 HB5
        refine wp_region_held (S := BSt w p q a h s) (by kernel_rfl) ?_
        change wpAnyH _ _ _ _ _ _ _ _ w6.drew
        obtain ⟨wa, HWA⟩ : ∃ wa, Hid (wa = w6.drew) := ⟨_, Lib.hid rfl⟩
        rw [← HWA.out]
        have hS : BSt w p q a h s wa := by rw [HWA.out]; exact HS6.out.drew
        clear HWA HS6
        -- region 6
        refine takeH (i := 0) 41 (v := .nilIface) rfl (by kernel_rfl) (by kernel_rfl) (by kernel_rfl) rfl (fun _ _ _ h => h) (.inl ⟨by rfl, fun _ _ => by go_simp⟩) hS ?_
        simp only [Act.put, List.setIfInBounds_toArray, List.set_cons_zero, List.set_cons_succ]
        refine oneH (i := 1) (oi := ⟨some 42, _, _, _, _, _⟩) rfl (by kernel_rfl) (fun K hK => ?_)
        go_simp
        refine (Num_nil _).mono ?_
        rintro e wn ⟨rfl, rfl⟩
        refine hK.out _ _ hS ?_
        clear hK K
        refine takeH (i := 2) 43 (v := .bool false) rfl (by kernel_rfl) (by kernel_rfl) (by kernel_rfl) rfl (fun _ _ _ h => h) (.inl ⟨by rfl, fun _ _ => by go_simp⟩) hS ?_
        simp only [Act.put, List.setIfInBounds_toArray, List.set_cons_zero, List.set_cons_succ]
        refine takeH (i := 3) 44 (v := .bool false) rfl (by kernel_rfl) (by kernel_rfl) (by kernel_rfl) rfl (fun _ _ _ h => h) (.inl ⟨by rfl, fun _ _ => by go_simp⟩) hS ?_
        simp only [Act.put, List.setIfInBounds_toArray, List.set_cons_zero, List.set_cons_succ]
        refine takeH (i := 4) 45 (v := .agg #[.int .i64 (a : Int), .int .i64 (h : Int), .string s]) rfl (by kernel_rfl) (by kernel_rfl) (by kernel_rfl) rfl (fun _ _ _ h => h) (.inl ⟨by rfl, fun _ h => by have c0 := h.at_.w_; have c1 := h.at_.h_; have c2 := h.at_.s_; go_simp⟩) hS ?_
        simp only [Act.put, List.setIfInBounds_toArray, List.set_cons_zero, List.set_cons_succ]
        refine takeH (i := 5) 46 (v := .agg #[.int .i64 (a : Int), .int .i64 (h : Int), .string s]) rfl (by kernel_rfl) (by kernel_rfl) (by kernel_rfl) rfl (fun _ _ _ h => h) (.inl ⟨by rfl, fun _ h => by have c0 := h.ref.w_; have c1 := h.ref.h_; have c2 := h.ref.s_; go_simp⟩) hS ?_
        simp only [Act.put, List.setIfInBounds_toArray, List.set_cons_zero, List.set_cons_succ]
        refine oneH (i := 6) (oi := ⟨some 47, _, _, _, _, _⟩) rfl (by kernel_rfl) (fun K hK => ?_)
        rw [if_pos (by rfl)]
        go_simp
        refine (Of_any (a : Int) (h : Int) s _).mono ?_
        rintro e wn ⟨rfl, hbw⟩
        have hS2 := hS.carry hbw
        refine hK.out _ _ hS2 ?_
        clear hK K hbw hS
        have hS := hS2
        clear hS2
        refine takeH (i := 7) 48 (v := .bool false) rfl (by kernel_rfl) (by kernel_rfl) (by kernel_rfl) rfl (fun _ _ _ h => h) (.inl ⟨by rfl, fun _ _ => by go_simp⟩) hS ?_
        simp only [Act.put, List.setIfInBounds_toArray, List.set_cons_zero, List.set_cons_succ]
        refine takeH (i := 8) 49 (v := .bool false) rfl (by kernel_rfl) (by kernel_rfl) (by kernel_rfl) rfl (fun _ _ _ h => h) (.inl ⟨by rfl, fun _ _ => by go_simp⟩) hS ?_
        simp only [Act.put, List.setIfInBounds_toArray, List.set_cons_zero, List.set_cons_succ]
        refine wpAnyH_done (by kernel_rfl) ?_ _
        -- behind region 6
        have HB6 := Lib.hid hS.below
        clear hS
        obtain ⟨w6, HW6⟩ : ∃ w6, Hid (w6 = wn) := ⟨_, Lib.hid rfl⟩
        rw [← HW6.out] at HB6 ⊢
        clear HW6
        go_wp2_with fail
        cases hpt : parseM t.data.toList with
        | none =>
          refine (Parse_off htm hpt w6).mono ?_
          rintro e w7 ⟨v2, rfl, hv, hbw⟩
          have HB7 := Lib.hid (HB6.out.trans (hbw.mono HB6.out.size))
          have HV7 := Lib.hid hv
          clear hbw hv HB6 hpt
          dsimp only
          obtain ⟨w8, HW8⟩ : ∃ w8, Hid (w8 = w7.alloc (.cells #[.int .i64 0, .int .i64 0, .string ⟨#[]⟩] 29)) := ⟨_, Lib.hid rfl⟩
          obtain ⟨y, HY⟩ : ∃ y, Hid (y = w7.heap.size) := ⟨_, Lib.hid rfl⟩
          have HM8 : Hid (MapAt w8 y 0 0 ⟨#[]⟩) := Lib.hid (by rw [HW8.out, HY.out]; exact heap_alloc_new w7 _)
          have HV8 : Hid (ErrFrom w8 w6.heap.size 2 v2) := Lib.hid (HV7.out.below (by rw [HW8.out]; exact (Below.refl _ _).alloc (Nat.le_refl _) _))
          have HB8 : Hid (Below w.heap.size w w8) := Lib.hid (by rw [HW8.out]; exact HB7.out.alloc HB7.out.size _)
          go_upto_region 11 with (fail)
          rw [← HY.out, ← HW8.out]
          clear HY HW8 HV7 HB7
          go_wp2_with fail
          refine (Num_any 2 v2 w8 HV8.out.is (HG.out.carry HB8.out)).mono ?_
          rintro e w9 ⟨rfl, hbw⟩
          have HV9 := Lib.hid (HV8.out.below hbw)
          have HM9 : Hid (MapAt w9 y 0 0 ⟨#[]⟩) := Lib.hid (HM8.out.carry hbw)
          have HB9 := Lib.hid (HB8.out.trans (hbw.mono HB8.out.size))
          clear hbw HV8 HM8 HB8
          dsimp only
          go_wp2_with fail
          refine (Num_any 2 v2 w9 HV9.out.is (HG.out.carry HB9.out)).mono ?_
          rintro e w10 ⟨rfl, hbw⟩
          have HM10 : Hid (MapAt w10 y 0 0 ⟨#[]⟩) := Lib.hid (HM9.out.carry hbw)
          have HB10 := Lib.hid (HB9.out.trans (hbw.mono HB9.out.size))
          clear hbw HV9 HM9 HB9
          dsimp only
          have c0 := HM10.out.w_
          have c1 := HM10.out.h_
          have c2 := HM10.out.s_
          go_wp2_with fail
          go_ret
          exact ⟨rfl, HB10.out⟩
        | some x =>
          obtain ⟨a2, h2, cs⟩ := x
          obtain ⟨k1, k2⟩ := lay_parse hpt
          refine (Parse_on htm hpt w6).mono ?_
          obtain ⟨u, HU⟩ : ∃ u, Hid (u = ofBytes cs) := ⟨_, Lib.hid rfl⟩
          have HRU : Hid (rightM (a2 : Int) (h2 : Int) u = true) := Lib.hid (by rw [HU.out]; unfold rightM; rw [ofBytes_list]; exact k1)
          have HLU : Hid (ofBytes (layOf u.data.toList a2 (List.range h2)) = t) := Lib.hid (by rw [HU.out, ofBytes_list, k2, ofBytes_self])
          have husm : u.size ≤ maxLen := by
            have h9 := (Grid.rightB_iff.1 k1).1
            obtain ⟨a9, h9, ha, hh, _, _, _, _, _, h64⟩ := Grid.sized_nat h9
            rw [HU.out, ofBytes_size]
            unfold maxLen
            omega
          rw [← HU.out]
          clear HU k1 k2 hpt
          rintro e w7 ⟨rfl, hbw⟩
          have HB7 := Lib.hid (HB6.out.trans (hbw.mono HB6.out.size))
          clear hbw HB6
          dsimp only
          obtain ⟨w8, HW8⟩ : ∃ w8, Hid (w8 = w7.alloc (.cells #[.int .i64 (a2 : Int), .int .i64 (h2 : Int), .string u] 29)) := ⟨_, Lib.hid rfl⟩
          obtain ⟨y, HY⟩ : ∃ y, Hid (y = w7.heap.size) := ⟨_, Lib.hid rfl⟩
          have HM8 : Hid (MapAt w8 y a2 h2 u) := Lib.hid (by rw [HW8.out, HY.out]; exact heap_alloc_new w7 _)
          have HB8 : Hid (Below w.heap.size w w8) := Lib.hid (by rw [HW8.out]; exact HB7.out.alloc HB7.out.size _)
          go_upto_region 11 with (fail)
          rw [← HY.out, ← HW8.out]
          clear HY HW8 HB7
          have c0 := HM8.out.w_
          have c1 := HM8.out.h_
          have c2 := HM8.out.s_
          go_wp2_with fail
          refine (Num_nil _).mono ?_
          rintro e w9 ⟨rfl, rfl⟩
          dsimp only
          go_wp2_with fail
          refine (Lay_on husm HRU.out w8).mono ?_
          rw [Int.toNat_natCast, Int.toNat_natCast, HLU.out]
          rintro e w9 ⟨rfl, hbw⟩
          have HM9 : Hid (MapAt w9 y a2 h2 u) := Lib.hid (HM8.out.carry hbw)
          have HB9 := Lib.hid (HB8.out.trans (hbw.mono HB8.out.size))
          clear hbw HM8 HB8 c0 c1 c2
          dsimp only
          have c0 := HM9.out.w_
          have c1 := HM9.out.h_
          have c2 := HM9.out.s_
          go_wp2_with fail
          refine (Num_nil _).mono ?_
          rintro e w10 ⟨rfl, rfl⟩
          dsimp only
          go_wp2_with fail
          refine (Right_any (a2 : Int) (h2 : Int) u husm w9).mono ?_
          rw [HRU.out]
          rintro e w10 ⟨rfl, hbw⟩
          have HB10 := Lib.hid (HB9.out.trans (hbw.mono HB9.out.size))
          clear hbw
          dsimp only
          go_wp2_with fail
          go_ret
          exact ⟨rfl, HB10.out⟩
end Go.Proofs.YtoempilmofbhdaaDoor
