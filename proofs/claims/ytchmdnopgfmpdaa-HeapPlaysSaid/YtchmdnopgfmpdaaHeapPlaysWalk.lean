/-
  The walk of HeapPlays. Conditions: none beyond the premises of each theorem.
-/
import Derived.Test.YtchmdnopgfmpdaaHeapAwake
import Derived.Test.YtchmdnopgfmpdaaHeapPlaysSt
namespace Go.Proofs.Ytchmdnopgfmpdaa
open Go.RowKit Hp

/-- the first loop -/
def PlR (B C hb : Nat) (A1 A2 : Option Addr) (L : List Itm) (Ps : List Bool) (w : World) (u6 u7 : Value) (wr : World) : Prop :=
  ∃ (k : Nat) (v : Value) (M X : List Itm), k ≤ L.length ∧ u7 = .int .i64 (k : Int) ∧ PlI B C hb A1 A2 L Ps w k v M u6 X [] [] wr
/-- the second loop -/
def PmR (B C hb : Nat) (A1 A2 : Option Addr) (L : List Itm) (Ps : List Bool) (w : World) (u6 : Value) (wr : World) : Prop :=
  ∃ (v : Value) (M X : List Itm), PlI B C hb A1 A2 L Ps w L.length v M u6 X [] [] wr
/-- the two rows that an append of a literal makes -/
structure ApS (D : Nat) (y : Itm) (w0 wr : World) : Prop where
  below : Below D w0 wr
  dsz : D ≤ wr.heap.size
set_option maxRecDepth 100000 in
set_option maxHeartbeats 20000000 in
theorem plays_walk {A1 A2 : Option Addr} {L : List Itm} {Ps : List Bool} {n np cap c2 : Nat} {w : World} (hl : ItmsAt w w.heap.size A1 L) (hp : BlsAt w w.heap.size A2 Ps) (hn : L.length = n) (hnp : Ps.length = np) :
    Calls Try.prog 3 #[.slice A1 n cap, .slice A2 np c2] w fun e w' => e = .returned (.bool true) ∧ Below w.heap.size w w' := by
  obtain ⟨i0, hi0, hz0, hz1, hz2⟩ := info_parts Try.refDueInfo
  obtain ⟨B, HB⟩ : ∃ B, Hid (B = w.heap.size) := ⟨_, Lib.hid rfl⟩
  have HL : Hid (ItmsAt w B A1 L) := Lib.hid (by rw [HB.out]; exact hl)
  have HPS : Hid (BlsAt w B A2 Ps) := Lib.hid (by rw [HB.out]; exact hp)
  have HN := Lib.hid hn
  have HNP := Lib.hid hnp
  rw [← HB.out]
  clear hl hp hn hnp
  go_enter Try.func3, Try.ntmps3
  go_wp2_with fail
  refine (awake_any w).mono ?_
  rintro e w1 ⟨rfl, hbw⟩
  have H1 : Hid (Below B w w1) := Lib.hid (by rw [HB.out]; exact hbw)
  have HS1 : Hid (B ≤ w1.heap.size) := Lib.hid (by rw [HB.out]; exact hbw.size)
  clear hbw
  by_cases hbig : 200 < n ∨ 200 < np
  · have hkey : Hid (Calls Try.prog 9 #[] w1 fun e w' => e = .returned (.bool true) ∧ Below B w w') := Lib.hid ((awake_any w1).mono fun e w2 h => ⟨h.1, H1.out.trans (h.2.mono HS1.out)⟩)
    rcases Nat.lt_or_ge 200 n with h | h
    · clear hbig
      go_wp2_with fail
      refine hkey.out.mono ?_
      rintro e w2 ⟨rfl, hbw⟩
      have H2 := Lib.hid hbw
      clear hbw hkey
      go_wp2_with fail
      go_ret
      exact ⟨rfl, H2.out⟩
    · have h2 : 200 < np := by omega
      clear hbig
      go_wp2_with fail
      refine hkey.out.mono ?_
      rintro e w2 ⟨rfl, hbw⟩
      have H2 := Lib.hid hbw
      clear hbw hkey
      go_wp2_with fail
      go_ret
      exact ⟨rfl, H2.out⟩
  · have hn2 : n ≤ 200 := by omega
    have hnp2 : np ≤ 200 := by omega
    clear hbig
    obtain ⟨C, HCC⟩ : ∃ C, Hid (C = w1.heap.size) := ⟨_, Lib.hid rfl⟩
    have hnew := Lib.hid (New_any w1 (B := C) (by rw [HCC.out]; exact Nat.le_refl _))
    rw [← HCC.out] at hnew
    go_wp2_with fail
    refine hnew.out.mono ?_
    rintro e w2 ⟨rfl, h1, h2, hlt1⟩
    obtain ⟨hb, HHB⟩ : ∃ hb, Hid (hb = C) := ⟨_, Lib.hid rfl⟩
    rw [show ptr9 C = ptr9 hb by rw [HHB.out]]
    have HI0 : Hid (PlI B C hb A1 A2 L Ps w 0 (.slice none 0 0) [] (.slice none 0 0) [] [] [] w2) := Lib.hid (by
      have hbc : B ≤ C := by rw [HCC.out]; exact HS1.out
      exact ⟨(HL.out.below H1.out).below (h2.mono hbc), (HPS.out.below H1.out).below (h2.mono hbc), by rw [HHB.out]; exact h1, isHp_nil, World.ownsRow_nil _ _ _ _, .refl _, by simp [Value.ownBlock], (fun g hg => by cases hg), H1.out.trans (h2.mono hbc), by omega, hbc, Nat.le_refl _⟩)
    clear h1 h2 hlt1 hnew H1 HS1 HL HPS HCC HHB
    go_wp2_with fail
    go_loopw [6, 7] (fun u6 u7 wr => PlR B C hb A1 A2 L Ps w u6 u7 wr) (fun _ u7 _ => n - (intOf u7).toNat)
    case atStart => exact ⟨0, _, [], [], Nat.zero_le _, rfl, HI0.out⟩
    case round =>
      clear HI0
      obtain ⟨k, v, M, X, hk, rfl, hi⟩ := hrel
      have HI := Lib.hid hi
      clear hi
      by_cases hkn : k < n
      · have hkl : k < L.length := by have := HN.out; omega
        obtain ⟨b1, o1, hA1, hbB1, -⟩ := HI.out.l (by omega)
        subst hA1
        obtain ⟨y, HY⟩ : ∃ y, Hid (y = at2 L k) := ⟨_, Lib.hid rfl⟩
        have hml : M.length ≤ k := by have h1 := HI.out.perm.length_eq; rw [List.append_nil, List.nil_append] at h1; have := HI.out.len; omega
        have HML := Lib.hid hml
        clear hml
        go_upto_region 8 with (fail)
        refine wp_region_held (S := YcS b1 (o1 + k * 2) y) (by kernel_rfl) ?_
        change wpAnyH _ _ _ _ _ _ _ _ wr.drew
        obtain ⟨wa, HWA⟩ : ∃ wa, Hid (wa = wr.drew) := ⟨_, Lib.hid rfl⟩
        rw [← HWA.out]
        have HIA := Lib.hid HI.out.drew
        rw [← HWA.out] at HIA
        have hS : YcS b1 (o1 + k * 2) y wa := yc_of HIA.out.l hkl HY.out
        clear HWA HI
        refine takeH (i := 0) 39 (v := .pointer (some ⟨hb, 0, none⟩)) rfl (by kernel_rfl) (by kernel_rfl) (by kernel_rfl) rfl (fun _ _ _ h => h) (.inl ⟨by rfl, fun _ _ => by go_simp⟩) hS ?_
        simp only [Act.put, List.setIfInBounds_toArray, List.set_cons_zero, List.set_cons_succ]
        refine takeH (i := 1) 40 (v := .slice (some ⟨b1, o1, none⟩) n cap) rfl (by kernel_rfl) (by kernel_rfl) (by kernel_rfl) rfl (fun _ _ _ h => h) (.inl ⟨by rfl, fun _ _ => by go_simp⟩) hS ?_
        simp only [Act.put, List.setIfInBounds_toArray, List.set_cons_zero, List.set_cons_succ]
        refine takeH (i := 2) 41 (v := .int .i64 (k : Int)) rfl (by kernel_rfl) (by kernel_rfl) (by kernel_rfl) rfl (fun _ _ _ h => h) (.inl ⟨by rfl, fun _ _ => by go_simp⟩) hS ?_
        simp only [Act.put, List.setIfInBounds_toArray, List.set_cons_zero, List.set_cons_succ]
        refine takeH (i := 3) 42 (v := .pointer (some ⟨b1, o1 + k * 2, none⟩)) rfl (by kernel_rfl) (by kernel_rfl) (by kernel_rfl) rfl (fun _ _ _ h => h) (.inl ⟨by rfl, fun _ _ => by go_simp⟩) hS ?_
        simp only [Act.put, List.setIfInBounds_toArray, List.set_cons_zero, List.set_cons_succ]
        refine takeH (i := 4) 43 (v := .pointer (some ⟨b1, o1 + k * 2, none⟩)) rfl (by kernel_rfl) (by kernel_rfl) (by kernel_rfl) rfl (fun _ _ _ h => h) (.inl ⟨by rfl, fun _ _ => by go_simp⟩) hS ?_
        simp only [Act.put, List.setIfInBounds_toArray, List.set_cons_zero, List.set_cons_succ]
        refine takeH (i := 5) 44 (v := .int .i64 y.1) rfl (by kernel_rfl) (by kernel_rfl) (by kernel_rfl) rfl (fun _ _ _ h => h) (.inl ⟨by rfl, fun _ h => by have c0 := h.c0; go_simp⟩) hS ?_
        simp only [Act.put, List.setIfInBounds_toArray, List.set_cons_zero, List.set_cons_succ]
        refine takeH (i := 6) 45 (v := .slice (some ⟨b1, o1, none⟩) n cap) rfl (by kernel_rfl) (by kernel_rfl) (by kernel_rfl) rfl (fun _ _ _ h => h) (.inl ⟨by rfl, fun _ _ => by go_simp⟩) hS ?_
        simp only [Act.put, List.setIfInBounds_toArray, List.set_cons_zero, List.set_cons_succ]
        refine takeH (i := 7) 46 (v := .int .i64 (k : Int)) rfl (by kernel_rfl) (by kernel_rfl) (by kernel_rfl) rfl (fun _ _ _ h => h) (.inl ⟨by rfl, fun _ _ => by go_simp⟩) hS ?_
        simp only [Act.put, List.setIfInBounds_toArray, List.set_cons_zero, List.set_cons_succ]
        refine takeH (i := 8) 47 (v := .pointer (some ⟨b1, o1 + k * 2, none⟩)) rfl (by kernel_rfl) (by kernel_rfl) (by kernel_rfl) rfl (fun _ _ _ h => h) (.inl ⟨by rfl, fun _ _ => by go_simp⟩) hS ?_
        simp only [Act.put, List.setIfInBounds_toArray, List.set_cons_zero, List.set_cons_succ]
        refine takeH (i := 9) 48 (v := .pointer (some ⟨b1, o1 + k * 2 + 1, none⟩)) rfl (by kernel_rfl) (by kernel_rfl) (by kernel_rfl) rfl (fun _ _ _ h => h) (.inl ⟨by rfl, fun _ _ => by go_simp⟩) hS ?_
        simp only [Act.put, List.setIfInBounds_toArray, List.set_cons_zero, List.set_cons_succ]
        refine takeH (i := 10) 49 (v := .int .i64 y.2) rfl (by kernel_rfl) (by kernel_rfl) (by kernel_rfl) rfl (fun _ _ _ h => h) (.inl ⟨by rfl, fun _ h => by have c0 := h.c1; go_simp⟩) hS ?_
        simp only [Act.put, List.setIfInBounds_toArray, List.set_cons_zero, List.set_cons_succ]
        refine takeH (i := 11) 50 (v := itV y) rfl (by kernel_rfl) (by kernel_rfl) (by kernel_rfl) rfl (fun _ _ _ h => h) (.inl ⟨by rfl, fun _ _ => by go_simp⟩) hS ?_
        simp only [Act.put, List.setIfInBounds_toArray, List.set_cons_zero, List.set_cons_succ]
        refine oneH (i := 12) (oi := ⟨some 51, _, _, _, _, _⟩) rfl (by kernel_rfl) (fun K hK => ?_)
        go_simp
        refine (Push_any HIA.out.hp HIA.out.isHp (by have := HML.out; omega) HIA.out.csz y).mono ?_
        rintro e w3 ⟨rfl, v3, M3, h1, h2, h3, h4, h5⟩
        have HI3 : Hid (PlI B C hb (some ⟨b1, o1, none⟩) A2 L Ps w k v3 M3 u6 X [y] [] w3) := Lib.hid (HIA.out.heap h1 h2 h4 h5 (by have hq := HIA.out.perm; rw [List.append_nil, List.nil_append] at hq; rw [List.nil_append]; exact (hq.append_right [y]).trans h3.symm))
        have hS2 : YcS b1 (o1 + k * 2) y w3 := yc_of HI3.out.l hkl HY.out
        refine hK.out _ _ hS2 ?_
        clear hK K h1 h2 h3 h4 h5 HIA hS
        have hS := hS2
        clear hS2
        refine wpAnyH_done (by kernel_rfl) ?_ _
        clear hS
        go_upto_region 9 with (fail)
        go_cut [6] (fun s6 wx => PlI B C hb (some ⟨b1, o1, none⟩) A2 L Ps w (k + 1) v3 M3 s6 (X ++ [y]) [] [] wx)
        case first =>
          obtain ⟨A6, c6, hu6, hi6, hn6, -, -⟩ := ItmsAt.own9 HI3.out.row (Nat.le_refl _)
          obtain ⟨nx, HNX⟩ : ∃ nx, Hid (X.length = nx) := ⟨_, Lib.hid rfl⟩
          rw [HNX.out] at hu6
          obtain ⟨D, HD⟩ : ∃ D, Hid (D = w3.heap.size) := ⟨_, Lib.hid rfl⟩
          rw [← HD.out] at hi6
          rw [hu6]
          have HM6 : Hid (ItmsAt w3 D A6 X ∧ (A6 = none → c6 = 0)) := Lib.hid ⟨hi6, hn6⟩
          have HU6 := Lib.hid hu6
          clear hu6 hi6 hn6
          have HXK : Hid (X.length ≤ 200) := Lib.hid (by have := HI3.out.len; omega)
          have HBD : Hid (B ≤ D) := Lib.hid (by rw [HD.out]; exact Nat.le_trans HI3.out.bc HI3.out.csz)
          refine wp_region_held (S := ApS D y w3) (by kernel_rfl) ?_
          change wpAnyH _ _ _ _ _ _ _ _ w3.drew
          obtain ⟨wa, HWA⟩ : ∃ wa, Hid (wa = w3.drew) := ⟨_, Lib.hid rfl⟩
          rw [← HWA.out]
          have hS : ApS D y w3 wa := by rw [HWA.out]; exact ⟨(Below.refl _ _).drew, by rw [HD.out]; exact Nat.le_refl _⟩
          clear HWA
          refine takeH (i := 1) 53 (v := .slice A6 nx c6) rfl (by kernel_rfl) (by kernel_rfl) (by kernel_rfl) rfl (fun _ _ _ h => h) (.inl ⟨by rfl, fun _ _ => by go_simp⟩) hS ?_
          simp only [Act.put, List.setIfInBounds_toArray, List.set_cons_zero, List.set_cons_succ]
          refine takeH (i := 3) 55 (v := .slice (some ⟨b1, o1, none⟩) n cap) rfl (by kernel_rfl) (by kernel_rfl) (by kernel_rfl) rfl (fun _ _ _ h => h) (.inl ⟨by rfl, fun _ _ => by go_simp⟩) hS ?_
          simp only [Act.put, List.setIfInBounds_toArray, List.set_cons_zero, List.set_cons_succ]
          refine takeH (i := 4) 56 (v := .int .i64 (k : Int)) rfl (by kernel_rfl) (by kernel_rfl) (by kernel_rfl) rfl (fun _ _ _ h => h) (.inl ⟨by rfl, fun _ _ => by go_simp⟩) hS ?_
          simp only [Act.put, List.setIfInBounds_toArray, List.set_cons_zero, List.set_cons_succ]
          refine takeH (i := 5) 57 (v := .pointer (some ⟨b1, o1 + k * 2, none⟩)) rfl (by kernel_rfl) (by kernel_rfl) (by kernel_rfl) rfl (fun _ _ _ h => h) (.inl ⟨by rfl, fun _ _ => by go_simp⟩) hS ?_
          simp only [Act.put, List.setIfInBounds_toArray, List.set_cons_zero, List.set_cons_succ]
          refine takeH (i := 6) 58 (v := itV y) rfl (by kernel_rfl) (by kernel_rfl) (by kernel_rfl) rfl (fun _ _ _ h => h) (yieldsIf_c refTy (by rfl) _ rfl b1 (o1 + k * 2) (by rfl) (itC y) rfl (fun _ h => by rw [HY.out]; exact its_range9 (HI3.out.l.below (h.below.mono HBD.out)) hkl)) hS ?_
          simp only [Act.put, List.setIfInBounds_toArray, List.set_cons_zero, List.set_cons_succ]
          refine twoH (i := 0) (j := 7) (oi := ⟨some 52, _, _, _, _, _⟩) (oj := ⟨some 59, _, _, _, _, _⟩) rfl rfl (by kernel_rfl) (fun K hK => ?_) (fun K hK => ?_)
          case' refine_1 =>
            rw [if_pos (by rfl)]
            refine wp_empty9 _ 29 i0 rfl Try.underlying22 hi0 ?_
            obtain ⟨w4, HW⟩ : ∃ w4, Hid (w4 = wa.alloc (.cells #[] 29)) := ⟨_, Lib.hid rfl⟩
            obtain ⟨v0, HV⟩ : ∃ v0, Hid (v0 = Value.slice (some ⟨wa.heap.size, 0, none⟩) 0 0) := ⟨_, Lib.hid rfl⟩
            rw [← HW.out, ← HV.out]
            have hb : Below wa.heap.size wa w4 := by rw [HW.out]; exact (Below.refl _ _).alloc (Nat.le_refl _) _
            have HO : Hid (w4.ownsRow D 29 2 v0 ([] : List Itm).length (flat2 [])) := Lib.hid (by rw [HW.out, HV.out]; exact World.ownsRow_made wa #[] 0 hS.dsz (by unfold maxLen; omega) rfl)
            have HOB : Hid (v0.ownBlock = some wa.heap.size) := Lib.hid (by rw [HV.out]; rfl)
            have hS2 : ApS D y w3 w4 := ⟨hS.below.trans (hb.mono hS.dsz), Nat.le_trans hS.dsz hb.size⟩
            clear HW HV
            refine hK.out _ _ hS2 ?_
            clear hK K hb hS
            have hS := hS2
            clear hS2
            simp only [Act.put, List.setIfInBounds_toArray, List.set_cons_zero, List.set_cons_succ]
            refine twoH (i := 2) (j := 7) (oi := ⟨some 54, _, _, _, _, _⟩) (oj := ⟨some 59, _, _, _, _, _⟩) rfl rfl (by kernel_rfl) (fun K hK => ?_) (fun K hK => ?_)
            case' refine_1 =>
              rw [if_pos (by rfl)]
              refine wp_append_its _ _ 22 29 rfl i0 _ Try.underlying22 hi0 hz0 hz1 hz2 rfl (X := []) (Y := X) rfl HNX.out rfl HM6.out.2 HO.out (HM6.out.1.below hS.below) (by have := HXK.out; simp; omega) hS.dsz ?_
              intro v54 w5 hown hgrow hat
              have HO54 : Hid (w5.ownsRow D 29 2 v54 X.length (flat2 X)) := Lib.hid (by rw [List.nil_append] at hown; exact hown)
              have hb : Below D w4 w5 := (Below.refl _ _).grown hgrow hS.dsz (fun k hk => (HO.out.lt k hk).1)
              have hS2 : ApS D y w3 w5 := ⟨hS.below.trans hb, Nat.le_trans hS.dsz hb.size⟩
              refine hK.out _ _ hS2 ?_
              clear hK K hb hS hown hgrow hat HO HOB
              have hS := hS2
              clear hS2
              simp only [Act.put, List.setIfInBounds_toArray, List.set_cons_zero, List.set_cons_succ]
              refine oneH (i := 7) (oi := ⟨some 59, _, _, _, _, _⟩) rfl (by kernel_rfl) (fun K hK => ?_)
              rw [if_pos (by rfl)]
              refine wp_one9 _ 29 _ rfl (itC y).toArray rfl Try.underlying22 (by kernel_rfl) refTy.size (by simp) (by simp) ?_
              obtain ⟨w6, HW⟩ : ∃ w6, Hid (w6 = w5.alloc (.cells (itC y).toArray 29)) := ⟨_, Lib.hid rfl⟩
              obtain ⟨g5, HG⟩ : ∃ g5, Hid (g5 = w5.heap.size) := ⟨_, Lib.hid rfl⟩
              rw [← HW.out, ← HG.out]
              have hb : Below w5.heap.size w5 w6 := by rw [HW.out]; exact (Below.refl _ _).alloc (Nat.le_refl _) _
              have HG5 : Hid (w6.rangeAt g5 0 (itC y) ∧ g5 < w6.heap.size) := Lib.hid (by rw [HW.out, HG.out]; exact ⟨(COwn.new (w := w5) (itC y) _).at_, by simp⟩)
              have HO5 : Hid (w6.ownsRow D 29 2 v54 X.length (flat2 X)) := Lib.hid (row_carry HO54.out hb)
              clear HO54
              have HO54 := HO5
              clear HO5
              have hS2 : ApS D y w3 w6 := ⟨hS.below.trans (hb.mono hS.dsz), Nat.le_trans hS.dsz hb.size⟩
              clear HW HG
              refine hK.out _ _ hS2 ?_
              clear hK K hb hS
              have hS := hS2
              clear hS2
              simp only [Act.put, List.setIfInBounds_toArray, List.set_cons_zero, List.set_cons_succ]
            case' refine_2 =>
              rw [if_pos (by rfl)]
              refine wp_one9 _ 29 _ rfl (itC y).toArray rfl Try.underlying22 (by kernel_rfl) refTy.size (by simp) (by simp) ?_
              obtain ⟨w5, HW⟩ : ∃ w5, Hid (w5 = w4.alloc (.cells (itC y).toArray 29)) := ⟨_, Lib.hid rfl⟩
              obtain ⟨g5, HG⟩ : ∃ g5, Hid (g5 = w4.heap.size) := ⟨_, Lib.hid rfl⟩
              rw [← HW.out, ← HG.out]
              have hb : Below w4.heap.size w4 w5 := by rw [HW.out]; exact (Below.refl _ _).alloc (Nat.le_refl _) _
              have HG5 : Hid (w5.rangeAt g5 0 (itC y) ∧ g5 < w5.heap.size) := Lib.hid (by rw [HW.out, HG.out]; exact ⟨(COwn.new (w := w4) (itC y) _).at_, by simp⟩)
              have HNE : Hid (wa.heap.size ≠ g5) := Lib.hid (by have := (HO.out.lt _ HOB.out).2; rw [HG.out]; omega)
              have HO2 : Hid (w5.ownsRow D 29 2 v0 ([] : List Itm).length (flat2 [])) := Lib.hid (row_carry HO.out hb)
              clear HO
              have HO := HO2
              clear HO2
              have hS2 : ApS D y w3 w5 := ⟨hS.below.trans (hb.mono hS.dsz), Nat.le_trans hS.dsz hb.size⟩
              clear HW HG
              refine hK.out _ _ hS2 ?_
              clear hK K hb hS
              have hS := hS2
              clear hS2
              simp only [Act.put, List.setIfInBounds_toArray, List.set_cons_zero, List.set_cons_succ]
              refine oneH (i := 2) (oi := ⟨some 54, _, _, _, _, _⟩) rfl (by kernel_rfl) (fun K hK => ?_)
              rw [if_pos (by rfl)]
              refine wp_append_its _ _ 22 29 rfl i0 _ Try.underlying22 hi0 hz0 hz1 hz2 rfl (X := []) (Y := X) rfl HNX.out rfl HM6.out.2 HO.out (HM6.out.1.below hS.below) (by have := HXK.out; simp; omega) hS.dsz ?_
              intro v54 w6 hown hgrow hat
              have HO54 : Hid (w6.ownsRow D 29 2 v54 X.length (flat2 X)) := Lib.hid (by rw [List.nil_append] at hown; exact hown)
              have hb : Below D w5 w6 := (Below.refl _ _).grown hgrow hS.dsz (fun k hk => (HO.out.lt k hk).1)
              have HG6 : Hid (w6.rangeAt g5 0 (itC y) ∧ g5 < w6.heap.size) := Lib.hid ⟨fun j u hu => (World.cell?_of_block (w := w5) (hgrow.block g5 HG5.out.2 (by show some g5 ≠ v0.ownBlock; rw [HOB.out]; intro e; exact HNE.out (Option.some.inj e).symm))).trans (HG5.out.1 j u hu), Nat.lt_of_lt_of_le HG5.out.2 hgrow.size⟩
              clear HG5
              have HG5 := HG6
              clear HG6
              have hS2 : ApS D y w3 w6 := ⟨hS.below.trans hb, Nat.le_trans hS.dsz hb.size⟩
              clear HNE
              refine hK.out _ _ hS2 ?_
              clear hK K hb hS hown hgrow hat HO HOB
              have hS := hS2
              clear hS2
              simp only [Act.put, List.setIfInBounds_toArray, List.set_cons_zero, List.set_cons_succ]
          case' refine_2 =>
            rw [if_pos (by rfl)]
            refine wp_one9 _ 29 _ rfl (itC y).toArray rfl Try.underlying22 (by kernel_rfl) refTy.size (by simp) (by simp) ?_
            obtain ⟨w4, HW⟩ : ∃ w4, Hid (w4 = wa.alloc (.cells (itC y).toArray 29)) := ⟨_, Lib.hid rfl⟩
            obtain ⟨g5, HG⟩ : ∃ g5, Hid (g5 = wa.heap.size) := ⟨_, Lib.hid rfl⟩
            rw [← HW.out, ← HG.out]
            have hb : Below wa.heap.size wa w4 := by rw [HW.out]; exact (Below.refl _ _).alloc (Nat.le_refl _) _
            have HG5 : Hid (w4.rangeAt g5 0 (itC y) ∧ g5 < w4.heap.size) := Lib.hid (by rw [HW.out, HG.out]; exact ⟨(COwn.new (w := wa) (itC y) _).at_, by simp⟩)
            have hS2 : ApS D y w3 w4 := ⟨hS.below.trans (hb.mono hS.dsz), Nat.le_trans hS.dsz hb.size⟩
            clear HW HG
            have HG4 : Hid (g5 < w4.heap.size) := Lib.hid HG5.out.2
            refine hK.out _ _ hS2 ?_
            clear hK K hb hS
            have hS := hS2
            clear hS2
            simp only [Act.put, List.setIfInBounds_toArray, List.set_cons_zero, List.set_cons_succ]
            refine oneH (i := 0) (oi := ⟨some 52, _, _, _, _, _⟩) rfl (by kernel_rfl) (fun K hK => ?_)
            rw [if_pos (by rfl)]
            refine wp_empty9 _ 29 i0 rfl Try.underlying22 hi0 ?_
            obtain ⟨w5, HW⟩ : ∃ w5, Hid (w5 = w4.alloc (.cells #[] 29)) := ⟨_, Lib.hid rfl⟩
            obtain ⟨v0, HV⟩ : ∃ v0, Hid (v0 = Value.slice (some ⟨w4.heap.size, 0, none⟩) 0 0) := ⟨_, Lib.hid rfl⟩
            rw [← HW.out, ← HV.out]
            have hb : Below w4.heap.size w4 w5 := by rw [HW.out]; exact (Below.refl _ _).alloc (Nat.le_refl _) _
            have HO : Hid (w5.ownsRow D 29 2 v0 ([] : List Itm).length (flat2 [])) := Lib.hid (by rw [HW.out, HV.out]; exact World.ownsRow_made w4 #[] 0 hS.dsz (by unfold maxLen; omega) rfl)
            have HOB : Hid (v0.ownBlock = some w4.heap.size) := Lib.hid (by rw [HV.out]; rfl)
            have HG6 : Hid (w5.rangeAt g5 0 (itC y) ∧ g5 < w5.heap.size) := Lib.hid ⟨fun j u hu => (World.cell?_of_block (w := w4) (hb.block g5 HG5.out.2)).trans (HG5.out.1 j u hu), Nat.lt_of_lt_of_le HG5.out.2 hb.size⟩
            clear HG5
            have HG5 := HG6
            clear HG6
            have hS2 : ApS D y w3 w5 := ⟨hS.below.trans (hb.mono hS.dsz), Nat.le_trans hS.dsz hb.size⟩
            clear HW HV
            refine hK.out _ _ hS2 ?_
            clear hK K hb hS
            have hS := hS2
            clear hS2
            simp only [Act.put, List.setIfInBounds_toArray, List.set_cons_zero, List.set_cons_succ]
            refine oneH (i := 2) (oi := ⟨some 54, _, _, _, _, _⟩) rfl (by kernel_rfl) (fun K hK => ?_)
            rw [if_pos (by rfl)]
            refine wp_append_its _ _ 22 29 rfl i0 _ Try.underlying22 hi0 hz0 hz1 hz2 rfl (X := []) (Y := X) rfl HNX.out rfl HM6.out.2 HO.out (HM6.out.1.below hS.below) (by have := HXK.out; simp; omega) hS.dsz ?_
            intro v54 w6 hown hgrow hat
            have HO54 : Hid (w6.ownsRow D 29 2 v54 X.length (flat2 X)) := Lib.hid (by rw [List.nil_append] at hown; exact hown)
            have hb : Below D w5 w6 := (Below.refl _ _).grown hgrow hS.dsz (fun k hk => (HO.out.lt k hk).1)
            have HG6 : Hid (w6.rangeAt g5 0 (itC y) ∧ g5 < w6.heap.size) := Lib.hid ⟨fun j u hu => (World.cell?_of_block (w := w5) (hgrow.block g5 HG5.out.2 (by show some g5 ≠ v0.ownBlock; rw [HOB.out]; intro e; have := HG4.out; have := Option.some.inj e; omega))).trans (HG5.out.1 j u hu), Nat.lt_of_lt_of_le HG5.out.2 hgrow.size⟩
            clear HG5
            have HG5 := HG6
            clear HG6
            have hS2 : ApS D y w3 w6 := ⟨hS.below.trans hb, Nat.le_trans hS.dsz hb.size⟩
            clear HG4
            refine hK.out _ _ hS2 ?_
            clear hK K hb hS hown hgrow hat HO HOB
            have hS := hS2
            clear hS2
            simp only [Act.put, List.setIfInBounds_toArray, List.set_cons_zero, List.set_cons_succ]
          all_goals
            refine oneH (i := 8) (oi := ⟨some 60, _, _, _, _, _⟩) rfl (by kernel_rfl) (fun K hK => ?_)
            rw [if_pos (by rfl)]
            refine wp_append_lies _ _ _ _ rfl D 29 i0 _ 2 16 Try.underlying22 hi0 hz0 hz1 hz2 rfl (by omega) v54 X.length (flat2 X) rfl HO54.out ⟨g5, 0, none⟩ 1 1 (itC y) rfl rfl (fun j u hu => by have := HG5.out.1 j u hu; rwa [Addr.add_mid]) (itC_one y)
              (by omega) (by have := HXK.out; unfold maxLen; omega) (by have := HXK.out; omega) hS.dsz w6.heap.size rfl ?_
            intro g capr w7 hown hgrow hat hlt
            have hb : Below D w6 w7 := (Below.refl _ _).grown hgrow hS.dsz (fun k hk => (HO54.out.lt k hk).1)
            have HO7 : Hid (w7.ownsRow D 29 2 (.slice (some ⟨g, 0, none⟩) (X.length + 1) capr) (X ++ [y]).length (flat2 (X ++ [y]))) := Lib.hid (by rw [flat2_append, flat2_one, List.length_append, List.length_singleton]; exact hown)
            have hS2 : ApS D y w3 w7 := ⟨hS.below.trans hb, Nat.le_trans hS.dsz hb.size⟩
            refine hK.out _ _ hS2 ?_
            clear hK K hb hS hown hgrow hat hlt HO54 HG5
            have hS := hS2
            clear hS2
            simp only [Act.put, List.setIfInBounds_toArray, List.set_cons_zero, List.set_cons_succ]
            refine takeH (i := 9) 6 (v := .slice (some ⟨g, 0, none⟩) (X.length + 1) capr) rfl (by kernel_rfl) (by kernel_rfl) (by kernel_rfl) rfl (fun _ _ _ h => h) (.inl ⟨by rfl, fun _ _ => by go_simp⟩) hS ?_
            simp only [Act.put, List.setIfInBounds_toArray, List.set_cons_zero, List.set_cons_succ]
            refine wpAnyH_done (by kernel_rfl) ?_ _
            have HS7 := Lib.hid hS
            clear hS
            go_wp2_with fail
            go_meet
            exact HI3.out.list (Nat.le_of_eq HD.out.symm) (by have := HS7.out.below; rwa [HD.out] at this) HO7.out (by have := HI3.out.perm; rw [List.append_nil]; exact this) (by have := HI3.out.len; simp; omega)
        case rest =>
          obtain ⟨Z, HZ⟩ : ∃ Z, Hid (Z = X ++ [y]) := ⟨_, Lib.hid rfl⟩
          rw [← HZ.out] at hcut
          have HI := Lib.hid hcut
          have hz0 : 0 < Z.length := by rw [HZ.out]; simp
          have hm0 : 0 < M3.length := by have h1 := hcut.perm.length_eq; rw [List.append_nil, List.nil_append] at h1; omega
          clear hcut HI3 HZ HY HML hbB1 hz0
          by_cases hkp : k < np
          · obtain ⟨b2, o2, hA2, hbB2, hcp⟩ := HI.out.p (by have := HNP.out; omega)
            subst hA2
            obtain ⟨d, hd⟩ : ∃ d, Ps[k]? = some d := ⟨_, List.getElem?_eq_getElem (by have := HNP.out; omega)⟩
            have hc := hcp k d hd
            clear hcp hd hbB2
            cases d with
            | false =>
              clear hm0
              obtain ⟨A7, c7, hu7, -, -, -, -⟩ := ItmsAt.own9 HI.out.row (Nat.le_refl _)
              obtain ⟨q, HQ⟩ : ∃ q, Hid (Z.length = q) := ⟨_, Lib.hid rfl⟩
              rw [HQ.out] at hu7
              rw [hu7]
              have HI7 : Hid (PlI B C hb (some ⟨b1, o1, none⟩) (some ⟨b2, o2, none⟩) L Ps w (k + 1) v3 M3 (.slice A7 q c7) Z [] [] _) := Lib.hid (by have := HI.out; rw [hu7] at this; exact this)
              have hmq : M3.length = q := by have h1 := HI.out.perm.length_eq; rw [List.append_nil, List.nil_append] at h1; rw [← h1]; exact HQ.out
              have hle := Lib.hid (Len_any HI.out.hp)
              rw [hmq] at hle
              clear hmq hu7 HI HQ
              go_wp2_with fail
              refine hle.out.mono ?_
              rintro e w9 ⟨rfl, rfl⟩
              have hkw : wrap64 ((k : Int) + 1) = (k : Int) + 1 := by unfold wrap64; omega
              go_wp2_with fail
              go_roundw
              case rel => exact ⟨k + 1, v3, M3, Z, hkl, by first | rfl | simp, HI7.out⟩
              case measure => simp [intOf]; omega
            | true =>
              have h0 := hm0
              clear hm0
              obtain ⟨A6, c6, hu6, -, -, hc6, -⟩ := ItmsAt.own9 HI.out.row (Nat.le_refl _)
              obtain ⟨nx, HNX⟩ : ∃ nx, Hid (Z.length = nx) := ⟨_, Lib.hid rfl⟩
              have HC6 : Hid (nx ≤ c6) := Lib.hid (by rw [← HNX.out]; exact hc6)
              rw [HNX.out] at hu6
              have HU6 := Lib.hid hu6
              rw [hu6]
              have hnx : nx ≤ 1000 := by have := HNX.out; have := HI.out.len; have := HN.out; omega
              clear hu6 hc6
              have hpx : Z.Perm M3 := by have := HI.out.perm; rwa [List.append_nil, List.nil_append] at this
              have hlx : Z.length = M3.length := hpx.length_eq
              have hpp := Lib.hid (Pop_any HI.out.hp HI.out.isHp (by have := HNX.out; omega))
              obtain ⟨x, HX⟩ : ∃ x, Hid (x = at2 M3 0) := ⟨_, Lib.hid rfl⟩
              rw [← HX.out, decide_eq_true h0] at hpp
              go_wp2_with fail
              refine hpp.out.mono ?_
              rintro e w2 ⟨v2, M2, rfl, h1, h2, h3, h4, h5, h6⟩
              obtain ⟨j, hj, hjl, hje, hjp⟩ := pop_same hpx HI.out.isHp h0 (by have := h5 h0; rwa [HX.out] at this)
              have HI2 : Hid (PlI B C hb (some ⟨b1, o1, none⟩) (some ⟨b2, o2, none⟩) L Ps w (k + 1) v2 M2 u6 Z [] [x] w2) := Lib.hid (HI.out.heap h1 h2 h4 (.inl h3) (by rw [List.append_nil]; exact hpx.trans (h5 h0)))
              have HJ : Hid (lst Z Z.length = (j : Int) ∧ j < Z.length ∧ at2 Z j = x ∧ (Z.eraseIdx j).Perm M2) := Lib.hid ⟨hj, hjl, by rw [HX.out]; exact hje, hjp⟩
              clear h1 h2 h3 h4 h5 h6 hpp hj hjl hje hjp HX hpx hlx h0 HI
              go_wp2_with (with_reducible refine stop_at (o := ⟨none, _, _, _, _, _⟩) ?_)
              unfold Stopped
              refine wpList_store_last rfl _ _ _ rfl _ (itC x).toArray _ rfl rfl rfl dueTy.size rfl (all_oneCell_toArray (itC_one x)) ?_
              obtain ⟨w3, HW3⟩ : ∃ w3, Hid (w3 = w2.alloc (.cells (itC x).toArray 30)) := ⟨_, Lib.hid rfl⟩
              obtain ⟨g, HG⟩ : ∃ g, Hid (g = w2.heap.size) := ⟨_, Lib.hid rfl⟩
              rw [← HW3.out, ← HG.out]
              have hb3 : Below w2.heap.size w2 w3 := by rw [HW3.out]; exact (Below.refl _ _).alloc (Nat.le_refl _) _
              have HC3 : Hid (COwn w3 g (itC x)) := Lib.hid (by rw [HW3.out, HG.out]; exact COwn.new (itC x) _)
              have HI3 := Lib.hid (HI2.out.carry hb3)
              clear hb3 HI2 HW3 HG
              have HI6 : Hid (ItmsAt w3 w3.heap.size A6 Z) := Lib.hid (by have := HI3.out.row; rw [HU6.out] at this; exact its_of_row this)
              have hls := Lib.hid (Least_any (cap := c6) HI6.out (Nat.le_refl _) HNX.out hnx)
              have hlj : lst Z nx = (j : Int) := by have := HJ.out.1; rwa [HNX.out] at this
              rw [hlj] at hls
              clear hlj
              go_wp2_with fail
              refine hls.out.mono ?_
              rintro e w4 ⟨rfl, hb4⟩
              have HI4 := Lib.hid (HI3.out.carry hb4)
              have HC4 := Lib.hid (HC3.out.carry hb4 (by simp))
              have HI64 : Hid (ItmsAt w4 w4.heap.size A6 Z) := Lib.hid ((HI6.out.below hb4).more hb4.size)
              clear hb4 hls HI3 HC3 HI6
              obtain ⟨bm, om, hA6, -, hr6⟩ := HI64.out (by have := HJ.out.2.1; omega)
              subst hA6
              have hjn : j < nx := by have := HJ.out.2.1; have := HNX.out; omega
              go_upto_region 13 with (fail)
              have HS : Hid (PoS g bm (om + j * 2) x w4 w4.drew) := Lib.hid (by
                have h1 := hr6 j HJ.out.2.1
                rw [HJ.out.2.2.1] at h1
                have h2 := h1 0 _ rfl
                have h3 := h1 1 _ rfl
                exact ⟨HC4.out.cell rfl, HC4.out.cell rfl, h2, h3, (Below.refl _ _).drew⟩)
              clear hr6
              refine wp_region_held (S := PoS g bm (om + j * 2) x w4) (by kernel_rfl) ?_
              change wpAnyH _ _ _ _ _ _ _ _ w4.drew
              obtain ⟨w5, HW5⟩ : ∃ w5, Hid (w5 = w4.drew) := ⟨_, Lib.hid rfl⟩
              rw [← HW5.out]
              have hS : PoS g bm (om + j * 2) x w4 w5 := by rw [HW5.out]; exact HS.out
              have HI5 := Lib.hid (HI4.out.drew)
              rw [← HW5.out] at HI5
              have HI65 : Hid (ItmsAt w5 w5.heap.size (some ⟨bm, om, none⟩) Z) := Lib.hid (by rw [HW5.out]; exact HI64.out)
              clear HW5 HS HI4 HC4 HI64
              refine takeH (i := 0) 78 (v := .bool true) rfl (by kernel_rfl) (by kernel_rfl) (by kernel_rfl) rfl (fun _ _ _ h => h) (.inl ⟨by rfl, fun _ _ => by go_simp⟩) hS ?_
              simp only [Act.put, List.setIfInBounds_toArray, List.set_cons_zero, List.set_cons_succ]
              refine takeH (i := 1) 79 (v := .bool false) rfl (by kernel_rfl) (by kernel_rfl) (by kernel_rfl) rfl (fun _ _ _ h => h) (.inl ⟨by rfl, fun _ _ => by go_simp⟩) hS ?_
              simp only [Act.put, List.setIfInBounds_toArray, List.set_cons_zero, List.set_cons_succ]
              refine takeH (i := 2) 80 (v := .bool false) rfl (by kernel_rfl) (by kernel_rfl) (by kernel_rfl) rfl (fun _ _ _ h => h) (.inl ⟨by rfl, fun _ _ => by go_simp⟩) hS ?_
              simp only [Act.put, List.setIfInBounds_toArray, List.set_cons_zero, List.set_cons_succ]
              refine takeH (i := 3) 81 (v := .pointer (some ⟨g, 0, none⟩)) rfl (by kernel_rfl) (by kernel_rfl) (by kernel_rfl) rfl (fun _ _ _ h => h) (.inl ⟨by rfl, fun _ _ => by go_simp⟩) hS ?_
              simp only [Act.put, List.setIfInBounds_toArray, List.set_cons_zero, List.set_cons_succ]
              refine takeH (i := 4) 82 (v := .int .i64 x.1) rfl (by kernel_rfl) (by kernel_rfl) (by kernel_rfl) rfl (fun _ _ _ h => h) (.inl ⟨by rfl, fun _ h => by have c0 := h.b0; go_simp⟩) hS ?_
              simp only [Act.put, List.setIfInBounds_toArray, List.set_cons_zero, List.set_cons_succ]
              refine takeH (i := 5) 83 (v := .slice (some ⟨bm, om, none⟩) nx c6) rfl (by kernel_rfl) (by kernel_rfl) (by kernel_rfl) rfl (fun _ _ _ h => h) (.inl ⟨by rfl, fun _ _ => by go_simp⟩) hS ?_
              simp only [Act.put, List.setIfInBounds_toArray, List.set_cons_zero, List.set_cons_succ]
              refine takeH (i := 6) 84 (v := .int .i64 (j : Int)) rfl (by kernel_rfl) (by kernel_rfl) (by kernel_rfl) rfl (fun _ _ _ h => h) (.inl ⟨by rfl, fun _ _ => by go_simp⟩) hS ?_
              simp only [Act.put, List.setIfInBounds_toArray, List.set_cons_zero, List.set_cons_succ]
              refine takeH (i := 7) 85 (v := .pointer (some ⟨bm, om + j * 2, none⟩)) rfl (by kernel_rfl) (by kernel_rfl) (by kernel_rfl) rfl (fun _ _ _ h => h) (.inl ⟨by rfl, fun _ _ => by go_simp⟩) hS ?_
              simp only [Act.put, List.setIfInBounds_toArray, List.set_cons_zero, List.set_cons_succ]
              refine takeH (i := 8) 86 (v := .pointer (some ⟨bm, om + j * 2, none⟩)) rfl (by kernel_rfl) (by kernel_rfl) (by kernel_rfl) rfl (fun _ _ _ h => h) (.inl ⟨by rfl, fun _ _ => by go_simp⟩) hS ?_
              simp only [Act.put, List.setIfInBounds_toArray, List.set_cons_zero, List.set_cons_succ]
              refine takeH (i := 9) 87 (v := .int .i64 x.1) rfl (by kernel_rfl) (by kernel_rfl) (by kernel_rfl) rfl (fun _ _ _ h => h) (.inl ⟨by rfl, fun _ h => by have c0 := h.m0; go_simp⟩) hS ?_
              simp only [Act.put, List.setIfInBounds_toArray, List.set_cons_zero, List.set_cons_succ]
              refine takeH (i := 10) 88 (v := .bool false) rfl (by kernel_rfl) (by kernel_rfl) (by kernel_rfl) rfl (fun _ _ _ h => h) (.inl ⟨by rfl, fun _ _ => by go_simp⟩) hS ?_
              simp only [Act.put, List.setIfInBounds_toArray, List.set_cons_zero, List.set_cons_succ]
              refine takeH (i := 11) 89 (v := .bool false) rfl (by kernel_rfl) (by kernel_rfl) (by kernel_rfl) rfl (fun _ _ _ h => h) (.inl ⟨by rfl, fun _ _ => by go_simp⟩) hS ?_
              simp only [Act.put, List.setIfInBounds_toArray, List.set_cons_zero, List.set_cons_succ]
              refine takeH (i := 12) 90 (v := .bool false) rfl (by kernel_rfl) (by kernel_rfl) (by kernel_rfl) rfl (fun _ _ _ h => h) (.inl ⟨by rfl, fun _ _ => by go_simp⟩) hS ?_
              simp only [Act.put, List.setIfInBounds_toArray, List.set_cons_zero, List.set_cons_succ]
              refine takeH (i := 13) 91 (v := .pointer (some ⟨g, 1, none⟩)) rfl (by kernel_rfl) (by kernel_rfl) (by kernel_rfl) rfl (fun _ _ _ h => h) (.inl ⟨by rfl, fun _ _ => by go_simp⟩) hS ?_
              simp only [Act.put, List.setIfInBounds_toArray, List.set_cons_zero, List.set_cons_succ]
              refine takeH (i := 14) 92 (v := .int .i64 x.2) rfl (by kernel_rfl) (by kernel_rfl) (by kernel_rfl) rfl (fun _ _ _ h => h) (.inl ⟨by rfl, fun _ h => by have c0 := h.b1'; go_simp⟩) hS ?_
              simp only [Act.put, List.setIfInBounds_toArray, List.set_cons_zero, List.set_cons_succ]
              refine takeH (i := 15) 93 (v := .slice (some ⟨bm, om, none⟩) nx c6) rfl (by kernel_rfl) (by kernel_rfl) (by kernel_rfl) rfl (fun _ _ _ h => h) (.inl ⟨by rfl, fun _ _ => by go_simp⟩) hS ?_
              simp only [Act.put, List.setIfInBounds_toArray, List.set_cons_zero, List.set_cons_succ]
              refine takeH (i := 16) 94 (v := .int .i64 (j : Int)) rfl (by kernel_rfl) (by kernel_rfl) (by kernel_rfl) rfl (fun _ _ _ h => h) (.inl ⟨by rfl, fun _ _ => by go_simp⟩) hS ?_
              simp only [Act.put, List.setIfInBounds_toArray, List.set_cons_zero, List.set_cons_succ]
              refine takeH (i := 17) 95 (v := .pointer (some ⟨bm, om + j * 2, none⟩)) rfl (by kernel_rfl) (by kernel_rfl) (by kernel_rfl) rfl (fun _ _ _ h => h) (.inl ⟨by rfl, fun _ _ => by go_simp⟩) hS ?_
              simp only [Act.put, List.setIfInBounds_toArray, List.set_cons_zero, List.set_cons_succ]
              refine takeH (i := 18) 96 (v := .pointer (some ⟨bm, om + j * 2 + 1, none⟩)) rfl (by kernel_rfl) (by kernel_rfl) (by kernel_rfl) rfl (fun _ _ _ h => h) (.inl ⟨by rfl, fun _ _ => by go_simp⟩) hS ?_
              simp only [Act.put, List.setIfInBounds_toArray, List.set_cons_zero, List.set_cons_succ]
              refine takeH (i := 19) 97 (v := .int .i64 x.2) rfl (by kernel_rfl) (by kernel_rfl) (by kernel_rfl) rfl (fun _ _ _ h => h) (.inl ⟨by rfl, fun _ h => by have c0 := h.m1; go_simp⟩) hS ?_
              simp only [Act.put, List.setIfInBounds_toArray, List.set_cons_zero, List.set_cons_succ]
              refine takeH (i := 20) 98 (v := .bool false) rfl (by kernel_rfl) (by kernel_rfl) (by kernel_rfl) rfl (fun _ _ _ h => h) (.inl ⟨by rfl, fun _ _ => by go_simp⟩) hS ?_
              simp only [Act.put, List.setIfInBounds_toArray, List.set_cons_zero, List.set_cons_succ]
              refine takeH (i := 21) 99 (v := .bool false) rfl (by kernel_rfl) (by kernel_rfl) (by kernel_rfl) rfl (fun _ _ _ h => h) (.inl ⟨by rfl, fun _ _ => by go_simp⟩) hS ?_
              simp only [Act.put, List.setIfInBounds_toArray, List.set_cons_zero, List.set_cons_succ]
              refine wpAnyH_done (by kernel_rfl) ?_ _
              clear hS
              have hwo := Lib.hid (Without_any (cap := c6) HI65.out (Nat.le_refl _) HNX.out hjn hnx HC6.out)
              go_wp2_with fail
              refine hwo.out.mono ?_
              rintro e w6 ⟨v6, rfl, hrow, hb6⟩
              have HL9 : Hid ((Z.eraseIdx j).length + 1 = Z.length) := Lib.hid (by have := HJ.out.2.1; rw [List.length_eraseIdx_of_lt HJ.out.2.1]; omega)
              have HI9 : Hid (PlI B C hb (some ⟨b1, o1, none⟩) (some ⟨b2, o2, none⟩) L Ps w (k + 1) v2 M2 v6 (Z.eraseIdx j) [] [] w6) := Lib.hid (HI5.out.list (Nat.le_refl _) hb6 hrow (by rw [List.append_nil, List.nil_append]; exact HJ.out.2.2.2) (by have := HL9.out; have := HI5.out.len; omega))
              clear hrow hb6 hwo HI65 HI5 HC6 hjn hnx
              obtain ⟨A7, c7, hu7, -, -, -, -⟩ := ItmsAt.own9 HI9.out.row (Nat.le_refl _)
              obtain ⟨q, HQ⟩ : ∃ q, Hid ((Z.eraseIdx j).length = q) := ⟨_, Lib.hid rfl⟩
              rw [HQ.out] at hu7
              rw [hu7]
              have HI7 : Hid (PlI B C hb (some ⟨b1, o1, none⟩) (some ⟨b2, o2, none⟩) L Ps w (k + 1) v2 M2 (.slice A7 q c7) (Z.eraseIdx j) [] [] _) := Lib.hid (by have := HI9.out; rw [hu7] at this; exact this)
              have hmq : M2.length = q := by have h1 := HI9.out.perm.length_eq; rw [List.append_nil, List.nil_append] at h1; rw [← h1]; exact HQ.out
              have hle := Lib.hid (Len_any HI9.out.hp)
              rw [hmq] at hle
              clear hmq hu7 HI9 HQ
              go_wp2_with fail
              refine hle.out.mono ?_
              rintro e w9 ⟨rfl, rfl⟩
              have hkw : wrap64 ((k : Int) + 1) = (k : Int) + 1 := by unfold wrap64; omega
              go_wp2_with fail
              go_roundw
              case rel => exact ⟨k + 1, v2, M2, (Z.eraseIdx j), hkl, by first | rfl | simp, HI7.out⟩
              case measure => simp [intOf]; omega
          · clear hm0
            obtain ⟨A7, c7, hu7, -, -, -, -⟩ := ItmsAt.own9 HI.out.row (Nat.le_refl _)
            obtain ⟨q, HQ⟩ : ∃ q, Hid (Z.length = q) := ⟨_, Lib.hid rfl⟩
            rw [HQ.out] at hu7
            rw [hu7]
            have HI7 : Hid (PlI B C hb (some ⟨b1, o1, none⟩) A2 L Ps w (k + 1) v3 M3 (.slice A7 q c7) Z [] [] _) := Lib.hid (by have := HI.out; rw [hu7] at this; exact this)
            have hmq : M3.length = q := by have h1 := HI.out.perm.length_eq; rw [List.append_nil, List.nil_append] at h1; rw [← h1]; exact HQ.out
            have hle := Lib.hid (Len_any HI.out.hp)
            rw [hmq] at hle
            clear hmq hu7 HI HQ
            go_wp2_with fail
            refine hle.out.mono ?_
            rintro e w9 ⟨rfl, rfl⟩
            have hkw : wrap64 ((k : Int) + 1) = (k : Int) + 1 := by unfold wrap64; omega
            go_wp2_with fail
            go_roundw
            case rel => exact ⟨k + 1, v3, M3, Z, hkl, by first | rfl | simp, HI7.out⟩
            case measure => simp [intOf]; omega
      · obtain rfl : k = n := by have := HN.out; omega
        have HI5 : Hid (PlI B C hb A1 A2 L Ps w L.length v M u6 X [] [] wr) := Lib.hid (by rw [HN.out]; exact HI.out)
        clear HI
        go_wp2_with fail
        go_loopw [6] (fun u6 wr => PmR B C hb A1 A2 L Ps w u6 wr) (fun u6 _ => lenOf u6)
        case atStart => exact ⟨v, M, X, HI5.out⟩
        case round =>
          clear HI5
          obtain ⟨v, M, X, hi⟩ := hrel
          have HI := Lib.hid hi
          clear hi
          obtain ⟨A6, c6, hu6, -, -, hc6, -⟩ := ItmsAt.own9 HI.out.row (Nat.le_refl _)
          obtain ⟨nx, HNX⟩ : ∃ nx, Hid (X.length = nx) := ⟨_, Lib.hid rfl⟩
          have HC6 : Hid (nx ≤ c6) := Lib.hid (by rw [← HNX.out]; exact hc6)
          rw [HNX.out] at hu6
          have HU6 := Lib.hid hu6
          rw [hu6]
          have hnx : nx ≤ 1000 := by have := HNX.out; have := HI.out.len; have := HN.out; omega
          clear hu6 hc6
          by_cases hx0 : 0 < nx
          · have h0 : 0 < M.length := by have h1 := HI.out.perm.length_eq; rw [List.append_nil, List.nil_append] at h1; have := HNX.out; omega
            have hpx : X.Perm M := by have := HI.out.perm; rwa [List.append_nil, List.nil_append] at this
            have hlx : X.length = M.length := hpx.length_eq
            have hpp := Lib.hid (Pop_any HI.out.hp HI.out.isHp (by have := HNX.out; omega))
            obtain ⟨x, HX⟩ : ∃ x, Hid (x = at2 M 0) := ⟨_, Lib.hid rfl⟩
            rw [← HX.out, decide_eq_true h0] at hpp
            go_wp2_with fail
            refine hpp.out.mono ?_
            rintro e w2 ⟨v2, M2, rfl, h1, h2, h3, h4, h5, h6⟩
            obtain ⟨j, hj, hjl, hje, hjp⟩ := pop_same hpx HI.out.isHp h0 (by have := h5 h0; rwa [HX.out] at this)
            have HI2 : Hid (PlI B C hb A1 A2 L Ps w L.length v2 M2 u6 X [] [x] w2) := Lib.hid (HI.out.heap h1 h2 h4 (.inl h3) (by rw [List.append_nil]; exact hpx.trans (h5 h0)))
            have HJ : Hid (lst X X.length = (j : Int) ∧ j < X.length ∧ at2 X j = x ∧ (X.eraseIdx j).Perm M2) := Lib.hid ⟨hj, hjl, by rw [HX.out]; exact hje, hjp⟩
            clear h1 h2 h3 h4 h5 h6 hpp hj hjl hje hjp HX hpx hlx h0 HI
            go_wp2_with (with_reducible refine stop_at (o := ⟨none, _, _, _, _, _⟩) ?_)
            unfold Stopped
            refine wpList_store_last rfl _ _ _ rfl _ (itC x).toArray _ rfl rfl rfl dueTy.size rfl (all_oneCell_toArray (itC_one x)) ?_
            obtain ⟨w3, HW3⟩ : ∃ w3, Hid (w3 = w2.alloc (.cells (itC x).toArray 30)) := ⟨_, Lib.hid rfl⟩
            obtain ⟨g, HG⟩ : ∃ g, Hid (g = w2.heap.size) := ⟨_, Lib.hid rfl⟩
            rw [← HW3.out, ← HG.out]
            have hb3 : Below w2.heap.size w2 w3 := by rw [HW3.out]; exact (Below.refl _ _).alloc (Nat.le_refl _) _
            have HC3 : Hid (COwn w3 g (itC x)) := Lib.hid (by rw [HW3.out, HG.out]; exact COwn.new (itC x) _)
            have HI3 := Lib.hid (HI2.out.carry hb3)
            clear hb3 HI2 HW3 HG
            have HI6 : Hid (ItmsAt w3 w3.heap.size A6 X) := Lib.hid (by have := HI3.out.row; rw [HU6.out] at this; exact its_of_row this)
            have hls := Lib.hid (Least_any (cap := c6) HI6.out (Nat.le_refl _) HNX.out hnx)
            have hlj : lst X nx = (j : Int) := by have := HJ.out.1; rwa [HNX.out] at this
            rw [hlj] at hls
            clear hlj
            go_wp2_with fail
            refine hls.out.mono ?_
            rintro e w4 ⟨rfl, hb4⟩
            have HI4 := Lib.hid (HI3.out.carry hb4)
            have HC4 := Lib.hid (HC3.out.carry hb4 (by simp))
            have HI64 : Hid (ItmsAt w4 w4.heap.size A6 X) := Lib.hid ((HI6.out.below hb4).more hb4.size)
            clear hb4 hls HI3 HC3 HI6
            obtain ⟨bm, om, hA6, -, hr6⟩ := HI64.out (by have := HJ.out.2.1; omega)
            subst hA6
            have hjn : j < nx := by have := HJ.out.2.1; have := HNX.out; omega
            go_upto_region 21 with (fail)
            have HS : Hid (PoS g bm (om + j * 2) x w4 w4.drew) := Lib.hid (by
              have h1 := hr6 j HJ.out.2.1
              rw [HJ.out.2.2.1] at h1
              have h2 := h1 0 _ rfl
              have h3 := h1 1 _ rfl
              exact ⟨HC4.out.cell rfl, HC4.out.cell rfl, h2, h3, (Below.refl _ _).drew⟩)
            clear hr6
            refine wp_region_held (S := PoS g bm (om + j * 2) x w4) (by kernel_rfl) ?_
            change wpAnyH _ _ _ _ _ _ _ _ w4.drew
            obtain ⟨w5, HW5⟩ : ∃ w5, Hid (w5 = w4.drew) := ⟨_, Lib.hid rfl⟩
            rw [← HW5.out]
            have hS : PoS g bm (om + j * 2) x w4 w5 := by rw [HW5.out]; exact HS.out
            have HI5 := Lib.hid (HI4.out.drew)
            rw [← HW5.out] at HI5
            have HI65 : Hid (ItmsAt w5 w5.heap.size (some ⟨bm, om, none⟩) X) := Lib.hid (by rw [HW5.out]; exact HI64.out)
            clear HW5 HS HI4 HC4 HI64
            refine takeH (i := 0) 118 (v := .bool true) rfl (by kernel_rfl) (by kernel_rfl) (by kernel_rfl) rfl (fun _ _ _ h => h) (.inl ⟨by rfl, fun _ _ => by go_simp⟩) hS ?_
            simp only [Act.put, List.setIfInBounds_toArray, List.set_cons_zero, List.set_cons_succ]
            refine takeH (i := 1) 119 (v := .bool false) rfl (by kernel_rfl) (by kernel_rfl) (by kernel_rfl) rfl (fun _ _ _ h => h) (.inl ⟨by rfl, fun _ _ => by go_simp⟩) hS ?_
            simp only [Act.put, List.setIfInBounds_toArray, List.set_cons_zero, List.set_cons_succ]
            refine takeH (i := 2) 120 (v := .bool false) rfl (by kernel_rfl) (by kernel_rfl) (by kernel_rfl) rfl (fun _ _ _ h => h) (.inl ⟨by rfl, fun _ _ => by go_simp⟩) hS ?_
            simp only [Act.put, List.setIfInBounds_toArray, List.set_cons_zero, List.set_cons_succ]
            refine takeH (i := 3) 121 (v := .pointer (some ⟨g, 0, none⟩)) rfl (by kernel_rfl) (by kernel_rfl) (by kernel_rfl) rfl (fun _ _ _ h => h) (.inl ⟨by rfl, fun _ _ => by go_simp⟩) hS ?_
            simp only [Act.put, List.setIfInBounds_toArray, List.set_cons_zero, List.set_cons_succ]
            refine takeH (i := 4) 122 (v := .int .i64 x.1) rfl (by kernel_rfl) (by kernel_rfl) (by kernel_rfl) rfl (fun _ _ _ h => h) (.inl ⟨by rfl, fun _ h => by have c0 := h.b0; go_simp⟩) hS ?_
            simp only [Act.put, List.setIfInBounds_toArray, List.set_cons_zero, List.set_cons_succ]
            refine takeH (i := 5) 123 (v := .slice (some ⟨bm, om, none⟩) nx c6) rfl (by kernel_rfl) (by kernel_rfl) (by kernel_rfl) rfl (fun _ _ _ h => h) (.inl ⟨by rfl, fun _ _ => by go_simp⟩) hS ?_
            simp only [Act.put, List.setIfInBounds_toArray, List.set_cons_zero, List.set_cons_succ]
            refine takeH (i := 6) 124 (v := .int .i64 (j : Int)) rfl (by kernel_rfl) (by kernel_rfl) (by kernel_rfl) rfl (fun _ _ _ h => h) (.inl ⟨by rfl, fun _ _ => by go_simp⟩) hS ?_
            simp only [Act.put, List.setIfInBounds_toArray, List.set_cons_zero, List.set_cons_succ]
            refine takeH (i := 7) 125 (v := .pointer (some ⟨bm, om + j * 2, none⟩)) rfl (by kernel_rfl) (by kernel_rfl) (by kernel_rfl) rfl (fun _ _ _ h => h) (.inl ⟨by rfl, fun _ _ => by go_simp⟩) hS ?_
            simp only [Act.put, List.setIfInBounds_toArray, List.set_cons_zero, List.set_cons_succ]
            refine takeH (i := 8) 126 (v := .pointer (some ⟨bm, om + j * 2, none⟩)) rfl (by kernel_rfl) (by kernel_rfl) (by kernel_rfl) rfl (fun _ _ _ h => h) (.inl ⟨by rfl, fun _ _ => by go_simp⟩) hS ?_
            simp only [Act.put, List.setIfInBounds_toArray, List.set_cons_zero, List.set_cons_succ]
            refine takeH (i := 9) 127 (v := .int .i64 x.1) rfl (by kernel_rfl) (by kernel_rfl) (by kernel_rfl) rfl (fun _ _ _ h => h) (.inl ⟨by rfl, fun _ h => by have c0 := h.m0; go_simp⟩) hS ?_
            simp only [Act.put, List.setIfInBounds_toArray, List.set_cons_zero, List.set_cons_succ]
            refine takeH (i := 10) 128 (v := .bool false) rfl (by kernel_rfl) (by kernel_rfl) (by kernel_rfl) rfl (fun _ _ _ h => h) (.inl ⟨by rfl, fun _ _ => by go_simp⟩) hS ?_
            simp only [Act.put, List.setIfInBounds_toArray, List.set_cons_zero, List.set_cons_succ]
            refine takeH (i := 11) 129 (v := .bool false) rfl (by kernel_rfl) (by kernel_rfl) (by kernel_rfl) rfl (fun _ _ _ h => h) (.inl ⟨by rfl, fun _ _ => by go_simp⟩) hS ?_
            simp only [Act.put, List.setIfInBounds_toArray, List.set_cons_zero, List.set_cons_succ]
            refine takeH (i := 12) 130 (v := .bool false) rfl (by kernel_rfl) (by kernel_rfl) (by kernel_rfl) rfl (fun _ _ _ h => h) (.inl ⟨by rfl, fun _ _ => by go_simp⟩) hS ?_
            simp only [Act.put, List.setIfInBounds_toArray, List.set_cons_zero, List.set_cons_succ]
            refine takeH (i := 13) 131 (v := .pointer (some ⟨g, 1, none⟩)) rfl (by kernel_rfl) (by kernel_rfl) (by kernel_rfl) rfl (fun _ _ _ h => h) (.inl ⟨by rfl, fun _ _ => by go_simp⟩) hS ?_
            simp only [Act.put, List.setIfInBounds_toArray, List.set_cons_zero, List.set_cons_succ]
            refine takeH (i := 14) 132 (v := .int .i64 x.2) rfl (by kernel_rfl) (by kernel_rfl) (by kernel_rfl) rfl (fun _ _ _ h => h) (.inl ⟨by rfl, fun _ h => by have c0 := h.b1'; go_simp⟩) hS ?_
            simp only [Act.put, List.setIfInBounds_toArray, List.set_cons_zero, List.set_cons_succ]
            refine takeH (i := 15) 133 (v := .slice (some ⟨bm, om, none⟩) nx c6) rfl (by kernel_rfl) (by kernel_rfl) (by kernel_rfl) rfl (fun _ _ _ h => h) (.inl ⟨by rfl, fun _ _ => by go_simp⟩) hS ?_
            simp only [Act.put, List.setIfInBounds_toArray, List.set_cons_zero, List.set_cons_succ]
            refine takeH (i := 16) 134 (v := .int .i64 (j : Int)) rfl (by kernel_rfl) (by kernel_rfl) (by kernel_rfl) rfl (fun _ _ _ h => h) (.inl ⟨by rfl, fun _ _ => by go_simp⟩) hS ?_
            simp only [Act.put, List.setIfInBounds_toArray, List.set_cons_zero, List.set_cons_succ]
            refine takeH (i := 17) 135 (v := .pointer (some ⟨bm, om + j * 2, none⟩)) rfl (by kernel_rfl) (by kernel_rfl) (by kernel_rfl) rfl (fun _ _ _ h => h) (.inl ⟨by rfl, fun _ _ => by go_simp⟩) hS ?_
            simp only [Act.put, List.setIfInBounds_toArray, List.set_cons_zero, List.set_cons_succ]
            refine takeH (i := 18) 136 (v := .pointer (some ⟨bm, om + j * 2 + 1, none⟩)) rfl (by kernel_rfl) (by kernel_rfl) (by kernel_rfl) rfl (fun _ _ _ h => h) (.inl ⟨by rfl, fun _ _ => by go_simp⟩) hS ?_
            simp only [Act.put, List.setIfInBounds_toArray, List.set_cons_zero, List.set_cons_succ]
            refine takeH (i := 19) 137 (v := .int .i64 x.2) rfl (by kernel_rfl) (by kernel_rfl) (by kernel_rfl) rfl (fun _ _ _ h => h) (.inl ⟨by rfl, fun _ h => by have c0 := h.m1; go_simp⟩) hS ?_
            simp only [Act.put, List.setIfInBounds_toArray, List.set_cons_zero, List.set_cons_succ]
            refine takeH (i := 20) 138 (v := .bool false) rfl (by kernel_rfl) (by kernel_rfl) (by kernel_rfl) rfl (fun _ _ _ h => h) (.inl ⟨by rfl, fun _ _ => by go_simp⟩) hS ?_
            simp only [Act.put, List.setIfInBounds_toArray, List.set_cons_zero, List.set_cons_succ]
            refine takeH (i := 21) 139 (v := .bool false) rfl (by kernel_rfl) (by kernel_rfl) (by kernel_rfl) rfl (fun _ _ _ h => h) (.inl ⟨by rfl, fun _ _ => by go_simp⟩) hS ?_
            simp only [Act.put, List.setIfInBounds_toArray, List.set_cons_zero, List.set_cons_succ]
            refine wpAnyH_done (by kernel_rfl) ?_ _
            clear hS
            have hwo := Lib.hid (Without_any (cap := c6) HI65.out (Nat.le_refl _) HNX.out hjn hnx HC6.out)
            go_wp2_with fail
            refine hwo.out.mono ?_
            rintro e w6 ⟨v6, rfl, hrow, hb6⟩
            have HL9 : Hid ((X.eraseIdx j).length + 1 = X.length) := Lib.hid (by have := HJ.out.2.1; rw [List.length_eraseIdx_of_lt HJ.out.2.1]; omega)
            have HI9 : Hid (PlI B C hb A1 A2 L Ps w L.length v2 M2 v6 (X.eraseIdx j) [] [] w6) := Lib.hid (HI5.out.list (Nat.le_refl _) hb6 hrow (by rw [List.append_nil, List.nil_append]; exact HJ.out.2.2.2) (by have := HL9.out; have := HI5.out.len; omega))
            clear hrow hb6 hwo HI65 HI5 HC6 hjn hnx
            obtain ⟨A7, c7, hu7, -, -, -, -⟩ := ItmsAt.own9 HI9.out.row (Nat.le_refl _)
            have HI7 := Lib.hid HI9.out
            rw [hu7] at HI7
            rw [hu7]
            clear hu7 HI9
            go_wp2_with fail
            go_roundw
            case rel => exact ⟨v2, M2, X.eraseIdx j, HI7.out⟩
            case measure =>
              show (X.eraseIdx j).length < nx
              have := HL9.out; have := HNX.out; omega
          · have hM0 : M = [] := by
              have h1 := HI.out.perm.length_eq
              rw [List.append_nil, List.nil_append] at h1
              exact List.eq_nil_of_length_eq_zero (by have := HNX.out; omega)
            subst hM0
            have hnx0 : nx = 0 := by omega
            subst hnx0
            have HBC : Hid (B ≤ C) := Lib.hid HI.out.bc
            have hpp := Lib.hid (Pop_any HI.out.hp HI.out.isHp (by simp))
            go_wp2_with fail
            refine hpp.out.mono ?_
            rintro e w2 ⟨v2, M2, rfl, h1, h2, h3, h4, h5, h6⟩
            obtain rfl := h6 rfl
            have HI2 : Hid (PlI B C hb A1 A2 L Ps w L.length v2 [] u6 X [] [] w2) := Lib.hid (HI.out.heap h1 h2 h4 (.inl h3) HI.out.perm)
            clear h1 h2 h3 h4 h5 h6 hpp HI
            go_wp2_with (with_reducible refine stop_at (o := ⟨none, _, _, _, _, _⟩) ?_)
            unfold Stopped
            refine wpList_store_last rfl _ _ _ rfl _ (itC (0, 0)).toArray _ rfl rfl rfl dueTy.size rfl (all_oneCell_toArray (itC_one (0, 0))) ?_
            obtain ⟨w3, HW3⟩ : ∃ w3, Hid (w3 = w2.alloc (.cells (itC (0, 0)).toArray 30)) := ⟨_, Lib.hid rfl⟩
            obtain ⟨g, HG⟩ : ∃ g, Hid (g = w2.heap.size) := ⟨_, Lib.hid rfl⟩
            rw [← HW3.out, ← HG.out]
            have hb3 : Below w2.heap.size w2 w3 := by rw [HW3.out]; exact (Below.refl _ _).alloc (Nat.le_refl _) _
            have HC3 : Hid (COwn w3 g (itC (0, 0))) := Lib.hid (by rw [HW3.out, HG.out]; exact COwn.new (itC (0, 0)) _)
            have HI3 := Lib.hid (HI2.out.carry hb3)
            clear hb3 HI2 HW3 HG
            go_wp2_with fail
            refine (Push_none (0, 0) w3).mono ?_
            rintro e w4 ⟨rfl, hb4⟩
            have HI4 := Lib.hid (HI3.out.carry hb4)
            have HC4 := Lib.hid (HC3.out.carry hb4 (by simp))
            clear hb4 HI3 HC3
            go_wp2_with fail
            refine (Pop_none w4).mono ?_
            rintro e w5 ⟨rfl, hb5⟩
            have HI5 := Lib.hid (HI4.out.carry hb5)
            have HC5 := Lib.hid (HC4.out.carry hb5 (by simp))
            clear hb5 HI4 HC4
            go_wp2_with (with_reducible refine stop_at (o := ⟨none, _, _, _, _, _⟩) ?_)
            unfold Stopped
            refine wpList_store_last rfl _ _ _ rfl _ (itC (0, 0)).toArray _ rfl rfl rfl dueTy.size rfl (all_oneCell_toArray (itC_one (0, 0))) ?_
            obtain ⟨w6, HW6⟩ : ∃ w6, Hid (w6 = w5.alloc (.cells (itC (0, 0)).toArray 30)) := ⟨_, Lib.hid rfl⟩
            obtain ⟨g6, HG6⟩ : ∃ g6, Hid (g6 = w5.heap.size) := ⟨_, Lib.hid rfl⟩
            rw [← HW6.out, ← HG6.out]
            have hb6 : Below w5.heap.size w5 w6 := by rw [HW6.out]; exact (Below.refl _ _).alloc (Nat.le_refl _) _
            have HI6 := Lib.hid (HI5.out.carry hb6)
            have HC6 := Lib.hid (HC5.out.carry hb6 (by simp))
            clear hb6 HI5 HC5 HW6 HG6
            have c0 := HC6.out.cell (j := 0) (v := .int .i64 0) rfl
            have c1 := HC6.out.cell (j := 1) (v := .int .i64 0) rfl
            have hq := fun w => eql_it (0, 0) (0, 0) w
            have hg := guardDue
            go_wp2_with fail
            refine (Len_any HI6.out.hp).mono ?_
            rintro e w7 ⟨rfl, rfl⟩
            go_wp2_with fail
            refine (Len_none _).mono ?_
            rintro e w8 ⟨rfl, rfl⟩
            go_wp2_with fail
            go_ret
            exact ⟨by simp, HI6.out.below⟩
end Go.Proofs.Ytchmdnopgfmpdaa
