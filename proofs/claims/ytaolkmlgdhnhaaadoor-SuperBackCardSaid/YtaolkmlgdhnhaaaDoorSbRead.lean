/-
  The contract of super.Read. Conditions: none beyond the premises of each theorem.
-/
import Derived.Test.YtaolkmlgdhnhaaaDoorSbLay
namespace Go.Proofs.YtaolkmlgdhnhaaaDoor
open Go.RowKit

/-- what Read answers -/
def SbReadPost (s : ByteArray) (w : World) (e : Ending) (w' : World) : Prop :=
  ∃ v, e = .returned (.tuple #[sbV ((readS s.data.toList).getD Sb.zero), v]) ∧ ErrFrom w' w.heap.size (if (readS s.data.toList).isSome = true then 0 else 2) v ∧ Below w.heap.size w w'
theorem SbReadPost.fault {s : ByteArray} {w w1 : World} {e : Ending} {v : Value} (hn : readS s.data.toList = none) (he : e = .returned (.tuple #[sbV Sb.zero, v])) (h2 : ErrFrom w1 w.heap.size 2 v) (hb : Below w.heap.size w w1) : SbReadPost s w e w1 :=
  ⟨v, by rw [hn]; exact he, by rw [hn]; exact h2, hb⟩
theorem readS_long {l : List UInt8} (h : l.length ≠ 35) : readS l = none := by
  unfold readS
  rw [if_neg (fun hh => h hh.1)]
theorem readS_35 {l : List UInt8} (h : l.length = 35) : readS l = if rightB (ofS l) = true then some (ofS l) else none := by
  unfold readS
  by_cases hr : rightB (ofS l) = true
  · rw [if_pos ⟨h, hr⟩, if_pos hr]
  · rw [if_neg (fun hh => hr hh.2), if_neg hr]
/-- the parts of 35 bytes -/
theorem splits_super (l : List UInt8) (h : l.length = 35) : splits [4, 1] (l.take 5) = [num (l.take 4), (l.getD 4 0).toNat] := by
  match l, h with
  | a :: b :: c :: d :: e :: r, _ => simp [splits, num]
theorem setB_part (l : List UInt8) : (l.drop 5).map UInt8.toNat = (ofS l).used := rfl
/-- two blocks of the call's own -/
structure RdSt (w wi : World) (b : Nat) (x : Sb) : Prop where
  res : BOwn wi b Sb.zero
  own : BOwn wi (b + 1) x
  below : Below w.heap.size w wi
  at_ : b = w.heap.size
theorem RdSt.carry {w wi wj : World} {b : Nat} {x : Sb} (h : RdSt w wi b x) (hb : Below wi.heap.size wi wj) : RdSt w wj b x :=
  ⟨h.res.below hb h.res.lt, h.own.below hb h.own.lt, h.below.trans (hb.mono h.below.size), h.at_⟩
theorem RdSt.drew {w wi : World} {b : Nat} {x : Sb} (h : RdSt w wi b x) : RdSt w wi.drew b x := ⟨h.res.drew, h.own.drew, h.below.drew, h.at_⟩
theorem BOwn.there2 {w : World} {b n : Nat} {x : Sb} (h : BOwn w b x) (hx : x.used.length = n) : w.there b 2 n := fun j hj => ⟨by rw [h.used j _ (List.getElem?_eq_getElem (by rw [stCells_length, hx]; exact hj))]; rfl, h.free _⟩
/-- a superblock's set is copied in -/
theorem BOwn.copy {w w2 : World} {b : Nat} {x : Sb} {u : List UInt8} (h : BOwn w b x) (hx : x.Ok) (hu : u.length = 30) (hw : w2 = w.setCells b 2 (pgCells (pgB u))) : BOwn w2 b ⟨x.gen, x.root, u.map UInt8.toNat⟩ := by
  subst hw
  refine ⟨fun j v hv => ?_, fun j => by rw [World.frozen?_setCells]; exact h.free j⟩
  rw [Nat.zero_add]
  have hlen : (pgCells (pgB u)).length = 30 := by rw [pgCells_len, hu]
  match j, hv with
  | 0, hv =>
    rw [World.cell?_setCells_out b _ _ _ _ (fun _ _ => .inl (by show 0 < 2; decide))]
    have : v = .int .u32 (x.gen : Int) := by simpa [sbCells] using hv.symm
    rw [this]
    exact h.gen
  | 1, hv =>
    rw [World.cell?_setCells_out b _ _ _ _ (fun _ _ => .inl (by show 1 < 2; decide))]
    have : v = .int .i64 x.root := by simpa [sbCells] using hv.symm
    rw [this]
    exact h.root
  | j + 2, hv =>
    have hv' : (pgCells (pgB u))[j]? = some v := by
      have : (stCells (u.map UInt8.toNat))[j]? = some v := by simpa [sbCells] using hv
      rw [← this]
      simp [stCells, pgCells, pgB]
      rfl
    have hj : j < 30 := by have := (List.getElem?_eq_some_iff.1 hv').1; omega
    have hin := World.cell?_setCells_in b (pgCells (pgB u)) 2 w (fun i hi => by
      have := h.used i ((stCells x.used)[i]'(by rw [stCells_length, hx.used.len]; omega)) (List.getElem?_eq_getElem _)
      rw [this]; rfl) j (by omega)
    rw [show j + 2 = 2 + j by omega, hin]
    rw [List.getElem?_eq_getElem (by omega)] at hv'
    exact hv'
theorem ErrFrom.lay {w w2 : World} {lo b o : Nat} {c : Int} {v : Value} {vs : List Value} (h : ErrFrom w lo c v) (hw : w2 = w.setCells b o vs) (hb : b < lo) : ErrFrom w2 lo c v :=
  h.carry (below_cells_of (B := 0) ⟨rfl, rfl, rfl, Nat.le_refl _, fun _ h => absurd h (Nat.not_lt_zero _)⟩ hw (Nat.zero_le _)).size fun k hk _ => by
    subst hw
    exact setCells_block b (by omega) _ _ _
theorem RdSt.new (w : World) (t : TypeId) : RdSt w ((w.alloc (.cells (sbArr Sb.zero) t)).alloc (.cells (sbArr Sb.zero) t)) w.heap.size Sb.zero :=
  ⟨(BOwn.new _).below ((Below.refl _ _).alloc (Nat.le_refl _) _) (by simp), by have := BOwn.new (w := w.alloc (.cells (sbArr Sb.zero) t)) (x := Sb.zero) t; simpa using this,
    ((Below.refl _ _).alloc (Nat.le_refl _) _).alloc (by simp) _, rfl⟩
set_option maxRecDepth 100000 in
theorem SbRead_long (s : ByteArray) (hs : s.size ≠ 35) (w : World) : Calls Tryd.prog 13 #[.string s] w (SbReadPost s w) := by
  have HN := Lib.hid (readS_long (l := s.data.toList) (by rw [lenS]; exact hs))
  have hne : ((s.size : Int) != 35) = true := by simp; omega
  clear hs
  have hz := Tryd.sbProg.zero
  obtain ⟨b, HB⟩ : ∃ b, Hid (b = w.heap.size) := ⟨_, Lib.hid rfl⟩
  obtain ⟨w1, HW⟩ : ∃ w1, Hid (w1 = (w.alloc (.cells (sbArr Sb.zero) 33)).alloc (.cells (sbArr Sb.zero) 33)) := ⟨_, Lib.hid rfl⟩
  have HST : Hid (RdSt w w1 b Sb.zero) := Lib.hid (by rw [HW.out, HB.out]; exact RdSt.new w _)
  go_enter Tryd.func13, Tryd.ntmps13
  go_upto_region 2 with (fail)
  rw [← HW.out, ← HB.out]
  clear HW
  go_wp2_with (with_reducible refine stop_at (o := ⟨some 10, _, _, _, _, _⟩) ?_)
  refine wpList_build_sb0 Tryd.sbProg rfl rfl ?_
  go_wp2_with fail
  refine (SbFault_any 2 (by decide) _).mono ?_
  rintro e w3 ⟨v, rfl, he, hb⟩
  have HE := Lib.hid he
  have HST3 := Lib.hid (HST.out.carry hb)
  have HBB := Lib.hid hb
  clear he hb
  go_wp2_with (with_reducible refine stop_at (o := ⟨none, _, _, _, _, _⟩) ?_)
  refine wpList_store_sb Tryd.sbProg rfl _ _ rfl b Sb.zero Sb.zero Sb.Ok.zero Sb.Ok.zero rfl rfl HST3.out.res ?_
  intro w4 HW4 HO4
  go_wp2_with fail
  have hb4 := below_cells_of HST3.out.below HW4.out (by rw [HB.out]; exact Nat.le_refl _)
  exact bodyPost_ret (results_sb2 Tryd.sbProg rfl _ _ b Sb.zero v rfl rfl HO4.out.at_ Sb.Ok.zero) rfl (SbReadPost.fault HN.out rfl ((HE.out.lay HW4.out HST.out.res.lt).mono HST.out.below.size) hb4)
theorem RdSt.one {w wi wj : World} {b : Nat} {x y : Sb} (h : RdSt w wi b x) (hw : ∃ j v, wj = wi.setCell ⟨b + 1, j, none⟩ v) (hy : BOwn wj (b + 1) y) : RdSt w wj b y := by
  obtain ⟨j, v, rfl⟩ := hw
  exact ⟨⟨fun i u hu => by rw [World.cell?_setCell_other _ _ _ _ (by intro hh; injection hh; omega)]; exact h.res.at_ i u hu, fun i => by rw [World.frozen?_setCell]; exact h.res.free i⟩, hy, h.below.setCell (by show w.heap.size ≤ b + 1; rw [h.at_]; omega) _, h.at_⟩
set_option maxRecDepth 100000 in
set_option maxHeartbeats 2000000 in
theorem SbRead_35 (s : ByteArray) (hs : s.size = 35) (w : World) : Calls Tryd.prog 13 #[.string s] w (SbReadPost s w) := by
  have hl35 : s.data.toList.length = 35 := by rw [lenS]; exact hs
  have HN := Lib.hid (readS_35 hl35)
  have HOK := Lib.hid (ofS_ok hl35)
  have HSP := Lib.hid (splits_super _ hl35)
  have hne : ((s.size : Int) != 35) = false := by simp; omega
  have hz := Tryd.sbProg.zero
  obtain ⟨l, HLL⟩ : ∃ l, Hid (l = s.data.toList) := ⟨_, Lib.hid rfl⟩
  obtain ⟨b, HB⟩ : ∃ b, Hid (b = w.heap.size) := ⟨_, Lib.hid rfl⟩
  obtain ⟨w1, HW⟩ : ∃ w1, Hid (w1 = (w.alloc (.cells (sbArr Sb.zero) 33)).alloc (.cells (sbArr Sb.zero) 33)) := ⟨_, Lib.hid rfl⟩
  have HST : Hid (RdSt w w1 b Sb.zero) := Lib.hid (by rw [HW.out, HB.out]; exact RdSt.new w _)
  obtain ⟨x, HX⟩ : ∃ x, Hid (x = ofS s.data.toList) := ⟨_, Lib.hid rfl⟩
  rw [← HX.out] at HN HOK
  go_enter Tryd.func13, Tryd.ntmps13
  go_upto_region 2 with (fail)
  rw [← HW.out, ← HB.out]
  clear HW
  go_wp2_with (with_reducible refine stop_at (o := ⟨some 13, _, _, _, _, _⟩) ?_)
  refine wpList_two rfl _ _ rfl 4 1 rfl rfl ?_
  intro w2 B2 HBE2 HN2 HBL2
  have HST2 := Lib.hid (HST.out.carry HBL2.out)
  have hs5 : (5 : Int) ≤ (s.size : Int) := by omega
  obtain ⟨u, HU⟩ : ∃ u : ByteArray, Hid (u = s.extract 0 5) := ⟨_, Lib.hid rfl⟩
  have HUL : Hid (u.data.toList = s.data.toList.take 5) := Lib.hid (by rw [HU.out, extract_head])
  have HUS : Hid (u.size = 5) := Lib.hid (by rw [← lenS, HUL.out, List.length_take, hl35]; decide)
  have hu : s.extract 0 5 = u := HU.out.symm
  go_wp2_with fail
  refine (Parse_own [4, 1] u (some ⟨B2, 0, none⟩) 2 w2 widths_super HN2.out HUS.out).mono ?_
  rw [HUL.out, HSP.out]
  rintro e w3 ⟨g, cap, hg, rfl, hn, hb⟩
  obtain ⟨m, HM⟩ : ∃ m, Hid (m = num (s.data.toList.take 4)) := ⟨_, Lib.hid rfl⟩
  obtain ⟨r, HR⟩ : ∃ r, Hid (r = (s.data.toList.getD 4 0).toNat) := ⟨_, Lib.hid rfl⟩
  rw [← HM.out, ← HR.out] at hn
  have HST3 := Lib.hid (HST2.out.carry hb)
  have HG := Lib.hid (Nat.lt_of_lt_of_le HST2.out.own.lt hg)
  obtain ⟨_, e1, c0⟩ := hn.at_ (i := 0) (z := (m : Int)) rfl
  obtain rfl := Option.some.inj e1
  obtain ⟨_, e2, c1⟩ := hn.at_ (i := 1) (z := (r : Int)) rfl
  obtain rfl := Option.some.inj e2
  have hm : m < 4294967296 := by rw [HM.out]; exact num_take_lt _ 4
  have hcv : IntKind.u32.wrap (m : Int) = (m : Int) := by
    show (m : Int) % 4294967296 = _
    omega
  have c0' : w3.cell? ⟨g, 0, none⟩ = some (.int .i64 (m : Int)) := c0
  have c1' : w3.cell? ⟨g, 1, none⟩ = some (.int .i64 (r : Int)) := c1
  have d0 := HST3.out.own.gen
  have d1 := HST3.out.own.root
  have f0 := HST3.out.own.free 0
  have f1 := HST3.out.own.free 1
  have hgb : g ≠ b + 1 := by have := HG.out; omega
  have hgb' : b + 1 ≠ g := by omega
  clear hn hb hg e1 e2 c0 c1
  go_upto_region 7 with (fail)
  go_cut [] (fun wx => Hid (RdSt w wx b ⟨m, r, zeroSt⟩))
  case first =>
    go_region_law (fail)
    all_goals
      go_wp2_with fail
      go_meet
      refine Lib.hid (RdSt.drew ?_)
      exact (HST3.out.one ⟨_, _, rfl⟩ (HST3.out.own.put0 m)).one ⟨_, _, rfl⟩ ((HST3.out.own.put0 m).put1 (r : Int))
  case rest =>
    have HST4 := hcut
    have hs35 : s.size = 35 := hs
    obtain ⟨t, HT⟩ : ∃ t : ByteArray, Hid (t = s.extract 5 s.size) := ⟨_, Lib.hid rfl⟩
    have HTL : Hid (t.data.toList = s.data.toList.drop 5) := Lib.hid (by
      rw [HT.out, extract_list, List.take_of_length_le (by rw [List.length_drop, hl35, hs35]; decide)])
    have HTS : Hid ((s.data.toList.drop 5).length = 30) := Lib.hid (by rw [List.length_drop, hl35])
    have ht : s.extract 5 35 = t := by rw [HT.out, hs35]
    clear hcut HST3 HST2 HST c0' c1' d0 d1 f0 f1 hgb hgb' hcv hu
    go_wp2_with fail
    refine wp_region_held (S := fun _ => True) (by kernel_rfl) ?_
    change wpAnyH _ _ _ _ _ _ _ _ wc.drew
    obtain ⟨w5, HW⟩ : ∃ w1, Hid (w1 = wc.drew) := ⟨_, Lib.hid rfl⟩
    rw [← HW.out]
    have HST5 := Lib.hid (HST4.out.drew)
    rw [← HW.out] at HST5
    clear HW HST4
    refine takeH (i := 0) 33 (v := .pointer (some ⟨b + 1, 2, none⟩)) rfl (by kernel_rfl) (by kernel_rfl) (by kernel_rfl) rfl (fun _ _ _ h => h) (.inl ⟨by rfl, fun _ _ => by go_simp⟩) trivial ?_
    simp only [Act.put, List.setIfInBounds_toArray, List.set_cons_zero, List.set_cons_succ]
    refine takeH (i := 1) 34 (v := Value.slice (some ⟨b + 1, 2, none⟩) 30 30) rfl (by kernel_rfl) (by kernel_rfl) (by kernel_rfl) rfl (fun _ _ _ h => h) (.inl ⟨by rfl, fun _ _ => by go_simp⟩) trivial ?_
    simp only [Act.put, List.setIfInBounds_toArray, List.set_cons_zero, List.set_cons_succ]
    refine takeH (i := 2) 35 (v := .string s) rfl (by kernel_rfl) (by kernel_rfl) (by kernel_rfl) rfl (fun _ _ _ h => h) (.inl ⟨by rfl, fun _ _ => by go_simp⟩) trivial ?_
    simp only [Act.put, List.setIfInBounds_toArray, List.set_cons_zero, List.set_cons_succ]
    refine takeH (i := 3) 36 (v := .string t) rfl (by kernel_rfl) (by kernel_rfl) (by kernel_rfl) rfl (fun _ _ _ h => h) (.inl ⟨by rfl, fun _ _ => by go_simp⟩) trivial ?_
    simp only [Act.put, List.setIfInBounds_toArray, List.set_cons_zero, List.set_cons_succ]
    refine oneH (i := 4) (oi := ⟨some 37, _, _, _, _, _⟩) rfl (by kernel_rfl) (fun K hK => ?_)
    refine step_copy_text (by rfl) _ _ _ _ rfl 5 Tryd.underlying65 sizeOne (b + 1) 2 30 30 rfl (s.data.toList.drop 5) t HTL.out rfl (by rw [HTS.out]; decide) (by rw [HTS.out]; exact HST5.out.own.there2 zeroSt_length) (fun w6 HW => ?_)
    refine hK.out _ _ trivial ?_
    clear hK K
    simp only [Act.put, List.setIfInBounds_toArray, List.set_cons_zero, List.set_cons_succ]
    have HX2 : Hid (x = ⟨m, r, (s.data.toList.drop 5).map UInt8.toNat⟩) := Lib.hid (by rw [HX.out, HM.out, HR.out]; rfl)
    have HST6 : Hid (RdSt w w6 b x) := Lib.hid (by
      rw [HX2.out]
      exact ⟨by rw [HW.out]; exact HST5.out.res.other (by omega) _ _, HST5.out.own.copy ⟨hm, zeroSt_ok⟩ HTS.out HW.out, below_cells_of HST5.out.below HW.out (by rw [HST5.out.at_]; omega), HST5.out.at_⟩)
    clear HW HST5
    refine wpAnyH_done (by kernel_rfl) ?_ _
    go_wp2_with (with_reducible refine stop_at (o := ⟨some 38, _, _, _, _, _⟩) ?_)
    refine wpList_load_sb Tryd.sbProg rfl _ rfl (b + 1) rfl x HOK.out HST6.out.own.at_ ?_
    go_wp2_with fail
    refine (Right_any x HOK.out _).mono ?_
    rintro e w7 ⟨rfl, hb⟩
    have HST7 := Lib.hid (HST6.out.carry hb)
    clear hb HST6
    cases hr : rightB x with
    | false =>
      have HN2 : Hid (readS s.data.toList = none) := Lib.hid (by rw [HN.out, hr]; rfl)
      clear hr
      go_wp2_with (with_reducible refine stop_at (o := ⟨some 41, _, _, _, _, _⟩) ?_)
      refine wpList_build_sb0 Tryd.sbProg rfl rfl ?_
      go_wp2_with fail
      refine (SbFault_any 2 (by decide) _).mono ?_
      rintro e w8 ⟨v, rfl, he, hb⟩
      have HE := Lib.hid he
      have HST8 := Lib.hid (HST7.out.carry hb)
      clear he hb
      go_wp2_with (with_reducible refine stop_at (o := ⟨none, _, _, _, _, _⟩) ?_)
      refine wpList_store_sb Tryd.sbProg rfl _ _ rfl b Sb.zero Sb.zero Sb.Ok.zero Sb.Ok.zero rfl rfl HST8.out.res ?_
      intro w9 HW9 HO9
      go_wp2_with fail
      have hb9 := below_cells_of HST8.out.below HW9.out (by rw [HB.out]; exact Nat.le_refl _)
      exact bodyPost_ret (results_sb2 Tryd.sbProg rfl _ _ b Sb.zero v rfl rfl HO9.out.at_ Sb.Ok.zero) rfl (SbReadPost.fault HN2.out rfl ((HE.out.lay HW9.out HST7.out.res.lt).mono HST7.out.below.size) hb9)
    | true =>
      have HN2 : Hid (readS s.data.toList = some x) := Lib.hid (by rw [HN.out, hr]; rfl)
      clear hr
      go_wp2_with (with_reducible refine stop_at (o := ⟨some 43, _, _, _, _, _⟩) ?_)
      refine wpList_load_sb Tryd.sbProg rfl _ rfl (b + 1) rfl x HOK.out HST7.out.own.at_ ?_
      refine wpList_store_sb Tryd.sbProg rfl _ _ rfl b x Sb.zero HOK.out Sb.Ok.zero rfl rfl HST7.out.res ?_
      intro w9 HW9 HO9
      go_wp2_with fail
      have hb9 := below_cells_of HST7.out.below HW9.out (by rw [HB.out]; exact Nat.le_refl _)
      refine bodyPost_ret (results_sb2 Tryd.sbProg rfl _ _ b x .nilIface rfl rfl HO9.out.at_ HOK.out) rfl ⟨.nilIface, by rw [HN2.out]; rfl, ?_, hb9⟩
      rw [HN2.out]
      exact .nil _ _
theorem SbRead_any (s : ByteArray) (w : World) : Calls Tryd.prog 13 #[.string s] w (SbReadPost s w) := by
  by_cases hs : s.size = 35
  · exact SbRead_35 s hs w
  · exact SbRead_long s hs w
end Go.Proofs.YtaolkmlgdhnhaaaDoor
