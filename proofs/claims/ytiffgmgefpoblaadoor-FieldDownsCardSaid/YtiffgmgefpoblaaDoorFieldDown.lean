/-
  The contract of field.Down (layer 16). Conditions: none beyond the premises of each theorem.
-/
import Derived.Test.YtiffgmgefpoblaaDoorFieldCosts
import Derived.BigQuiet
namespace Go.Proofs.YtiffgmgefpoblaaDoor
open Go.RowKit Hp Fld

noncomputable def downZ (W H : Int) (s : ByteArray) (F : List Int) (c : Int) : List Nat := if F.length = s.size then sortF F (lows F (fat F c.toNat) (nearM W H s c)) else []
theorem nearM_rising (W H : Int) (s : ByteArray) (c : Int) : (nearM W H s c).Pairwise (· < ·) := by
  unfold nearM
  split
  · exact Grid.nears_rising _ _ _
  · exact List.Pairwise.nil
theorem nearM_facts {W H : Int} {s : ByteArray} {c : Int} (h : 0 < (nearM W H s c).length) : (∃ i : Nat, c = (i : Int) ∧ i < s.size) ∧ (nearM W H s c).length ≤ 4 ∧ ∀ n ∈ nearM W H s c, n < s.size := by
  unfold nearM at h ⊢
  by_cases ho : openM W H s c = true
  · rw [if_pos ho] at h ⊢
    have hr : rightM W H s = true := by
      unfold openM at ho
      simp only [Bool.and_eq_true] at ho
      exact ho.2.2
    obtain ⟨a, b, e1, e2, ha1, ha8, _, _, hlen, _, _⟩ := right_small hr
    obtain ⟨i, rfl, hi⟩ := (openM_iff hr).1 ho
    refine ⟨⟨i, rfl, ?_⟩, ?_, fun n hn => ?_⟩
    · have := Grid.openAt_lt hi; rwa [hlen] at this
    · exact Grid.nears_length_le (by omega) (by omega)
    · have := Grid.openAt_lt (Grid.mem_nears.1 hn).1; rwa [hlen] at this
  · rw [if_neg ho] at h; exact absurd h (by simp)
/-- the nearer ones of the first j -/
def lowI (F : List Int) (v : Int) (l : List Nat) (j : Nat) : List Itm := (lows F v (l.take j)).map (itm F)
theorem lowI_le (F : List Int) (v : Int) (l : List Nat) (j : Nat) : (lowI F v l j).length ≤ j := by
  unfold lowI lows
  rw [List.length_map]
  exact Nat.le_trans (List.length_filter_le _ _) (by rw [List.length_take]; omega)
theorem lowI_yes {F : List Int} {v : Int} {l : List Nat} {j : Nat} (hj : j < l.length) (h1 : 0 ≤ fat F l[j]) (h2 : fat F l[j] < v) : lowI F v l (j + 1) = lowI F v l j ++ [(fat F l[j], (l[j] : Int))] := by
  unfold lowI lows
  rw [show l.take (j + 1) = l.take j ++ [l[j]] by rw [List.take_add_one, List.getElem?_eq_getElem hj]; rfl, List.filter_append, List.map_append]
  congr 1
  simp [h1, h2, itm]
theorem lowI_no {F : List Int} {v : Int} {l : List Nat} {j : Nat} (hj : j < l.length) (h : ¬ (0 ≤ fat F l[j] ∧ fat F l[j] < v)) : lowI F v l (j + 1) = lowI F v l j := by
  unfold lowI lows
  rw [show l.take (j + 1) = l.take j ++ [l[j]] by rw [List.take_add_one, List.getElem?_eq_getElem hj]; rfl, List.filter_append]
  have : (decide (0 ≤ fat F l[j]) && decide (fat F l[j] < v)) = false := by simpa using h
  rw [List.filter_cons, if_neg (by rw [this]; decide), List.filter_nil, List.append_nil]
theorem itms_ids {F : List Int} {D : List Nat} {k : Nat} (h : k < D.length) : (at2 (D.map (itm F)) k).2 = ((D[k] : Nat) : Int) := by
  rw [← at2_get (by simpa using h)]
  simp [itm]
theorem own_drewN9 {w : World} {B k n : Nat} {e : TypeId} {v : Value} {xs : List Value} (h : w.ownsRow B e k v n xs) (m : Nat) : (w.drewN m).ownsRow B e k v n xs := h
theorem numCells_ints (l : List Nat) : numCells l = (ints l).map (Value.int .i64) := by simp [numCells, ints]
set_option maxRecDepth 100000 in
theorem Down_any {w : World} {A : Option Addr} {cap : Nat} {F : List Int} (W H : Int) (s : ByteArray) (c : Int) (hsz : s.size ≤ maxLen) (hfl : F.length ≤ maxLen) (hz : Nums w .i64 A F) :
    Calls Tryd.prog 18 #[.agg #[.int .i64 W, .int .i64 H, .string s], .slice A F.length cap, .int .i64 c] w (NearPost (downZ W H s F c) w) := by
  have HFM := Lib.hid hfl
  have HSM := Lib.hid hsz
  obtain ⟨w1, HW1⟩ : ∃ w1, Hid (w1 = w.alloc (.cells #[.int .i64 W, .int .i64 H, .string s] 30)) := ⟨_, Lib.hid rfl⟩
  obtain ⟨q, HQ⟩ : ∃ q, Hid (q = w.heap.size) := ⟨_, Lib.hid rfl⟩
  have hbw : Below w.heap.size w w1 := by rw [HW1.out]; exact (Below.refl _ _).alloc (Nat.le_refl _) _
  have HM1 : Hid (MapAt w1 q W H s) := Lib.hid (by rw [HW1.out, HQ.out]; exact heap_alloc_new w _)
  have HB1 : Hid (Below w.heap.size w w1) := Lib.hid hbw
  have HZ1 : Hid (Nums w1 .i64 A F) := Lib.hid (hz.carry hbw)
  have hne := Lib.hid (Near_any W H s c hsz w1)
  obtain ⟨D, HD⟩ : ∃ D, Hid (D = downZ W H s F c) := ⟨_, Lib.hid rfl⟩
  rw [← HD.out]
  clear hbw hz
  have m0 := HM1.out.w_
  have m1 := HM1.out.h_
  have m2 := HM1.out.s_
  rw [HW1.out] at m0 m1 m2 hne
  rw [HQ.out] at m0 m1 m2
  obtain ⟨n, HN⟩ : ∃ n, Hid (n = F.length) := ⟨_, Lib.hid rfl⟩
  rw [← HN.out]
  have hnm : n ≤ maxLen := by rw [HN.out]; exact hfl
  unfold maxLen at hnm hsz
  clear hfl
  by_cases hl : n = s.size
  · subst hl
    go_enter Tryd.func18, Tryd.ntmps18
    go_wp2_with fail
    rw [← HW1.out, ← HQ.out]
    rw [← HW1.out] at hne
    refine hne.out.mono ?_
    rintro e w2 ⟨A2, cap2, rfl, hnu2, hb2⟩
    obtain ⟨l, HLL⟩ : ∃ l, Hid (l = nearM W H s c) := ⟨_, Lib.hid rfl⟩
    rw [← HLL.out] at hnu2 ⊢
    obtain ⟨v, HV⟩ : ∃ v, Hid (v = fat F c.toNat) := ⟨_, Lib.hid rfl⟩
    have HDE : Hid (D = sortF F (lows F v l)) := Lib.hid (by rw [HD.out, HLL.out, HV.out]; unfold downZ; rw [if_pos HN.out.symm])
    have HRI : Hid (l.Pairwise (· < ·)) := Lib.hid (by rw [HLL.out]; exact nearM_rising _ _ _ _)
    have HFA : Hid (0 < l.length → (∃ i : Nat, c = (i : Int) ∧ i < s.size) ∧ l.length ≤ 4 ∧ ∀ n ∈ l, n < s.size) := Lib.hid (by rw [HLL.out]; exact nearM_facts)
    have HL4 : Hid (l.length ≤ 4) := Lib.hid (by
      by_cases h0 : 0 < l.length
      · exact (HFA.out h0).2.1
      · omega)
    have HN2 := Lib.hid hnu2
    have HZ2 : Hid (Nums w2 .i64 A F) := Lib.hid (HZ1.out.carry hb2)
    have HB2 : Hid (Below w.heap.size w w2) := Lib.hid (HB1.out.trans (hb2.mono HB1.out.size))
    obtain ⟨B, HB⟩ : ∃ B, Hid (B = w2.heap.size) := ⟨_, Lib.hid rfl⟩
    clear hnu2 hb2 hne m0 m1 m2 HM1 HB1 HZ1 HW1 HQ HLL HD
    obtain ⟨i0, hi0, hz0, hz1, hz2⟩ := info_parts Tryd.dueInfo
    go_wp2_with fail
    go_loopw [7, 23] (fun u7 u wr => ∃ j : Nat, u = .int .i64 (j : Int) ∧ j ≤ l.length ∧ wr.ownsRow B 52 2 u7 (lowI F v l j).length (flat2 (lowI F v l j)) ∧ Below B w2 wr) (fun _ u _ => l.length - (intOf u).toNat)
    case atStart => exact ⟨0, rfl, Nat.zero_le _, World.ownsRow_nil _ _ _ _, Below.refl _ _⟩
    case round =>
      obtain ⟨j, rfl, hj, hrow, hbl⟩ := hrel
      have HJ := Lib.hid hj
      have HR := Lib.hid hrow
      have HBL := Lib.hid hbl
      have HBr : Hid (B ≤ wr.heap.size) := Lib.hid (by rw [HB.out]; exact hbl.size)
      clear hj hrow hbl
      by_cases hjl : j < l.length
      · obtain ⟨x, HX⟩ : ∃ x, Hid (x = l[j]) := ⟨_, Lib.hid rfl⟩
        obtain ⟨ad, hcA, hcc⟩ := HN2.out.at_ (ints_at hjl)
        subst hcA
        rw [← HX.out] at hcc
        have c0 : wr.cell? (ad.add j) = some (.int .i64 (x : Int)) := (HBL.out.cell (by rw [HB.out]; exact below_block hcc)).trans hcc
        clear hcc
        obtain ⟨⟨i, hci, his⟩, _, hall⟩ := HFA.out (by omega)
        subst hci
        have hxs : x < s.size := by rw [HX.out]; exact hall _ (List.getElem_mem hjl)
        obtain ⟨af, hfA, hfc⟩ := HZ2.out.at_ (fat_eq (F := F) (i := x) (by rw [← HN.out]; exact hxs))
        obtain ⟨af', hfA', hfc'⟩ := HZ2.out.at_ (fat_eq (F := F) (i := i) (by rw [← HN.out]; exact his))
        subst hfA
        cases hfA'
        obtain ⟨y, HY⟩ : ∃ y, Hid (y = fat F x) := ⟨_, Lib.hid rfl⟩
        have hvi : fat F i = v := by rw [HV.out]; rfl
        rw [← HY.out] at hfc
        rw [hvi] at hfc'
        have c1 : wr.cell? (af.add x) = some (.int .i64 y) := (HBL.out.cell (by rw [HB.out]; exact below_block hfc)).trans hfc
        have c2 : wr.cell? (af.add i) = some (.int .i64 v) := (HBL.out.cell (by rw [HB.out]; exact below_block hfc')).trans hfc'
        clear hfc hfc' hall hvi
        by_cases hy0 : 0 ≤ y
        · by_cases hyv : y < v
          · go_wp2_with fail
            go_quiet (fail)
            clear c0 c2
            go_wp2_with (with_reducible refine stop_at (o := ⟨some 50, _, _, _, _, _⟩) ?_)
            unfold Stopped
            obtain ⟨wb, HWB⟩ : ∃ wb, Hid (wb = wr.drewN nq) := ⟨_, Lib.hid rfl⟩
            rw [← HWB.out]
            have HRb : Hid (wb.ownsRow B 52 2 u7 (lowI F v l j).length (flat2 (lowI F v l j))) := Lib.hid (by rw [HWB.out]; exact own_drewN9 HR.out nq)
            have HBb : Hid (Below B w2 wb) := Lib.hid (by rw [HWB.out]; exact below_drewN HBL.out nq)
            have HBs : Hid (B ≤ wb.heap.size) := Lib.hid (by rw [HWB.out]; exact HBr.out)
            clear HWB HR HBL HBr c1
            obtain ⟨it, HIT⟩ : ∃ it : Itm, Hid (it = (y, (x : Int))) := ⟨_, Lib.hid rfl⟩
            refine wpList_plain rfl fun _ hK => ?_
            refine wp_one9 _ 52 _ rfl (itC it).toArray (by rw [HIT.out]; rfl) Tryd.underlying60 (by kernel_rfl) dueTy.size (by simp) (by simp) ?_
            refine hK _ _ ?_
            clear hK
            simp only [Act.put, List.setIfInBounds_toArray, List.set_cons_zero, List.set_cons_succ]
            obtain ⟨w5, HW5⟩ : ∃ w5, Hid (w5 = wb.alloc (.cells (itC it).toArray 52)) := ⟨_, Lib.hid rfl⟩
            obtain ⟨g5, HG5⟩ : ∃ g5, Hid (g5 = wb.heap.size) := ⟨_, Lib.hid rfl⟩
            rw [← HW5.out, ← HG5.out]
            have HN5 : Hid (∀ j u, (itC it)[j]? = some u → w5.cell? ((⟨g5, 0, none⟩ : Addr).add j) = some u) := Lib.hid (by rw [HW5.out, HG5.out]; exact World.news_of_block (cs := (itC it).toArray) (heap_alloc_new wb _))
            have HR5 : Hid (w5.ownsRow B 52 2 u7 (lowI F v l j).length (flat2 (lowI F v l j))) := Lib.hid (by rw [HW5.out]; exact HRb.out.alloc _)
            have HB5 : Hid (Below B w2 w5) := Lib.hid (by rw [HW5.out]; exact HBb.out.alloc HBs.out _)
            have HBs5 : Hid (B ≤ w5.heap.size) := Lib.hid (by rw [HW5.out, World.size_alloc]; have := HBs.out; omega)
            clear HW5 HRb HBb HBs HG5
            have hle := lowI_le F v l j
            have hl4 := HL4.out
            refine wpList_plain rfl fun _ hK => ?_
            refine wp_append_lies _ _ _ _ rfl B 52 i0 _ 2 16 Tryd.underlying60 hi0 hz0 hz1 hz2 rfl (by omega) u7 (lowI F v l j).length (flat2 (lowI F v l j)) rfl HR5.out ⟨g5, 0, none⟩ 1 1 (itC it) rfl rfl HN5.out (itC_one it)
              (by omega) (by unfold maxLen; omega) (by omega) HBs5.out w5.heap.size rfl ?_
            intro g capr w6 hown hgrow hat hlt
            refine hK _ _ ?_
            clear hK HN5
            simp only [Act.put, List.setIfInBounds_toArray, List.set_cons_zero, List.set_cons_succ]
            have HR6 : Hid (w6.ownsRow B 52 2 (.slice (some ⟨g, 0, none⟩) ((lowI F v l j).length + 1) capr) (lowI F v l (j + 1)).length (flat2 (lowI F v l (j + 1)))) := Lib.hid (by
              rw [lowI_yes hjl (by rw [← HX.out, ← HY.out]; exact hy0) (by rw [← HX.out, ← HY.out]; exact hyv), ← HX.out, ← HY.out, ← HIT.out, flat2_append, flat2_one, List.length_append, List.length_singleton]
              exact hown)
            have HB6 : Hid (Below B w2 w6) := Lib.hid (HB5.out.grown hgrow HBs5.out (fun k hk => (HR5.out.lt k hk).1))
            clear hown hgrow hat hlt HR5 HB5 HBs5
            go_wp2_with fail
            go_roundw
            case rel => exact ⟨j + 1, by go_num, hjl, HR6.out, HB6.out⟩
            case measure => simp [intOf]; omega
          · go_wp2_with fail
            go_quiet (fail)
            clear c0 c2
            go_wp2_with fail
            go_roundw
            case rel => exact ⟨j + 1, by go_num, hjl, by rw [lowI_no hjl (by rw [← HX.out, ← HY.out]; omega)]; exact own_drewN9 HR.out nq, below_drewN HBL.out nq⟩
            case measure => simp [intOf]; omega
        · go_wp2_with fail
          refine wp_region_held (S := fun w9 => w9.cell? (af.add x) = some (.int .i64 y)) (by kernel_rfl) ?_
          change wpAnyH _ _ _ _ _ _ _ _ wr.drew
          obtain ⟨wa, HWA⟩ : ∃ wa, Hid (wa = wr.drew) := ⟨_, Lib.hid rfl⟩
          rw [← HWA.out]
          have hS : wa.cell? (af.add x) = some (.int .i64 y) := by rw [HWA.out]; exact c1
          have HRA : Hid (wa.ownsRow B 52 2 u7 (lowI F v l j).length (flat2 (lowI F v l j))) := Lib.hid (by rw [HWA.out]; exact HR.out.drew)
          have HBA : Hid (Below B w2 wa) := Lib.hid (by rw [HWA.out]; exact HBL.out.drew)
          clear HWA HR HBL c0 c2
          refine takeH (i := 0) 27 (v := .slice (some af) s.size cap) rfl (by kernel_rfl) (by kernel_rfl) (by kernel_rfl) rfl (fun _ _ _ h => h) (.inl ⟨by rfl, fun _ _ => by go_simp⟩) hS ?_
          simp only [Act.put, List.setIfInBounds_toArray, List.set_cons_zero, List.set_cons_succ]
          refine takeH (i := 1) 28 (v := .int .i64 (x : Int)) rfl (by kernel_rfl) (by kernel_rfl) (by kernel_rfl) rfl (fun _ _ _ h => h) (.inl ⟨by rfl, fun _ _ => by go_simp⟩) hS ?_
          simp only [Act.put, List.setIfInBounds_toArray, List.set_cons_zero, List.set_cons_succ]
          refine takeH (i := 2) 29 (v := .pointer (some (af.add x))) rfl (by kernel_rfl) (by kernel_rfl) (by kernel_rfl) rfl (fun _ _ _ h => h) (.inl ⟨by rfl, fun _ _ => by go_simp⟩) hS ?_
          simp only [Act.put, List.setIfInBounds_toArray, List.set_cons_zero, List.set_cons_succ]
          refine takeH (i := 3) 30 (v := .int .i64 y) rfl (by kernel_rfl) (by kernel_rfl) (by kernel_rfl) rfl (fun _ _ _ h => h) (.inl ⟨by rfl, fun _ h => by have c1 := h; go_simp⟩) hS ?_
          simp only [Act.put, List.setIfInBounds_toArray, List.set_cons_zero, List.set_cons_succ]
          refine takeH (i := 4) 31 (v := .bool false) rfl (by kernel_rfl) (by kernel_rfl) (by kernel_rfl) rfl (fun _ _ _ h => h) (.inl ⟨by rfl, fun _ _ => by go_simp⟩) hS ?_
          simp only [Act.put, List.setIfInBounds_toArray, List.set_cons_zero, List.set_cons_succ]
          refine takeH (i := 5) 32 (v := .bool false) rfl (by kernel_rfl) (by kernel_rfl) (by kernel_rfl) rfl (fun _ _ _ h => h) (.inl ⟨by rfl, fun _ _ => by go_simp⟩) hS ?_
          simp only [Act.put, List.setIfInBounds_toArray, List.set_cons_zero, List.set_cons_succ]
          refine takeH (i := 6) 33 (v := undef) rfl (by kernel_rfl) (by kernel_rfl) (by kernel_rfl) rfl (fun _ _ _ h => h) (.inr ⟨by rfl, rfl⟩) hS ?_
          simp only [Act.put, List.setIfInBounds_toArray, List.set_cons_zero, List.set_cons_succ]
          refine takeH (i := 7) 34 (v := undef) rfl (by kernel_rfl) (by kernel_rfl) (by kernel_rfl) rfl (fun _ _ _ h => h) (.inr ⟨by rfl, rfl⟩) hS ?_
          simp only [Act.put, List.setIfInBounds_toArray, List.set_cons_zero, List.set_cons_succ]
          refine takeH (i := 8) 35 (v := undef) rfl (by kernel_rfl) (by kernel_rfl) (by kernel_rfl) rfl (fun _ _ _ h => h) (.inr ⟨by rfl, rfl⟩) hS ?_
          simp only [Act.put, List.setIfInBounds_toArray, List.set_cons_zero, List.set_cons_succ]
          refine takeH (i := 9) 36 (v := undef) rfl (by kernel_rfl) (by kernel_rfl) (by kernel_rfl) rfl (fun _ _ _ h => h) (.inr ⟨by rfl, rfl⟩) hS ?_
          simp only [Act.put, List.setIfInBounds_toArray, List.set_cons_zero, List.set_cons_succ]
          refine takeH (i := 10) 37 (v := undef) rfl (by kernel_rfl) (by kernel_rfl) (by kernel_rfl) rfl (fun _ _ _ h => h) (.inr ⟨by rfl, rfl⟩) hS ?_
          simp only [Act.put, List.setIfInBounds_toArray, List.set_cons_zero, List.set_cons_succ]
          refine takeH (i := 11) 38 (v := undef) rfl (by kernel_rfl) (by kernel_rfl) (by kernel_rfl) rfl (fun _ _ _ h => h) (.inr ⟨by rfl, rfl⟩) hS ?_
          simp only [Act.put, List.setIfInBounds_toArray, List.set_cons_zero, List.set_cons_succ]
          refine takeH (i := 12) 39 (v := undef) rfl (by kernel_rfl) (by kernel_rfl) (by kernel_rfl) rfl (fun _ _ _ h => h) (.inr ⟨by rfl, rfl⟩) hS ?_
          simp only [Act.put, List.setIfInBounds_toArray, List.set_cons_zero, List.set_cons_succ]
          refine takeH (i := 13) 40 (v := undef) rfl (by kernel_rfl) (by kernel_rfl) (by kernel_rfl) rfl (fun _ _ _ h => h) (.inr ⟨by rfl, rfl⟩) hS ?_
          simp only [Act.put, List.setIfInBounds_toArray, List.set_cons_zero, List.set_cons_succ]
          refine takeH (i := 14) 41 (v := undef) rfl (by kernel_rfl) (by kernel_rfl) (by kernel_rfl) rfl (fun _ _ _ h => h) (.inr ⟨by rfl, rfl⟩) hS ?_
          simp only [Act.put, List.setIfInBounds_toArray, List.set_cons_zero, List.set_cons_succ]
          refine takeH (i := 15) 42 (v := .bool false) rfl (by kernel_rfl) (by kernel_rfl) (by kernel_rfl) rfl (fun _ _ _ h => h) (.inl ⟨by rfl, fun _ _ => by go_simp⟩) hS ?_
          simp only [Act.put, List.setIfInBounds_toArray, List.set_cons_zero, List.set_cons_succ]
          refine wpAnyH_done (by kernel_rfl) ?_ _
          go_wp2_with fail
          go_roundw
          case rel => exact ⟨j + 1, by go_num, hjl, by rw [lowI_no hjl (by rw [← HX.out, ← HY.out]; omega)]; exact HRA.out, HBA.out⟩
          case measure => simp [intOf]; omega
      · go_wp2_with fail
        have hje : j = l.length := by have := HJ.out; omega
        subst hje
        have HLI : Hid (lowI F v l l.length = (lows F v l).map (itm F)) := Lib.hid (by unfold lowI; rw [List.take_length])
        rw [HLI.out] at HR
        obtain ⟨A7, cap7, hu7, hit, _⟩ := ItmsAt.own HR.out (Nat.le_refl _)
        have HIT := Lib.hid hit
        have HLE : Hid (((lows F v l).map (itm F)).length ≤ 4) := Lib.hid (by rw [← HLI.out]; exact Nat.le_trans (lowI_le F v l l.length) HL4.out)
        clear hit
        subst hu7
        have hso := Lib.hid (Sorted_any (cap := cap7) HIT.out rfl (by have := HLE.out; omega))
        clear HIT
        refine hso.out.mono ?_
        rintro e w4 ⟨v4, S4, rfl, ho4, hr4, hp4, hb4⟩
        have HS4 : Hid (S4 = D.map (itm F)) := Lib.hid (by rw [HDE.out]; exact down_uniq HRI.out hr4 hp4)
        rw [HS4.out] at ho4 hp4
        obtain ⟨A8, cap8, hu8, hit8, _⟩ := ItmsAt.own ho4 (Nat.le_refl _)
        subst hu8
        have HIT8 := Lib.hid hit8
        have HD4 : Hid (D.length ≤ 4) := Lib.hid (by have := hp4.length_eq; rw [List.length_map] at this; have := HLE.out; omega)
        have HB4 : Hid (Below B w2 w4) := Lib.hid (HBL.out.trans (hb4.mono HBr.out))
        have HW4 : Hid (w.heap.size ≤ w4.heap.size) := Lib.hid (by have := HB4.out.size; have := HB2.out.size; omega)
        obtain ⟨C, HC⟩ : ∃ C, Hid (C = w4.heap.size) := ⟨_, Lib.hid rfl⟩
        rw [← HC.out] at HIT8
        rw [List.length_map]
        clear hso ho4 hr4 hp4 hb4 hit8 HR HLI HLE HBr HBL HDE HRI HN2 HFA HZ2
        obtain ⟨ii, hj0, hj1, hj2, hj3⟩ := info_parts Tryd.infoNum
        go_wp2_with fail
        go_loopw [10, 56] (fun u10 u wr => ∃ k : Nat, u = .int .i64 (k : Int) ∧ k ≤ D.length ∧ wr.ownsRow C 3 1 u10 (D.take k).length (numCells (D.take k)) ∧ Below C w4 wr) (fun _ u _ => D.length - (intOf u).toNat)
        case atStart => exact ⟨0, rfl, Nat.zero_le _, World.ownsRow_nil _ _ _ _, Below.refl _ _⟩
        case round =>
          obtain ⟨k, rfl, hk, hrow, hbl⟩ := hrel
          have HK := Lib.hid hk
          have HR := Lib.hid hrow
          have HBL := Lib.hid hbl
          have HBr : Hid (C ≤ wr.heap.size) := Lib.hid (by rw [HC.out]; exact hbl.size)
          clear hk hrow hbl
          by_cases hkl : k < D.length
          · obtain ⟨bd, od, hA8, hbd, hcells⟩ := HIT8.out (by rw [List.length_map]; omega)
            subst hA8
            obtain ⟨it, HI⟩ : ∃ it, Hid (it = at2 (D.map (itm F)) k) := ⟨_, Lib.hid rfl⟩
            obtain ⟨d, HDK⟩ : ∃ d, Hid (d = D[k]) := ⟨_, Lib.hid rfl⟩
            have hid2 : it.2 = (d : Int) := by rw [HI.out, HDK.out]; exact itms_ids hkl
            have HC9 : Hid (wr.rangeAt bd (od + k * 2) (itC it)) := Lib.hid (fun t u hu => by
              rw [HI.out] at hu
              exact (HBL.out.cell (p := ⟨bd, od + k * 2 + t, none⟩) hbd).trans (hcells k (by rw [List.length_map]; exact hkl) t u hu))
            clear hcells
            go_wp2_with (with_reducible refine stop_at (o := ⟨some 59, _, _, _, _, _⟩) ?_)
            unfold Stopped
            refine wpList_load_c dueTy (by rfl) _ rfl bd (od + k * 2) rfl (itC it) rfl HC9.out ?_
            simp only [Act.put, List.setIfInBounds_toArray, List.set_cons_zero, List.set_cons_succ]
            go_wp2_with (with_reducible refine stop_at (o := ⟨none, _, _, _, _, _⟩) ?_)
            unfold Stopped
            refine wpList_store_last rfl _ _ _ rfl _ (itC it).toArray _ rfl rfl rfl dueTy.size rfl (all_oneCell_toArray (itC_one it)) ?_
            obtain ⟨w5, HW5⟩ : ∃ w5, Hid (w5 = wr.alloc (.cells (itC it).toArray 52)) := ⟨_, Lib.hid rfl⟩
            obtain ⟨p5, HP5⟩ : ∃ p5, Hid (p5 = wr.heap.size) := ⟨_, Lib.hid rfl⟩
            rw [← HW5.out, ← HP5.out]
            have c0 : w5.cell? ⟨p5, 1, none⟩ = some (.int .i64 (d : Int)) := by
              have := (COwn.new (w := wr) (itC it) 52).cell (j := 1) rfl
              rw [hid2] at this
              rw [HW5.out, HP5.out]; exact this
            have HR5 : Hid (w5.ownsRow C 3 1 u10 (D.take k).length (numCells (D.take k))) := Lib.hid (by rw [HW5.out]; exact HR.out.alloc _)
            have HB5 : Hid (Below C w4 w5) := Lib.hid (by rw [HW5.out]; exact HBL.out.alloc HBr.out _)
            have HBs5 : Hid (C ≤ w5.heap.size) := Lib.hid (by rw [HW5.out, World.size_alloc]; have := HBr.out; omega)
            clear HW5 HP5 HR HBL HBr HC9
            go_wp2_with (with_reducible refine stop_at (o := ⟨some 64, _, _, _, _, _⟩) ?_)
            have hn9 : ∀ (j : Nat) u, ([.int .i64 (d : Int)] : List Value)[j]? = some u → (w5.alloc (.cells #[.int .i64 (d : Int)] 3)).cell? ((⟨w5.heap.size, 0, none⟩ : Addr).add j) = some u := World.news_of_block (cs := #[.int .i64 (d : Int)]) (heap_alloc_last w5 _)
            have htk : (D.take k).length = k := by rw [List.length_take]; omega
            have hd4 := HD4.out
            refine wpList_append_lies _ rfl _ _ 24 rfl C 3 ii _ 1 8 Tryd.underlying24 hj0 hj1 hj2 hj3 rfl (by decide) u10 (D.take k).length (numCells (D.take k)) rfl (HR5.out.alloc _) ⟨w5.heap.size, 0, none⟩ 1 1 [.int .i64 (d : Int)] rfl rfl hn9 (fun u hu => by rw [List.mem_singleton.1 hu]; rfl) (by decide) (by unfold maxLen; omega) (by omega) (by have := HBs5.out; simp; omega) (w5.heap.size + 1) (by simp) ?_
            intro g capr w6 hown hgrow _ _
            have HR6 : Hid (w6.ownsRow C 3 1 (.slice (some ⟨g, 0, none⟩) ((D.take k).length + 1) capr) (D.take (k + 1)).length (numCells (D.take (k + 1)))) := Lib.hid (by
              rw [show D.take (k + 1) = D.take k ++ [d] by rw [List.take_add_one, List.getElem?_eq_getElem hkl, HDK.out]; rfl, List.length_append, List.length_singleton]
              unfold numCells at hown ⊢
              rw [List.map_append]
              exact hown)
            have HB6 : Hid (Below C w4 w6) := Lib.hid (by
              have h0 := HB5.out.alloc HBs5.out (.cells #[.int .i64 (d : Int)] 3)
              exact h0.grown hgrow (by have := HBs5.out; simp; omega) (fun t e => (HR5.out.lt t e).1))
            clear hown hgrow hn9 HR5 HB5 HBs5 c0
            go_wp2_with fail
            go_roundw
            case rel => exact ⟨k + 1, by go_num, hkl, by have h9 := HR6.out; rw [htk] at h9; exact h9, HB6.out⟩
            case measure => simp [intOf]; omega
          · obtain rfl : k = D.length := by have := HK.out; omega
            rw [List.take_length] at HR
            obtain ⟨A9, cap9, hv9, hnums⟩ := ListBox.nums HR.out
            have HNN := Lib.hid hnums
            have HFR := Lib.hid (row_far HR.out)
            clear hnums
            subst hv9
            go_wp2_with fail
            go_ret
            refine ⟨A9, cap9, rfl, HNN.out, HB2.out.trans ((HB4.out.trans (HBL.out.mono (by have := HB4.out.size; have := HC.out; have := HB.out; omega))).mono (by have := HB2.out.size; have := HB.out; omega)), fun ad hA => ?_⟩
            subst hA
            have := HFR.out ad cap9 rfl
            have := HW4.out
            have := HC.out
            omega
  · go_enter Tryd.func18, Tryd.ntmps18
    go_wp2_with fail
    go_ret
    have hd : D = [] := by
      rw [HD.out]
      unfold downZ
      rw [if_neg (by rw [← HN.out]; exact hl)]
    subst hd
    exact ⟨none, 0, rfl, Nums.none_ _ _ _, by rw [← HW1.out]; exact HB1.out, fun a h => by cases h⟩
end Go.Proofs.YtiffgmgefpoblaaDoor
