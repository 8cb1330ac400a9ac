/-
  The walk of the statement DiskTorn: it answers true, and no memory that was there has turned. Condition: errors.errorType is laid.
-/
import Derived.Test.YtflkhbdipmjmeaaDoorDiskAwake
import Derived.Deep.QuietTactic
import Derived.BigQuiet
import Derived.Deep.DeepCutAuto
namespace Go.Proofs.YtflkhbdipmjmeaaDoor
open Go.RowKit

/-- what DiskTorn reads at last, as data -/
theorem torn_data (m : Nat) (t : Int) (was now : Pg) : pgAt ((((((Dk.new 2).write 1 was).flush).write 1 now).crash m t).up).seen 1 = if kept m 0 then now else over (leftZ t) now was := by
  show pgAt (crashK m [(1, now)] ([zeroPg, was], leftZ t) 1).1 1 = _
  rw [crashK, crashK, crashStep]
  by_cases h : kept m 0
  · rw [if_pos h, if_pos h]; rfl
  · rw [if_neg h, if_neg h]; rfl
theorem page_of_block {w : World} {b : Nat} {p : Pg} {t : TypeId} {fr : Nat × Nat} (h : w.heap[b]? = some (.cells (pgArr p) t fr)) : w.rangeAt b 0 (pgCells p) := fun j u hu => by
  rw [cell_of_row w b (0 + j) _ _ _ h, Nat.zero_add]
  simpa [pgArr] using hu
theorem kept_zero (m : Nat) : kept m 0 ↔ m % 2 = 1 := by simp [kept]

/-- a region that only reads: the world behind the draw is a letter -/
theorem wp_region_reads {P : Program} {id : Nat} {Q : Exit → Act → World → Prop} {a : Act} {w : World} {l : List Oper} (hm : P.follows .mixedOrders = true) (hB : Region.lexB .any l.toArray = true)
    (h : ∀ w1, Hid (w1 = w.drew) → wpStill P l.toArray w1 (fun a' => Q .normal a' w1) l a) : (Code.region id l.toArray true).wp P Q a w := wp_region_still_lit hm hB (h _ rfl)
/-- a guarded operation that is carried out, or isn't -/
theorem wpStill_want {P : Program} {ops : Array Oper} {w : World} {Q : Act → Prop} {a : Act} {o : Oper} {rest : List Oper} (hw : Region.wanted o (yielded ops a.tmps) = true) (h : ∀ K : Act → Prop, (∀ a, wpStill P ops w Q rest a → K a) → o.still P a w K) : wpStill P ops w Q (o :: rest) a :=
  wpStill_step fun K hK => by rw [if_pos hw]; exact h K hK
theorem wpStill_unwant {P : Program} {ops : Array Oper} {w : World} {Q : Act → Prop} {a : Act} {o : Oper} {rest : List Oper} (hw : Region.wanted o (yielded ops a.tmps) = false) (h : wpStill P ops w Q rest (a.put o.dst undef)) : wpStill P ops w Q (o :: rest) a :=
  wpStill_step fun K hK => by rw [if_neg (by rw [hw]; decide)]; exact hK _ h
def TornRel (wx : World) (i : Value) (wr : World) : Prop := ∃ j q : Nat, j ≤ 128 ∧ i = .int .i64 (j : Int) ∧ wr = wx.drewN q
set_option maxRecDepth 100000 in
set_option maxHeartbeats 4000000 in
theorem torn_walk (was now : Pg) (m t : Nat) (hw : was.length = 128) (hn : now.length = 128) (hm : m < 4294967296) (ht : t < 256) (w : World) (hg : Laid w) :
    Calls Tryd.prog 5 #[pgV was, pgV now, .int .u32 (m : Int), .int .u8 (t : Int)] w fun e w' => e = .returned (.bool true) ∧ Below w.heap.size w w' := by
  have HG := Lib.hid hg
  have HW := Lib.hid hw
  have HN := Lib.hid hn
  clear hg hw hn
  have hz := Tryd.zeroPage
  obtain ⟨B, HBB⟩ : ∃ B, Hid (B = w.heap.size) := ⟨_, Lib.hid rfl⟩
  rw [← HBB.out]
  go_enter Tryd.func5, Tryd.ntmps5
  go_wp2_with fail
  obtain ⟨w1, HW1⟩ : ∃ w1, Hid (w1 = (w.alloc (.cells (pgArr was) 36)).alloc (.cells (pgArr now) 36)) := ⟨_, Lib.hid rfl⟩
  rw [← HW1.out]
  obtain ⟨b4, HB4⟩ : ∃ b4, Hid (b4 = w.heap.size) := ⟨_, Lib.hid rfl⟩
  have hw1 : w1.heap[w.heap.size]? = some (.cells (pgArr was) 36 (0, 0)) := by rw [HW1.out, Below.heap_alloc _ _ _ (by simp)]; exact heap_alloc_last w _
  have hn1 : w1.heap[w.heap.size + 1]? = some (.cells (pgArr now) 36 (0, 0)) := by
    rw [HW1.out]
    have := heap_alloc_last (w.alloc (.cells (pgArr was) 36)) (.cells (pgArr now) 36)
    rw [show (w.alloc (.cells (pgArr was) 36)).heap.size = w.heap.size + 1 by simp] at this
    exact this
  have HS1 : Hid (w1.heap.size = B + 2) := Lib.hid (by rw [HW1.out, HBB.out]; simp)
  have HB1 : Hid (Below B w w1) := Lib.hid (by rw [HW1.out, HBB.out]; exact ((Below.refl _ _).alloc (Nat.le_refl _) _).alloc (by simp) _)
  have HG1 : Hid (Laid w1) := Lib.hid (HG.out.carry (by rw [← HBB.out]; exact HB1.out))
  rw [← HBB.out] at hw1 hn1 ⊢
  have HWB := Lib.hid hw1
  have HNB := Lib.hid hn1
  clear hw1 hn1 HB4
  refine (awake_any _ HG1.out).mono ?_
  rintro e w2 ⟨rfl, hb⟩
  have HW2 : Hid (w2.heap[B]? = some (.cells (pgArr was) 36 (0, 0))) := Lib.hid ((hb.block B (by have := HS1.out; omega)).trans HWB.out)
  have HN2 : Hid (w2.heap[B + 1]? = some (.cells (pgArr now) 36 (0, 0))) := Lib.hid ((hb.block (B + 1) (by have := HS1.out; omega)).trans HNB.out)
  have HB2 : Hid (Below B w w2) := Lib.hid (HB1.out.trans (hb.mono (by have := HS1.out; omega)))
  have HS2 : Hid (B + 2 ≤ w2.heap.size) := Lib.hid (by have := HS1.out; have := hb.size; omega)
  clear hb
  go_wp2_with fail
  refine (New_yes 2 (by decide) (by decide) _).mono ?_
  obtain ⟨N, HNN⟩ : ∃ N, Hid (N = w2.heap.size) := ⟨_, Lib.hid rfl⟩
  rw [show NewPost 2 w2 = fun e w' => ∃ D, e = .returned (.tuple #[.pointer (some ⟨D, 0, none⟩), .nilIface]) ∧ DiskAt (· < N) w' D 2 (Dk.new 2) ∧ Below N w2 w' by rw [HNN.out]; rfl]
  rintro e w3 ⟨D, rfl, hd, hb⟩
  have HD := Lib.hid hd
  have HK : Hid (Kept (· < N) w2 w3) := Lib.hid (Kept.of_below hb (fun _ h => h))
  have HT : Hid (There (· < N) w2) := Lib.hid (fun k hk => by rw [← HNN.out]; exact hk)
  have HBN : Hid (B + 2 ≤ N) := Lib.hid (by rw [HNN.out]; exact HS2.out)
  clear hd hb
  go_wp2_with (with_reducible refine stop_at (o := ⟨some 25, _, _, _, _, _⟩) ?_)
  refine wpList_load_page rfl _ _ rfl B 0 rfl was HW.out (page_of_block ((HK.out.block B (by have := HBN.out; omega)).trans HW2.out)) _ Tryd.underlying36 rfl Tryd.pageSize ?_
  go_wp2_with fail
  refine (Write_yes (i := 1) HD.out (HT.out.kept HK.out) rfl (by decide) HW.out (by decide)).mono ?_
  rintro e w4 ⟨rfl, hd, hk⟩
  have HD4 := Lib.hid hd
  have HK4 := Lib.hid (HK.out.trans hk)
  clear hd hk HD HK
  go_wp2_with fail
  refine (Flush_yes HD4.out rfl).mono ?_
  rintro e w5 ⟨rfl, hd, hk⟩
  have HD5 := Lib.hid hd
  have HK5 := Lib.hid (HK4.out.trans hk)
  clear hd hk HD4 HK4
  go_wp2_with (with_reducible refine stop_at (o := ⟨some 30, _, _, _, _, _⟩) ?_)
  refine wpList_load_page rfl _ _ rfl (B + 1) 0 rfl now HN.out (page_of_block ((HK5.out.block (B + 1) (by have := HBN.out; omega)).trans HN2.out)) _ Tryd.underlying36 rfl Tryd.pageSize ?_
  go_wp2_with fail
  refine (Write_yes (i := 1) HD5.out (HT.out.kept HK5.out) rfl (by decide) HN.out (by show 0 ≤ 1000000; decide)).mono ?_
  rintro e w6 ⟨rfl, hd, hk⟩
  have HD6 := Lib.hid hd
  have HK6 := Lib.hid (HK5.out.trans hk)
  clear hd hk HD5 HK5
  go_wp2_with fail
  refine (Crash_yes (m := m) (t := (t : Int)) hm HD6.out (HT.out.kept HK6.out) (by show 1 ≤ 1000000; decide) (by omega)).mono ?_
  rintro e w7 ⟨rfl, hd, hk⟩
  have HD7 := Lib.hid hd
  have HK7 := Lib.hid (HK6.out.trans hk)
  clear hd hk HD6 HK6
  go_wp2_with fail
  refine (Up_any HD7.out).mono ?_
  rintro e w8 ⟨rfl, hd, hk⟩
  have HD8 := Lib.hid hd
  have HK8 := Lib.hid (HK7.out.trans hk)
  clear hd hk HD7 HK7
  go_wp2_with fail
  refine (Read_any HD8.out 1).mono ?_
  rw [show codeZ ((((((Dk.new 2).write 1 was).flush).write 1 now).crash m t).up).down 2 1 = 0 from rfl, if_pos rfl, show (1 : Int).toNat = 1 from rfl, torn_data]
  obtain ⟨r, HRR⟩ : ∃ r, Hid (r = if kept m 0 then now else over (leftZ t) now was) := ⟨_, Lib.hid rfl⟩
  rw [← HRR.out]
  have HRL : Hid (r.length = 128) := Lib.hid (by
    rw [HRR.out]
    split
    · exact HN.out
    · exact over_length HN.out HW.out (Nat.le_of_lt (leftZ_le _)))
  rintro e w9 ⟨v', rfl, he, hb⟩
  obtain rfl := he.zero
  have HB9 := Lib.hid hb
  clear he hb
  go_wp2_with (with_reducible refine stop_at (o := ⟨none, _, _, _, _, _⟩) ?_)
  refine wpList_store_last rfl _ _ _ rfl (pgArr zeroPg) (pgArr r) _ rfl rfl rfl (by rw [pgArr_size, HRL.out]; exact Tryd.pageSize) (by rw [pgArr_size, pgArr_size, HRL.out]; rfl) (pgArr_all _) ?_
  obtain ⟨wx, HWX⟩ : ∃ wx, Hid (wx = w9.alloc (.cells (pgArr r) 36)) := ⟨_, Lib.hid rfl⟩
  obtain ⟨bx, HBX⟩ : ∃ bx, Hid (bx = w9.heap.size) := ⟨_, Lib.hid rfl⟩
  rw [← HWX.out, ← HBX.out]
  have hbx : wx.heap[bx]? = some (.cells (pgArr r) 36 (0, 0)) := by rw [HWX.out, HBX.out]; exact heap_alloc_last w9 _
  have hbb : Below w9.heap.size w9 wx := by rw [HWX.out]; exact (Below.refl _ _).alloc (Nat.le_refl _) _
  have HKX : Hid (Kept (· < N) w2 wx) := Lib.hid (HK8.out.trans (Kept.of_below (HB9.out.trans (hbb.mono HB9.out.size)) (fun k hk => HT.out.kept HK8.out k hk)))
  have HXR := Lib.hid hbx
  have HXW : Hid (wx.heap[B]? = some (.cells (pgArr was) 36 (0, 0))) := Lib.hid ((HKX.out.block B (by have := HBN.out; omega)).trans HW2.out)
  have HXN : Hid (wx.heap[B + 1]? = some (.cells (pgArr now) 36 (0, 0))) := Lib.hid ((HKX.out.block (B + 1) (by have := HBN.out; omega)).trans HN2.out)
  have HXB : Hid (Below B w wx) := Lib.hid (HB2.out.trans (HKX.out.below (fun k hk => by have := HBN.out; omega)))
  clear hbx hbb HB9 HK8 HD8 HWX hz
  go_wp2_with fail
  refine (Num_nil _).mono ?_
  rintro e w' ⟨rfl, rfl⟩
  go_wp2_with fail
  refine (Num_nil _).mono ?_
  rintro e w' ⟨rfl, rfl⟩
  go_wp2_with fail
  refine (Num_nil _).mono ?_
  rintro e w' ⟨rfl, rfl⟩
  go_wp2_with fail
  refine (Num_nil _).mono ?_
  rintro e w' ⟨rfl, rfl⟩
  go_wp2_with fail
  refine (Num_nil _).mono ?_
  rintro e w' ⟨rfl, rfl⟩
  by_cases hk : m % 2 = 1
  · have hr : r = now := by rw [HRR.out, if_pos ((kept_zero m).2 hk)]
    subst hr
    have hmk : ((m : Int) % 2 == 1) = true := by simp; omega
    clear hk
    go_wp2_with (with_reducible refine stop_at (o := ⟨some 70, _, _, _, _, _⟩) ?_)
    refine wpList_load_page rfl _ _ rfl bx 0 rfl r HRL.out (page_of_block HXR.out) _ Tryd.underlying36 rfl Tryd.pageSize ?_
    refine wpList_load_page rfl _ _ rfl (B + 1) 0 rfl r HRL.out (page_of_block HXN.out) _ Tryd.underlying36 rfl Tryd.pageSize ?_
    have heq := equalIn_page r HRL.out
    have hgp := guardPage
    go_wp2_with fail
    go_ret
    exact ⟨rfl, HXB.out⟩
  · have hr : r = over (leftZ t) now was := by rw [HRR.out, if_neg (fun h => hk ((kept_zero m).1 h))]
    have HR := Lib.hid hr
    have hmk : ((m : Int) % 2 == 1) = false := by simp; omega
    clear hk hr
    obtain ⟨kk, HKK⟩ : ∃ kk, Hid (kk = leftZ t) := ⟨_, Lib.hid rfl⟩
    have hkt : (t : Int) % 128 = (kk : Int) := by rw [HKK.out]; unfold leftZ; rw [if_neg (by omega)]; omega
    have hk1 : kk < 128 := by rw [HKK.out]; exact leftZ_le _
    rw [← HKK.out] at HR
    have HKT := Lib.hid hkt
    clear hkt
    go_upto_region 15 with fail
    rw [HKT.out]
    go_wp2_with fail
    go_loopw [17] (fun i wr => TornRel wx i wr) (fun i _ => 128 - (intOf i).toNat)
    case atStart => exact ⟨0, 0, by decide, rfl, rfl⟩
    case round =>
      obtain ⟨j, q, hj, rfl, rfl⟩ := hrel
      by_cases hlt : j < 128
      · have hrj : j < r.length := by rw [HRL.out]; exact hlt
        obtain ⟨x, HX⟩ : ∃ x, Hid (r[j]? = some x) := ⟨_, Lib.hid (List.getElem?_eq_getElem hrj)⟩
        have c0 : (wx.drewN q).cell? ⟨bx, j, none⟩ = some (.int .u8 x) := by
          have := page_of_block HXR.out j _ (pgCells_at HX.out)
          rw [Nat.zero_add] at this
          exact this
        by_cases hjk : j < kk
        · have hn : now[j]? = some x := by
            rw [← HX.out, HR.out]
            unfold over
            rw [List.getElem?_append_left (by rw [List.length_take, HN.out]; omega), List.getElem?_take, if_pos hjk]
          have c1 : (wx.drewN q).cell? ⟨B + 1, j, none⟩ = some (.int .u8 x) := by
            have := page_of_block HXN.out j _ (pgCells_at hn)
            rw [Nat.zero_add] at this
            exact this
          have hd1 : decide (j < kk) = true := by simpa using hjk
          have hd2 : decide (kk ≤ j) = false := by simpa using hjk
          clear hn
          go_wp2_with fail
          refine wp_region_held (S := fun w' => w'.cell? ⟨bx, j, none⟩ = some (.int .u8 x) ∧ w'.cell? ⟨B + 1, j, none⟩ = some (.int .u8 x)) (by kernel_rfl) ?_
          have hS : (wx.drewN (q + 1)).cell? ⟨bx, j, none⟩ = some (.int .u8 x) ∧ (wx.drewN (q + 1)).cell? ⟨B + 1, j, none⟩ = some (.int .u8 x) := ⟨c0, c1⟩
          clear c0 c1
          obtain ⟨w2, HW2⟩ : ∃ w2, Hid (w2 = wx.drewN (q + 1)) := ⟨_, Lib.hid rfl⟩
          rw [← HW2.out] at hS
          change wpAnyH _ _ _ _ _ _ _ _ (wx.drewN (q + 1))
          rw [← HW2.out]
          refine takeH (i := 0) 80 (v := .int .i64 (j : Int)) rfl (by kernel_rfl) (by kernel_rfl) (by kernel_rfl) rfl (fun _ _ _ h => h) (.inl ⟨by rfl, fun _ _ => by go_simp⟩) hS ?_
          simp only [Act.put, List.setIfInBounds_toArray, List.set_cons_zero, List.set_cons_succ]
          refine takeH (i := 1) 81 (v := .int .i64 (kk : Int)) rfl (by kernel_rfl) (by kernel_rfl) (by kernel_rfl) rfl (fun _ _ _ h => h) (.inl ⟨by rfl, fun _ _ => by go_simp⟩) hS ?_
          simp only [Act.put, List.setIfInBounds_toArray, List.set_cons_zero, List.set_cons_succ]
          refine takeH (i := 2) 82 (v := .bool true) rfl (by kernel_rfl) (by kernel_rfl) (by kernel_rfl) rfl (fun _ _ _ h => h) (.inl ⟨by rfl, fun _ _ => by go_simp⟩) hS ?_
          simp only [Act.put, List.setIfInBounds_toArray, List.set_cons_zero, List.set_cons_succ]
          refine takeH (i := 3) 83 (v := .bool true) rfl (by kernel_rfl) (by kernel_rfl) (by kernel_rfl) rfl (fun _ _ _ h => h) (.inl ⟨by rfl, fun _ _ => by go_simp⟩) hS ?_
          simp only [Act.put, List.setIfInBounds_toArray, List.set_cons_zero, List.set_cons_succ]
          refine takeH (i := 4) 84 (v := .int .i64 (j : Int)) rfl (by kernel_rfl) (by kernel_rfl) (by kernel_rfl) rfl (fun _ _ _ h => h) (.inl ⟨by rfl, fun _ _ => by go_simp⟩) hS ?_
          simp only [Act.put, List.setIfInBounds_toArray, List.set_cons_zero, List.set_cons_succ]
          refine takeH (i := 5) 85 (v := .pointer (some ⟨bx, j, none⟩)) rfl (by kernel_rfl) (by kernel_rfl) (by kernel_rfl) rfl (fun _ _ _ h => h) (.inl ⟨by rfl, fun _ _ => by go_simp⟩) hS ?_
          simp only [Act.put, List.setIfInBounds_toArray, List.set_cons_zero, List.set_cons_succ]
          refine takeH (i := 6) 86 (v := .int .u8 x) rfl (by kernel_rfl) (by kernel_rfl) (by kernel_rfl) rfl (fun _ _ _ h => h) (.inl ⟨by rfl, fun _ hw => by obtain ⟨e1, e2⟩ := hw; go_simp⟩) hS ?_
          simp only [Act.put, List.setIfInBounds_toArray, List.set_cons_zero, List.set_cons_succ]
          refine takeH (i := 7) 87 (v := .int .i64 (j : Int)) rfl (by kernel_rfl) (by kernel_rfl) (by kernel_rfl) rfl (fun _ _ _ h => h) (.inl ⟨by rfl, fun _ _ => by go_simp⟩) hS ?_
          simp only [Act.put, List.setIfInBounds_toArray, List.set_cons_zero, List.set_cons_succ]
          refine takeH (i := 8) 88 (v := .pointer (some ⟨B + 1, j, none⟩)) rfl (by kernel_rfl) (by kernel_rfl) (by kernel_rfl) rfl (fun _ _ _ h => h) (.inl ⟨by rfl, fun _ _ => by go_simp⟩) hS ?_
          simp only [Act.put, List.setIfInBounds_toArray, List.set_cons_zero, List.set_cons_succ]
          refine takeH (i := 9) 89 (v := .int .u8 x) rfl (by kernel_rfl) (by kernel_rfl) (by kernel_rfl) rfl (fun _ _ _ h => h) (.inl ⟨by rfl, fun _ hw => by obtain ⟨e1, e2⟩ := hw; go_simp⟩) hS ?_
          simp only [Act.put, List.setIfInBounds_toArray, List.set_cons_zero, List.set_cons_succ]
          refine takeH (i := 10) 90 (v := .bool false) rfl (by kernel_rfl) (by kernel_rfl) (by kernel_rfl) rfl (fun _ _ _ h => h) (.inl ⟨by rfl, fun _ _ => by go_simp⟩) hS ?_
          simp only [Act.put, List.setIfInBounds_toArray, List.set_cons_zero, List.set_cons_succ]
          refine takeH (i := 11) 91 (v := .bool false) rfl (by kernel_rfl) (by kernel_rfl) (by kernel_rfl) rfl (fun _ _ _ h => h) (.inl ⟨by rfl, fun _ _ => by go_simp⟩) hS ?_
          simp only [Act.put, List.setIfInBounds_toArray, List.set_cons_zero, List.set_cons_succ]
          refine takeH (i := 12) 92 (v := .bool false) rfl (by kernel_rfl) (by kernel_rfl) (by kernel_rfl) rfl (fun _ _ _ h => h) (.inl ⟨by rfl, fun _ _ => by go_simp⟩) hS ?_
          simp only [Act.put, List.setIfInBounds_toArray, List.set_cons_zero, List.set_cons_succ]
          refine takeH (i := 13) 93 (v := .int .i64 (j : Int)) rfl (by kernel_rfl) (by kernel_rfl) (by kernel_rfl) rfl (fun _ _ _ h => h) (.inl ⟨by rfl, fun _ _ => by go_simp⟩) hS ?_
          simp only [Act.put, List.setIfInBounds_toArray, List.set_cons_zero, List.set_cons_succ]
          refine takeH (i := 14) 94 (v := .int .i64 (kk : Int)) rfl (by kernel_rfl) (by kernel_rfl) (by kernel_rfl) rfl (fun _ _ _ h => h) (.inl ⟨by rfl, fun _ _ => by go_simp⟩) hS ?_
          simp only [Act.put, List.setIfInBounds_toArray, List.set_cons_zero, List.set_cons_succ]
          refine takeH (i := 15) 95 (v := .bool false) rfl (by kernel_rfl) (by kernel_rfl) (by kernel_rfl) rfl (fun _ _ _ h => h) (.inl ⟨by rfl, fun _ _ => by go_simp⟩) hS ?_
          simp only [Act.put, List.setIfInBounds_toArray, List.set_cons_zero, List.set_cons_succ]
          refine takeH (i := 16) 96 (v := .bool false) rfl (by kernel_rfl) (by kernel_rfl) (by kernel_rfl) rfl (fun _ _ _ h => h) (.inl ⟨by rfl, fun _ _ => by go_simp⟩) hS ?_
          simp only [Act.put, List.setIfInBounds_toArray, List.set_cons_zero, List.set_cons_succ]
          refine takeH (i := 17) 97 (v := undef) rfl (by kernel_rfl) (by kernel_rfl) (by kernel_rfl) rfl (fun _ _ _ h => h) (.inr ⟨by rfl, rfl⟩) hS ?_
          simp only [Act.put, List.setIfInBounds_toArray, List.set_cons_zero, List.set_cons_succ]
          refine takeH (i := 18) 98 (v := undef) rfl (by kernel_rfl) (by kernel_rfl) (by kernel_rfl) rfl (fun _ _ _ h => h) (.inr ⟨by rfl, rfl⟩) hS ?_
          simp only [Act.put, List.setIfInBounds_toArray, List.set_cons_zero, List.set_cons_succ]
          refine takeH (i := 19) 99 (v := undef) rfl (by kernel_rfl) (by kernel_rfl) (by kernel_rfl) rfl (fun _ _ _ h => h) (.inr ⟨by rfl, rfl⟩) hS ?_
          simp only [Act.put, List.setIfInBounds_toArray, List.set_cons_zero, List.set_cons_succ]
          refine takeH (i := 20) 100 (v := undef) rfl (by kernel_rfl) (by kernel_rfl) (by kernel_rfl) rfl (fun _ _ _ h => h) (.inr ⟨by rfl, rfl⟩) hS ?_
          simp only [Act.put, List.setIfInBounds_toArray, List.set_cons_zero, List.set_cons_succ]
          refine takeH (i := 21) 101 (v := undef) rfl (by kernel_rfl) (by kernel_rfl) (by kernel_rfl) rfl (fun _ _ _ h => h) (.inr ⟨by rfl, rfl⟩) hS ?_
          simp only [Act.put, List.setIfInBounds_toArray, List.set_cons_zero, List.set_cons_succ]
          refine takeH (i := 22) 102 (v := undef) rfl (by kernel_rfl) (by kernel_rfl) (by kernel_rfl) rfl (fun _ _ _ h => h) (.inr ⟨by rfl, rfl⟩) hS ?_
          simp only [Act.put, List.setIfInBounds_toArray, List.set_cons_zero, List.set_cons_succ]
          refine takeH (i := 23) 103 (v := undef) rfl (by kernel_rfl) (by kernel_rfl) (by kernel_rfl) rfl (fun _ _ _ h => h) (.inr ⟨by rfl, rfl⟩) hS ?_
          simp only [Act.put, List.setIfInBounds_toArray, List.set_cons_zero, List.set_cons_succ]
          refine takeH (i := 24) 104 (v := .bool false) rfl (by kernel_rfl) (by kernel_rfl) (by kernel_rfl) rfl (fun _ _ _ h => h) (.inl ⟨by rfl, fun _ _ => by go_simp⟩) hS ?_
          simp only [Act.put, List.setIfInBounds_toArray, List.set_cons_zero, List.set_cons_succ]
          refine takeH (i := 25) 105 (v := .bool false) rfl (by kernel_rfl) (by kernel_rfl) (by kernel_rfl) rfl (fun _ _ _ h => h) (.inl ⟨by rfl, fun _ _ => by go_simp⟩) hS ?_
          simp only [Act.put, List.setIfInBounds_toArray, List.set_cons_zero, List.set_cons_succ]
          refine wpAnyH_done (by kernel_rfl) ?_ _
          go_wp2_with fail
          go_roundw
          case rel => exact ⟨j + 1, q + 1, hlt, by go_num, HW2.out⟩
          case measure => simp [intOf]; omega
        · have hn : was[j]? = some x := by
            rw [← HX.out, HR.out]
            unfold over
            have ht : (now.take kk).length = kk := by rw [List.length_take, HN.out]; omega
            rw [List.getElem?_append_right (by rw [ht]; omega), ht, List.getElem?_drop]
            congr 1
            omega
          have c1 : (wx.drewN q).cell? ⟨B, j, none⟩ = some (.int .u8 x) := by
            have := page_of_block HXW.out j _ (pgCells_at hn)
            rw [Nat.zero_add] at this
            exact this
          have hd1 : decide (j < kk) = false := by simpa using hjk
          have hd2 : decide (kk ≤ j) = true := by simp; omega
          clear hn
          go_wp2_with fail
          refine wp_region_held (S := fun w' => w'.cell? ⟨bx, j, none⟩ = some (.int .u8 x) ∧ w'.cell? ⟨B, j, none⟩ = some (.int .u8 x)) (by kernel_rfl) ?_
          have hS : (wx.drewN (q + 1)).cell? ⟨bx, j, none⟩ = some (.int .u8 x) ∧ (wx.drewN (q + 1)).cell? ⟨B, j, none⟩ = some (.int .u8 x) := ⟨c0, c1⟩
          clear c0 c1
          obtain ⟨w2, HW2⟩ : ∃ w2, Hid (w2 = wx.drewN (q + 1)) := ⟨_, Lib.hid rfl⟩
          rw [← HW2.out] at hS
          change wpAnyH _ _ _ _ _ _ _ _ (wx.drewN (q + 1))
          rw [← HW2.out]
          refine takeH (i := 0) 80 (v := .int .i64 (j : Int)) rfl (by kernel_rfl) (by kernel_rfl) (by kernel_rfl) rfl (fun _ _ _ h => h) (.inl ⟨by rfl, fun _ _ => by go_simp⟩) hS ?_
          simp only [Act.put, List.setIfInBounds_toArray, List.set_cons_zero, List.set_cons_succ]
          refine takeH (i := 1) 81 (v := .int .i64 (kk : Int)) rfl (by kernel_rfl) (by kernel_rfl) (by kernel_rfl) rfl (fun _ _ _ h => h) (.inl ⟨by rfl, fun _ _ => by go_simp⟩) hS ?_
          simp only [Act.put, List.setIfInBounds_toArray, List.set_cons_zero, List.set_cons_succ]
          refine takeH (i := 2) 82 (v := .bool false) rfl (by kernel_rfl) (by kernel_rfl) (by kernel_rfl) rfl (fun _ _ _ h => h) (.inl ⟨by rfl, fun _ _ => by go_simp⟩) hS ?_
          simp only [Act.put, List.setIfInBounds_toArray, List.set_cons_zero, List.set_cons_succ]
          refine takeH (i := 3) 83 (v := .bool false) rfl (by kernel_rfl) (by kernel_rfl) (by kernel_rfl) rfl (fun _ _ _ h => h) (.inl ⟨by rfl, fun _ _ => by go_simp⟩) hS ?_
          simp only [Act.put, List.setIfInBounds_toArray, List.set_cons_zero, List.set_cons_succ]
          refine takeH (i := 4) 84 (v := undef) rfl (by kernel_rfl) (by kernel_rfl) (by kernel_rfl) rfl (fun _ _ _ h => h) (.inr ⟨by rfl, rfl⟩) hS ?_
          simp only [Act.put, List.setIfInBounds_toArray, List.set_cons_zero, List.set_cons_succ]
          refine takeH (i := 5) 85 (v := undef) rfl (by kernel_rfl) (by kernel_rfl) (by kernel_rfl) rfl (fun _ _ _ h => h) (.inr ⟨by rfl, rfl⟩) hS ?_
          simp only [Act.put, List.setIfInBounds_toArray, List.set_cons_zero, List.set_cons_succ]
          refine takeH (i := 6) 86 (v := undef) rfl (by kernel_rfl) (by kernel_rfl) (by kernel_rfl) rfl (fun _ _ _ h => h) (.inr ⟨by rfl, rfl⟩) hS ?_
          simp only [Act.put, List.setIfInBounds_toArray, List.set_cons_zero, List.set_cons_succ]
          refine takeH (i := 7) 87 (v := undef) rfl (by kernel_rfl) (by kernel_rfl) (by kernel_rfl) rfl (fun _ _ _ h => h) (.inr ⟨by rfl, rfl⟩) hS ?_
          simp only [Act.put, List.setIfInBounds_toArray, List.set_cons_zero, List.set_cons_succ]
          refine takeH (i := 8) 88 (v := undef) rfl (by kernel_rfl) (by kernel_rfl) (by kernel_rfl) rfl (fun _ _ _ h => h) (.inr ⟨by rfl, rfl⟩) hS ?_
          simp only [Act.put, List.setIfInBounds_toArray, List.set_cons_zero, List.set_cons_succ]
          refine takeH (i := 9) 89 (v := undef) rfl (by kernel_rfl) (by kernel_rfl) (by kernel_rfl) rfl (fun _ _ _ h => h) (.inr ⟨by rfl, rfl⟩) hS ?_
          simp only [Act.put, List.setIfInBounds_toArray, List.set_cons_zero, List.set_cons_succ]
          refine takeH (i := 10) 90 (v := undef) rfl (by kernel_rfl) (by kernel_rfl) (by kernel_rfl) rfl (fun _ _ _ h => h) (.inr ⟨by rfl, rfl⟩) hS ?_
          simp only [Act.put, List.setIfInBounds_toArray, List.set_cons_zero, List.set_cons_succ]
          refine takeH (i := 11) 91 (v := .bool false) rfl (by kernel_rfl) (by kernel_rfl) (by kernel_rfl) rfl (fun _ _ _ h => h) (.inl ⟨by rfl, fun _ _ => by go_simp⟩) hS ?_
          simp only [Act.put, List.setIfInBounds_toArray, List.set_cons_zero, List.set_cons_succ]
          refine takeH (i := 12) 92 (v := .bool false) rfl (by kernel_rfl) (by kernel_rfl) (by kernel_rfl) rfl (fun _ _ _ h => h) (.inl ⟨by rfl, fun _ _ => by go_simp⟩) hS ?_
          simp only [Act.put, List.setIfInBounds_toArray, List.set_cons_zero, List.set_cons_succ]
          refine takeH (i := 13) 93 (v := .int .i64 (j : Int)) rfl (by kernel_rfl) (by kernel_rfl) (by kernel_rfl) rfl (fun _ _ _ h => h) (.inl ⟨by rfl, fun _ _ => by go_simp⟩) hS ?_
          simp only [Act.put, List.setIfInBounds_toArray, List.set_cons_zero, List.set_cons_succ]
          refine takeH (i := 14) 94 (v := .int .i64 (kk : Int)) rfl (by kernel_rfl) (by kernel_rfl) (by kernel_rfl) rfl (fun _ _ _ h => h) (.inl ⟨by rfl, fun _ _ => by go_simp⟩) hS ?_
          simp only [Act.put, List.setIfInBounds_toArray, List.set_cons_zero, List.set_cons_succ]
          refine takeH (i := 15) 95 (v := .bool true) rfl (by kernel_rfl) (by kernel_rfl) (by kernel_rfl) rfl (fun _ _ _ h => h) (.inl ⟨by rfl, fun _ _ => by go_simp⟩) hS ?_
          simp only [Act.put, List.setIfInBounds_toArray, List.set_cons_zero, List.set_cons_succ]
          refine takeH (i := 16) 96 (v := .bool true) rfl (by kernel_rfl) (by kernel_rfl) (by kernel_rfl) rfl (fun _ _ _ h => h) (.inl ⟨by rfl, fun _ _ => by go_simp⟩) hS ?_
          simp only [Act.put, List.setIfInBounds_toArray, List.set_cons_zero, List.set_cons_succ]
          refine takeH (i := 17) 97 (v := .int .i64 (j : Int)) rfl (by kernel_rfl) (by kernel_rfl) (by kernel_rfl) rfl (fun _ _ _ h => h) (.inl ⟨by rfl, fun _ _ => by go_simp⟩) hS ?_
          simp only [Act.put, List.setIfInBounds_toArray, List.set_cons_zero, List.set_cons_succ]
          refine takeH (i := 18) 98 (v := .pointer (some ⟨bx, j, none⟩)) rfl (by kernel_rfl) (by kernel_rfl) (by kernel_rfl) rfl (fun _ _ _ h => h) (.inl ⟨by rfl, fun _ _ => by go_simp⟩) hS ?_
          simp only [Act.put, List.setIfInBounds_toArray, List.set_cons_zero, List.set_cons_succ]
          refine takeH (i := 19) 99 (v := .int .u8 x) rfl (by kernel_rfl) (by kernel_rfl) (by kernel_rfl) rfl (fun _ _ _ h => h) (.inl ⟨by rfl, fun _ hw => by obtain ⟨e1, e2⟩ := hw; go_simp⟩) hS ?_
          simp only [Act.put, List.setIfInBounds_toArray, List.set_cons_zero, List.set_cons_succ]
          refine takeH (i := 20) 100 (v := .int .i64 (j : Int)) rfl (by kernel_rfl) (by kernel_rfl) (by kernel_rfl) rfl (fun _ _ _ h => h) (.inl ⟨by rfl, fun _ _ => by go_simp⟩) hS ?_
          simp only [Act.put, List.setIfInBounds_toArray, List.set_cons_zero, List.set_cons_succ]
          refine takeH (i := 21) 101 (v := .pointer (some ⟨B, j, none⟩)) rfl (by kernel_rfl) (by kernel_rfl) (by kernel_rfl) rfl (fun _ _ _ h => h) (.inl ⟨by rfl, fun _ _ => by go_simp⟩) hS ?_
          simp only [Act.put, List.setIfInBounds_toArray, List.set_cons_zero, List.set_cons_succ]
          refine takeH (i := 22) 102 (v := .int .u8 x) rfl (by kernel_rfl) (by kernel_rfl) (by kernel_rfl) rfl (fun _ _ _ h => h) (.inl ⟨by rfl, fun _ hw => by obtain ⟨e1, e2⟩ := hw; go_simp⟩) hS ?_
          simp only [Act.put, List.setIfInBounds_toArray, List.set_cons_zero, List.set_cons_succ]
          refine takeH (i := 23) 103 (v := .bool false) rfl (by kernel_rfl) (by kernel_rfl) (by kernel_rfl) rfl (fun _ _ _ h => h) (.inl ⟨by rfl, fun _ _ => by go_simp⟩) hS ?_
          simp only [Act.put, List.setIfInBounds_toArray, List.set_cons_zero, List.set_cons_succ]
          refine takeH (i := 24) 104 (v := .bool false) rfl (by kernel_rfl) (by kernel_rfl) (by kernel_rfl) rfl (fun _ _ _ h => h) (.inl ⟨by rfl, fun _ _ => by go_simp⟩) hS ?_
          simp only [Act.put, List.setIfInBounds_toArray, List.set_cons_zero, List.set_cons_succ]
          refine takeH (i := 25) 105 (v := .bool false) rfl (by kernel_rfl) (by kernel_rfl) (by kernel_rfl) rfl (fun _ _ _ h => h) (.inl ⟨by rfl, fun _ _ => by go_simp⟩) hS ?_
          simp only [Act.put, List.setIfInBounds_toArray, List.set_cons_zero, List.set_cons_succ]
          refine wpAnyH_done (by kernel_rfl) ?_ _
          go_wp2_with fail
          go_roundw
          case rel => exact ⟨j + 1, q + 1, hlt, by go_num, HW2.out⟩
          case measure => simp [intOf]; omega
      · go_wp2_with fail
        go_ret
        exact ⟨rfl, HXB.out.trans ⟨rfl, rfl, rfl, Nat.le_refl _, fun _ _ => rfl⟩⟩
end Go.Proofs.YtflkhbdipmjmeaaDoor
