/-
  The walk of the statement DiskLast: it answers true, and no memory that was there has turned. Condition: errors.errorType is laid.
-/
import Derived.Test.YtflkhbdipmjmeaaDoorDiskTwiceWalk
namespace Go.Proofs.YtflkhbdipmjmeaaDoor
open Go.RowKit

/-- the writes of acts keep a disk one, and in step with the document -/
theorem wroteK_ok {n : Nat} {d : Dk} {l : List ActD} (h8 : n = 8) (h : d.Ok n) (hs : d.Sync) (hl : ∀ x ∈ l, x.page.length = 128) : ∀ k, (wroteK d l k).Ok n ∧ (wroteK d l k).Sync
  | 0 => ⟨h, hs⟩
  | k + 1 => by
    have ih := wroteK_ok h8 h hs hl k
    rw [wroteK]
    split
    · rename_i x hx
      have hx' := hl x (List.mem_of_getElem? hx)
      exact ⟨ih.1.write (by rw [h8]; exact secZ_lt _) hx', Dk.Sync.write ih.1 ih.2 (by rw [h8]; exact secZ_lt _) _⟩
    · exact ih
theorem Acts.lens {w : World} {A : Option Addr} {l : List ActD} (h : Acts w A l) : ∀ x ∈ l, x.page.length = 128 := fun x hx => by
  obtain ⟨i, hi, rfl⟩ := List.mem_iff_getElem.1 hx
  obtain ⟨b, o, _, _, ha⟩ := h.at_ hi
  exact ha.len
/-- all kept: what is read behind the crash is what was seen -/
theorem crash_all {n : Nat} {d : Dk} (h : d.Ok n) (hs : d.Sync) (t : Int) : (d.crash 4294967295 t).seen = d.seen := by
  have h1 : (d.crash 4294967295 t).seen = crashZ 4294967295 (leftZ t) d.soft d.firm := rfl
  rw [h1]
  refine ext_pgAt (by rw [crashZ_length, h.firm, h.seen]) fun i hi => ?_
  rw [crashZ_length] at hi
  rw [crashZ_all (by rw [h.firm]; exact h.fits) hi, hs i hi]
def LastRel (K : Nat → Prop) (N D b : Nat) (l : List ActD) (w2 : World) (i : Value) (wr : World) : Prop :=
  ∃ k : Nat, k ≤ l.length ∧ i = .int .i64 (k : Int) ∧ DiskAt K wr D 8 (wroteK (Dk.new 8) l k) ∧ Pages wr b (wroteK (Dk.new 8) l k).seen ∧ (∀ j, wr.frozen? ⟨b, j, none⟩ = false) ∧ Kept (· < N) w2 wr ∧ b < wr.heap.size
def SameRel (K : Nat → Prop) (D b : Nat) (d : Dk) (w5 : World) (i : Value) (wr : World) : Prop :=
  ∃ k : Nat, k ≤ 8 ∧ i = .int .i64 (k : Int) ∧ DiskAt K wr D 8 d ∧ Pages wr b d.seen ∧ Kept K w5 wr

set_option maxRecDepth 100000 in
set_option maxHeartbeats 8000000 in
theorem last_long (A : Option Addr) (cap : Nat) (l : List ActD) (w : World) (hl : 60 < l.length) (hg : Laid w) :
    Calls Tryd.prog 6 #[.slice A l.length cap] w fun e w' => e = .returned (.bool true) ∧ Below w.heap.size w w' := by
  have HG := Lib.hid hg
  clear hg
  have hd : decide ((60 : Int) < (l.length : Int)) = true := by simp; omega
  go_enter Tryd.func6, Tryd.ntmps6
  go_wp2_with fail
  refine (awake_any _ HG.out).mono ?_
  rintro e w1 ⟨rfl, hb⟩
  have HB := Lib.hid hb
  have HG1 := Lib.hid (HG.out.carry hb)
  clear hb
  go_wp2_with fail
  refine (awake_any _ HG1.out).mono ?_
  rintro e w2 ⟨rfl, hb⟩
  have HB2 := Lib.hid (HB.out.trans (hb.mono HB.out.size))
  clear hb
  go_wp2_with fail
  go_ret
  exact ⟨rfl, HB2.out⟩

set_option maxRecDepth 100000 in
set_option maxHeartbeats 8000000 in
theorem last_short (A : Option Addr) (cap : Nat) (l : List ActD) (w : World) (hl : l.length ≤ 60) (ha : Acts w A l) (hg : Laid w) :
    Calls Tryd.prog 6 #[.slice A l.length cap] w fun e w' => e = .returned (.bool true) ∧ Below w.heap.size w w' := by
  have HLN := Lib.hid ha.lens
  have HG := Lib.hid hg
  have HA := Lib.hid ha
  clear hg ha
  have hz := Tryd.zeroPage
  have hd : decide ((60 : Int) < (l.length : Int)) = false := by simp; omega
  obtain ⟨Z, HZ⟩ : ∃ Z, Hid (Z = zeros8) := ⟨_, Lib.hid rfl⟩
  have hz8 : ∀ w', (zeroValue 49).run Tryd.prog w' = .ok (.agg Z) w' := by rw [HZ.out]; exact (zero_of_info Tryd.info8).1
  go_enter Tryd.func6, Tryd.ntmps6
  go_wp2_with fail
  refine (awake_any _ HG.out).mono ?_
  rintro e w2 ⟨rfl, hb⟩
  have HB := Lib.hid hb
  have HA2 := Lib.hid (HA.out.below hb)
  clear hb
  go_wp2_with fail
  refine (New_yes 8 (by decide) (by decide) _).mono ?_
  obtain ⟨N, HNN⟩ : ∃ N, Hid (N = w2.heap.size) := ⟨_, Lib.hid rfl⟩
  rw [show NewPost 8 w2 = fun e w' => ∃ D, e = .returned (.tuple #[.pointer (some ⟨D, 0, none⟩), .nilIface]) ∧ DiskAt (· < N) w' D 8 (Dk.new 8) ∧ Below N w2 w' by rw [HNN.out]; rfl]
  rintro e w5 ⟨D, rfl, hdk, hb⟩
  have HD5 := Lib.hid hdk
  have HK5 : Hid (Kept (· < N) w2 w5) := Lib.hid (Kept.of_below hb (fun _ h => h))
  have HT : Hid (There (· < N) w2) := Lib.hid (fun k hk => by rw [← HNN.out]; exact hk)
  clear hdk hb
  go_wp2_with fail
  obtain ⟨w6, HW6⟩ : ∃ w6, Hid (w6 = w5.alloc (.cells Z 49)) := ⟨_, Lib.hid rfl⟩
  obtain ⟨b, HBB⟩ : ∃ b, Hid (b = w5.heap.size) := ⟨_, Lib.hid rfl⟩
  rw [← HW6.out, ← HBB.out]
  have hb6 : w6.heap[b]? = some (.cells Z 49 (0, 0)) := by rw [HW6.out, HBB.out]; exact heap_alloc_last w5 _
  have hbl : Below w5.heap.size w5 w6 := by rw [HW6.out]; exact (Below.refl _ _).alloc (Nat.le_refl _) _
  obtain ⟨K2, HK2⟩ : ∃ K2 : Nat → Prop, Hid (K2 = fun k => k < N ∨ k = b) := ⟨_, Lib.hid rfl⟩
  have HD6 : Hid (DiskAt K2 w6 D 8 (Dk.new 8)) := Lib.hid (by
    rw [HK2.out]
    exact HD5.out.more hbl (fun k hk => by rcases hk with h | h; exact .inl h; exact .inr (by rw [h, HBB.out]; exact Nat.le_refl _)))
  have HP6 : Hid (Pages w6 b (Dk.new 8).seen) := Lib.hid (zeros_pages (by rw [← HZ.out]; exact hb6) [])
  have HF6 : Hid (∀ j, w6.frozen? ⟨b, j, none⟩ = false) := Lib.hid (fun j => frozen_of_row w6 b j _ _ hb6)
  have HK6 : Hid (Kept (· < N) w2 w6) := Lib.hid (HK5.out.trans (Kept.of_below hbl (fun k hk => HT.out.kept HK5.out k hk)))
  have HBN : Hid (N ≤ b) := Lib.hid (by rw [HBB.out, HNN.out]; exact HK5.out.size)
  have HS6 : Hid (b < w6.heap.size) := Lib.hid (by rw [HW6.out, HBB.out]; simp)
  clear hb6 hbl HD5 HK5 HW6
  go_loopw [6] (fun i wr => LastRel K2 N D b l w2 i wr) (fun i _ => l.length - (intOf i).toNat)
  case atStart => exact ⟨0, Nat.zero_le _, rfl, HD6.out, HP6.out, HF6.out, HK6.out, HS6.out⟩
  case round =>
    obtain ⟨k, hk, rfl, hdk, hpg, hfz, hkp, hbz⟩ := hrel
    have HDk := Lib.hid hdk
    have HPk := Lib.hid hpg
    have HFk := Lib.hid hfz
    have HKk := Lib.hid hkp
    have HSk := Lib.hid hbz
    clear hdk hpg hfz hkp hbz HD6 HP6 HF6 HK6 HS6
    have HTk : Hid (There K2 wr) := Lib.hid (by
      rw [HK2.out]
      intro j hj
      rcases hj with h | h
      · exact HT.out.kept HKk.out j h
      · rw [h]; exact HSk.out)
    by_cases hlt : k < l.length
    · obtain ⟨bb, o, rfl, hbl, hx⟩ := (HA2.out.kept HKk.out (fun j hj => by rw [HNN.out]; exact hj)).at_ hlt
      obtain ⟨x, HX⟩ : ∃ x, Hid (l[k]? = some x) := ⟨_, Lib.hid (List.getElem?_eq_getElem hlt)⟩
      have hxe : l[k] = x := by have := HX.out; rw [List.getElem?_eq_getElem hlt] at this; exact Option.some.inj this
      rw [hxe] at hx
      have HXA := Lib.hid hx
      have hbN : bb < N := by
        obtain ⟨b', o', e, hb', _⟩ := HA2.out.at_ hlt
        injection e with e
        injection e with e
        rw [HNN.out, e]
        exact hb'
      have hki : (k : Int) < (l.length : Int) := by omega
      have hb7 := secZ_and x.at_
      clear hx hxe hbl
      go_wp2_with fail
      refine wp_region_tail 12 (by kernel_rfl) (by kernel_rfl) (fun w4 HW4 => ?_)
      simp only [List.take_succ_cons, List.take_zero, List.drop_succ_cons, List.drop_zero]
      have c1 : w4.cell? ⟨bb, o + k * 132 + 1, none⟩ = some (.int .i64 x.at_) := by rw [HW4.out]; exact HXA.out.c1
      have HR4 : Hid (w4.rangeAt bb (o + k * 132 + 2) (pgCells x.page)) := Lib.hid (by rw [HW4.out]; exact HXA.out.c2)
      iterate 11 still_step
      refine wpStill_load_page rfl _ _ rfl bb (o + k * 132 + 2) rfl x.page HXA.out.len HR4.out _ Tryd.underlying36 rfl Tryd.pageSize ?_
      refine wpStill_nil ?_
      have HD4 : Hid (DiskAt K2 w4 D 8 (wroteK (Dk.new 8) l k)) := Lib.hid (by rw [HW4.out]; exact HDk.out.carry (Below.refl _ _).drew)
      have HK4 : Hid (Kept K2 wr w4) := Lib.hid (by rw [HW4.out]; exact (Kept.refl _ _).drew)
      clear c1
      go_wp2_with fail
      refine (Write_yes (i := secZ x.at_) HD4.out (HTk.out.kept HK4.out) (wroteK_down _ _ _) (secZ_lt _) HXA.out.len (by have := wroteK_soft (Dk.new 8) l k; simp [Dk.new] at this ⊢; omega)).mono ?_
      rw [← wroteK_succ HX.out]
      rintro e w5 ⟨rfl, hdk, hkp⟩
      have HD5 := Lib.hid hdk
      have HK5 := Lib.hid (HK4.out.trans hkp)
      clear hdk hkp HD4 HK4
      go_wp2_with fail
      refine (Num_nil _).mono ?_
      rintro e w' ⟨rfl, rfl⟩
      go_wp2_with fail
      have hin2 : K2 b := by rw [HK2.out]; exact .inr rfl
      have hinN : ∀ j, j < N → K2 j := fun j hj => by rw [HK2.out]; exact .inl hj
      have HIN := Lib.hid hinN
      have HXA5 : Hid (ActAt w5 bb (o + k * 132) x) := Lib.hid (HXA.out.carry (HK5.out.block bb (hinN bb hbN)))
      have HP5 : Hid (Pages w5 b (wroteK (Dk.new 8) l k).seen) := Lib.hid (HPk.out.carry (HK5.out.block b hin2))
      have HF5 : Hid (∀ j, w5.frozen? ⟨b, j, none⟩ = false) := Lib.hid (fun j => (HK5.out.frozen (p := ⟨b, j, none⟩) hin2).trans (HFk.out j))
      have HS5 : Hid (b < w5.heap.size) := Lib.hid (Nat.lt_of_lt_of_le HSk.out HK5.out.size)
      clear hin2 hinN
      refine wp_region_tail 11 (by kernel_rfl) (by kernel_rfl) (fun w6 HW6 => ?_)
      simp only [List.take_succ_cons, List.take_zero, List.drop_succ_cons, List.drop_zero]
      have c1 : w6.cell? ⟨bb, o + k * 132 + 1, none⟩ = some (.int .i64 x.at_) := by rw [HW6.out]; exact HXA5.out.c1
      have HR6 : Hid (w6.rangeAt bb (o + k * 132 + 2) (pgCells x.page)) := Lib.hid (by rw [HW6.out]; exact HXA5.out.c2)
      have HP6 : Hid (Pages w6 b (wroteK (Dk.new 8) l k).seen) := Lib.hid (by rw [HW6.out]; exact HP5.out)
      have HF6 : Hid (∀ j, w6.frozen? ⟨b, j, none⟩ = false) := Lib.hid (by rw [HW6.out]; exact HF5.out)
      iterate 10 still_step
      refine wpStill_load_page rfl _ _ rfl bb (o + k * 132 + 2) rfl x.page HXA.out.len HR6.out _ Tryd.underlying36 rfl Tryd.pageSize ?_
      refine wpStill_nil ?_
      have hsz : (secZ x.at_ : Int) < 8 := by have := secZ_lt x.at_; omega
      have hsec : secZ x.at_ < (wroteK (Dk.new 8) l k).seen.length := by rw [HDk.out.ok.seen]; exact secZ_lt _
      clear c1
      go_wp2_with (with_reducible refine stop_at (o := ⟨none, _, _, _, _, _⟩) ?_)
      refine wpList_store_page rfl _ _ _ rfl b (secZ x.at_ * 128) x.page HXA.out.len rfl rfl (HP6.out.there HF6.out hsec) Tryd.pageSize (fun w7 HW7 => ?_)
      have HP7 : Hid (Pages w7 b (wroteK (Dk.new 8) l (k + 1)).seen) := Lib.hid (by rw [HW7.out, wroteK_succ HX.out]; exact HP6.out.store HF6.out hsec HXA.out.len)
      have HF7 : Hid (∀ j, w7.frozen? ⟨b, j, none⟩ = false) := Lib.hid (by rw [HW7.out]; exact frozen_setCells HF6.out _ _ _)
      have HD7 : Hid (DiskAt K2 w7 D 8 (wroteK (Dk.new 8) l (k + 1))) := Lib.hid ((HD5.out.carry (by rw [HW6.out]; exact (Below.refl _ _).drew : Below w5.heap.size w5 w6)).beside (fun j hj => by rw [HW7.out]; exact setCells_block b (fun e => hj (by rw [HK2.out, e]; exact .inr rfl)) _ _ _))
      have hbn : ¬ b < N := by have := HBN.out; omega
      have HK7 : Hid (Kept (· < N) w2 w7) := Lib.hid (by rw [HW7.out, HW6.out]; exact ((HKk.out.trans (HK5.out.mono HIN.out)).drew).setCells hbn _ _)
      have HS7 : Hid (b < w7.heap.size) := Lib.hid (by rw [HW7.out, setCells_size, HW6.out]; exact HS5.out)
      have HXA7 : Hid (ActAt w7 bb (o + k * 132) x) := Lib.hid (HXA5.out.carry (by rw [HW7.out, setCells_block b (by have := HBN.out; omega), HW6.out]; rfl))
      clear hsec hbn HP6 HF6 HP5 HF5 HS5 HD5 HXA5
      have c7 := HXA7.out.c1
      go_wp2_with fail
      refine (Read_any HD7.out (secZ x.at_ : Int)).mono ?_
      have hdn : (wroteK (Dk.new 8) l (k + 1)).down = false := wroteK_down _ _ _
      rw [hdn, codeZ_in (secZ_lt _), if_pos rfl, show ((secZ x.at_ : Nat) : Int).toNat = secZ x.at_ from by omega]
      have hpe : pgAt (wroteK (Dk.new 8) l (k + 1)).seen (secZ x.at_) = x.page := by
        rw [wroteK_succ HX.out]
        show pgAt ((wroteK (Dk.new 8) l k).seen.set (secZ x.at_) x.page) (secZ x.at_) = _
        rw [pgAt_set (by rw [HDk.out.ok.seen]; exact secZ_lt _), if_pos rfl]
      rw [hpe]
      rintro e w9 ⟨v, rfl, he, hb⟩
      obtain rfl := he.zero
      have HB9 := Lib.hid hb
      clear he hb hdn hpe c7
      go_wp2_with (with_reducible refine stop_at (o := ⟨none, _, _, _, _, _⟩) ?_)
      refine wpList_store_last rfl _ _ _ rfl (pgArr zeroPg) (pgArr x.page) _ rfl rfl rfl (by rw [pgArr_size, HXA.out.len]; exact Tryd.pageSize) (by rw [pgArr_size, pgArr_size, HXA.out.len, zeroPg_length]) (pgArr_all _) ?_
      obtain ⟨wa, HWA⟩ : ∃ wa, Hid (wa = w9.alloc (.cells (pgArr x.page) 36)) := ⟨_, Lib.hid rfl⟩
      obtain ⟨ba, HBA⟩ : ∃ ba, Hid (ba = w9.heap.size) := ⟨_, Lib.hid rfl⟩
      rw [← HWA.out, ← HBA.out]
      have hba : wa.heap[ba]? = some (.cells (pgArr x.page) 36 (0, 0)) := by rw [HWA.out, HBA.out]; exact heap_alloc_last w9 _
      have hbb : Below w7.heap.size w7 wa := by rw [HWA.out]; exact HB9.out.trans ((Below.refl _ _).alloc HB9.out.size _)
      have HRA : Hid (wa.rangeAt ba 0 (pgCells x.page)) := Lib.hid (page_of_block hba)
      have HXAA : Hid (ActAt wa bb (o + k * 132) x) := Lib.hid (HXA7.out.carry (hbb.block bb (by have h1 := HBN.out; have h2 := HS7.out; omega)))
      have HPA : Hid (Pages wa b (wroteK (Dk.new 8) l (k + 1)).seen) := Lib.hid (HP7.out.carry (hbb.block b HS7.out))
      have HFA : Hid (∀ j, wa.frozen? ⟨b, j, none⟩ = false) := Lib.hid (fun j => (hbb.frozen (p := ⟨b, j, none⟩) HS7.out).trans (HF7.out j))
      have HDA : Hid (DiskAt K2 wa D 8 (wroteK (Dk.new 8) l (k + 1))) := Lib.hid (HD7.out.carry hbb)
      have HKA : Hid (Kept (· < N) w2 wa) := Lib.hid (HK7.out.trans (Kept.of_below hbb (fun j hj => HT.out.kept HK7.out j hj)))
      have HSA : Hid (b < wa.heap.size) := Lib.hid (Nat.lt_of_lt_of_le HS7.out hbb.size)
      have heq := equalIn_page x.page HXA.out.len
      have hgp := guardPage
      clear hba hbb HWA HP7 HF7 HD7 HK7 HS7 HXA7 HB9
      go_wp2_with fail
      refine wp_region_reads (by kernel_rfl) (by kernel_rfl) (fun w1 HW1 => ?_)
      have HRA1 : Hid (w1.rangeAt ba 0 (pgCells x.page)) := Lib.hid (by rw [HW1.out]; exact HRA.out)
      have HX1 : Hid (w1.rangeAt bb (o + k * 132 + 2) (pgCells x.page)) := Lib.hid (by rw [HW1.out]; exact HXAA.out.c2)
      have HPA1 : Hid (Pages w1 b (wroteK (Dk.new 8) l (k + 1)).seen) := Lib.hid (by rw [HW1.out]; exact HPA.out)
      have HFA1 : Hid (∀ j, w1.frozen? ⟨b, j, none⟩ = false) := Lib.hid (by rw [HW1.out]; exact HFA.out)
      have HDA1 : Hid (DiskAt K2 w1 D 8 (wroteK (Dk.new 8) l (k + 1))) := Lib.hid (by rw [HW1.out]; exact HDA.out.carry (Below.refl _ _).drew)
      have HKA1 : Hid (Kept (· < N) w2 w1) := Lib.hid (by rw [HW1.out]; exact HKA.out.drew)
      have HSA1 : Hid (b < w1.heap.size) := Lib.hid (by rw [HW1.out]; exact HSA.out)
      clear HW1 HRA HXAA HPA HFA HDA HKA HSA
      still_step
      refine wpStill_step (fun K hK => ?_)
      go_simp
      refine ⟨_, (Num_nil _).mono (fun _ _ h => ⟨h.1, h.2.symm⟩), hK _ ?_⟩
      clear hK K
      iterate 2 still_step
      refine wpStill_load_page_if (by rfl) _ _ rfl ba 0 rfl x.page HXA.out.len HRA1.out _ Tryd.underlying36 rfl Tryd.pageSize ?_
      simp only [Act.put, List.setIfInBounds_toArray, List.set_cons_zero, List.set_cons_succ]
      iterate 4 (refine wpStill_want (by rfl) (fun K hK => ?_); go_simp; refine hK _ ?_; clear hK K)
      refine wpStill_load_page_if (by rfl) _ _ rfl bb (o + k * 132 + 2) rfl x.page HXA.out.len HX1.out _ Tryd.underlying36 rfl Tryd.pageSize ?_
      simp only [Act.put, List.setIfInBounds_toArray, List.set_cons_zero, List.set_cons_succ]
      refine wpStill_want (by rfl) (fun K hK => ?_)
      go_simp
      refine hK _ ?_
      clear hK K
      still_step
      refine wpStill_nil ?_
      clear heq hgp hb7 hsz
      go_wp2_with fail
      go_roundw
      case rel => exact ⟨k + 1, hlt, by go_num, HDA1.out, HPA1.out, HFA1.out, HKA1.out, HSA1.out⟩
      case measure => simp [intOf]; omega
    · obtain rfl : k = l.length := by omega
      obtain ⟨d1, HD1⟩ : ∃ d1, Hid (d1 = wroteK (Dk.new 8) l l.length) := ⟨_, Lib.hid rfl⟩
      have HOK : Hid (d1.Ok 8 ∧ d1.Sync) := Lib.hid (by rw [HD1.out]; exact wroteK_ok rfl (Dk.Ok.new 8) (Dk.Sync.new 8) HLN.out _)
      rw [← HD1.out] at HDk HPk
      have hsl : d1.soft.length ≤ 1000000 := by have := wroteK_soft (Dk.new 8) l l.length; rw [← HD1.out] at this; simp [Dk.new] at this; omega
      go_wp2_with fail
      refine (Crash_yes (m := 4294967295) (t := 5) (by decide) HDk.out HTk.out hsl (by decide)).mono ?_
      rintro e w4 ⟨rfl, hdk, hkp⟩
      have HD4 := Lib.hid hdk
      have HK4 := Lib.hid hkp
      clear hdk hkp
      go_wp2_with fail
      refine (Up_any HD4.out).mono ?_
      rintro e w5 ⟨rfl, hdk, hkp⟩
      obtain ⟨d3, HD3⟩ : ∃ d3, Hid (d3 = (d1.crash 4294967295 5).up) := ⟨_, Lib.hid rfl⟩
      rw [← HD3.out] at hdk
      have HD8 := Lib.hid hdk
      have HK8 := Lib.hid (HK4.out.trans hkp)
      have HSE : Hid (d3.seen = d1.seen) := Lib.hid (by rw [HD3.out]; exact crash_all HOK.out.1 HOK.out.2 5)
      have HP8 : Hid (Pages w5 b d3.seen) := Lib.hid (by rw [HSE.out]; exact HPk.out.carry (HK8.out.block b (by rw [HK2.out]; exact .inr rfl)))
      clear hdk hkp HD4 HK4 hsl HPk HFk HDk
      go_wp2_with fail
      obtain ⟨wo, rfl⟩ : ∃ wo : World, wo = wr := ⟨_, rfl⟩
      go_loopw [9] (fun i wr => SameRel K2 D b d3 wo i wr) (fun i _ => 8 - (intOf i).toNat)
      case atStart => exact ⟨0, by decide, rfl, HD8.out, HP8.out, HK8.out⟩
      case round =>
        obtain ⟨k, hk, rfl, hdk, hpg, hkp⟩ := hrel
        have HDk := Lib.hid hdk
        have HPk := Lib.hid hpg
        have HKk' := Lib.hid hkp
        clear hdk hpg hkp HD8 HP8 HK8
        by_cases hlt : k < 8
        · go_wp2_with fail
          refine (Read_any HDk.out (k : Int)).mono ?_
          have hdn : d3.down = false := by rw [HD3.out]; rfl
          rw [hdn, codeZ_in hlt, if_pos rfl, show ((k : Int)).toNat = k from by omega]
          rintro e w9 ⟨v, rfl, he, hb⟩
          obtain rfl := he.zero
          have HB9 := Lib.hid hb
          obtain ⟨pg, HPG⟩ : ∃ pg, Hid (pg = pgAt d3.seen k) := ⟨_, Lib.hid rfl⟩
          have hsl3 : k < d3.seen.length := by rw [HDk.out.ok.seen]; exact hlt
          have HL9 : Hid (pg.length = 128) := Lib.hid (by rw [HPG.out]; exact pgAt_length HDk.out.ok.ws hsl3)
          rw [← HPG.out]
          have hbw : b < wr.heap.size := HPk.out.lt (by omega)
          clear he hb hdn
          go_wp2_with (with_reducible refine stop_at (o := ⟨none, _, _, _, _, _⟩) ?_)
          refine wpList_store_last rfl _ _ _ rfl (pgArr zeroPg) (pgArr pg) _ rfl rfl rfl (by rw [pgArr_size, HL9.out]; exact Tryd.pageSize) (by rw [pgArr_size, pgArr_size, HL9.out, zeroPg_length]) (pgArr_all _) ?_
          obtain ⟨wa, HWA⟩ : ∃ wa, Hid (wa = w9.alloc (.cells (pgArr pg) 36)) := ⟨_, Lib.hid rfl⟩
          obtain ⟨ba, HBA⟩ : ∃ ba, Hid (ba = w9.heap.size) := ⟨_, Lib.hid rfl⟩
          rw [← HWA.out, ← HBA.out]
          have hba : wa.heap[ba]? = some (.cells (pgArr pg) 36 (0, 0)) := by rw [HWA.out, HBA.out]; exact heap_alloc_last w9 _
          have hbb : Below wr.heap.size wr wa := by rw [HWA.out]; exact HB9.out.trans ((Below.refl _ _).alloc HB9.out.size _)
          have HRA : Hid (wa.rangeAt ba 0 (pgCells pg)) := Lib.hid (page_of_block hba)
          have HPB : Hid (Pages wa b d3.seen) := Lib.hid (HPk.out.carry (hbb.block b hbw))
          have HDA : Hid (DiskAt K2 wa D 8 d3) := Lib.hid (HDk.out.carry hbb)
          have HKB : Hid (Kept K2 wo wa) := Lib.hid (HKk'.out.trans (Kept.of_below hbb (fun j hj => HTk.out.kept HKk'.out j hj)))
          have heq := equalIn_page pg HL9.out
          have hgp := guardPage
          clear hba hbb hbw HWA
          go_wp2_with fail
          refine wp_region_reads (by kernel_rfl) (by kernel_rfl) (fun w1 HW1 => ?_)
          have HRA1 : Hid (w1.rangeAt ba 0 (pgCells pg)) := Lib.hid (by rw [HW1.out]; exact HRA.out)
          have HPB1 : Hid (Pages w1 b d3.seen) := Lib.hid (by rw [HW1.out]; exact HPB.out)
          have HPC1 : Hid (w1.rangeAt b (k * 128) (pgCells pg)) := Lib.hid (by rw [HPG.out]; exact (HPB1.out.at_ hsl3).2)
          have HDA1 : Hid (DiskAt K2 w1 D 8 d3) := Lib.hid (by rw [HW1.out]; exact HDA.out.carry (Below.refl _ _).drew)
          have HKB1 : Hid (Kept K2 wo w1) := Lib.hid (by rw [HW1.out]; exact HKB.out.drew)
          clear HW1 HRA HPB HDA HKB hsl3
          refine wpStill_load_page_if (by rfl) _ _ rfl ba 0 rfl pg HL9.out HRA1.out _ Tryd.underlying36 rfl Tryd.pageSize ?_
          simp only [Act.put, List.setIfInBounds_toArray, List.set_cons_zero, List.set_cons_succ]
          iterate 2 still_step
          refine wpStill_load_page_if (by rfl) _ _ rfl b (k * 128) rfl pg HL9.out HPC1.out _ Tryd.underlying36 rfl Tryd.pageSize ?_
          simp only [Act.put, List.setIfInBounds_toArray, List.set_cons_zero, List.set_cons_succ]
          still_step
          refine wpStill_nil ?_
          clear heq hgp
          go_wp2_with fail
          go_roundw
          case rel => exact ⟨k + 1, hlt, by go_num, HDA1.out, HPB1.out, HKB1.out⟩
          case measure => simp [intOf]; omega
        · obtain rfl : k = 8 := by omega
          go_wp2_with fail
          refine (Num_nil _).mono ?_
          rintro e w' ⟨rfl, rfl⟩
          go_wp2_with fail
          go_ret
          exact ⟨rfl, HB.out.trans (((HKk.out.trans (HKk'.out.mono (fun j hj => by rw [HK2.out]; exact .inl hj))).below (fun j hj => by have := HB.out.size; rw [HNN.out]; omega)))⟩
end Go.Proofs.YtflkhbdipmjmeaaDoor
