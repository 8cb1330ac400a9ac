/-
  The walk of the statement DiskFirm: it answers true, and no memory that was there has turned. Condition: errors.errorType is laid.
-/
import Derived.Test.YtflkhbdipmjmeaaDoorDiskLastWalk
namespace Go.Proofs.YtflkhbdipmjmeaaDoor
open Go.RowKit

/-- was a sector written by the first k acts? -/
def laterB (l : List ActD) (k i : Nat) : Bool := (l.take k).any fun x => secZ x.at_ == i
theorem laterB_zero (l : List ActD) (i : Nat) : laterB l 0 i = false := rfl
theorem laterB_succ {l : List ActD} {k : Nat} {x : ActD} (h : l[k]? = some x) (i : Nat) : laterB l (k + 1) i = (laterB l k i || secZ x.at_ == i) := by
  unfold laterB
  rw [List.take_add_one, h]
  simp
theorem wroteK_only {d : Dk} {l : List ActD} {i : Nat} : ∀ k, laterB l k i = false → (∀ x ∈ d.soft, x.1 ≠ i) → ∀ x ∈ (wroteK d l k).soft, x.1 ≠ i
  | 0, _, h => h
  | k + 1, hl, h => by
    rw [wroteK]
    split
    · rename_i y hy
      rw [laterB_succ hy, Bool.or_eq_false_iff] at hl
      intro x hx
      rcases List.mem_append.1 hx with h1 | h1
      · exact wroteK_only k hl.1 h x h1
      · obtain rfl := List.mem_singleton.1 h1
        have := hl.2
        simpa using this
    · rename_i hy
      have : laterB l k i = false := by
        unfold laterB at hl ⊢
        rw [List.take_add_one, hy] at hl
        simpa using hl
      exact wroteK_only k this h
theorem wroteK_firm (d : Dk) (l : List ActD) : ∀ k, (wroteK d l k).firm = d.firm
  | 0 => rfl
  | k + 1 => by
    rw [wroteK]
    split
    · exact wroteK_firm d l k
    · exact wroteK_firm d l k
/-- what was flushed is read behind a crash, where nothing was written later -/
theorem firm_data {d : Dk} {l : List ActD} {m i : Nat} {t : Int} (h : laterB l l.length i = false) : pgAt (((wroteK d.flush l l.length).crash m t).up).seen i = pgAt d.seen i := by
  show pgAt (crashZ m (leftZ t) (wroteK d.flush l l.length).soft (wroteK d.flush l l.length).firm) i = _
  rw [crashZ_other (wroteK_only _ h (by simp [Dk.flush])), wroteK_firm]
  rfl
def Flags (w : World) (c : Nat) (f : Nat → Bool) : Prop := (∀ i, i < 8 → w.cell? ⟨c, i, none⟩ = some (.bool (f i))) ∧ ∀ j, w.frozen? ⟨c, j, none⟩ = false
theorem Flags.carry {w w' : World} {c : Nat} {f : Nat → Bool} (h : Flags w c f) (hb : w'.heap[c]? = w.heap[c]?) : Flags w' c f :=
  ⟨fun i hi => (World.cell?_of_block (w := w) (a := ⟨c, i, none⟩) hb).trans (h.1 i hi), fun j => (World.frozen?_of_block (w := w) (a := ⟨c, j, none⟩) hb).trans (h.2 j)⟩
theorem Flags.set {w : World} {c s : Nat} {f g : Nat → Bool} (h : Flags w c f) (hs : s < 8) (hg : ∀ i, g i = (f i || s == i)) : Flags (w.setCell ⟨c, s, none⟩ (.bool true)) c g :=
  ⟨fun i hi => by
    by_cases e : s = i
    · subst e
      rw [World.cell?_setCell_same _ _ _ (h.1 s hs), hg]
      simp
    · rw [World.cell?_setCell_other _ _ _ _ (fun x => e (Addr.mk.inj x).2.1), h.1 i hi, hg]
      simp [e], fun j => by rw [World.frozen?_setCell]; exact h.2 j⟩
def FirmRel (K : Nat → Prop) (N D b c : Nat) (l : List ActD) (w2 : World) (i : Value) (wr : World) : Prop :=
  ∃ k : Nat, k ≤ l.length ∧ i = .int .i64 (k : Int) ∧ DiskAt K wr D 8 (wroteK (Dk.new 8) l k) ∧ Pages wr b (wroteK (Dk.new 8) l k).seen ∧ (∀ j, wr.frozen? ⟨b, j, none⟩ = false) ∧ Kept (· < N) w2 wr ∧ b < wr.heap.size ∧ Flags wr c (fun _ => false) ∧ c < wr.heap.size
def LaterRel (K : Nat → Prop) (N D b c : Nat) (d2 : Dk) (ps : List Pg) (l : List ActD) (w2 : World) (i : Value) (wr : World) : Prop :=
  ∃ k : Nat, k ≤ l.length ∧ i = .int .i64 (k : Int) ∧ DiskAt K wr D 8 (wroteK d2 l k) ∧ Pages wr b ps ∧ Kept (· < N) w2 wr ∧ b < wr.heap.size ∧ Flags wr c (laterB l k) ∧ c < wr.heap.size
def BackRel (K : Nat → Prop) (D b c : Nat) (d : Dk) (ps : List Pg) (f : Nat → Bool) (w5 : World) (i : Value) (wr : World) : Prop :=
  ∃ k : Nat, k ≤ 8 ∧ i = .int .i64 (k : Int) ∧ DiskAt K wr D 8 d ∧ Pages wr b ps ∧ Flags wr c f ∧ Kept K w5 wr

set_option maxRecDepth 100000 in
set_option maxHeartbeats 8000000 in
theorem firm_long (A A2 : Option Addr) (cap cap2 : Nat) (l l2 : List ActD) (m t : Int) (w : World) (hl : 60 < l.length ∨ (l.length ≤ 60 ∧ 60 < l2.length)) (hg : Laid w) :
    Calls Tryd.prog 4 #[.slice A l.length cap, .slice A2 l2.length cap2, .int .u32 m, .int .i64 t] w fun e w' => e = .returned (.bool true) ∧ Below w.heap.size w w' := by
  have HG := Lib.hid hg
  clear hg
  rcases hl with hl | ⟨hl, hl2⟩
  · have hd : decide ((60 : Int) < (l.length : Int)) = true := by simp; omega
    go_enter Tryd.func4, Tryd.ntmps4
    go_wp2_with fail
    refine (awake_any _ HG.out).mono ?_
    rintro e w1 ⟨rfl, hb⟩
    have HB := Lib.hid hb
    have HG1 := Lib.hid (HG.out.carry hb)
    clear hb
    go_wp2_with fail
    refine (awake_any _ HG1.out).mono ?_
    rintro e w2 ⟨rfl, hb⟩
    have HB2 := Lib.hid (HB.out.trans (hb.mono HB.out.size))
    clear hb
    go_wp2_with fail
    go_ret
    exact ⟨rfl, HB2.out⟩
  · have hd : decide ((60 : Int) < (l.length : Int)) = false := by simp; omega
    have hd2 : decide ((60 : Int) < (l2.length : Int)) = true := by simp; omega
    go_enter Tryd.func4, Tryd.ntmps4
    go_wp2_with fail
    refine (awake_any _ HG.out).mono ?_
    rintro e w1 ⟨rfl, hb⟩
    have HB := Lib.hid hb
    have HG1 := Lib.hid (HG.out.carry hb)
    clear hb
    go_wp2_with fail
    refine (awake_any _ HG1.out).mono ?_
    rintro e w2 ⟨rfl, hb⟩
    have HB2 := Lib.hid (HB.out.trans (hb.mono HB.out.size))
    clear hb
    go_wp2_with fail
    go_ret
    exact ⟨rfl, HB2.out⟩

set_option maxRecDepth 100000 in
set_option maxHeartbeats 8000000 in
theorem firm_short (A A2 : Option Addr) (cap cap2 : Nat) (l l2 : List ActD) (m : Nat) (t : Int) (w : World) (hl : l.length ≤ 60) (hl2 : l2.length ≤ 60) (hm : m < 4294967296) (ht : t ≤ 9223372036854775807) (ha : Acts w A l) (ha2 : Acts w A2 l2) (hg : Laid w) :
    Calls Tryd.prog 4 #[.slice A l.length cap, .slice A2 l2.length cap2, .int .u32 (m : Int), .int .i64 t] w fun e w' => e = .returned (.bool true) ∧ Below w.heap.size w w' := by
  have HLN := Lib.hid ha.lens
  have HG := Lib.hid hg
  have HA := Lib.hid ha
  have HC := Lib.hid ha2
  clear hg ha ha2
  have hz := Tryd.zeroPage
  have hd : decide ((60 : Int) < (l.length : Int)) = false := by simp; omega
  have hd2 : decide ((60 : Int) < (l2.length : Int)) = false := by simp; omega
  obtain ⟨Z, HZ⟩ : ∃ Z, Hid (Z = zeros8) := ⟨_, Lib.hid rfl⟩
  have hz8 : ∀ w', (zeroValue 49).run Tryd.prog w' = .ok (.agg Z) w' := by rw [HZ.out]; exact (zero_of_info Tryd.info8).1
  go_enter Tryd.func4, Tryd.ntmps4
  go_wp2_with fail
  refine (awake_any _ HG.out).mono ?_
  rintro e w2 ⟨rfl, hb⟩
  have HB := Lib.hid hb
  have HA2 := Lib.hid (HA.out.below hb)
  have HC2 := Lib.hid (HC.out.below hb)
  clear hb
  go_wp2_with fail
  refine (New_yes 8 (by decide) (by decide) _).mono ?_
  obtain ⟨N, HNN⟩ : ∃ N, Hid (N = w2.heap.size) := ⟨_, Lib.hid rfl⟩
  rw [show NewPost 8 w2 = fun e w' => ∃ D, e = .returned (.tuple #[.pointer (some ⟨D, 0, none⟩), .nilIface]) ∧ DiskAt (· < N) w' D 8 (Dk.new 8) ∧ Below N w2 w' by rw [HNN.out]; rfl]
  rintro e w5 ⟨D, rfl, hdk, hb⟩
  have HD5 := Lib.hid hdk
  have HK5 : Hid (Kept (· < N) w2 w5) := Lib.hid (Kept.of_below hb (fun _ h => h))
  have HT : Hid (There (· < N) w2) := Lib.hid (fun k hk => by rw [← HNN.out]; exact hk)
  clear hdk hb
  go_wp2_with fail
  obtain ⟨C0, HC0⟩ : ∃ C0 : Array Value, Hid (C0 = #[.bool false, .bool false, .bool false, .bool false, .bool false, .bool false, .bool false, .bool false]) := ⟨_, Lib.hid rfl⟩
  rw [← HC0.out]
  obtain ⟨w6, HW6⟩ : ∃ w6, Hid (w6 = (w5.alloc (.cells Z 49)).alloc (.cells C0 50)) := ⟨_, Lib.hid rfl⟩
  obtain ⟨b, HBB⟩ : ∃ b, Hid (b = w5.heap.size) := ⟨_, Lib.hid rfl⟩
  obtain ⟨c, HCC⟩ : ∃ c, Hid (c = w5.heap.size + 1) := ⟨_, Lib.hid rfl⟩
  rw [← HW6.out, ← HCC.out, ← HBB.out]
  have hb6 : w6.heap[b]? = some (.cells Z 49 (0, 0)) := by rw [HW6.out, HBB.out, Below.heap_alloc _ _ _ (by simp)]; exact heap_alloc_last w5 _
  have hc6 : w6.heap[c]? = some (.cells C0 50 (0, 0)) := by
    rw [HW6.out, HCC.out]
    have := heap_alloc_last (w5.alloc (.cells Z 49)) (.cells C0 50)
    rw [show (w5.alloc (.cells Z 49)).heap.size = w5.heap.size + 1 by simp] at this
    exact this
  have hbl : Below w5.heap.size w5 w6 := by rw [HW6.out]; exact ((Below.refl _ _).alloc (Nat.le_refl _) _).alloc (by simp) _
  obtain ⟨K2, HK2⟩ : ∃ K2 : Nat → Prop, Hid (K2 = fun k => k < N ∨ k = b ∨ k = c) := ⟨_, Lib.hid rfl⟩
  have HD6 : Hid (DiskAt K2 w6 D 8 (Dk.new 8)) := Lib.hid (by
    rw [HK2.out]
    exact HD5.out.more hbl (fun k hk => by rcases hk with h | h | h; exact .inl h; exact .inr (by rw [h, HBB.out]; exact Nat.le_refl _); exact .inr (by rw [h, HCC.out]; omega)))
  have HP6 : Hid (Pages w6 b (Dk.new 8).seen) := Lib.hid (zeros_pages (by rw [← HZ.out]; exact hb6) [])
  have HF6 : Hid (∀ j, w6.frozen? ⟨b, j, none⟩ = false) := Lib.hid (fun j => frozen_of_row w6 b j _ _ hb6)
  have HFL6 : Hid (Flags w6 c (fun _ => false)) := Lib.hid ⟨fun i hi => by
    rw [cell_of_row w6 c i _ _ _ hc6, HC0.out]
    match i, hi with
    | 0, _ => rfl
    | 1, _ => rfl
    | 2, _ => rfl
    | 3, _ => rfl
    | 4, _ => rfl
    | 5, _ => rfl
    | 6, _ => rfl
    | 7, _ => rfl, fun j => frozen_of_row w6 c j _ _ hc6⟩
  have HK6 : Hid (Kept (· < N) w2 w6) := Lib.hid (HK5.out.trans (Kept.of_below hbl (fun k hk => HT.out.kept HK5.out k hk)))
  have HBN : Hid (N ≤ b) := Lib.hid (by rw [HBB.out, HNN.out]; exact HK5.out.size)
  have HCN : Hid (c = b + 1) := Lib.hid (by rw [HCC.out, HBB.out])
  have HS6 : Hid (b < w6.heap.size) := Lib.hid (by rw [HW6.out, HBB.out]; simp; omega)
  have HSC6 : Hid (c < w6.heap.size) := Lib.hid (by rw [HW6.out, HCC.out]; simp)
  clear hb6 hc6 hbl HD5 HK5 HW6
  go_loopw [13] (fun i wr => FirmRel K2 N D b c l w2 i wr) (fun i _ => l.length - (intOf i).toNat)
  case atStart => exact ⟨0, Nat.zero_le _, rfl, HD6.out, HP6.out, HF6.out, HK6.out, HS6.out, HFL6.out, HSC6.out⟩
  case round =>
    obtain ⟨k, hk, rfl, hdk, hpg, hfz, hkp, hbz, hfl, hcz⟩ := hrel
    have HDk := Lib.hid hdk
    have HPk := Lib.hid hpg
    have HFk := Lib.hid hfz
    have HKk := Lib.hid hkp
    have HSk := Lib.hid hbz
    have HFLk := Lib.hid hfl
    have HSCk := Lib.hid hcz
    clear hdk hpg hfz hkp hbz hfl hcz HD6 HP6 HF6 HK6 HS6 HFL6 HSC6
    have HTk : Hid (There K2 wr) := Lib.hid (by
      rw [HK2.out]
      intro j hj
      rcases hj with h | h | h
      · exact HT.out.kept HKk.out j h
      · rw [h]; exact HSk.out
      · rw [h]; exact HSCk.out)
    by_cases hlt : k < l.length
    · obtain ⟨bb, o, rfl, hbl, hx⟩ := (HA2.out.kept HKk.out (fun j hj => by rw [HNN.out]; exact hj)).at_ hlt
      obtain ⟨x, HX⟩ : ∃ x, Hid (l[k]? = some x) := ⟨_, Lib.hid (List.getElem?_eq_getElem hlt)⟩
      have hxe : l[k] = x := by have := HX.out; rw [List.getElem?_eq_getElem hlt] at this; exact Option.some.inj this
      rw [hxe] at hx
      have HXA := Lib.hid hx
      have hbN : bb < N := by
        obtain ⟨b', o', e, hb', _⟩ := HA2.out.at_ hlt
        injection e with e
        injection e with e
        rw [HNN.out, e]
        exact hb'
      have hki : (k : Int) < (l.length : Int) := by omega
      have hb7 := secZ_and x.at_
      clear hx hxe hbl
      go_wp2_with fail
      refine wp_region_tail 12 (by kernel_rfl) (by kernel_rfl) (fun w4 HW4 => ?_)
      simp only [List.take_succ_cons, List.take_zero, List.drop_succ_cons, List.drop_zero]
      have c1 : w4.cell? ⟨bb, o + k * 132 + 1, none⟩ = some (.int .i64 x.at_) := by rw [HW4.out]; exact HXA.out.c1
      have HR4 : Hid (w4.rangeAt bb (o + k * 132 + 2) (pgCells x.page)) := Lib.hid (by rw [HW4.out]; exact HXA.out.c2)
      iterate 11 still_step
      refine wpStill_load_page rfl _ _ rfl bb (o + k * 132 + 2) rfl x.page HXA.out.len HR4.out _ Tryd.underlying36 rfl Tryd.pageSize ?_
      refine wpStill_nil ?_
      have HD4 : Hid (DiskAt K2 w4 D 8 (wroteK (Dk.new 8) l k)) := Lib.hid (by rw [HW4.out]; exact HDk.out.carry (Below.refl _ _).drew)
      have HK4 : Hid (Kept K2 wr w4) := Lib.hid (by rw [HW4.out]; exact (Kept.refl _ _).drew)
      clear c1
      go_wp2_with fail
      refine (Write_yes (i := secZ x.at_) HD4.out (HTk.out.kept HK4.out) (wroteK_down _ _ _) (secZ_lt _) HXA.out.len (by have := wroteK_soft (Dk.new 8) l k; simp [Dk.new] at this ⊢; omega)).mono ?_
      rw [← wroteK_succ HX.out]
      rintro e w5 ⟨rfl, hdk, hkp⟩
      have HD5 := Lib.hid hdk
      have HK5 := Lib.hid (HK4.out.trans hkp)
      clear hdk hkp HD4 HK4
      go_wp2_with fail
      refine (Num_nil _).mono ?_
      rintro e w' ⟨rfl, rfl⟩
      go_wp2_with fail
      have hin2 : K2 b := by rw [HK2.out]; exact .inr (.inl rfl)
      have hinN : ∀ j, j < N → K2 j := fun j hj => by rw [HK2.out]; exact .inl hj
      have HIN := Lib.hid hinN
      have HXA5 : Hid (ActAt w5 bb (o + k * 132) x) := Lib.hid (HXA.out.carry (HK5.out.block bb (hinN bb hbN)))
      have HP5 : Hid (Pages w5 b (wroteK (Dk.new 8) l k).seen) := Lib.hid (HPk.out.carry (HK5.out.block b hin2))
      have HF5 : Hid (∀ j, w5.frozen? ⟨b, j, none⟩ = false) := Lib.hid (fun j => (HK5.out.frozen (p := ⟨b, j, none⟩) hin2).trans (HFk.out j))
      have HS5 : Hid (b < w5.heap.size) := Lib.hid (Nat.lt_of_lt_of_le HSk.out HK5.out.size)
      clear hin2 hinN
      refine wp_region_tail 11 (by kernel_rfl) (by kernel_rfl) (fun w6 HW6 => ?_)
      simp only [List.take_succ_cons, List.take_zero, List.drop_succ_cons, List.drop_zero]
      have c1 : w6.cell? ⟨bb, o + k * 132 + 1, none⟩ = some (.int .i64 x.at_) := by rw [HW6.out]; exact HXA5.out.c1
      have HR6 : Hid (w6.rangeAt bb (o + k * 132 + 2) (pgCells x.page)) := Lib.hid (by rw [HW6.out]; exact HXA5.out.c2)
      have HP6 : Hid (Pages w6 b (wroteK (Dk.new 8) l k).seen) := Lib.hid (by rw [HW6.out]; exact HP5.out)
      have HF6 : Hid (∀ j, w6.frozen? ⟨b, j, none⟩ = false) := Lib.hid (by rw [HW6.out]; exact HF5.out)
      iterate 10 still_step
      refine wpStill_load_page rfl _ _ rfl bb (o + k * 132 + 2) rfl x.page HXA.out.len HR6.out _ Tryd.underlying36 rfl Tryd.pageSize ?_
      refine wpStill_nil ?_
      have hsz : (secZ x.at_ : Int) < 8 := by have := secZ_lt x.at_; omega
      have hsec : secZ x.at_ < (wroteK (Dk.new 8) l k).seen.length := by rw [HDk.out.ok.seen]; exact secZ_lt _
      clear c1
      go_wp2_with (with_reducible refine stop_at (o := ⟨none, _, _, _, _, _⟩) ?_)
      refine wpList_store_page rfl _ _ _ rfl b (secZ x.at_ * 128) x.page HXA.out.len rfl rfl (HP6.out.there HF6.out hsec) Tryd.pageSize (fun w7 HW7 => ?_)
      have HP7 : Hid (Pages w7 b (wroteK (Dk.new 8) l (k + 1)).seen) := Lib.hid (by rw [HW7.out, wroteK_succ HX.out]; exact HP6.out.store HF6.out hsec HXA.out.len)
      have HF7 : Hid (∀ j, w7.frozen? ⟨b, j, none⟩ = false) := Lib.hid (by rw [HW7.out]; exact frozen_setCells HF6.out _ _ _)
      have HD7 : Hid (DiskAt K2 w7 D 8 (wroteK (Dk.new 8) l (k + 1))) := Lib.hid ((HD5.out.carry (by rw [HW6.out]; exact (Below.refl _ _).drew : Below w5.heap.size w5 w6)).beside (fun j hj => by rw [HW7.out]; exact setCells_block b (fun e => hj (by rw [HK2.out, e]; exact .inr (.inl rfl))) _ _ _))
      have hbn : ¬ b < N := by have := HBN.out; omega
      have HK7 : Hid (Kept (· < N) w2 w7) := Lib.hid (by rw [HW7.out, HW6.out]; exact ((HKk.out.trans (HK5.out.mono HIN.out)).drew).setCells hbn _ _)
      have HS7 : Hid (b < w7.heap.size) := Lib.hid (by rw [HW7.out, setCells_size, HW6.out]; exact HS5.out)
      have HFL7 : Hid (Flags w7 c (fun _ => false)) := Lib.hid (HFLk.out.carry (by
        rw [HW7.out, setCells_block b (by have := HCN.out; omega), HW6.out]
        exact HK5.out.block c (by rw [HK2.out]; exact .inr (.inr rfl))))
      have HSC7 : Hid (c < w7.heap.size) := Lib.hid (by rw [HW7.out, setCells_size, HW6.out]; exact Nat.lt_of_lt_of_le HSCk.out HK5.out.size)
      clear hsec hbn HP6 HF6 HP5 HF5 HS5 HD5 HXA5 hb7 hsz
      go_wp2_with fail
      go_roundw
      case rel => exact ⟨k + 1, hlt, by go_num, HD7.out, HP7.out, HF7.out, HK7.out, HS7.out, HFL7.out, HSC7.out⟩
      case measure => simp [intOf]; omega
    · obtain rfl : k = l.length := by omega
      obtain ⟨d1, HD1⟩ : ∃ d1, Hid (d1 = wroteK (Dk.new 8) l l.length) := ⟨_, Lib.hid rfl⟩
      have hdn1 : d1.down = false := by rw [HD1.out]; exact wroteK_down _ _ _
      rw [← HD1.out] at HDk HPk
      clear HFk
      go_wp2_with fail
      refine (Flush_yes HDk.out hdn1).mono ?_
      rintro e w4 ⟨rfl, hdk, hkp⟩
      have HD4 := Lib.hid hdk
      have HK4 := Lib.hid hkp
      clear hdk hkp
      go_wp2_with fail
      refine (Num_nil _).mono ?_
      rintro e w' ⟨rfl, rfl⟩
      have hinN : ∀ j, j < N → K2 j := fun j hj => by rw [HK2.out]; exact .inl hj
      have HIN := Lib.hid hinN
      have HP4 : Hid (Pages w4 b d1.seen) := Lib.hid (HPk.out.carry (HK4.out.block b (by rw [HK2.out]; exact .inr (.inl rfl))))
      have HFL4 : Hid (Flags w4 c (fun _ => false)) := Lib.hid (HFLk.out.carry (HK4.out.block c (by rw [HK2.out]; exact .inr (.inr rfl))))
      have HKN4 : Hid (Kept (· < N) w2 w4) := Lib.hid (HKk.out.trans (HK4.out.mono hinN))
      have HS4 : Hid (b < w4.heap.size) := Lib.hid (Nat.lt_of_lt_of_le HSk.out HK4.out.size)
      have HSC4 : Hid (c < w4.heap.size) := Lib.hid (Nat.lt_of_lt_of_le HSCk.out HK4.out.size)
      have HDN : Hid (d1.flush.down = false) := Lib.hid hdn1
      clear hinN hdn1 HK4 HDk HPk HFLk HKk HSk HSCk HTk
      go_wp2_with fail
      go_loopw [14] (fun i wr => LaterRel K2 N D b c d1.flush d1.seen l2 w2 i wr) (fun i _ => l2.length - (intOf i).toNat)
      case atStart => exact ⟨0, Nat.zero_le _, rfl, HD4.out, HP4.out, HKN4.out, HS4.out, HFL4.out, HSC4.out⟩
      case round =>
        obtain ⟨k, hk, rfl, hdk, hpg, hkp, hbz, hfl, hcz⟩ := hrel
        have HDk := Lib.hid hdk
        have HPk := Lib.hid hpg
        have HKk := Lib.hid hkp
        have HSk := Lib.hid hbz
        have HFLk := Lib.hid hfl
        have HSCk := Lib.hid hcz
        clear hdk hpg hkp hbz hfl hcz HD4 HP4 HKN4 HS4 HFL4 HSC4
        have HTk : Hid (There K2 wr) := Lib.hid (by
          rw [HK2.out]
          intro j hj
          rcases hj with h | h | h
          · exact HT.out.kept HKk.out j h
          · rw [h]; exact HSk.out
          · rw [h]; exact HSCk.out)
        by_cases hlt : k < l2.length
        · obtain ⟨bb, o, rfl, hbl, hx⟩ := (HC2.out.kept HKk.out (fun j hj => by rw [HNN.out]; exact hj)).at_ hlt
          obtain ⟨x, HX⟩ : ∃ x, Hid (l2[k]? = some x) := ⟨_, Lib.hid (List.getElem?_eq_getElem hlt)⟩
          have hxe : l2[k] = x := by have := HX.out; rw [List.getElem?_eq_getElem hlt] at this; exact Option.some.inj this
          rw [hxe] at hx
          have HXA := Lib.hid hx
          have hbN : bb < N := by
            obtain ⟨b', o', e, hb', _⟩ := HC2.out.at_ hlt
            injection e with e
            injection e with e
            rw [HNN.out, e]
            exact hb'
          have hki : (k : Int) < (l2.length : Int) := by omega
          have hb7 := secZ_and x.at_
          clear hx hxe hbl
          go_wp2_with fail
          refine wp_region_tail 12 (by kernel_rfl) (by kernel_rfl) (fun w4 HW4 => ?_)
          simp only [List.take_succ_cons, List.take_zero, List.drop_succ_cons, List.drop_zero]
          have c1 : w4.cell? ⟨bb, o + k * 132 + 1, none⟩ = some (.int .i64 x.at_) := by rw [HW4.out]; exact HXA.out.c1
          have HR4 : Hid (w4.rangeAt bb (o + k * 132 + 2) (pgCells x.page)) := Lib.hid (by rw [HW4.out]; exact HXA.out.c2)
          iterate 11 still_step
          refine wpStill_load_page rfl _ _ rfl bb (o + k * 132 + 2) rfl x.page HXA.out.len HR4.out _ Tryd.underlying36 rfl Tryd.pageSize ?_
          refine wpStill_nil ?_
          have HD4 : Hid (DiskAt K2 w4 D 8 (wroteK d1.flush l2 k)) := Lib.hid (by rw [HW4.out]; exact HDk.out.carry (Below.refl _ _).drew)
          have HK4 : Hid (Kept K2 wr w4) := Lib.hid (by rw [HW4.out]; exact (Kept.refl _ _).drew)
          clear c1
          go_wp2_with fail
          refine (Write_yes (i := secZ x.at_) HD4.out (HTk.out.kept HK4.out) ((wroteK_down _ _ _).trans HDN.out) (secZ_lt _) HXA.out.len (by have := wroteK_soft d1.flush l2 k; simp [Dk.flush] at this ⊢; omega)).mono ?_
          rw [← wroteK_succ HX.out]
          rintro e w5 ⟨rfl, hdk, hkp⟩
          have HD5 := Lib.hid hdk
          have HK5 := Lib.hid (HK4.out.trans hkp)
          have c1 : w5.cell? ⟨bb, o + k * 132 + 1, none⟩ = some (.int .i64 x.at_) := (HXA.out.carry (HK5.out.block bb (HIN.out bb hbN))).c1
          have hfw := HFLk.out.carry (HK5.out.block c (by rw [HK2.out]; exact .inr (.inr rfl)))
          have f1 := hfw.1 (secZ x.at_) (secZ_lt _)
          have f2 := hfw.2 (secZ x.at_)
          have HFW := Lib.hid hfw
          have hsz : (secZ x.at_ : Int) < 8 := by have := secZ_lt x.at_; omega
          clear hdk hkp HD4 HK4 hfw
          go_wp2_with fail
          obtain ⟨w7, HW7⟩ : ∃ w7, Hid (w7 = w5.setCell ⟨c, secZ x.at_, none⟩ (.bool true)) := ⟨_, Lib.hid rfl⟩
          rw [← HW7.out]
          have hcw : c < w5.heap.size := Nat.lt_of_lt_of_le HSCk.out HK5.out.size
          have hcn : ¬ c < N := by have := HBN.out; have := HCN.out; omega
          have hob : ∀ j, j ≠ c → w7.heap[j]? = w5.heap[j]? := fun j hj => by rw [HW7.out]; exact Below.heap_setCell _ _ _ _ hj
          have hsz7 : w7.heap.size = w5.heap.size := by rw [HW7.out]; simp [World.setCell]
          have HD7 : Hid (DiskAt K2 w7 D 8 (wroteK d1.flush l2 (k + 1))) := Lib.hid (HD5.out.beside (fun j hj => hob j (fun e => hj (by rw [HK2.out, e]; exact .inr (.inr rfl)))))
          have HP7 : Hid (Pages w7 b d1.seen) := Lib.hid ((HPk.out.carry (HK5.out.block b (by rw [HK2.out]; exact .inr (.inl rfl)))).carry (hob b (by have := HCN.out; omega)))
          have HK7 : Hid (Kept (· < N) w2 w7) := Lib.hid (by rw [HW7.out]; exact (HKk.out.trans (HK5.out.mono HIN.out)).setCell (p := ⟨c, secZ x.at_, none⟩) hcn _)
          have HS7 : Hid (b < w7.heap.size) := Lib.hid (by rw [hsz7]; exact Nat.lt_of_lt_of_le HSk.out HK5.out.size)
          have HSC7 : Hid (c < w7.heap.size) := Lib.hid (by rw [hsz7]; exact hcw)
          have HFL7 : Hid (Flags w7 c (laterB l2 (k + 1))) := Lib.hid (by rw [HW7.out]; exact HFW.out.set (secZ_lt _) (laterB_succ HX.out))
          exact ⟨⟨k + 1, hlt, by go_num, HD7.out, HP7.out, HK7.out, HS7.out, HFL7.out, HSC7.out⟩, by simp [intOf]; omega⟩
        · obtain rfl : k = l2.length := by omega
          obtain ⟨d2, HD2⟩ : ∃ d2, Hid (d2 = wroteK d1.flush l2 l2.length) := ⟨_, Lib.hid rfl⟩
          obtain ⟨f, HFF⟩ : ∃ f, Hid (f = laterB l2 l2.length) := ⟨_, Lib.hid rfl⟩
          rw [← HD2.out] at HDk
          rw [← HFF.out] at HFLk
          have hsl : d2.soft.length ≤ 1000000 := by have := wroteK_soft d1.flush l2 l2.length; rw [← HD2.out] at this; simp [Dk.flush] at this; omega
          go_wp2_with fail
          refine (Crash_yes (m := m) (t := t) hm HDk.out HTk.out hsl ht).mono ?_
          rintro e w4 ⟨rfl, hdk, hkp⟩
          have HD4 := Lib.hid hdk
          have HK4 := Lib.hid hkp
          clear hdk hkp
          go_wp2_with fail
          refine (Up_any HD4.out).mono ?_
          rintro e w5 ⟨rfl, hdk, hkp⟩
          obtain ⟨d3, HD3⟩ : ∃ d3, Hid (d3 = (d2.crash m t).up) := ⟨_, Lib.hid rfl⟩
          rw [← HD3.out] at hdk
          have HD8 := Lib.hid hdk
          have HK8 := Lib.hid (HK4.out.trans hkp)
          have HSE : Hid (∀ i, f i = false → pgAt d3.seen i = pgAt d1.seen i) := Lib.hid (fun i hi => by rw [HD3.out, HD2.out]; exact firm_data (by rw [← HFF.out]; exact hi))
          have HP8 : Hid (Pages w5 b d1.seen) := Lib.hid (HPk.out.carry (HK8.out.block b (by rw [HK2.out]; exact .inr (.inl rfl))))
          have HFL8 : Hid (Flags w5 c f) := Lib.hid (HFLk.out.carry (HK8.out.block c (by rw [HK2.out]; exact .inr (.inr rfl))))
          have HLS : Hid (d1.seen.length = 8) := Lib.hid (by rw [HD1.out]; exact (wroteK_ok rfl (Dk.Ok.new 8) (Dk.Sync.new 8) HLN.out _).1.seen)
          clear hdk hkp HD4 HK4 hsl HPk HFLk HDk
          go_wp2_with fail
          obtain ⟨wo, rfl⟩ : ∃ wo : World, wo = wr := ⟨_, rfl⟩
          go_loopw [15] (fun i wr => BackRel K2 D b c d3 d1.seen f wo i wr) (fun i _ => 8 - (intOf i).toNat)
          case atStart => exact ⟨0, by decide, rfl, HD8.out, HP8.out, HFL8.out, HK8.out⟩
          case round =>
            obtain ⟨k, hk, rfl, hdk, hpg, hfl, hkp⟩ := hrel
            have HDk := Lib.hid hdk
            have HPk := Lib.hid hpg
            have HFLk := Lib.hid hfl
            have HKk' := Lib.hid hkp
            clear hdk hpg hfl hkp HD8 HP8 HK8 HFL8
            by_cases hlt : k < 8
            · go_wp2_with fail
              refine (Read_any HDk.out (k : Int)).mono ?_
              have hdn : d3.down = false := by rw [HD3.out]; rfl
              rw [hdn, codeZ_in hlt, if_pos rfl, show ((k : Int)).toNat = k from by omega]
              rintro e w9 ⟨v, rfl, he, hb⟩
              obtain rfl := he.zero
              have HB9 := Lib.hid hb
              obtain ⟨pg, HPG⟩ : ∃ pg, Hid (pg = pgAt d3.seen k) := ⟨_, Lib.hid rfl⟩
              have hsl3 : k < d3.seen.length := by rw [HDk.out.ok.seen]; exact hlt
              have HL9 : Hid (pg.length = 128) := Lib.hid (by rw [HPG.out]; exact pgAt_length HDk.out.ok.ws hsl3)
              rw [← HPG.out]
              have hbw : b < wr.heap.size := HPk.out.lt (by rw [HLS.out]; omega)
              have hcw : c < wr.heap.size := lt_of_cell (HFLk.out.1 0 (by decide))
              clear he hb hdn
              go_wp2_with (with_reducible refine stop_at (o := ⟨none, _, _, _, _, _⟩) ?_)
              refine wpList_store_last rfl _ _ _ rfl (pgArr zeroPg) (pgArr pg) _ rfl rfl rfl (by rw [pgArr_size, HL9.out]; exact Tryd.pageSize) (by rw [pgArr_size, pgArr_size, HL9.out, zeroPg_length]) (pgArr_all _) ?_
              obtain ⟨wa, HWA⟩ : ∃ wa, Hid (wa = w9.alloc (.cells (pgArr pg) 36)) := ⟨_, Lib.hid rfl⟩
              obtain ⟨ba, HBA⟩ : ∃ ba, Hid (ba = w9.heap.size) := ⟨_, Lib.hid rfl⟩
              rw [← HWA.out, ← HBA.out]
              have hba : wa.heap[ba]? = some (.cells (pgArr pg) 36 (0, 0)) := by rw [HWA.out, HBA.out]; exact heap_alloc_last w9 _
              have hbb : Below wr.heap.size wr wa := by rw [HWA.out]; exact HB9.out.trans ((Below.refl _ _).alloc HB9.out.size _)
              have HRA : Hid (wa.rangeAt ba 0 (pgCells pg)) := Lib.hid (page_of_block hba)
              have HPB : Hid (Pages wa b d1.seen) := Lib.hid (HPk.out.carry (hbb.block b hbw))
              have HFB : Hid (Flags wa c f) := Lib.hid (HFLk.out.carry (hbb.block c hcw))
              have HDA : Hid (DiskAt K2 wa D 8 d3) := Lib.hid (HDk.out.carry hbb)
              have HKB : Hid (Kept K2 wo wa) := Lib.hid (HKk'.out.trans (Kept.of_below hbb (fun j hj => HTk.out.kept HKk'.out j hj)))
              have heq := equalIn_page pg HL9.out
              have hgp := guardPage
              have hki : (k : Int) < 8 := by omega
              clear hba hbb hbw hcw HWA
              go_wp2_with fail
              refine wp_region_reads (by kernel_rfl) (by kernel_rfl) (fun w1 HW1 => ?_)
              have HRA1 : Hid (w1.rangeAt ba 0 (pgCells pg)) := Lib.hid (by rw [HW1.out]; exact HRA.out)
              have HPB1 : Hid (Pages w1 b d1.seen) := Lib.hid (by rw [HW1.out]; exact HPB.out)
              have HFB1 : Hid (Flags w1 c f) := Lib.hid (by rw [HW1.out]; exact HFB.out)
              have HDA1 : Hid (DiskAt K2 w1 D 8 d3) := Lib.hid (by rw [HW1.out]; exact HDA.out.carry (Below.refl _ _).drew)
              have HKB1 : Hid (Kept K2 wo w1) := Lib.hid (by rw [HW1.out]; exact HKB.out.drew)
              clear HW1 HRA HPB HFB HDA HKB hsl3
              have f1 := HFB1.out.1 k hlt
              still_step
              refine wpStill_step (fun K hK => ?_)
              go_simp
              refine ⟨_, (Num_nil _).mono (fun _ _ h => ⟨h.1, h.2.symm⟩), hK _ ?_⟩
              clear hK K
              iterate 2 still_step
              cases hfb : f k
              · rw [hfb] at f1
                have HPC1 : Hid (w1.rangeAt b (k * 128) (pgCells pg)) := Lib.hid (by rw [HPG.out, HSE.out k hfb]; exact (HPB1.out.at_ (by rw [HLS.out]; omega)).2)
                iterate 5 (refine wpStill_want (by rfl) (fun K hK => ?_); go_simp; refine hK _ ?_; clear hK K)
                refine wpStill_load_page_if (by rfl) _ _ rfl ba 0 rfl pg HL9.out HRA1.out _ Tryd.underlying36 rfl Tryd.pageSize ?_
                simp only [Act.put, List.setIfInBounds_toArray, List.set_cons_zero, List.set_cons_succ]
                iterate 2 (refine wpStill_want (by rfl) (fun K hK => ?_); go_simp; refine hK _ ?_; clear hK K)
                refine wpStill_load_page_if (by rfl) _ _ rfl b (k * 128) rfl pg HL9.out HPC1.out _ Tryd.underlying36 rfl Tryd.pageSize ?_
                simp only [Act.put, List.setIfInBounds_toArray, List.set_cons_zero, List.set_cons_succ]
                iterate 2 (refine wpStill_want (by rfl) (fun K hK => ?_); go_simp; refine hK _ ?_; clear hK K)
                still_step
                refine wpStill_nil ?_
                clear heq hgp f1
                go_wp2_with fail
                go_roundw
                case rel => exact ⟨k + 1, hlt, by go_num, HDA1.out, HPB1.out, HFB1.out, HKB1.out⟩
                case measure => simp [intOf]; omega
              · rw [hfb] at f1
                iterate 5 (refine wpStill_want (by rfl) (fun K hK => ?_); go_simp; refine hK _ ?_; clear hK K)
                iterate 5 (refine wpStill_unwant (by rfl) ?_; simp only [Act.put, List.setIfInBounds_toArray, List.set_cons_zero, List.set_cons_succ])
                refine wpStill_want (by rfl) (fun K hK => ?_)
                go_simp
                refine hK _ ?_
                clear hK K
                still_step
                refine wpStill_nil ?_
                clear heq hgp f1
                go_wp2_with fail
                go_roundw
                case rel => exact ⟨k + 1, hlt, by go_num, HDA1.out, HPB1.out, HFB1.out, HKB1.out⟩
                case measure => simp [intOf]; omega
            · obtain rfl : k = 8 := by omega
              go_wp2_with fail
              refine (Num_nil _).mono ?_
              rintro e w' ⟨rfl, rfl⟩
              go_wp2_with fail
              refine (Soft_any HDk.out).mono ?_
              rintro e w' ⟨rfl, rfl⟩
              have hs0 : d3.soft.length = 0 := by rw [HD3.out]; rfl
              rw [hs0]
              clear hs0
              go_wp2_with fail
              go_ret
              exact ⟨rfl, HB.out.trans (((HKk.out.trans (HKk'.out.mono (fun j hj => HIN.out j hj))).below (fun j hj => by have := HB.out.size; rw [HNN.out]; omega)))⟩
end Go.Proofs.YtflkhbdipmjmeaaDoor
