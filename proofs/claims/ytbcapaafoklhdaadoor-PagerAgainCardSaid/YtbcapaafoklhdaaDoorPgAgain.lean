/-
  The walk of the statement PagerAgain: it answers true, and no memory that was there has turned. Conditions: the pager's calls are as PgSpec says; errors.errorType and crc.halved are laid.
-/
import Derived.Test.YtbcapaafoklhdaaDoorPgLaw
import Derived.Test.YtbcapaafoklhdaaDoorOpens
import Derived.Test.YtbcapaafoklhdaaDoorSets
namespace Go.Proofs.YtbcapaafoklhdaaDoor
open Go.RowKit

theorem pagain_long {O : PgOwn} (H : PgSpec O) (A : Option Addr) (len cap : Nat) (hl : 20 < len) (w : World) (hg : Laid2 w) :
    Calls Tryd.prog 7 #[.slice A len cap] w fun e w' => e = .returned (.bool true) ∧ Below w.heap.size w w' := by
  have HG := Lib.hid hg
  have hd : decide ((20 : Int) < (len : Int)) = true := by simp; omega
  clear hg
  go_enter Tryd.func7, Tryd.ntmps7
  go_wp2_with fail
  refine (awake_any H _ HG.out).mono ?_
  rintro e w1 ⟨rfl, hb⟩
  have HB := Lib.hid hb
  have HG1 := Lib.hid (HG.out.carry hb)
  clear hb
  go_wp2_with fail
  refine (awake_any H _ HG1.out).mono ?_
  rintro e w2 ⟨rfl, hb⟩
  have HB2 := Lib.hid (HB.out.trans (hb.mono HB.out.size))
  clear hb
  go_wp2_with fail
  go_ret
  exact ⟨rfl, HB2.out⟩
theorem rootOk_new {n : Nat} {d : Dk} {s : Pst} {data firm : Nat → List UInt8} (hi : PInv n d s data firm) {k : Nat} (hf : s.first n = some k) {t : List UInt8} (ht : t.length ≤ 120) : rootOk (s.at_ k) (k : Int) = true := by
  have h1 := hi.first_some hf
  have hle := hi.le
  have h2 := hi.laid hf ht
  have hu : Bits.has s.sup.used k = false := by
    have := h1.2.2.1
    unfold Pst.isIn at this
    exact (Bool.or_eq_false_iff.1 this).1
  have h3 : Bits.has (s.at_ k).used k = true := by
    rw [h2.has_used (by omega)]
    have hg : Bits.has (s.at_ k).gone k = false := by
      cases h : Bits.has (s.at_ k).gone k with
      | false => rfl
      | true =>
        have h5 : Bits.has s.sup.used k = true := h2.goes k (by omega) h
        rw [hu] at h5
        cases h5
    have hin : (s.at_ k).isIn k = true := by
      unfold Pst.isIn
      rw [show (s.at_ k).new = Bits.with_ s.new k from rfl, Bits.has_with hi.newOk (by omega), if_pos rfl, Bool.or_true]
    rw [hin, hg]
    rfl
  unfold rootOk
  rw [hasI_nat (by omega), h3, Bool.or_true]
def AgainRel (O : PgOwn) (w0 : World) (K : Nat → Prop) (P D len : Nat) (r i : Value) (wr : World) : Prop :=
  ∃ j : Nat, j ≤ len ∧ i = .int .i64 (j : Int) ∧ ∃ z : Int, r = .int .i64 z ∧ ∃ d s data firm, LawP O w0 K wr P D 30 d s data firm ∧ rootOk s z = true ∧ s.sup.gen = 1 ∧ d.soft.length ≤ j
/-- a call of New whose answer nobody looks at -/
def NewDone (O : PgOwn) (w0 : World) (K : Nat → Prop) (P D n : Nat) (s : Pst) (w' : World) : Prop := ∃ d' s' data' firm', LawP O w0 K w' P D n d' s' data' firm' ∧ s'.sup = s.sup
theorem New_done {O : PgOwn} (H : PgSpec O) {w0 w : World} {K : Nat → Prop} {P D n : Nat} {d : Dk} {s : Pst} {data firm : Nat → List UInt8} (h : LawP O w0 K w P D n d s data firm) (hg : Laid2 w0) (hs : d.soft.length ≤ 100000) (t : ByteArray) (ht : t.size ≤ 120) :
    Calls Tryd.prog 24 #[ptr P, .string t] w fun e w' => ∃ v, e = .returned v ∧ NewDone O w0 K P D n s w' := by
  cases hf : s.first n with
  | none =>
    refine (H.newFull h.pg h.inv h.up (h.laid hg).crc t ht hf).mono ?_
    rintro e w' ⟨v, rfl, _, hb⟩
    exact ⟨_, rfl, _, _, _, _, h.carry H hb, rfl⟩
  | some k =>
    refine (H.newYes h.pg h.inv h.up (h.laidK hg) hs t ht k hf).mono ?_
    rintro e w' ⟨rfl, hp, hk⟩
    exact ⟨_, rfl, _, _, _, _, h.turned hp hk (h.inv.laid hf (by rw [lenS]; exact ht)) h.up, rfl⟩
/-- two pagers of one disk, with only what was committed -/
structure Twins (O : PgOwn) (w0 : World) (K : Nat → Prop) (w : World) (P Q D n : Nat) (d : Dk) (x : Sb) (data firm : Nat → List UInt8) : Prop where
  p : LawP O w0 K w P D n d (Pst.opened x) data firm
  q : LawP O w0 K w Q D n d (Pst.opened x) data firm
theorem Twins.carry {O : PgOwn} (H : PgSpec O) {w0 : World} {K : Nat → Prop} {w w' : World} {P Q D n : Nat} {d : Dk} {x : Sb} {data firm : Nat → List UInt8} (h : Twins O w0 K w P Q D n d x data firm) (hb : Below w.heap.size w w') : Twins O w0 K w' P Q D n d x data firm := ⟨h.p.carry H hb, h.q.carry H hb⟩
/-- Abort of one, beside the other one -/
theorem Abort_beside {O : PgOwn} (H : PgSpec O) {w0 w wo : World} {K : Nat → Prop} {P Q D n : Nat} {d : Dk} {s : Pst} {data firm : Nat → List UInt8} {B : Nat → Prop} (h : LawP O w0 K wo P D n d s data firm) (hq : O B w Q D (Pst.opened s.sup)) (hB : ∀ b, B b → wo.heap.size ≤ b) (hb : Below wo.heap.size wo w) :
    Calls Tryd.prog 18 #[ptr P] w fun e w' => e = .returned (.tuple #[]) ∧ Twins O w0 K w' P Q D n d s.sup data firm := by
  obtain ⟨Bp, h1, h2, h3, h4⟩ := h.pg
  have h1w : O Bp w P D s := H.carry h1 fun b hb2 => hb.block b (H.lt h1 b hb2)
  have hd : DiskAt (fun b => (K b ∨ Bp b) ∨ B b) w D n d := h2.more hb fun k hk => hk.imp id fun h => hB k h
  refine (H.abort h1w).mono ?_
  rintro e w' ⟨rfl, B', h5, h6, h7⟩
  have hkk : Kept K w w' := ⟨h7.os, h7.tape, h7.output, h7.size, fun k hk => h7.block k ⟨Nat.lt_of_lt_of_le (h3 k hk) hb.size, fun hb2 => h4 k hb2 hk⟩⟩
  have hqs : O B w' Q D (Pst.opened s.sup) := H.carry hq fun b hb2 => h7.block b ⟨H.lt hq b hb2, fun hp => by
    have e1 := H.lt h1 b hp
    have e2 := hB b hb2
    omega⟩
  have hd2 : DiskAt (fun b => (K b ∨ B' b) ∨ B b) w' D n d := hd.off (B := Bp) (fun b hp => .inl (.inr hp)) h7 fun k hk => by
    rcases hk with (hk | hk) | hk
    · exact .inl (.inl (.inl hk))
    · rcases h6 k hk with h | h
      · exact .inl (.inl (.inr h))
      · exact .inr h
    · exact .inl (.inr hk)
  have hth : There K w' := fun k hk => Nat.lt_of_lt_of_le (h3 k hk) (Nat.le_trans hb.size h7.size)
  have hbw : Below w0.heap.size w0 w' := h.belowK ((Kept.of_below hb h3).trans hkk)
  refine ⟨rfl, ⟨⟨B', h5, hd2.more (Below.refl _ _) fun k hk => .inl (.inl hk), hth, fun b hb2 hk => ?_⟩, h.inv.aborted, h.up, hbw, h.low⟩, ⟨⟨B, hqs, hd2.more (Below.refl _ _) fun k hk => .inl (hk.imp .inl id), hth, fun b hb2 hk => ?_⟩, h.inv.aborted, h.up, hbw, h.low⟩⟩
  · rcases h6 b hb2 with h | h
    · exact h4 b h hk
    · have := h3 b hk
      have := hb.size
      omega
  · have := h3 b hk
    have := hB b hb2
    omega
def TwinRel (O : PgOwn) (w0 : World) (K : Nat → Prop) (P Q D n : Nat) (d : Dk) (x : Sb) (data firm : Nat → List UInt8) (i : Value) (wr : World) : Prop := ∃ k : Nat, 2 ≤ k ∧ k ≤ 30 ∧ i = .int .i64 (k : Int) ∧ Twins O w0 K wr P Q D n d x data firm
set_option maxRecDepth 100000 in
set_option maxHeartbeats 4000000 in
theorem pagain_short {O : PgOwn} (H : PgSpec O) (A : Option Addr) (len cap : Nat) (ss : List ByteArray) (hl : len ≤ 20) (w : World) (hss : Strs w A len ss) (hg : Laid2 w) :
    Calls Tryd.prog 7 #[.slice A len cap] w fun e w' => e = .returned (.bool true) ∧ Below w.heap.size w w' := by
  have HG := Lib.hid hg
  have HSS := Lib.hid hss
  have hd : decide ((20 : Int) < (len : Int)) = false := by simp; omega
  clear hg hss
  go_enter Tryd.func7, Tryd.ntmps7
  go_wp2_with fail
  refine (awake_any H _ HG.out).mono ?_
  rintro e w1 ⟨rfl, hb⟩
  have HB1 := Lib.hid hb
  clear hb
  go_wp2_with fail
  refine (New_yes 30 (by decide) (by decide) w1).mono ?_
  rintro e w2 ⟨D, rfl, hd2', hb⟩
  have HF := Lib.hid (Format_new H (n := 30) (by decide) (by decide) (fun _ => []) HB1.out hd2' hb HG.out)
  obtain ⟨K, HK⟩ : ∃ K : Nat → Prop, Hid (K = (· < w1.heap.size)) := ⟨_, Lib.hid rfl⟩
  rw [← HK.out] at HF
  clear hd2' hb
  go_wp2_with fail
  refine HF.out.mono ?_
  rintro e w3 ⟨P, rfl, hl3⟩
  have HL := Lib.hid hl3
  clear hl3 HF
  go_wp2_with fail
  go_loopw [7, 8] (fun r i wr => AgainRel O w K P D len r i wr) (fun _ i _ => len - (intOf i).toNat)
  case atStart => exact ⟨0, Nat.zero_le _, rfl, 0, rfl, _, _, _, _, HL.out, by unfold rootOk; rw [decide_eq_true rfl]; rfl, rfl, by show (0 : Nat) ≤ 0; decide⟩
  case round =>
    obtain ⟨j, hj, rfl, z, rfl, d, s, data, firm, hl4, hr, hgen, hsoft⟩ := hrel
    have HL4 := Lib.hid hl4
    have HR4 := Lib.hid hr
    have HG4 := Lib.hid hgen
    have HSO := Lib.hid hsoft
    clear hl4 hr hgen hsoft HL
    by_cases hlt : j < len
    · have hlt2 : (j : Int) < (len : Int) := by omega
      obtain ⟨a, rfl, hab, hcell⟩ := HSS.out.2 (by omega)
      have hjs : j < ss.length := by rw [HSS.out.1]; exact hlt
      obtain ⟨t, HT⟩ : ∃ t, Hid (t = ss[j]) := ⟨_, Lib.hid rfl⟩
      have ct : wr.cell? (a.add j) = some (.string t) := (HL4.out.below.cell (by rw [block_of_add]; exact hab)).trans (hcell j t (by rw [HT.out]; exact List.getElem?_eq_getElem hjs))
      clear hab hcell
      by_cases hts : t.size ≤ 120
      · cases hf : s.first 30 with
        | none =>
          have HFN := Lib.hid hf
          clear hf
          go_wp2_with fail
          refine (H.newFull HL4.out.pg HL4.out.inv HL4.out.up (HL4.out.laid HG.out).crc t hts HFN.out).mono ?_
          rintro e w4 ⟨v, rfl, he, hb⟩
          have HL5 := Lib.hid (HL4.out.carry H hb)
          have HE5 := Lib.hid he.is
          clear he hb HL4
          go_wp2_with fail
          refine (Num_any 6 v w4 HE5.out (HL5.out.laid HG.out).err).mono ?_
          rintro e w5 ⟨rfl, hb⟩
          have HL6 := Lib.hid (HL5.out.carry H hb)
          clear hb HL5 HE5
          go_wp2_with fail
          go_roundw
          case rel => exact ⟨j + 1, hlt, by go_num, z, rfl, _, _, _, _, HL6.out, HR4.out, HG4.out, by have := HSO.out; omega⟩
          case measure => simp [intOf]; omega
        | some k =>
          have HFS := Lib.hid hf
          have HRN := Lib.hid (rootOk_new HL4.out.inv hf (t := t.data.toList) (by rw [lenS]; exact hts))
          clear hf
          go_wp2_with fail
          refine (H.newYes HL4.out.pg HL4.out.inv HL4.out.up (HL4.out.laidK HG.out) (by have := HSO.out; omega) t hts k HFS.out).mono ?_
          rintro e w4 ⟨rfl, hp, hk⟩
          have HL5 := Lib.hid (HL4.out.turned hp hk (HL4.out.inv.laid HFS.out (by rw [lenS]; exact hts)) HL4.out.up)
          clear hp hk HL4
          go_wp2_with fail
          refine (Num_nil _).mono ?_
          rintro e w' ⟨rfl, rfl⟩
          go_wp2_with fail
          go_roundw
          case rel => exact ⟨j + 1, hlt, by go_num, (k : Int), rfl, _, _, _, _, HL5.out, HRN.out, HG4.out, by rw [show (d.write k (pgB (pageP t.data.toList))).soft = d.soft ++ [(k, pgB (pageP t.data.toList))] from rfl, List.length_append]; have := HSO.out; simp; omega⟩
          case measure => simp [intOf]; omega
      · have hts2 : 120 < t.size := by omega
        go_wp2_with fail
        refine (H.newLong HL4.out.pg HL4.out.inv HL4.out.up (HL4.out.laid HG.out).crc t hts2).mono ?_
        rintro e w4 ⟨v, rfl, he, hb⟩
        have HL5 := Lib.hid (HL4.out.carry H hb)
        have HE5 := Lib.hid he.is
        clear he hb HL4
        go_wp2_with fail
        refine (Num_any 8 v w4 HE5.out (HL5.out.laid HG.out).err).mono ?_
        rintro e w5 ⟨rfl, hb⟩
        have HL6 := Lib.hid (HL5.out.carry H hb)
        clear hb HL5 HE5
        go_wp2_with fail
        go_roundw
        case rel => exact ⟨j + 1, hlt, by go_num, z, rfl, _, _, _, _, HL6.out, HR4.out, HG4.out, by have := HSO.out; omega⟩
        case measure => simp [intOf]; omega
    · obtain rfl : j = len := by omega
      go_wp2_with fail
      refine (H.commitYes HL4.out.pg HL4.out.inv HL4.out.up (HL4.out.laidK HG.out) z HR4.out (by rw [HG4.out]; decide)).mono ?_
      rintro e w4 ⟨rfl, hp, hk⟩
      have HL5 := Lib.hid (HL4.out.turned hp hk (HL4.out.inv.committed (by rw [HG4.out]; decide) HR4.out) HL4.out.up)
      clear hp hk HL4
      go_wp2_with fail
      refine (New_done H HL5.out HG.out (by show (0 : Nat) ≤ 100000; decide) ⟨#[108, 97, 116, 101]⟩ (by decide)).mono ?_
      rintro e w5 ⟨_, rfl, d6, s6, data6, firm6, hl6, hsup⟩
      have HL6 := Lib.hid hl6
      have HG6 : Hid (s6.sup.gen = 2) := Lib.hid (by rw [hsup]; show s.sup.gen + 1 = 2; rw [HG4.out])
      have HR6 : Hid (s6.sup.root = z) := Lib.hid (by rw [hsup]; rfl)
      clear hl6 hsup HL5
      go_wp2_with fail
      refine (H.openYes HL6.out.pg.disk (HL6.out.laid HG.out).crc HL6.out.up HL6.out.inv.held.three HL6.out.inv.bestD HL6.out.inv.held.good).mono ?_
      rintro e w6 ⟨Q, B, rfl, ho, hB, hb⟩
      have HQ := Lib.hid ho
      have HBQ := Lib.hid hB
      have HBO := Lib.hid hb
      have HL7 := Lib.hid (HL6.out.carry H hb)
      clear ho hB hb
      go_wp2_with fail
      refine (Num_nil _).mono ?_
      rintro e w' ⟨rfl, rfl⟩
      go_wp2_with fail
      refine (Num_nil _).mono ?_
      rintro e w' ⟨rfl, rfl⟩
      go_wp2_with fail
      refine (Num_nil _).mono ?_
      rintro e w' ⟨rfl, rfl⟩
      go_wp2_with fail
      refine (Num_nil _).mono ?_
      rintro e w' ⟨rfl, rfl⟩
      go_wp2_with fail
      refine (H.root HQ.out).mono ?_
      rintro e w7 ⟨rfl, hb⟩
      have HQ8 := Lib.hid (H.carry HQ.out fun b hb2 => hb.block b (H.lt HQ.out b hb2))
      have HBO8 : Hid (Below w5.heap.size w5 w7) := Lib.hid (HBO.out.trans (hb.mono HBO.out.size))
      have HL8 := Lib.hid (HL7.out.carry H hb)
      clear hb HQ HL7 HBO
      rw [show (Pst.opened s6.sup).sup.root = z from HR6.out]
      go_wp2_with fail
      refine (H.gen HQ8.out).mono ?_
      rintro e w8 ⟨rfl, hb⟩
      have HQ9 := Lib.hid (H.carry HQ8.out fun b hb2 => hb.block b (H.lt HQ8.out b hb2))
      have HBO9 : Hid (Below w5.heap.size w5 w8) := Lib.hid (HBO8.out.trans (hb.mono HBO8.out.size))
      have HL9 := Lib.hid (HL8.out.carry H hb)
      clear hb HQ8 HL8 HBO8
      rw [show (Pst.opened s6.sup).sup.gen = 2 from HG6.out]
      go_wp2_with fail
      refine (H.pgGen HL9.out.pg).mono ?_
      rintro e w9 ⟨rfl, hb⟩
      have HQ10 := Lib.hid (H.carry HQ9.out fun b hb2 => hb.block b (H.lt HQ9.out b hb2))
      have HBO10 : Hid (Below w5.heap.size w5 w9) := Lib.hid (HBO9.out.trans (hb.mono HBO9.out.size))
      clear hb HQ9 HL9 HBO9
      rw [HG6.out]
      go_wp2_with fail
      refine (Abort_beside H HL6.out HQ10.out HBQ.out HBO10.out).mono ?_
      rintro e w10 ⟨rfl, htw⟩
      have HT := Lib.hid htw
      clear htw HQ10 HBO10 HL6 HBQ
      go_wp2_with fail
      refine (H.used HT.out.q.pg HT.out.q.inv).mono ?_
      rintro e w11 ⟨rfl, hb⟩
      have HT11 := Lib.hid (HT.out.carry H hb)
      clear hb HT
      go_wp2_with fail
      refine (H.used HT11.out.p.pg HT11.out.p.inv).mono ?_
      rintro e w12 ⟨rfl, hb⟩
      have HUL := Lib.hid HT11.out.p.inv.usedOk.len
      have HT12 := Lib.hid (HT11.out.carry H hb)
      clear hb HT11
      obtain ⟨u, HU⟩ : ∃ u, Hid (u = (Pst.opened s6.sup).used) := ⟨_, Lib.hid rfl⟩
      rw [← HU.out] at HUL ⊢
      have heq := equalIn_same HUL.out
      have hgd := guardSet
      go_wp2_with fail
      go_loopw [14] (fun i wr => TwinRel O w K P Q D 30 d6 s6.sup data6 firm6 i wr) (fun i _ => 30 - (intOf i).toNat)
      case atStart => exact ⟨2, by decide, by decide, rfl, HT12.out⟩
      case round =>
        obtain ⟨k, hk2, hk30, rfl, htw⟩ := hrel
        have HT := Lib.hid htw
        clear htw HT12 heq hgd
        by_cases hlt : k < 30
        · have hlt2 : (k : Int) < 30 := by omega
          go_wp2_with fail
          refine (H.load HT.out.p.pg HT.out.p.inv HT.out.p.up (HT.out.p.laid HG.out).crc (k : Int)).mono ?_
          obtain ⟨y, HY⟩ : ∃ y : ByteArray, Hid (Value.string y = (if isInZ (Pst.opened s6.sup) (k : Int) = true then txt (data6 (k : Int).toNat) else txt [])) := by
            by_cases h : isInZ (Pst.opened s6.sup) (k : Int) = true
            · exact ⟨_, Lib.hid (by rw [if_pos h]; rfl)⟩
            · exact ⟨_, Lib.hid (by rw [if_neg h]; rfl)⟩
          obtain ⟨c, HC⟩ : ∃ c : Int, Hid (c = if isInZ (Pst.opened s6.sup) (k : Int) = true then 0 else 4) := ⟨_, Lib.hid rfl⟩
          rw [← HY.out, ← HC.out]
          rintro e w13 ⟨v1, rfl, he, hb⟩
          have HE := Lib.hid he.is
          have HT13 := Lib.hid (HT.out.carry H hb)
          clear he hb HT
          go_wp2_with fail
          refine (H.load HT13.out.q.pg HT13.out.q.inv HT13.out.q.up (HT13.out.q.laid HG.out).crc (k : Int)).mono ?_
          rw [← HY.out, ← HC.out]
          rintro e w14 ⟨v2, rfl, he, hb⟩
          have HE1 := Lib.hid (HE.out.carry hb)
          have HE2 := Lib.hid he.is
          have HT14 := Lib.hid (HT13.out.carry H hb)
          have hyy : (y.toList == y.toList) = true := by simp
          clear he hb HT13 HE
          go_wp2_with fail
          refine (Num_any c v1 w14 HE1.out (HT14.out.p.laid HG.out).err).mono ?_
          rintro e w15 ⟨rfl, hb⟩
          have HE3 := Lib.hid (HE2.out.carry hb)
          have HT15 := Lib.hid (HT14.out.carry H hb)
          clear hb HE1 HE2 HT14
          go_wp2_with fail
          refine (Num_any c v2 w15 HE3.out (HT15.out.p.laid HG.out).err).mono ?_
          rintro e w16 ⟨rfl, hb⟩
          have HT16 := Lib.hid (HT15.out.carry H hb)
          clear hb HE3 HT15
          go_wp2_with fail
          go_roundw
          case rel => exact ⟨k + 1, by omega, hlt, by go_num, HT16.out⟩
          case measure => simp [intOf]; omega
        · obtain rfl : k = 30 := by omega
          go_wp2_with fail
          go_ret
          exact ⟨rfl, HT.out.p.below⟩
theorem pagain_walk {O : PgOwn} (H : PgSpec O) (A : Option Addr) (len cap : Nat) (ss : List ByteArray) (w : World) (hss : Strs w A len ss) (hg : Laid2 w) :
    Calls Tryd.prog 7 #[.slice A len cap] w fun e w' => e = .returned (.bool true) ∧ Below w.heap.size w w' := by
  by_cases hl : len ≤ 20
  · exact pagain_short H A len cap ss hl w hss hg
  · exact pagain_long H A len cap (by omega) w hg
end Go.Proofs.YtbcapaafoklhdaaDoor
