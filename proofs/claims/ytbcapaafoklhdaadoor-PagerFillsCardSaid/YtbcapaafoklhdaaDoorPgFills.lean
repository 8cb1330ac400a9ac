/-
  The walk of the statement PagerFills: it answers true, and no memory that was there has turned. Conditions: the pager's calls are as PgSpec says; errors.errorType and crc.halved are laid.
-/
import Derived.Test.YtbcapaafoklhdaaDoorPgLaw
namespace Go.Proofs.YtbcapaafoklhdaaDoor
open Go.RowKit

theorem pfills_long {O : PgOwn} (H : PgSpec O) (z : Nat) (t : ByteArray) (hl : 120 < t.size) (w : World) (hg : Laid2 w) :
    Calls Tryd.prog 6 #[.int .u8 z, .string t] w fun e w' => e = .returned (.bool true) ∧ Below w.heap.size w w' := by
  have HG := Lib.hid hg
  have hd : decide ((120 : Int) < (t.size : Int)) = true := by simp; omega
  clear hg
  go_enter Tryd.func6, Tryd.ntmps6
  go_wp2_with fail
  refine (awake_any H _ HG.out).mono ?_
  rintro e w1 ⟨rfl, hb⟩
  have HB := Lib.hid hb
  have HG1 := Lib.hid (HG.out.carry hb)
  clear hb
  go_wp2_with fail
  refine (awake_any H _ HG1.out).mono ?_
  rintro e w2 ⟨rfl, hb⟩
  have HB2 := Lib.hid (HB.out.trans (hb.mono HB.out.size))
  clear hb
  go_wp2_with fail
  go_ret
  exact ⟨rfl, HB2.out⟩
/-- all from 2 up to k -/
def upTo (k : Nat) : Nat → Bool := fun j => decide (2 ≤ j ∧ j < k)
theorem upTo_two (j : Nat) : upTo 2 j = false := decide_eq_false (by omega)
theorem upTo_succ {k : Nat} (h : 2 ≤ k) (j : Nat) : upTo (k + 1) j = if j = k then true else upTo k j := by
  unfold upTo
  by_cases e : j = k
  · rw [if_pos e, decide_eq_true (by omega)]
  · rw [if_neg e]
    exact decide_eq_decide.2 (by omega)
theorem upTo_in {k j : Nat} (h1 : 2 ≤ j) (h2 : j < k) : upTo k j = true := decide_eq_true ⟨h1, h2⟩
theorem upTo_out {k j : Nat} (h : k ≤ j) : upTo k j = false := decide_eq_false (by omega)
/-- the first loop -/
def Fill1 (O : PgOwn) (w0 : World) (K : Nat → Prop) (P D n : Nat) (i : Value) (wr : World) : Prop :=
  ∃ k : Nat, 2 ≤ k ∧ k ≤ n ∧ i = .int .i64 (k : Int) ∧ ∃ d s data firm, LawP O w0 K wr P D n d s data firm ∧ StIs s no1 (upTo k) no1 ∧ s.sup.gen = 1 ∧ d.soft.length ≤ k
/-- the second loop -/
def Fill2 (O : PgOwn) (w0 : World) (K : Nat → Prop) (P D n : Nat) (g : Value) (i : Value) (wr : World) : Prop :=
  ∃ k : Nat, 2 ≤ k ∧ k ≤ n ∧ i = .int .i64 (k : Int) ∧ ∃ d s data firm, LawP O w0 K wr P D n d s data firm ∧ StIs s (upTo n) no1 (upTo k) ∧ s.sup.gen = 2 ∧ d.soft.length = 0 ∧ ErrK K wr 6 g
set_option maxRecDepth 100000 in
set_option maxHeartbeats 4000000 in
theorem pfills_yes {O : PgOwn} (H : PgSpec O) (z : Nat) (hz : z < 256) (t : ByteArray) (hl : t.size ≤ 120) (w : World) (hg : Laid2 w) :
    Calls Tryd.prog 6 #[.int .u8 z, .string t] w fun e w' => e = .returned (.bool true) ∧ Below w.heap.size w w' := by
  have HG := Lib.hid hg
  have hd : decide ((120 : Int) < (t.size : Int)) = false := by simp; omega
  obtain ⟨n, HN⟩ : ∃ n, Hid (n = 3 + z % 20) := ⟨_, Lib.hid rfl⟩
  have hn3 : 3 ≤ n := by rw [HN.out]; omega
  have hn22 : n ≤ 22 := by rw [HN.out]; omega
  have HT : Hid (t.data.toList.length ≤ 120) := Lib.hid (by rw [lenS]; exact hl)
  clear hg
  go_enter Tryd.func6, Tryd.ntmps6
  go_wp2_with fail
  refine (awake_any H _ HG.out).mono ?_
  rintro e w1 ⟨rfl, hb⟩
  have HB1 := Lib.hid hb
  clear hb
  go_wp2_with fail
  rw [show (3 + (z : Int) % 20) = (n : Int) by rw [HN.out]; omega]
  refine (New_yes n (by omega) (by omega) w1).mono ?_
  rintro e w2 ⟨D, rfl, hd2, hb⟩
  have HF := Lib.hid (Format_new H hn3 (by omega) (fun _ => []) HB1.out hd2 hb HG.out)
  obtain ⟨K, HK⟩ : ∃ K : Nat → Prop, Hid (K = (· < w1.heap.size)) := ⟨_, Lib.hid rfl⟩
  rw [← HK.out] at HF
  clear hd2 hb
  go_wp2_with fail
  refine HF.out.mono ?_
  rintro e w3 ⟨P, rfl, hl⟩
  have HL := Lib.hid hl
  clear hl HF
  go_wp2_with fail
  go_loopw [10] (fun i wr => Fill1 O w K P D n i wr) (fun i _ => n - (intOf i).toNat)
  case atStart => exact ⟨2, by decide, by omega, rfl, _, _, _, _, HL.out, (StIs.opened_bare 1).congr (fun _ _ => rfl) (fun k _ => upTo_two k) (fun _ _ => rfl), rfl, by show (0 : Nat) ≤ 2; decide⟩
  case round =>
    obtain ⟨k, hk2, hkn, rfl, d, s, data, firm, hl, hst, hgen, hsoft⟩ := hrel
    have HL1 := Lib.hid hl
    have HS1 := Lib.hid hst
    have HGE := Lib.hid hgen
    have HSO := Lib.hid hsoft
    clear hl hst hgen hsoft HL
    by_cases hlt : k < n
    · have hlt2 : (k : Int) < (n : Int) := by omega
      have HFS := Lib.hid (HS1.out.first_some HL1.out.inv hk2 hlt (by rw [upTo_out (Nat.le_refl k)]; rfl) (fun m h1 h2 => by rw [upTo_in h1 h2, Bool.or_true]))
      go_wp2_with fail
      refine (H.newYes HL1.out.pg HL1.out.inv HL1.out.up (HL1.out.laidK HG.out) (by have := HSO.out; omega) t hl k HFS.out).mono ?_
      rintro e w4 ⟨rfl, hp, hk⟩
      have HL4 := Lib.hid (HL1.out.turned hp hk (HL1.out.inv.laid HFS.out HT.out) HL1.out.up)
      have HS4 := Lib.hid ((HS1.out.at_ HL1.out.inv (k := k) (by omega)).congr (gu := no1) (gn := upTo (k + 1)) (gg := no1) (fun _ _ => rfl) (fun j _ => upTo_succ hk2 j) (fun _ _ => rfl))
      clear hp hk HL1
      go_wp2_with fail
      refine (Num_nil _).mono ?_
      rintro e w' ⟨rfl, rfl⟩
      go_wp2_with fail
      go_roundw
      case rel => exact ⟨k + 1, by omega, hlt, by go_num, _, _, _, _, HL4.out, HS4.out, HGE.out, by rw [show (d.write k (pgB (pageP t.data.toList))).soft = d.soft ++ [(k, pgB (pageP t.data.toList))] from rfl, List.length_append]; have := HSO.out; simp; omega⟩
      case measure => simp [intOf]; omega
    · obtain rfl : k = n := by omega
      have HFN := Lib.hid (HS1.out.first_none HL1.out.inv (fun m h1 h2 => by rw [upTo_in h1 h2, Bool.or_true]))
      go_wp2_with fail
      refine (H.newFull HL1.out.pg HL1.out.inv HL1.out.up (HL1.out.laid HG.out).crc t hl HFN.out).mono ?_
      rintro e w4 ⟨g, rfl, he, hb⟩
      obtain ⟨K2, hKK, hl4, hg4⟩ := HL1.out.err H hb he
      have HL4 := Lib.hid hl4
      have HE4 := Lib.hid hg4
      have hu2 : Bits.has s.used 2 = true := by rw [HS1.out.used HL1.out.inv (by decide), upTo_in (Nat.le_refl 2) (by omega)]; rfl
      have HR2 : Hid (rootOk s 2 = true) := Lib.hid (by unfold rootOk; rw [show hasI s.used 2 = Bits.has s.used 2 from hasI_nat (n := 2) (by decide), hu2]; simp)
      clear he hb hl4 hg4 HFN hu2 HL1
      go_wp2_with fail
      refine (H.commitYes HL4.out.pg HL4.out.inv HL4.out.up (HL4.out.laidK HG.out) 2 HR2.out (by rw [HGE.out]; decide)).mono ?_
      rintro e w5 ⟨rfl, hp, hk⟩
      have HL5 := Lib.hid (HL4.out.turned hp hk (HL4.out.inv.committed (by rw [HGE.out]; decide) HR2.out) HL4.out.up)
      have HS5 := Lib.hid ((HS1.out.commit HL4.out.inv 2).congr (gu := upTo k) (gn := no1) (gg := upTo 2) (fun j _ => by simp [no1]) (fun _ _ => rfl) (fun j _ => upTo_two j))
      have HE5 := Lib.hid (HE4.out.kept hk)
      have HG5 : Hid ((s.commit 2).sup.gen = 2) := Lib.hid (by show s.sup.gen + 1 = 2; rw [HGE.out])
      clear hp hk HL4 HE4 HS1
      go_wp2_with fail
      go_loopw [16] (fun i wr => Fill2 O w K2 P D k g i wr) (fun i _ => k - (intOf i).toNat)
      case atStart => exact ⟨2, by decide, hk2, rfl, _, _, _, _, HL5.out, HS5.out, HG5.out, rfl, HE5.out⟩
      case round =>
        obtain ⟨j, hj2, hjn, rfl, d6, s6, data6, firm6, hl6, hs6, hg6, hd6, he6⟩ := hrel
        have HL6 := Lib.hid hl6
        have HS6 := Lib.hid hs6
        have HG6 := Lib.hid hg6
        have HD6 := Lib.hid hd6
        have HE6 := Lib.hid he6
        clear hl6 hs6 hg6 hd6 he6 HL5 HS5 HG5 HE5
        by_cases hlt : j < k
        · have hlt2 : (j : Int) < (k : Int) := by omega
          have HU : Hid (Bits.has s6.used j = true) := Lib.hid (by rw [HS6.out.used HL6.out.inv (by omega), upTo_in hj2 hlt, upTo_out (Nat.le_refl j)]; rfl)
          go_wp2_with fail
          refine (H.dropYes HL6.out.pg HL6.out.inv j (by omega) HU.out).mono ?_
          rintro e w7 ⟨rfl, hp, hk⟩
          have HL7 := Lib.hid (HL6.out.turned hp hk (HL6.out.inv.dropped (by omega) HU.out) HL6.out.up)
          have HS7 := Lib.hid ((HS6.out.drop_old HL6.out.inv (k := j) (by omega) rfl).congr (gu := upTo k) (gn := no1) (gg := upTo (j + 1)) (fun _ _ => rfl) (fun _ _ => rfl) (fun m _ => upTo_succ hj2 m))
          have HE7 := Lib.hid (HE6.out.kept hk)
          have HG7 : Hid ((s6.drop j).sup.gen = 2) := Lib.hid (by unfold Pst.drop; split <;> exact HG6.out)
          have HN7 : Hid (hasI (s6.drop j).used (j : Int) = false) := Lib.hid (by rw [hasI_nat (by omega), HS7.out.used HL7.out.inv (by omega), upTo_in (k := j + 1) hj2 (by omega)]; simp)
          clear hp hk HL6 HS6 HE6 HU HG6
          go_wp2_with fail
          refine (Num_nil _).mono ?_
          rintro e w' ⟨rfl, rfl⟩
          go_wp2_with fail
          refine (H.dropNo HL7.out.pg HL7.out.inv (j : Int) HN7.out).mono ?_
          rintro e w8 ⟨v, rfl, he, hb⟩
          obtain ⟨K3, hKK3, hl8, hv8⟩ := HL7.out.err H hb he
          have HL8 := Lib.hid (HL7.out.carry H hb)
          have HE8 : Hid (ErrK K2 w8 6 g) := Lib.hid (HE7.out.kept (Kept.of_below hb HL7.out.there))
          have HV8 := Lib.hid hv8.is
          clear he hb hl8 hv8 hKK3 HL7 HE7
          go_wp2_with fail
          refine (Num_any 4 v w8 HV8.out (HL8.out.laid HG.out).err).mono ?_
          rintro e w9 ⟨rfl, hb⟩
          have HL9 := Lib.hid (HL8.out.carry H hb)
          have HE9 : Hid (ErrK K2 w9 6 g) := Lib.hid (HE8.out.kept (Kept.of_below hb HL8.out.there))
          clear hb HL8 HE8 HV8
          go_wp2_with fail
          go_roundw
          case rel => exact ⟨j + 1, by omega, hlt, by go_num, _, _, _, _, HL9.out, HS7.out, HG7.out, HD6.out, HE9.out⟩
          case measure => simp [intOf]; omega
        · obtain rfl : j = k := by omega
          have HFN := Lib.hid (HS6.out.first_none HL6.out.inv (fun m h1 h2 => by rw [upTo_in h1 h2]; rfl))
          go_wp2_with fail
          refine (H.newFull HL6.out.pg HL6.out.inv HL6.out.up (HL6.out.laid HG.out).crc t hl HFN.out).mono ?_
          rintro e w7 ⟨i, rfl, he, hb⟩
          obtain ⟨K3, hKK3, hl7, hi7⟩ := HL6.out.err H hb he
          have HL7 := Lib.hid hl7
          have HI7 := Lib.hid hi7
          have HE7 : Hid (ErrK K3 w7 6 g) := Lib.hid ((HE6.out.kept (Kept.of_below hb HL6.out.there)).more hKK3)
          have HR0 : Hid (rootOk s6 0 = true) := Lib.hid (by unfold rootOk; rw [decide_eq_true rfl]; rfl)
          clear he hb hl7 hi7 hKK3 HFN HL6 HE6
          go_wp2_with fail
          refine (H.commitYes HL7.out.pg HL7.out.inv HL7.out.up (HL7.out.laidK HG.out) 0 HR0.out (by rw [HG6.out]; decide)).mono ?_
          rintro e w8 ⟨rfl, hp, hk⟩
          have HL8 := Lib.hid (HL7.out.turned hp hk (HL7.out.inv.committed (by rw [HG6.out]; decide) HR0.out) HL7.out.up)
          have HS8 := Lib.hid ((HS6.out.commit HL7.out.inv 0).congr (gu := no1) (gn := no1) (gg := no1) (fun m _ => by simp [no1]) (fun _ _ => rfl) (fun _ _ => rfl))
          have HE8 := Lib.hid (HE7.out.kept hk)
          have HI8 := Lib.hid (HI7.out.kept hk)
          clear hp hk HL7 HE7 HI7 HS6
          have HFS := Lib.hid (HS8.out.first_some HL8.out.inv (k := 2) (by decide) (by omega) rfl (fun m h1 h2 => absurd h2 (by omega)))
          go_wp2_with fail
          refine (H.newYes HL8.out.pg HL8.out.inv HL8.out.up (HL8.out.laidK HG.out) (by show (0 : Nat) ≤ 100000; decide) t hl 2 HFS.out).mono ?_
          rintro e w9 ⟨rfl, hp, hk⟩
          have HL9 := Lib.hid (HL8.out.turned hp hk (HL8.out.inv.laid HFS.out HT.out) HL8.out.up)
          have HE9 := Lib.hid (HE8.out.kept hk).is
          have HI9 := Lib.hid (HI8.out.kept hk).is
          clear hp hk HL8 HE8 HI8
          go_wp2_with fail
          refine (Num_nil _).mono ?_
          rintro e w' ⟨rfl, rfl⟩
          go_wp2_with fail
          refine (Num_nil _).mono ?_
          rintro e w' ⟨rfl, rfl⟩
          go_wp2_with fail
          refine (Num_any 6 g w9 HE9.out (HL9.out.laid HG.out).err).mono ?_
          rintro e wA ⟨rfl, hb⟩
          have HLA := Lib.hid (HL9.out.carry H hb)
          have HIA := Lib.hid (HI9.out.carry hb)
          clear hb HL9 HI9 HE9
          go_wp2_with fail
          refine (Num_nil _).mono ?_
          rintro e w' ⟨rfl, rfl⟩
          go_wp2_with fail
          refine (Num_any 6 i wA HIA.out (HLA.out.laid HG.out).err).mono ?_
          rintro e wB ⟨rfl, hb⟩
          have HLB := Lib.hid (HLA.out.carry H hb)
          clear hb HLA HIA
          go_wp2_with fail
          refine (Num_nil _).mono ?_
          rintro e w' ⟨rfl, rfl⟩
          go_wp2_with fail
          refine (Num_nil _).mono ?_
          rintro e w' ⟨rfl, rfl⟩
          go_wp2_with fail
          go_ret
          exact ⟨rfl, HLB.out.below⟩
theorem pfills_walk {O : PgOwn} (H : PgSpec O) (z : Nat) (t : ByteArray) (hz : z < 256) (w : World) (hg : Laid2 w) :
    Calls Tryd.prog 6 #[.int .u8 z, .string t] w fun e w' => e = .returned (.bool true) ∧ Below w.heap.size w w' := by
  by_cases hl : t.size ≤ 120
  · exact pfills_yes H z hz t hl w hg
  · exact pfills_long H z t (by omega) w hg
end Go.Proofs.YtbcapaafoklhdaaDoor
