/-
  The walk of the statement PagerPlays: it answers true, and no memory that was there has turned. Conditions: the pager's calls are as PgSpec says; errors.errorType and crc.halved are laid.
-/
import Derived.Test.YtbcapaafoklhdaaDoorPgPlaysSwitch
import Derived.Test.YtbcapaafoklhdaaDoorPgPlaysTail
namespace Go.Proofs.YtbcapaafoklhdaaDoor
open Go.RowKit

set_option maxRecDepth 100000 in
theorem pplays_few {O : PgOwn} (H : PgSpec O) (z : Nat) (A : Option Addr) (cap : Nat) (l : List ActP) (hlc : l.length ≤ maxLen) (hl : fewL l = false) (w : World) (ha : ActsP w A l) (hg : Laid2 w) :
    Calls Tryd.prog 3 #[.int .u8 z, .slice A l.length cap] w fun e w' => e = .returned (.bool true) ∧ Below w.heap.size w w' := by
  have HG := Lib.hid hg
  have HA := Lib.hid ha
  have HLC := Lib.hid hlc
  have HF := Lib.hid hl
  obtain ⟨m, HM⟩ : ∃ m, Hid (m = l.length) := ⟨_, Lib.hid rfl⟩
  rw [← HM.out]
  clear hg ha hlc hl
  go_enter Tryd.func3, Tryd.ntmps3
  go_wp2_with fail
  refine (awake_any H _ HG.out).mono ?_
  rintro e w1 ⟨rfl, hb⟩
  have HB := Lib.hid hb
  have HG1 := Lib.hid (HG.out.carry hb)
  clear hb
  go_wp2_with fail
  rw [HM.out]
  refine (few_any (cap := cap) (HA.out.below HB.out) HLC.out).mono ?_
  rw [HF.out]
  rintro e w' ⟨rfl, rfl⟩
  go_wp2_with fail
  refine (awake_any H _ HG1.out).mono ?_
  rintro e w2 ⟨rfl, hb⟩
  have HB2 := Lib.hid (HB.out.trans (hb.mono HB.out.size))
  clear hb
  go_wp2_with fail
  go_ret
  exact ⟨rfl, HB2.out⟩
theorem few_le {l : List ActP} (h : fewL l = true) : l.length ≤ 50 := of_decide_eq_true (Bool.and_eq_true_iff.1 h).2
/-- between two acts -/
def PlRel (O : PgOwn) (w0 : World) (D n g m : Nat) (p vd vf i : Value) (wr : World) : Prop :=
  ∃ j : Nat, j ≤ m ∧ i = .int .i64 (j : Int) ∧ ∃ P K d s a b c fu fn fg da cd df cf dt ft, p = ptr P ∧ vd = .slice (some ⟨da, 0, none⟩) n cd ∧ vf = .slice (some ⟨df, 0, none⟩) n cf ∧ PlSt O w0 K wr P D n d s g a b c fu fn fg da df dt ft ∧ d.soft.length ≤ j ∧ s.sup.gen ≤ j + 1
set_option maxRecDepth 100000 in
set_option maxHeartbeats 4000000 in
theorem pplays_walk2 {O : PgOwn} (H : PgSpec O) (z : Nat) (hz : z < 256) (A : Option Addr) (cap : Nat) (l : List ActP) (hlc : l.length ≤ maxLen) (hl : fewL l = true) (w : World) (ha : ActsP w A l) (hg : Laid2 w) :
    Calls Tryd.prog 3 #[.int .u8 z, .slice A l.length cap] w fun e w' => e = .returned (.bool true) ∧ Below w.heap.size w w' := by
  have HG := Lib.hid hg
  have HA := Lib.hid ha
  have HLC := Lib.hid hlc
  have HF := Lib.hid hl
  obtain ⟨m, HM⟩ : ∃ m, Hid (m = l.length) := ⟨_, Lib.hid rfl⟩
  obtain ⟨n, HN⟩ : ∃ n, Hid (n = 3 + z % 20) := ⟨_, Lib.hid rfl⟩
  have hn3 : 3 ≤ n := by rw [HN.out]; omega
  have hn22 : n ≤ 22 := by rw [HN.out]; omega
  rw [← HM.out]
  clear hg ha hlc hl
  go_enter Tryd.func3, Tryd.ntmps3
  go_wp2_with fail
  refine (awake_any H _ HG.out).mono ?_
  rintro e w1 ⟨rfl, hb⟩
  have HB1 := Lib.hid hb
  clear hb
  go_wp2_with fail
  rw [HM.out]
  refine (few_any (cap := cap) (HA.out.below HB1.out) HLC.out).mono ?_
  rw [HF.out]
  rintro e w' ⟨rfl, rfl⟩
  rw [← HM.out]
  go_wp2_with fail
  rw [show (3 + (z : Int) % 20) = (n : Int) by rw [HN.out]; omega]
  refine (New_yes n (by omega) (by omega) w1).mono ?_
  rintro e w2 ⟨D, rfl, hd2, hb⟩
  have HFM := Lib.hid (Format_new H hn3 (by omega) (fun _ => []) HB1.out hd2 hb HG.out)
  obtain ⟨K, HK⟩ : ∃ K : Nat → Prop, Hid (K = (· < w1.heap.size)) := ⟨_, Lib.hid rfl⟩
  rw [← HK.out] at HFM
  clear hd2 hb
  go_wp2_with fail
  refine HFM.out.mono ?_
  rintro e w3 ⟨P, rfl, hl3⟩
  have HL3 := Lib.hid hl3
  clear hl3 HFM
  go_wp2_with fail
  refine (Num_nil _).mono ?_
  rintro e w' ⟨rfl, rfl⟩
  go_wp2_with fail
  refine (Num_nil _).mono ?_
  rintro e w' ⟨rfl, rfl⟩
  go_wp2_with fail
  refine (RefOf_any n 1 (by omega) w3).mono ?_
  rintro e w4 ⟨a, b, c, rfl, hrows, ha4, hb4, hc4, hb⟩
  have HR4 := Lib.hid hrows
  have HLO4 := Lib.hid (And.intro ha4 (And.intro hb4 hc4))
  have HB4 := Lib.hid hb
  clear hrows ha4 hb4 hc4 hb
  go_wp2_with (with_reducible refine stop_at (o := ⟨none, _, _, _, _, _⟩) ?_)
  refine wpList_store_last rfl _ _ _ rfl _ (rpArr n a b c 0 1) _ rfl rfl rfl Tryd.rpSize rfl rpAll ?_
  obtain ⟨g, HGG⟩ : ∃ g, Hid (g = w4.heap.size) := ⟨_, Lib.hid rfl⟩
  obtain ⟨w5, HW⟩ : ∃ w5, Hid (w5 = w4.alloc (.cells (rpArr n a b c 0 1) 37)) := ⟨_, Lib.hid rfl⟩
  rw [← HW.out, ← HGG.out]
  have hb5 : Below w4.heap.size w4 w5 := by rw [HW.out]; exact (Below.refl _ _).alloc (Nat.le_refl _) _
  have HR5 := Lib.hid (HR4.out.carry hb5)
  have HX5 : Hid (RpAt w5 g n a b c 0 1) := Lib.hid (by rw [HW.out, HGG.out]; exact RpAt.new _ _ _ _ _ _ _ _)
  have HB5 : Hid (Below w3.heap.size w3 w5) := Lib.hid (HB4.out.trans (hb5.mono HB4.out.size))
  have HGE : Hid (a < g ∧ b < g ∧ c < g ∧ g < w5.heap.size ∧ w3.heap.size ≤ g) := Lib.hid (by
    have h1 := HR4.out.ru.lt
    have h2 := HR4.out.rn.lt
    have h3 := HR4.out.rg.lt
    have h4 := HX5.out.lt
    have h5 := HB4.out.size
    rw [← HGG.out] at h1 h2 h3 h5
    exact ⟨h1, h2, h3, h4, h5⟩)
  clear HW HGG hb5 HB4 HR4
  obtain ⟨M, HMM⟩ : ∃ M, Hid (M = madeCells #[Value.string ⟨#[]⟩] (n * 1)) := ⟨_, Lib.hid rfl⟩
  obtain ⟨i0, hi0, hz0, hz1, hz2⟩ := info_parts Tryd.infoStr8
  have hmk : ∀ w', (Instr.makeSlice 39 (.int .i64 (n : Int)) (.int .i64 (n : Int))).run Tryd.prog w' = .ok (.slice (some ⟨w'.heap.size, 0, none⟩) n n) (w'.alloc (.cells M 9)) := fun w' => by
    have := run_make (P := Tryd.prog) w' 39 9 i0 _ Tryd.underlying39 hi0 hz0 .i64 .i64 n n (Int.natCast_nonneg n) (Int.le_refl _) (by rw [hz2]; omega) (by omega)
    rw [this, HMM.out, hz1]
    rfl
  clear hi0 hz0 hz1 hz2
  go_upto_region 11 with (fail)
  obtain ⟨da, HDA⟩ : ∃ da, Hid (da = w5.heap.size) := ⟨_, Lib.hid rfl⟩
  obtain ⟨w7, HW⟩ : ∃ w7, Hid (w7 = (w5.alloc (.cells M 9)).alloc (.cells M 9)) := ⟨_, Lib.hid rfl⟩
  rw [← HW.out, ← HDA.out]
  have HST : Hid (PlSt O w (fun k => K k ∨ (w3.heap.size ≤ k ∧ k < w7.heap.size)) w7 P D n (switchD (Dk.new n) (Sb.bare 1)) (Pst.opened (Sb.bare 1)) g a b c (fun _ => false) (fun _ => false) (fun _ => false) da (da + 1) (fun _ => ⟨#[]⟩) (fun _ => ⟨#[]⟩)) := Lib.hid (by
    have hb6 : Below w5.heap.size w5 (w5.alloc (.cells M 9)) := (Below.refl _ _).alloc (Nat.le_refl _) _
    have hb7 : Below (w5.alloc (.cells M 9)).heap.size (w5.alloc (.cells M 9)) w7 := by rw [HW.out]; exact (Below.refl _ _).alloc (Nat.le_refl _) _
    have hb57 : Below w5.heap.size w5 w7 := hb6.trans (hb7.mono hb6.size)
    have hb : Below w3.heap.size w3 w7 := HB5.out.trans (hb57.mono HB5.out.size)
    have hda : SRow w7 da n (fun _ => ⟨#[]⟩) := (made_strs HMM.out (by rw [HDA.out]; exact heap_alloc_last w5 _) : SRow (w5.alloc (.cells M 9)) da n _).carry hb7
    have hdf : SRow w7 (da + 1) n (fun _ => ⟨#[]⟩) := made_strs HMM.out (by rw [HW.out, HDA.out]; have := heap_alloc_last (w5.alloc (.cells M 9)) (.cells M 9); rw [size_alloc_one] at this; exact this)
    have h1 := HGE.out
    have h2 := HLO4.out
    have h3 := hda.lt
    have h4 := hdf.lt
    have h5 := HL3.out.below.size
    have h6 := hb57.size
    have h7 := HDA.out
    refine ⟨HL3.out.grow H hb, ⟨HX5.out.carry hb57, HR5.out.carry hb57, hda, hdf, ⟨.inr (by omega), .inr (by omega), .inr (by omega), .inr (by omega), .inr (by omega), .inr (by omega)⟩, by omega, by omega⟩, fun k _ => (has_none k).symm, fun k _ => (has_noSt k).symm, fun k _ => (has_noSt k).symm⟩)
  clear HW HR5 HX5 HB5 HGE HLO4 HL3 hmk HDA
  go_wp2_with fail
  go_loopw [8, 11, 12, 13] (fun p vd vf i wr => PlRel O w D n g m p vd vf i wr) (fun _ _ _ i _ => m - (intOf i).toNat)
  case atStart => exact ⟨0, Nat.zero_le _, rfl, P, _, _, _, a, b, c, _, _, _, da, n, da + 1, n, _, _, rfl, rfl, rfl, HST.out, by show (0 : Nat) ≤ 0; decide, by show 1 ≤ 0 + 1; decide⟩
  case round =>
    obtain ⟨j, hj, rfl, P, K, d, s, a, b, c, fu, fn, fg, da, cd, df, cf, dt, ft, rfl, rfl, rfl, hst, hso, hge⟩ := hrel
    have HS := Lib.hid hst
    have HSO := Lib.hid hso
    have HGN := Lib.hid hge
    clear hst hso hge HST HMM
    by_cases hlt : j < m
    · have hlt2 : (j : Int) < (m : Int) := by omega
      have hjl : j < l.length := by rw [← HM.out]; exact hlt
      obtain ⟨y, o, rfl, hact⟩ := few_at HA.out hjl
      obtain ⟨act, HACT⟩ : ∃ x, Hid (x = l[j]) := ⟨_, Lib.hid rfl⟩
      rw [← HACT.out] at hact
      have HACTW : Hid (ActAtP w y (o + j * 5) act) := Lib.hid hact
      have hyl : y < w.heap.size := lt_of_cell hact.c0
      have hacr : ActAtP wr y (o + j * 5) act := hact.carry (HS.out.lp.below.block y hyl)
      clear hact
      go_wp2_with (with_reducible refine stop_at (o := ⟨some 76, _, _, _, _, _⟩) ?_)
      refine wpList_load_act (by rfl) _ rfl rfl hacr ?_
      go_wp2_with (with_reducible refine stop_at (o := ⟨none, _, _, _, _, _⟩) ?_)
      refine wpList_store_last rfl _ _ _ rfl _ (actArr act) _ rfl rfl rfl Tryd.actSize rfl (actAll act) ?_
      obtain ⟨ga, HGA⟩ : ∃ ga, Hid (ga = wr.heap.size) := ⟨_, Lib.hid rfl⟩
      obtain ⟨wa, HW⟩ : ∃ wa, Hid (wa = wr.alloc (.cells (actArr act) 41)) := ⟨_, Lib.hid rfl⟩
      rw [← HW.out, ← HGA.out]
      have HSA : Hid (PlSt O w (fun k => K k ∨ (wr.heap.size ≤ k ∧ k < wa.heap.size)) wa P D n d s g a b c fu fn fg da df dt ft) := Lib.hid (HS.out.grow H (by rw [HW.out]; exact (Below.refl _ _).alloc (Nat.le_refl _) _))
      have HAA : Hid (ActIn wa ga act) := Lib.hid (by rw [HW.out, HGA.out]; exact ActIn.new _ _ _)
      have HKA : Hid ((fun k => K k ∨ (wr.heap.size ≤ k ∧ k < wa.heap.size)) ga) := Lib.hid (.inr ⟨by rw [HGA.out]; exact Nat.le_refl _, HAA.out.lt⟩)
      have HLA : Hid (w.heap.size ≤ ga ∧ ga ≠ g ∧ ga ≠ a ∧ ga ≠ b ∧ ga ≠ c ∧ ga ≠ da ∧ ga ≠ df) := Lib.hid (by
        have h1 := HS.out.lm.x.lt
        have h2 := HS.out.lm.rows.ru.lt
        have h3 := HS.out.lm.rows.rn.lt
        have h4 := HS.out.lm.rows.rg.lt
        have h5 := HS.out.lm.ds.lt
        have h6 := HS.out.lm.fs.lt
        have h7 := HS.out.lp.below.size
        have h8 := HGA.out
        omega)
      obtain ⟨K2, HK2⟩ : ∃ K2 : Nat → Prop, Hid (K2 = fun k => K k ∨ (wr.heap.size ≤ k ∧ k < wa.heap.size)) := ⟨_, Lib.hid rfl⟩
      rw [← HK2.out] at HSA HKA
      clear HW hacr HS HK2
      have d0 := HAA.out.c0
      have HWF : Hid (0 ≤ act.mask ∧ act.mask < 4294967296 ∧ act.torn ≤ 9223372036854775807) := Lib.hid (by
        have h3 : 0 ≤ act.mask ∧ act.mask ≤ 4294967295 := by simpa [Lit.wf, IntKind.min, IntKind.max, IntKind.signed, IntKind.bits] using HACTW.out.w3
        have h4 : -9223372036854775808 ≤ act.torn ∧ act.torn ≤ 9223372036854775807 := by simpa [Lit.wf, IntKind.min, IntKind.max, IntKind.signed, IntKind.bits] using HACTW.out.w4
        omega)
      have HJ : Hid (j ≤ 50) := Lib.hid (by have := few_le HF.out; have := HM.out; omega)
      obtain ⟨e1, e2, e3, e4, e5⟩ := HLA.out
      go_upto_block 2 with (fail)
      refine sw_any H HSA HAA HKA HSO HGN HJ.out hn3 hn22 HG HWF (Lib.hid ⟨e2, e3, e4, e5.1⟩) (Lib.hid ?_)
      intros
      rename_i P2 K3 d2 s2 a2 b2 c2 fu2 fn2 fg2 da2 cd2 df2 cf2 dt2 ft2 w8 hst hso hge
      have HS8 := Lib.hid hst
      have HSO8 := Lib.hid hso
      have HGN8 := Lib.hid hge
      clear hst hso hge HSA HAA HKA d0 HSO HGN
      simp only [Exit.then]
      refine go_on (P := Tryd.prog) (by assumption) ?_
      refine plays_tail H HS8 HG hn22 (fun _ _ _ _ _ h => h) (Lib.hid ?_)
      intros
      rename_i w9 hst
      have HS9 := Lib.hid hst
      clear hst HS8
      have hj50 := HJ.out
      have hw : IntKind.i64.wrap ((j : Int) + 1) = (j : Int) + 1 := by rw [IntKind.wrap_i64]; omega
      go_wp2_with fail
      have hge8 : s2.sup.gen ≤ j + 1 + 1 := by have := HGN8.out; omega
      go_roundw
      case rel => exact ⟨j + 1, hlt, by go_num, P2, K3, d2, s2, a2, b2, c2, fu2, fn2, fg2, da2, cd2, df2, cf2, dt2, ft2, rfl, rfl, rfl, HS9.out, HSO8.out, hge8⟩
      case measure => simp [intOf]; omega
    · obtain rfl : j = m := by omega
      go_wp2_with fail
      go_ret
      exact ⟨rfl, HS.out.lp.below⟩
theorem pplays_walk {O : PgOwn} (H : PgSpec O) (z : Nat) (hz : z < 256) (A : Option Addr) (cap : Nat) (l : List ActP) (hlc : l.length ≤ maxLen) (w : World) (ha : ActsP w A l) (hg : Laid2 w) :
    Calls Tryd.prog 3 #[.int .u8 z, .slice A l.length cap] w fun e w' => e = .returned (.bool true) ∧ Below w.heap.size w w' := by
  cases hl : fewL l with
  | false => exact pplays_few H z A cap l hlc hl w ha hg
  | true => exact pplays_walk2 H z hz A cap l hlc hl w ha hg
end Go.Proofs.YtbcapaafoklhdaaDoor
