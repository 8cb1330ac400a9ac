/-
  The walk of the statement PagerTorn: it answers true, and no memory that was there has turned. Conditions: the pager's calls are as PgSpec says; errors.errorType and crc.halved are laid.
-/
import Derived.Test.YtbcapaafoklhdaaDoorPgLaw
import Derived.Test.YtbcapaafoklhdaaDoorSets
namespace Go.Proofs.YtbcapaafoklhdaaDoor
open Go.RowKit

set_option maxRecDepth 100000 in
theorem ptorn_long {O : PgOwn} (H : PgSpec O) (s t : ByteArray) (m : Value) (x : Value) (late : Bool) (hl : 120 < s.size ∨ (s.size ≤ 120 ∧ 120 < t.size)) (w : World) (hg : Laid2 w) :
    Calls Tryd.prog 4 #[.string s, .string t, m, x, .bool late] w fun e w' => e = .returned (.bool true) ∧ Below w.heap.size w w' := by
  have HG := Lib.hid hg
  clear hg
  rcases hl with hl | ⟨hl, hl2⟩
  · have hd : decide ((120 : Int) < (s.size : Int)) = true := by simp; omega
    go_enter Tryd.func4, Tryd.ntmps4
    go_wp2_with fail
    refine (awake_any H _ HG.out).mono ?_
    rintro e w1 ⟨rfl, hb⟩
    have HB := Lib.hid hb
    have HG1 := Lib.hid (HG.out.carry hb)
    clear hb
    go_wp2_with fail
    refine (awake_any H _ HG1.out).mono ?_
    rintro e w2 ⟨rfl, hb⟩
    have HB2 := Lib.hid (HB.out.trans (hb.mono HB.out.size))
    clear hb
    go_wp2_with fail
    go_ret
    exact ⟨rfl, HB2.out⟩
  · have hd : decide ((120 : Int) < (s.size : Int)) = false := by simp; omega
    have hd2 : decide ((120 : Int) < (t.size : Int)) = true := by simp; omega
    go_enter Tryd.func4, Tryd.ntmps4
    go_wp2_with fail
    refine (awake_any H _ HG.out).mono ?_
    rintro e w1 ⟨rfl, hb⟩
    have HB := Lib.hid hb
    have HG1 := Lib.hid (HG.out.carry hb)
    clear hb
    go_wp2_with fail
    refine (awake_any H _ HG1.out).mono ?_
    rintro e w2 ⟨rfl, hb⟩
    have HB2 := Lib.hid (HB.out.trans (hb.mono HB.out.size))
    clear hb
    go_wp2_with fail
    go_ret
    exact ⟨rfl, HB2.out⟩
/-- one number alone -/
def is1 (k : Nat) : Nat → Bool := fun j => decide (j = k)
theorem count_none : Bits.count noSt = 0 := by decide +kernel
theorem count_one {s : List Nat} {k : Nat} (hs : Bits.Ok s) (hk : k < 240) (h : ∀ j, j < 240 → Bits.has s j = is1 k j) : Bits.count s = 1 := by
  have e : s = Bits.with_ noSt k := Bits.ext hs (noSt_ok.with_ k) fun j hj => by
    rw [h j hj, Bits.has_with noSt_ok hk, has_noSt]
    unfold is1
    by_cases e : j = k
    · rw [if_pos e, decide_eq_true e]
    · rw [if_neg e, decide_eq_false e]
  rw [e, Bits.count_with noSt_ok hk, count_none, has_noSt]
  rfl
theorem txt_of (s : ByteArray) : txt s.data.toList = .string s := by simp [txt]
theorem opened_used {x : Sb} (hx : x.Ok) {k : Nat} (hk : k < 240) : Bits.has (Pst.opened x).used k = Bits.has x.used k := by
  unfold Pst.used
  rw [Bits.has_minus (u := Bits.both (Pst.opened x).sup.used (Pst.opened x).new) (hx.used.both noSt_ok) (Nat.le_refl _), Bits.has_both (s := (Pst.opened x).sup.used) (t := (Pst.opened x).new) hx.used noSt_ok hk, show (Pst.opened x).gone = noSt from rfl, show (Pst.opened x).new = noSt from rfl, has_noSt, show (Pst.opened x).sup = x from rfl]
  simp
theorem opened_in {x : Sb} {k : Nat} : (Pst.opened x).isIn k = Bits.has x.used k := by
  unfold Pst.isIn
  rw [show (Pst.opened x).new = noSt from rfl, has_noSt, Bool.or_false]
  rfl
/-- the power goes, and comes, and a pager is opened -/
theorem Open_after {O : PgOwn} (H : PgSpec O) {w0 w : World} {K : Nat → Prop} {P D n : Nat} {d : Dk} {s : Pst} {data firm : Nat → List UInt8} (h : LawP O w0 K w P D n d s data firm) {w1 : World} (m : Nat) (t : Int)
    (hd : DiskAt K w1 D n (d.crash m t).up) (hk : Kept K w w1) (hg : Laid2 w0) :
    Calls Tryd.prog 21 #[ptr D] w1 fun e w' => ∃ Q, e = .returned (.tuple #[ptr Q, .nilIface]) ∧ LawP O w0 K w' Q D n (d.crash m t).up (Pst.opened s.sup) firm firm ∧ Below w1.heap.size w1 w' := by
  have hi := h.inv.crashed m t
  have hb := h.belowK hk
  refine (H.openYes hd (hg.carry hb).crc rfl hi.held.three hi.bestD hi.held.good).mono ?_
  rintro e w' ⟨Q, B, rfl, ho, hB, hb2⟩
  exact ⟨Q, rfl, ⟨PgrAt.opened hd (fun k hh => Nat.lt_of_lt_of_le (h.there k hh) hk.size) ho hB hb2, hi, rfl, hb.trans (hb2.mono hb.size), h.low⟩, hb2⟩
set_option maxRecDepth 100000 in
set_option maxHeartbeats 4000000 in
theorem ptorn_late {O : PgOwn} (H : PgSpec O) (s t : ByteArray) (m : Nat) (x : Int) (hs : s.size ≤ 120) (ht : t.size ≤ 120) (hm : m < 4294967296) (hx : x ≤ 9223372036854775807) (w : World) (hg : Laid2 w) :
    Calls Tryd.prog 4 #[.string s, .string t, .int .u32 (m : Int), .int .i64 x, .bool true] w fun e w' => e = .returned (.bool true) ∧ Below w.heap.size w w' := by
  have HG := Lib.hid hg
  have hd : decide ((120 : Int) < (s.size : Int)) = false := by simp; omega
  have hd2 : decide ((120 : Int) < (t.size : Int)) = false := by simp; omega
  have HSL : Hid (s.data.toList.length ≤ 120) := Lib.hid (by rw [lenS]; exact hs)
  have HTL : Hid (t.data.toList.length ≤ 120) := Lib.hid (by rw [lenS]; exact ht)
  have HM := Lib.hid hm
  have HX := Lib.hid hx
  clear hg hm hx
  go_enter Tryd.func4, Tryd.ntmps4
  go_wp2_with fail
  refine (awake_any H _ HG.out).mono ?_
  rintro e w1 ⟨rfl, hb⟩
  have HB1 := Lib.hid hb
  clear hb
  go_wp2_with fail
  refine (New_yes 8 (by decide) (by decide) w1).mono ?_
  rintro e w2 ⟨D, rfl, hd2', hb⟩
  have HF := Lib.hid (Format_new H (n := 8) (by decide) (by decide) (fun _ => []) HB1.out hd2' hb HG.out)
  obtain ⟨K, HK⟩ : ∃ K : Nat → Prop, Hid (K = (· < w1.heap.size)) := ⟨_, Lib.hid rfl⟩
  rw [← HK.out] at HF
  clear hd2' hb
  go_wp2_with fail
  refine HF.out.mono ?_
  rintro e w3 ⟨P, rfl, hl⟩
  have HL3 := Lib.hid hl
  have HS3 := Lib.hid (StIs.opened_bare 1)
  have HF3 := Lib.hid (HS3.out.first_some hl.inv (k := 2) (by decide) (by decide) rfl fun m h1 h2 => absurd h2 (by omega))
  clear hl HF
  go_wp2_with fail
  refine (H.newYes HL3.out.pg HL3.out.inv HL3.out.up (HL3.out.laidK HG.out) (by show (0 : Nat) ≤ 100000; decide) s hs 2 HF3.out).mono ?_
  rintro e w4 ⟨rfl, hp, hk⟩
  have HL4 := Lib.hid (HL3.out.turned hp hk (HL3.out.inv.laid HF3.out HSL.out) HL3.out.up)
  have HS4 := Lib.hid ((HS3.out.at_ HL3.out.inv (k := 2) (by decide)).congr (gu := no1) (gn := is1 2) (gg := no1) (fun _ _ => rfl) (fun j _ => by unfold is1; by_cases e : j = 2 <;> simp [e, no1]) (fun _ _ => rfl))
  have HR4 : Hid (rootOk ((Pst.opened (Sb.bare 1)).at_ 2) 2 = true) := Lib.hid (by
    unfold rootOk
    rw [show hasI ((Pst.opened (Sb.bare 1)).at_ 2).used 2 = Bits.has ((Pst.opened (Sb.bare 1)).at_ 2).used 2 from hasI_nat (n := 2) (by decide), HS4.out.used HL4.out.inv (by decide)]
    rfl)
  clear hp hk HL3 HS3 HF3
  go_wp2_with fail
  refine (H.commitYes HL4.out.pg HL4.out.inv HL4.out.up (HL4.out.laidK HG.out) 2 HR4.out (by decide)).mono ?_
  rintro e w5 ⟨rfl, hp, hk⟩
  have HL5 := Lib.hid (HL4.out.turned hp hk (HL4.out.inv.committed (by decide) HR4.out) HL4.out.up)
  have HS5 := Lib.hid ((HS4.out.commit HL4.out.inv 2).congr (gu := is1 2) (gn := no1) (gg := no1) (fun j _ => by simp [no1]) (fun _ _ => rfl) (fun _ _ => rfl))
  obtain ⟨s5, HS5E⟩ : ∃ s5, Hid (s5 = ((Pst.opened (Sb.bare 1)).at_ 2).commit 2) := ⟨_, Lib.hid rfl⟩
  obtain ⟨d5, HD5E⟩ : ∃ d5, Hid (d5 = switchD ((switchD (Dk.new 8) (Sb.bare 1)).write 2 (pgB (pageP s.data.toList))) (((Pst.opened (Sb.bare 1)).at_ 2).next 2)) := ⟨_, Lib.hid rfl⟩
  have HG5 : Hid (s5.sup.gen = 2) := Lib.hid (by rw [HS5E.out]; rfl)
  have HRT5 : Hid (s5.sup.root = 2) := Lib.hid (by rw [HS5E.out]; rfl)
  have HSO5 : Hid (d5.soft.length = 0) := Lib.hid (by rw [HD5E.out]; rfl)
  rw [← HS5E.out] at HS5
  rw [← HS5E.out, ← HD5E.out] at HL5
  clear hp hk HL4 HS4 HR4 HS5E HD5E
  have HF5 := Lib.hid (HS5.out.first_some HL5.out.inv (k := 3) (by decide) (by decide) rfl fun m h1 h2 => by rw [show m = 2 by omega]; rfl)
  go_wp2_with fail
  refine (H.newYes HL5.out.pg HL5.out.inv HL5.out.up (HL5.out.laidK HG.out) (by rw [HSO5.out]; decide) t ht 3 HF5.out).mono ?_
  rintro e w6 ⟨rfl, hp, hk⟩
  have HL6 := Lib.hid (HL5.out.turned hp hk (HL5.out.inv.laid HF5.out HTL.out) HL5.out.up)
  have HS6 := Lib.hid ((HS5.out.at_ HL5.out.inv (k := 3) (by decide)).congr (gu := is1 2) (gn := is1 3) (gg := no1) (fun _ _ => rfl) (fun j _ => by unfold is1; by_cases e : j = 3 <;> simp [e, no1]) (fun _ _ => rfl))
  have HU6 : Hid (Bits.has (s5.at_ 3).used 2 = true) := Lib.hid (by rw [HS6.out.used HL6.out.inv (by decide)]; rfl)
  clear hp hk HL5 HS5 HF5
  go_wp2_with fail
  refine (H.dropYes HL6.out.pg HL6.out.inv 2 (by decide) HU6.out).mono ?_
  rintro e w7 ⟨rfl, hp, hk⟩
  have HL7 := Lib.hid (HL6.out.turned hp hk (HL6.out.inv.dropped (by decide) HU6.out) HL6.out.up)
  have HS7 := Lib.hid ((HS6.out.drop_old HL6.out.inv (k := 2) (by decide) rfl).congr (gu := is1 2) (gn := is1 3) (gg := is1 2) (fun _ _ => rfl) (fun _ _ => rfl) (fun j _ => by unfold is1; by_cases e : j = 2 <;> simp [e, no1]))
  have HG7 : Hid (((s5.at_ 3).drop 2).sup.gen = 2 ∧ ((s5.at_ 3).drop 2).sup.root = 2) := Lib.hid (by unfold Pst.drop; split <;> exact ⟨HG5.out, HRT5.out⟩)
  obtain ⟨s7, HS7E⟩ : ∃ s7, Hid (s7 = (s5.at_ 3).drop 2) := ⟨_, Lib.hid rfl⟩
  obtain ⟨d7, HD7E⟩ : ∃ d7, Hid (d7 = d5.write 3 (pgB (pageP t.data.toList))) := ⟨_, Lib.hid rfl⟩
  have HSO7 : Hid (d7.soft.length = 1) := Lib.hid (by rw [HD7E.out, show (d5.write 3 (pgB (pageP t.data.toList))).soft = d5.soft ++ [(3, pgB (pageP t.data.toList))] from rfl, List.length_append, HSO5.out]; rfl)
  rw [← HS7E.out] at HS7 HG7
  rw [← HS7E.out, ← HD7E.out] at HL7
  clear hp hk HL6 HS6 HU6 HS7E HD7E HG5 HRT5 HSO5
  go_wp2_with fail
  refine (Num_nil _).mono ?_
  rintro e w' ⟨rfl, rfl⟩
  go_wp2_with fail
  refine (Num_nil _).mono ?_
  rintro e w' ⟨rfl, rfl⟩
  go_wp2_with fail
  refine (Num_nil _).mono ?_
  rintro e w' ⟨rfl, rfl⟩
  go_wp2_with fail
  refine (Num_nil _).mono ?_
  rintro e w' ⟨rfl, rfl⟩
  go_wp2_with fail
  refine (Num_nil _).mono ?_
  rintro e w' ⟨rfl, rfl⟩
  go_wp2_with fail
  refine (Num_nil _).mono ?_
  rintro e w' ⟨rfl, rfl⟩
  have HR7 : Hid (rootOk s7 3 = true) := Lib.hid (by
    unfold rootOk
    rw [show hasI s7.used 3 = Bits.has s7.used 3 from hasI_nat (n := 3) (by decide), HS7.out.used HL7.out.inv (by decide)]
    rfl)
  go_wp2_with fail
  refine (H.commitYes HL7.out.pg HL7.out.inv HL7.out.up (HL7.out.laidK HG.out) 3 HR7.out (by rw [HG7.out.1]; decide)).mono ?_
  rintro e w8 ⟨rfl, hp, hk⟩
  have HL8 := Lib.hid (HL7.out.turned hp hk (HL7.out.inv.committed (by rw [HG7.out.1]; decide) HR7.out) HL7.out.up)
  have HS8 := Lib.hid ((HS7.out.commit HL7.out.inv 3).congr (gu := is1 3) (gn := no1) (gg := no1) (fun j _ => by unfold is1; by_cases e : j = 2 <;> by_cases e2 : j = 3 <;> simp [e, e2] <;> omega) (fun _ _ => rfl) (fun _ _ => rfl))
  have HU8 : Hid (∀ j, j < 240 → Bits.has (s7.commit 3).sup.used j = is1 3 j) := Lib.hid HS8.out.u
  have HRT8 : Hid ((s7.commit 3).sup.root = 3) := Lib.hid rfl
  obtain ⟨s8, HS8E⟩ : ∃ s8, Hid (s8 = s7.commit 3) := ⟨_, Lib.hid rfl⟩
  obtain ⟨d8, HD8E⟩ : ∃ d8, Hid (d8 = switchD d7 (s7.next 3)) := ⟨_, Lib.hid rfl⟩
  have HSO8 : Hid (d8.soft.length ≤ 1000000) := Lib.hid (by rw [HD8E.out]; show (0 : Nat) ≤ 1000000; decide)
  rw [← HS8E.out] at HU8 HRT8
  rw [← HS8E.out, ← HD8E.out] at HL8
  clear hp hk HL7 HS7 HS8 HS8E HD8E HG7 HSO7
  go_wp2_with fail
  refine (Num_nil _).mono ?_
  rintro e w' ⟨rfl, rfl⟩
  go_wp2_with fail
  refine (Crash_yes (m := m) (t := x) HM.out HL8.out.pg.disk HL8.out.there HSO8.out HX.out).mono ?_
  rintro e w9 ⟨rfl, hd9, hk⟩
  have HD9 := Lib.hid hd9
  have HK9 := Lib.hid hk
  clear hd9 hk
  go_wp2_with fail
  refine (Up_any HD9.out).mono ?_
  rintro e w10 ⟨rfl, hd10, hk⟩
  have HO10 := Lib.hid (Open_after H HL8.out m x hd10 (HK9.out.trans hk) HG.out)
  clear hd10 hk HD9 HK9
  go_wp2_with fail
  refine HO10.out.mono ?_
  rintro e w11 ⟨Q, rfl, hl, hb⟩
  have HL11 := Lib.hid hl
  clear hl hb HO10
  go_wp2_with fail
  refine (Num_nil _).mono ?_
  rintro e w' ⟨rfl, rfl⟩
  go_wp2_with fail
  refine (H.pgRoot HL11.out.pg).mono ?_
  rintro e w12 ⟨rfl, hb⟩
  have HL12 := Lib.hid (HL11.out.carry H hb)
  clear hb HL11
  rw [show (Pst.opened s8.sup).sup.root = ((3 : Nat) : Int) from HRT8.out]
  go_wp2_with fail
  refine (H.load HL12.out.pg HL12.out.inv HL12.out.up (HL12.out.laid HG.out).crc ((3 : Nat) : Int)).mono ?_
  have hin : isInZ (Pst.opened s8.sup) ((3 : Nat) : Int) = true := by
    rw [isInZ_nat (by decide), opened_in, HU8.out 3 (by decide)]
    rfl
  rw [if_pos hin, if_pos hin, Int.toNat_natCast, show (upd (upd (fun _ => []) 2 s.data.toList) 3 t.data.toList) 3 = t.data.toList from rfl, txt_of]
  rintro e w13 ⟨v, rfl, he, hb⟩
  obtain rfl := he.zero
  have HL13 := Lib.hid (HL12.out.carry H hb)
  clear he hb hin HL12
  go_wp2_with fail
  refine (Num_nil _).mono ?_
  rintro e w' ⟨rfl, rfl⟩
  go_wp2_with fail
  refine (H.pgRoot HL13.out.pg).mono ?_
  rintro e w14 ⟨rfl, hb⟩
  have HL14 := Lib.hid (HL13.out.carry H hb)
  clear hb HL13
  rw [show (Pst.opened s8.sup).sup.root = ((3 : Nat) : Int) from HRT8.out]
  go_wp2_with fail
  refine (H.used HL14.out.pg HL14.out.inv).mono ?_
  rintro e w15 ⟨rfl, hb⟩
  have HL15 := Lib.hid (HL14.out.carry H hb)
  have HUO : Hid (Bits.Ok (Pst.opened s8.sup).used) := Lib.hid HL14.out.inv.usedOk
  have HCN : Hid (Bits.count (Pst.opened s8.sup).used = 1) := Lib.hid (count_one (k := 3) HUO.out (by decide) fun j hj => by rw [opened_used (x := s8.sup) HL14.out.inv.held.good hj, HU8.out j hj])
  clear hb HL14
  go_wp2_with fail
  refine (Count_any _ HUO.out w15).mono ?_
  rw [HCN.out]
  rintro e w16 ⟨rfl, hb⟩
  have HL16 := Lib.hid (HL15.out.carry H hb)
  clear hb HL15
  go_wp2_with fail
  go_ret
  exact ⟨rfl, HL16.out.below⟩
set_option maxRecDepth 100000 in
set_option maxHeartbeats 4000000 in
theorem ptorn_early {O : PgOwn} (H : PgSpec O) (s t : ByteArray) (m : Nat) (x : Int) (hs : s.size ≤ 120) (ht : t.size ≤ 120) (hm : m < 4294967296) (hx : x ≤ 9223372036854775807) (w : World) (hg : Laid2 w) :
    Calls Tryd.prog 4 #[.string s, .string t, .int .u32 (m : Int), .int .i64 x, .bool false] w fun e w' => e = .returned (.bool true) ∧ Below w.heap.size w w' := by
  have HG := Lib.hid hg
  have hd : decide ((120 : Int) < (s.size : Int)) = false := by simp; omega
  have hd2 : decide ((120 : Int) < (t.size : Int)) = false := by simp; omega
  have HSL : Hid (s.data.toList.length ≤ 120) := Lib.hid (by rw [lenS]; exact hs)
  have HTL : Hid (t.data.toList.length ≤ 120) := Lib.hid (by rw [lenS]; exact ht)
  have HM := Lib.hid hm
  have HX := Lib.hid hx
  clear hg hm hx
  go_enter Tryd.func4, Tryd.ntmps4
  go_wp2_with fail
  refine (awake_any H _ HG.out).mono ?_
  rintro e w1 ⟨rfl, hb⟩
  have HB1 := Lib.hid hb
  clear hb
  go_wp2_with fail
  refine (New_yes 8 (by decide) (by decide) w1).mono ?_
  rintro e w2 ⟨D, rfl, hd2', hb⟩
  have HF := Lib.hid (Format_new H (n := 8) (by decide) (by decide) (fun _ => []) HB1.out hd2' hb HG.out)
  obtain ⟨K, HK⟩ : ∃ K : Nat → Prop, Hid (K = (· < w1.heap.size)) := ⟨_, Lib.hid rfl⟩
  rw [← HK.out] at HF
  clear hd2' hb
  go_wp2_with fail
  refine HF.out.mono ?_
  rintro e w3 ⟨P, rfl, hl⟩
  have HL3 := Lib.hid hl
  have HS3 := Lib.hid (StIs.opened_bare 1)
  have HF3 := Lib.hid (HS3.out.first_some hl.inv (k := 2) (by decide) (by decide) rfl fun m h1 h2 => absurd h2 (by omega))
  clear hl HF
  go_wp2_with fail
  refine (H.newYes HL3.out.pg HL3.out.inv HL3.out.up (HL3.out.laidK HG.out) (by show (0 : Nat) ≤ 100000; decide) s hs 2 HF3.out).mono ?_
  rintro e w4 ⟨rfl, hp, hk⟩
  have HL4 := Lib.hid (HL3.out.turned hp hk (HL3.out.inv.laid HF3.out HSL.out) HL3.out.up)
  have HS4 := Lib.hid ((HS3.out.at_ HL3.out.inv (k := 2) (by decide)).congr (gu := no1) (gn := is1 2) (gg := no1) (fun _ _ => rfl) (fun j _ => by unfold is1; by_cases e : j = 2 <;> simp [e, no1]) (fun _ _ => rfl))
  have HR4 : Hid (rootOk ((Pst.opened (Sb.bare 1)).at_ 2) 2 = true) := Lib.hid (by
    unfold rootOk
    rw [show hasI ((Pst.opened (Sb.bare 1)).at_ 2).used 2 = Bits.has ((Pst.opened (Sb.bare 1)).at_ 2).used 2 from hasI_nat (n := 2) (by decide), HS4.out.used HL4.out.inv (by decide)]
    rfl)
  clear hp hk HL3 HS3 HF3
  go_wp2_with fail
  refine (H.commitYes HL4.out.pg HL4.out.inv HL4.out.up (HL4.out.laidK HG.out) 2 HR4.out (by decide)).mono ?_
  rintro e w5 ⟨rfl, hp, hk⟩
  have HL5 := Lib.hid (HL4.out.turned hp hk (HL4.out.inv.committed (by decide) HR4.out) HL4.out.up)
  have HS5 := Lib.hid ((HS4.out.commit HL4.out.inv 2).congr (gu := is1 2) (gn := no1) (gg := no1) (fun j _ => by simp [no1]) (fun _ _ => rfl) (fun _ _ => rfl))
  obtain ⟨s5, HS5E⟩ : ∃ s5, Hid (s5 = ((Pst.opened (Sb.bare 1)).at_ 2).commit 2) := ⟨_, Lib.hid rfl⟩
  obtain ⟨d5, HD5E⟩ : ∃ d5, Hid (d5 = switchD ((switchD (Dk.new 8) (Sb.bare 1)).write 2 (pgB (pageP s.data.toList))) (((Pst.opened (Sb.bare 1)).at_ 2).next 2)) := ⟨_, Lib.hid rfl⟩
  have HG5 : Hid (s5.sup.gen = 2) := Lib.hid (by rw [HS5E.out]; rfl)
  have HRT5 : Hid (s5.sup.root = 2) := Lib.hid (by rw [HS5E.out]; rfl)
  have HSO5 : Hid (d5.soft.length = 0) := Lib.hid (by rw [HD5E.out]; rfl)
  rw [← HS5E.out] at HS5
  rw [← HS5E.out, ← HD5E.out] at HL5
  clear hp hk HL4 HS4 HR4 HS5E HD5E
  have HF5 := Lib.hid (HS5.out.first_some HL5.out.inv (k := 3) (by decide) (by decide) rfl fun m h1 h2 => by rw [show m = 2 by omega]; rfl)
  go_wp2_with fail
  refine (H.newYes HL5.out.pg HL5.out.inv HL5.out.up (HL5.out.laidK HG.out) (by rw [HSO5.out]; decide) t ht 3 HF5.out).mono ?_
  rintro e w6 ⟨rfl, hp, hk⟩
  have HL6 := Lib.hid (HL5.out.turned hp hk (HL5.out.inv.laid HF5.out HTL.out) HL5.out.up)
  have HS6 := Lib.hid ((HS5.out.at_ HL5.out.inv (k := 3) (by decide)).congr (gu := is1 2) (gn := is1 3) (gg := no1) (fun _ _ => rfl) (fun j _ => by unfold is1; by_cases e : j = 3 <;> simp [e, no1]) (fun _ _ => rfl))
  have HU6 : Hid (Bits.has (s5.at_ 3).used 2 = true) := Lib.hid (by rw [HS6.out.used HL6.out.inv (by decide)]; rfl)
  clear hp hk HL5 HS5 HF5
  go_wp2_with fail
  refine (H.dropYes HL6.out.pg HL6.out.inv 2 (by decide) HU6.out).mono ?_
  rintro e w7 ⟨rfl, hp, hk⟩
  have HL7 := Lib.hid (HL6.out.turned hp hk (HL6.out.inv.dropped (by decide) HU6.out) HL6.out.up)
  have HS7 := Lib.hid ((HS6.out.drop_old HL6.out.inv (k := 2) (by decide) rfl).congr (gu := is1 2) (gn := is1 3) (gg := is1 2) (fun _ _ => rfl) (fun _ _ => rfl) (fun j _ => by unfold is1; by_cases e : j = 2 <;> simp [e, no1]))
  have HG7 : Hid (((s5.at_ 3).drop 2).sup.gen = 2 ∧ ((s5.at_ 3).drop 2).sup.root = 2) := Lib.hid (by unfold Pst.drop; split <;> exact ⟨HG5.out, HRT5.out⟩)
  obtain ⟨s7, HS7E⟩ : ∃ s7, Hid (s7 = (s5.at_ 3).drop 2) := ⟨_, Lib.hid rfl⟩
  obtain ⟨d7, HD7E⟩ : ∃ d7, Hid (d7 = d5.write 3 (pgB (pageP t.data.toList))) := ⟨_, Lib.hid rfl⟩
  have HSO7 : Hid (d7.soft.length = 1) := Lib.hid (by rw [HD7E.out, show (d5.write 3 (pgB (pageP t.data.toList))).soft = d5.soft ++ [(3, pgB (pageP t.data.toList))] from rfl, List.length_append, HSO5.out]; rfl)
  rw [← HS7E.out] at HS7 HG7
  rw [← HS7E.out, ← HD7E.out] at HL7
  clear hp hk HL6 HS6 HU6 HS7E HD7E HG5 HRT5 HSO5
  go_wp2_with fail
  refine (Num_nil _).mono ?_
  rintro e w' ⟨rfl, rfl⟩
  go_wp2_with fail
  refine (Num_nil _).mono ?_
  rintro e w' ⟨rfl, rfl⟩
  go_wp2_with fail
  refine (Num_nil _).mono ?_
  rintro e w' ⟨rfl, rfl⟩
  go_wp2_with fail
  refine (Num_nil _).mono ?_
  rintro e w' ⟨rfl, rfl⟩
  go_wp2_with fail
  refine (Num_nil _).mono ?_
  rintro e w' ⟨rfl, rfl⟩
  go_wp2_with fail
  refine (Num_nil _).mono ?_
  rintro e w' ⟨rfl, rfl⟩
  have HU8 : Hid (∀ j, j < 240 → Bits.has s7.sup.used j = is1 2 j) := Lib.hid HS7.out.u
  have HRT8 : Hid (s7.sup.root = 2) := Lib.hid HG7.out.2
  obtain ⟨s8, HS8E⟩ : ∃ s8, Hid (s8 = s7) := ⟨_, Lib.hid rfl⟩
  obtain ⟨d8, HD8E⟩ : ∃ d8, Hid (d8 = d7) := ⟨_, Lib.hid rfl⟩
  have HSO8 : Hid (d8.soft.length ≤ 1000000) := Lib.hid (by rw [HD8E.out, HSO7.out]; decide)
  rw [← HS8E.out] at HU8 HRT8
  rw [← HS8E.out, ← HD8E.out] at HL7
  have HL8 := HL7
  clear HL7 HS7 HS8E HD8E HG7 HSO7
  go_wp2_with fail
  refine (Crash_yes (m := m) (t := x) HM.out HL8.out.pg.disk HL8.out.there HSO8.out HX.out).mono ?_
  rintro e w9 ⟨rfl, hd9, hk⟩
  have HD9 := Lib.hid hd9
  have HK9 := Lib.hid hk
  clear hd9 hk
  go_wp2_with fail
  refine (Up_any HD9.out).mono ?_
  rintro e w10 ⟨rfl, hd10, hk⟩
  have HO10 := Lib.hid (Open_after H HL8.out m x hd10 (HK9.out.trans hk) HG.out)
  clear hd10 hk HD9 HK9
  go_wp2_with fail
  refine HO10.out.mono ?_
  rintro e w11 ⟨Q, rfl, hl, hb⟩
  have HL11 := Lib.hid hl
  clear hl hb HO10
  go_wp2_with fail
  refine (Num_nil _).mono ?_
  rintro e w' ⟨rfl, rfl⟩
  go_wp2_with fail
  refine (H.pgRoot HL11.out.pg).mono ?_
  rintro e w12 ⟨rfl, hb⟩
  have HL12 := Lib.hid (HL11.out.carry H hb)
  clear hb HL11
  rw [show (Pst.opened s8.sup).sup.root = ((2 : Nat) : Int) from HRT8.out]
  go_wp2_with fail
  refine (H.load HL12.out.pg HL12.out.inv HL12.out.up (HL12.out.laid HG.out).crc ((2 : Nat) : Int)).mono ?_
  have hin : isInZ (Pst.opened s8.sup) ((2 : Nat) : Int) = true := by
    rw [isInZ_nat (by decide), opened_in, HU8.out 2 (by decide)]
    rfl
  rw [if_pos hin, if_pos hin, Int.toNat_natCast, show (upd (fun _ => []) 2 s.data.toList) 2 = s.data.toList from rfl, txt_of]
  rintro e w13 ⟨v, rfl, he, hb⟩
  obtain rfl := he.zero
  have HL13 := Lib.hid (HL12.out.carry H hb)
  clear he hb hin HL12
  go_wp2_with fail
  refine (Num_nil _).mono ?_
  rintro e w' ⟨rfl, rfl⟩
  go_wp2_with fail
  refine (H.pgRoot HL13.out.pg).mono ?_
  rintro e w14 ⟨rfl, hb⟩
  have HL14 := Lib.hid (HL13.out.carry H hb)
  clear hb HL13
  rw [show (Pst.opened s8.sup).sup.root = ((2 : Nat) : Int) from HRT8.out]
  go_wp2_with fail
  refine (H.used HL14.out.pg HL14.out.inv).mono ?_
  rintro e w15 ⟨rfl, hb⟩
  have HL15 := Lib.hid (HL14.out.carry H hb)
  have HUO : Hid (Bits.Ok (Pst.opened s8.sup).used) := Lib.hid HL14.out.inv.usedOk
  have HCN : Hid (Bits.count (Pst.opened s8.sup).used = 1) := Lib.hid (count_one (k := 2) HUO.out (by decide) fun j hj => by rw [opened_used (x := s8.sup) HL14.out.inv.held.good hj, HU8.out j hj])
  clear hb HL14
  go_wp2_with fail
  refine (Count_any _ HUO.out w15).mono ?_
  rw [HCN.out]
  rintro e w16 ⟨rfl, hb⟩
  have HL16 := Lib.hid (HL15.out.carry H hb)
  clear hb HL15
  go_wp2_with fail
  go_ret
  exact ⟨rfl, HL16.out.below⟩
theorem ptorn_walk {O : PgOwn} (H : PgSpec O) (s t : ByteArray) (m : Nat) (x : Int) (late : Bool) (hm : m < 4294967296) (hx : x ≤ 9223372036854775807) (w : World) (hg : Laid2 w) :
    Calls Tryd.prog 4 #[.string s, .string t, .int .u32 (m : Int), .int .i64 x, .bool late] w fun e w' => e = .returned (.bool true) ∧ Below w.heap.size w w' := by
  by_cases hs : s.size ≤ 120
  · by_cases ht : t.size ≤ 120
    · cases late with
      | true => exact ptorn_late H s t m x hs ht hm hx w hg
      | false => exact ptorn_early H s t m x hs ht hm hx w hg
    · exact ptorn_long H s t _ _ late (.inr ⟨hs, by omega⟩) w hg
  · exact ptorn_long H s t _ _ late (.inl (by omega)) w hg
end Go.Proofs.YtbcapaafoklhdaaDoor
