/-
 TrCut. Conditions: as each theorem says.
-/
import Derived.Test.YticbgbngookmnaaGreatDoorSm
import Derived.Test.YticbgbngookmnaaGreatDoorTrMend
import Derived.Test.YticbgbngookmnaaGreatDoorTc
import Derived.Test.YticbgbngookmnaaGreatDoorTrWithout
namespace Go.Proofs.YticbgbngookmnaaGreatDoor
open Go.RowKit
structure CuS (w : World) (q r b : Nat) (l : Lay3) (x : Nd) (wr : World) : Prop where
 bq : NdBox wr q l x
 br : NdBox wr r Lay3.none_ Nd.empty
 fr : ∀ j, wr.frozen? ⟨r, j, none⟩ = false
 mi : NdMine wr b l x
 below : Below w.heap.size w wr
 rl : w.heap.size ≤ r ∧ r < b
 bl : b ≤ q
 lq : ∀ g, l.has g → g < q
theorem CuS.carry {w : World} {q r b : Nat} {l : Lay3} {x : Nd} {wr w' : World} (h : CuS w q r b l x wr) (hb : Below wr.heap.size wr w') : CuS w q r b l x w' :=
 ⟨h.bq.carry hb h.bq.lt, h.br.carry hb h.br.lt, frozen_below hb h.br.lt h.fr, h.mi.carry hb, h.below.trans (hb.mono h.below.size), h.rl, h.bl, h.lq⟩
section
variable {O : PgOwn} (H : PgSpec O)
include H
theorem cut_fail {w0 : World} {K : Nat → Prop} {w wr : World} {P D n : Nat} {S : TS} {firm : Nat → List UInt8} {r lo : Nat} {c : Int} {v : Value} (hl : LawT O w0 K w P D n S firm) (hb : Below w.heap.size w wr) (hr : w.heap.size ≤ r ∧ r < lo) (hc : c ≠ 0) (he : ErrFrom wr lo c v) :
  PutPost O w0 K w P D n firm (.error c, S) (.returned (.tuple #[ndV Lay3.none_ Nd.empty, v])) (store3 wr r Lay3.none_ Nd.empty) := by
 have h3 : Below w.heap.size w (store3 wr r Lay3.none_ Nd.empty) := store3_below hb hr.1
 exact ⟨Kept.of_below h3 hl.there, hl.carry H h3, hc, v, rfl, (store3_err he hr.2).mono (by omega)⟩
theorem cut_leaf {w0 : World} {K : Nat → Prop} {w w4 w5 : World} {P D n : Nat} {S : TS} {firm : Nat → List UInt8} {q r b : Nat} {l : Lay3} {x : Nd} {R : Except Int Nd} {e : Ending} (hl : LawT O w0 K w P D n S firm) (h : CuS w q r b l x w4) (hp : WoPost w4 b l R e w5) :
  ∃ lk xk v, e = .returned (.tuple #[ndV lk xk, v]) ∧ NdBox w5 r Lay3.none_ Nd.empty ∧ (∀ j, w5.frozen? ⟨r, j, none⟩ = false) ∧ PutPost O w0 K w P D n firm (R, S) (.returned (.tuple #[ndV lk xk, v])) (store3 w5 r lk xk) := by
 obtain ⟨ht, hp⟩ := hp
 have hrl := h.rl
 have hlr : ¬ l.has r := fun hh => by have := (h.mi.lt r hh).1; omega
 have hbr := ht.block r ⟨h.br.lt, hlr⟩
 have hb5 : Below w.heap.size w w5 := h.below.trans (ht.below h.below.size fun k hk => by have := (h.mi.lt k hk).1; omega)
 have hb6 : ∀ lk xk, Below w.heap.size w (store3 w5 r lk xk) := fun lk xk => store3_below hb5 hrl.1
 have hbx : NdBox w5 r Lay3.none_ Nd.empty := h.br.keep hbr
 have hfr : ∀ j, w5.frozen? ⟨r, j, none⟩ = false := fun j => (World.frozen?_of_block (w := w4) (a := ⟨r, j, none⟩) hbr).trans (h.fr j)
 cases R with
 | error c =>
  obtain ⟨h1, v, h2, h3⟩ := hp
  exact ⟨_, _, v, h2, hbx, hfr, cut_fail H hl hb5 ⟨hrl.1, h.br.lt⟩ h1 h3⟩
 | ok y =>
  obtain ⟨l', h2, h3, h4⟩ := hp
  refine ⟨l', y, _, h2, hbx, hfr, Kept.of_below (hb6 _ _) hl.there, l', ?_, rfl, (store3_mine h3 fun hh => hlr (h4 r hh)).mono (by omega)⟩
  refine (hl.grow H (hb6 l' y)).less H (fun k hk => hk.imp id fun h5 => ?_) fun k hk => .inl (hl.low k hk)
  have := h3.lt k h5
  rw [store3_size]
  omega
theorem me_out {w0 : World} {L : Nat → Prop} {w1 w2 : World} {P D n : Nat} {firm : Nat → List UInt8} {b : Nat} {l l2 : Lay3} {R : Except Int Nd × TS} {e : Ending} (h : MendPost O w0 L w1 P D n firm b l l2 R e w2) (hb : b ≤ w1.heap.size) (hlow : ∀ k, k < w0.heap.size → L k) :
  ∃ lk xk v, e = .returned (.tuple #[ndV lk xk, v]) ∧ Kept (fun g => L g ∧ ¬ l.has g ∧ ¬ l2.has g) w1 w2 ∧ PuOut O w0 L b P D n firm R lk xk v w2 := by
 obtain ⟨R1, R2⟩ := R
 obtain ⟨h1, h2⟩ := h
 cases R1 with
 | error cd =>
  obtain ⟨h3, h4, v, h5, h6⟩ := h2
  exact ⟨_, _, _, h5, h1, h3.less H (fun k hk => hk.elim id fun h => absurd h (Lay3.has_none k)) (fun k hk => .inl (hlow k hk)), .inl ⟨cd, rfl, h4, rfl, rfl, h6.mono hb⟩⟩
 | ok x =>
  obtain ⟨l', h3, h4, h5⟩ := h2
  exact ⟨_, _, _, h4, h1, h3, .inr ⟨rfl, rfl, h5⟩⟩
set_option maxRecDepth 100000 in
set_option maxHeartbeats 4000000 in
theorem cut_any {w0 : World} {P D n : Nat} {firm : Nat → List UInt8} (hg : Laid2 w0) (key : Int) (f : Nat) (hf : f ≤ 12) {K : Nat → Prop} {w : World} {S : TS} (hl : LawT O w0 K w P D n S firm) (hs : S.d.soft.length + 2 * f ≤ 99990) (i : Int) {lv : Int} (hlv : lv = 13 - (f : Int)) :
  Calls Tryz.prog 52 #[ptr P, .int .i64 i, .int .i64 lv, .int .i64 key] w (PutPost O w0 K w P D n firm (cutM n f S i key)) := by
 have hbn := Tryz.nodeNone
 have hz := Tryz.zeroNode
 induction f generalizing w K i S lv
 all_goals
  have HLV := Hi hlv
  have HL := Hi hl
  have HW0 : Hid (w0.heap.size ≤ w.heap.size) := Hi hl.below.size
  have HTH : Hid (There K w) := Hi hl.there
  obtain ⟨r, HRC⟩ : ∃ r, Hid (r = w.heap.size) := Hy
  obtain ⟨w1, HW1⟩ : ∃ w1, Hid (w1 = w.alloc (.cells #[.slice none 0 0, .slice none 0 0, .slice none 0 0] 61)) := Hy
  have HB1 : Hid (Below w.heap.size w w1 ∧ w1.heap.size = w.heap.size + 1) := Hi (by rw [HW1.out]; exact ⟨(Below.refl _ _).alloc (Nat.le_refl _) _, by simp⟩)
  have HX1 : Hid (NdBox w1 r Lay3.none_ Nd.empty ∧ ∀ j, w1.frozen? ⟨r, j, none⟩ = false) := Hi (by
   rw [HW1.out, HRC.out]
   exact ⟨NdBox.new (l := Lay3.none_) (x := Nd.empty) _, frozen_new1 _ _ _⟩)
  have HRL : Hid (w.heap.size ≤ r ∧ r < w1.heap.size) := Hi (by rw [HB1.out.2, HRC.out]; omega)
  have HLD := Hi (load_any H (hl.carry H HB1.out.1) hg i lv)
  obtain ⟨ol, HOL⟩ : ∃ ol, Hid (ol = loadM S i lv) := Hy
  rw [← HOL.out] at HLD
 case' zero =>
  obtain ⟨R, HRR⟩ : ∃ R, Hid (R = cutM n 0 S i key) := Hy
  rw [← HRR.out]
  obtain rfl : ol = .error 2 := by rw [HOL.out, HLV.out]; unfold loadM; exact if_pos (by decide)
  obtain ⟨cd, HCD⟩ : ∃ cd : Int, Hid (cd = 2) := Hy
  rw [← HCD.out] at HLD
  have HG0 : Hid (R = (.error cd, S)) := Hi (by rw [HRR.out, HCD.out]; rfl)
  clear HCD HRR HOL hl hs hlv
 case' succ f ih =>
  have HLE : Hid (lv = 12 - (f : Int)) := Hi (by rw [HLV.out]; omega)
  have HOK : Hid (OkT n S firm) := Hi hl.inv
  have HSS : Hid (S.d.soft.length + 2 * (f + 1) ≤ 99990) := Hi hs
  have HIH : Hid (∀ {K : Nat → Prop} {w : World}, LawT O w0 K w P D n S firm → ∀ i : Int, Calls Tryz.prog 52 #[ptr P, .int .i64 i, .int .i64 (13 - (f : Int)), .int .i64 key] w (PutPost O w0 K w P D n firm (cutM n f S i key))) := Hi fun h i => ih (by omega) h (by omega) i rfl
  obtain ⟨R, HRR⟩ : ∃ R, Hid (R = cutM n (f + 1) S i key) := Hy
  rw [← HRR.out]
  clear hl hs ih hlv
  have HGX : Hid (R = match (generalizing := false) ol with
   | .error c => (.error c, S)
   | .ok x => if x.kids.length = 0 then (withoutN x key, S) else match cutM n f S (x.kids.getD (kidAtN x key) 0) key with
    | (.error c, S1) => (.error c, S1)
    | (.ok kid, S1) => if kid.keys.length < 3 then mendM n S1 x (kidAtN x key) (13 - f : Int) kid else replaceM n S1 x (kidAtN x key) 1 kid) := Hi (by
   rw [HRR.out, HOL.out, HLE.out]
   rfl)
  clear HRR
  cases ol
  case' error cd =>
   have HG0 : Hid (R = (.error cd, S)) := HGX
   clear HGX HOL HIH HSS HOK HLE
 case ok x =>
  have HG0 := Hi HGX.out
  have HRT := Hi (loadM_right HOL.out.symm)
  clear HGX HOL
  go_enter Tryz.func52, Tryz.ntmps52
  go_upto_region 1 with (fail)
  rw [← HW1.out, ← HRC.out]
  clear HW1
  go_wp2_with fail
  refine HLD.out.mono ?_
  rintro e w2 ⟨_, l, rfl, hn, hb⟩
  have HN := Hi hn
  have HB := Hi hb
  clear hn hb HLD
  obtain ⟨q, HCq⟩ : ∃ q, Hid (q = w2.heap.size) := Hy
  obtain ⟨w3, HWw3⟩ : ∃ w3, Hid (w3 = w2.alloc (.cells #[.slice l.A x.keys.length l.ca, .slice l.B x.vals.length l.cb, .slice l.C x.kids.length l.cc] 61)) := Hy
  go_upto_region 2 with (fail)
  rw [← HWw3.out, ← HCq.out]
  have HS3 : Hid (CuS w q r w1.heap.size l x w3) := Hi (by
   have hb3 : Below w2.heap.size w2 w3 := by rw [HWw3.out]; exact (Below.refl _ _).alloc (Nat.le_refl _) _
   have hb13 : Below w1.heap.size w1 w3 := HB.out.trans (hb3.mono HB.out.size)
   exact ⟨by rw [HWw3.out, HCq.out]; exact NdBox.new _, HX1.out.1.carry hb13 HX1.out.1.lt, frozen_below hb13 HX1.out.1.lt HX1.out.2, HN.out.carry hb3, HB1.out.1.trans (hb13.mono HB1.out.1.size), HRL.out, by rw [HCq.out]; exact HB.out.size, fun g hg => by rw [HCq.out]; exact (HN.out.lt g hg).2⟩)
  clear HWw3 HCq HN HB HX1
  go_wp2_with (with_reducible refine stop_at (o := ⟨some 25, _, _, _, _, _⟩) ?_)
  refine wpList_load_nd Tryz.ndProg (by rfl) _ rfl q rfl l x HS3.out.bq ?_
  go_wp2_with fail
  refine (Leaf_any x).mono ?_
  rintro e w4 ⟨rfl, hb⟩
  have HS4 := Hi (HS3.out.carry hb)
  clear hb HS3
  by_cases hlf : x.kids.length = 0
  ·rw [decide_eq_true hlf]
   have HG1 : Hid (R = (withoutN x key, S)) := Hi (by rw [HG0.out, if_pos hlf])
   have HWO := Hi (without_any HS4.out.mi (Nat.le_of_lt (Nat.lt_of_le_of_lt HS4.out.bl HS4.out.bq.lt)) HRT.out hlf key)
   clear HG0 hlf HIH
   go_wp2_with (with_reducible refine stop_at (o := ⟨some 27, _, _, _, _, _⟩) ?_)
   refine wpList_load_nd Tryz.ndProg (by rfl) _ rfl q rfl l x HS4.out.bq ?_
   go_wp2_with fail
   refine HWO.out.mono ?_
   rintro e w5 hwo
   obtain ⟨lk, xk, v, rfl, hbx, hfr, hpp⟩ := cut_leaf H HL.out HS4.out hwo
   have HBX := Hi (And.intro hbx hfr)
   have HPP := Hi hpp
   clear hwo hbx hfr hpp HWO HS4
   have f0 := HBX.out.2 0
   have f1 := HBX.out.2 1
   have f2 := HBX.out.2 2
   have HBR9 := Hi HBX.out.1
   have d0 := HBR9.out.c0
   have d1 := HBR9.out.c1
   have d2 := HBR9.out.c2
   obtain ⟨w9, HW9⟩ : ∃ w9, Hid (w9 = ((w5.setCell ⟨r, 0, none⟩ (.slice lk.A xk.keys.length lk.ca)).setCell ⟨r, 1, none⟩ (.slice lk.B xk.vals.length lk.cb)).setCell ⟨r, 2, none⟩ (.slice lk.C xk.kids.length lk.cc)) := Hy
   have HS9 : Hid (w9 = store3 w5 r lk xk) := Hi HW9.out
   have HX9 : Hid (NdBox w9 r lk xk) := Hi (by rw [HS9.out]; exact store3_box HBR9.out)
   have HP9 : Hid (PutPost O w0 K w P D n firm R (.returned (.tuple #[ndV lk xk, v])) w9) := Hi (by
    rw [HS9.out]
    exact by rw [HG1.out]; exact HPP.out)
   go_wp2_with fail
   rw [← HW9.out]
   exact bodyPost_ret (results_nd2 Tryz.ndProg rfl _ _ r lk xk (v) rfl rfl HX9.out) rfl HP9.out
  ·rw [decide_eq_false hlf]
   have HNE := Hi hlf
   have HKL := Hi (kidAtN_lt HRT.out hlf key)
   have HG1 : Hid (R = match (generalizing := false) cutM n f S (x.kids.getD (kidAtN x key) 0) key with
    | (.error c, S1) => (.error c, S1)
    | (.ok kid, S1) => if kid.keys.length < 3 then mendM n S1 x (kidAtN x key) (13 - f : Int) kid else replaceM n S1 x (kidAtN x key) 1 kid) := Hi (by rw [HG0.out, if_neg hlf])
   have HKA := Hi (kidAt_any HS4.out.mi.is key)
   obtain ⟨k, HKK⟩ : ∃ k, Hid (k = kidAtN x key) := Hy
   rw [← HKK.out] at HKL HG1 HKA
   obtain ⟨z, HZ⟩ : ∃ z, Hid (z = x.kids.getD k 0) := Hy
   rw [← HZ.out] at HG1
   clear HG0 hlf
   go_wp2_with (with_reducible refine stop_at (o := ⟨some 32, _, _, _, _, _⟩) ?_)
   refine wpList_load_nd Tryz.ndProg (by rfl) _ rfl q rfl l x HS4.out.bq ?_
   go_wp2_with fail
   refine HKA.out.mono ?_
   rintro e w5 ⟨rfl, hb⟩
   have HS5 := Hi (HS4.out.carry hb)
   clear hb HS4 HKA
   obtain ⟨C, hC, hcc⟩ := nums_cell HS5.out.mi.is.kids (i := k) HKL.out
   rw [show x.kids[k]'HKL.out = z by rw [HZ.out, List.getD_eq_getElem?_getD, List.getElem?_eq_getElem HKL.out]; rfl] at hcc
   have c2 := HS5.out.bq.c2
   rw [hC] at c2
   clear hC
   have hkl : (k : Int) < (x.kids.length : Int) := by have := HKL.out; omega
   obtain ⟨lv2, HL2⟩ : ∃ lv2 : Int, Hid (lv2 = 13 - (f : Int)) := Hy
   have hwl : wrap64 (lv + 1) = lv2 := by have := HLE.out; have := HL2.out; unfold wrap64; omega
   have hwl2 : IntKind.i64.wrap (lv + 1) = lv2 := by have := HLE.out; have := HL2.out; rw [IntKind.wrap_i64]; omega
   have HIC := Hi (HIH.out (HL.out.grow H HS5.out.below) z)
   obtain ⟨RK, HRK⟩ : ∃ RK, Hid (RK = cutM n f S z key) := Hy
   rw [← HRK.out] at HIC HG1
   rw [← HL2.out] at HIC HG1
   clear HIH
   go_wp2_with fail
   refine HIC.out.mono ?_
   rintro e w6 hpp
   obtain ⟨lk, xk, v, rfl, hk, ho⟩ := put_out H hpp (fun k hk => .inl (HL.out.low k hk))
   clear hpp HIC hcc c2 hwl hwl2 hkl
   obtain ⟨c, HCc⟩ : ∃ c, Hid (c = w6.heap.size) := Hy
   obtain ⟨w7, HW7⟩ : ∃ w7, Hid (w7 = w6.alloc (.cells #[.slice lk.A xk.keys.length lk.ca, .slice lk.B xk.vals.length lk.cb, .slice lk.C xk.kids.length lk.cc] 61)) := Hy
   have HSC : Hid (PuS O w0 K w P D n firm q r c w1.heap.size l x RK lk xk v w7) := Hi (by
    have h5 := HS5.out
    have hrl := h5.rl
    have hbl := h5.bl
    have hq5 := h5.bq.lt
    have hk6 := hk.size
    have hw5 := h5.below.size
    have hKq := hk.block q (.inr ⟨by omega, hq5⟩)
    have hKr := hk.block r (.inr ⟨hrl.1, h5.br.lt⟩)
    have hb7 : Below w6.heap.size w6 w7 := by rw [HW7.out]; exact (Below.refl _ _).alloc (Nat.le_refl _) _
    refine PuS.make H (h5.bq.keep hKq) (h5.br.keep hKr) (fun j => (World.frozen?_of_block (w := w5) (a := ⟨r, j, none⟩) hKr).trans (h5.fr j)) (h5.mi.keep hk.size fun g hg => hk.block g (.inr ⟨by have := (h5.mi.lt g hg).1; omega, (h5.mi.lt g hg).2⟩))
     ((Kept.of_below h5.below HTH.out).trans (hk.less8 fun g hg => .inl hg)) ho (Turn.of_below hb7) (by rw [HW7.out, HCc.out]; exact NdBox.new _) (fun h => by rw [HCc.out] at h; omega) (fun g hg => ?_) (by rw [HCc.out]; omega) (by rw [HCc.out]; omega) (fun h => by have := h5.lq c h; rw [HCc.out] at this; omega) (by rw [HCc.out]; omega) (by omega) (by omega) (fun g hg => (h5.mi.lt g hg).2) HTH.out HW0.out HL.out.low
    rcases hg with hg | rfl | hg
    ·exact .inl hg
    ·exact .inr ⟨hrl.1, h5.br.lt⟩
    ·exact .inr ⟨by have := (h5.mi.lt g hg).1; omega, (h5.mi.lt g hg).2⟩)
   have HQP : Hid (w1.heap.size ≤ q ∧ q < w7.heap.size ∧ w0.heap.size ≤ w1.heap.size ∧ w.heap.size ≤ r) := Hi ⟨HS5.out.bl, HSC.out.bq.lt, Nat.le_trans HW0.out HB1.out.1.size, HRL.out.1⟩
   have HLB : Hid (∀ g, l.has g → w1.heap.size ≤ g) := Hi fun g hg => (HS5.out.mi.lt g hg).1
   go_upto_region 8 with (fail)
   rw [← HW7.out, ← HCc.out]
   clear HW7 HCc hk ho HS5
   obtain ⟨lo, hll, hrl, hbl, hout⟩ := HSC.out.out
   have HLO := Hi (And.intro hll (And.intro hrl hbl))
   have HOU := Hi hout
   obtain ⟨hlaw, hcase⟩ := hout
   obtain ⟨R1, S2⟩ := RK
   rcases hcase with ⟨cd, e1, e2, rfl, rfl, e5⟩ | ⟨e1, rfl, e3⟩
   ·obtain rfl : R1 = .error cd := e1
    have HR9 : Hid (R = (.error cd, S2)) := Hi HG1.out
    obtain ⟨tt, xx, rfl⟩ := e5.some e2
    clear e2 e5 hlaw hll hrl hbl
    have f0 := HSC.out.fr 0
    have f1 := HSC.out.fr 1
    have f2 := HSC.out.fr 2
    have HBR9 := Hi HSC.out.br
    have d0 := HBR9.out.c0
    have d1 := HBR9.out.c1
    have d2 := HBR9.out.c2
    obtain ⟨w9, HW9⟩ : ∃ w9, Hid (w9 = ((w7.setCell ⟨r, 0, none⟩ (.slice none 0 0)).setCell ⟨r, 1, none⟩ (.slice none 0 0)).setCell ⟨r, 2, none⟩ (.slice none 0 0)) := Hy
    have HS9 : Hid (w9 = store3 w7 r Lay3.none_ Nd.empty) := Hi HW9.out
    have HX9 : Hid (NdBox w9 r Lay3.none_ Nd.empty) := Hi (by rw [HS9.out]; exact store3_box HBR9.out)
    have HP9 : Hid (PutPost O w0 K w P D n firm R (.returned (.tuple #[ndV Lay3.none_ Nd.empty, .iface tt xx])) w9) := Hi (by
     rw [HS9.out]
     exact by rw [HR9.out]; exact HOU.out.ret H HSC.out.kept HTH.out (fun k hk => .inl hk) (.inr (.inl rfl)) HSC.out.br.lt HQP.out.2.2.2 HLO.out.2.1 HW0.out HL.out.low)
    go_wp2_with fail
    rw [← HW9.out]
    exact bodyPost_ret (results_nd2 Tryz.ndProg rfl _ _ r Lay3.none_ Nd.empty (.iface tt xx) rfl rfl HX9.out) rfl HP9.out
   ·obtain rfl : R1 = .ok xk := e1
    have HR9 : Hid (R = if xk.keys.length < 3 then mendM n S2 x k lv2 xk else replaceM n S2 x k 1 xk) := Hi HG1.out
    have HSO : Hid (S2.d.soft.length ≤ 99990) := Hi (by
     have h1 := (cutM_stay f HOK.out z key).soft
     rw [← HRK.out] at h1
     have h2 : S2.d.soft.length ≤ S.d.soft.length + 2 * f := h1
     have := HSS.out
     omega)
    have HE3 := Hi (e3.mono hbl)
    have HLR : Hid (∀ g, lk.has g → w1.heap.size ≤ g ∧ r < g ∧ w.heap.size ≤ g) := Hi fun g hg => by have := (e3.lt g hg).1; have := HQP.out; omega
    have HLW := Hi hlaw
    have HSH := Hi (cutM_shape f HRK.out.symm)
    have HDS : Hid (∀ g, l.has g → ¬ lk.has g) := Hi fun g h1 h2 => by have := hll g h1; have := (e3.lt g h2).1; omega
    have HBZ : Hid (w1.heap.size ≤ w7.heap.size) := Hi (by have := HQP.out; omega)
    clear e3 hlaw hll hrl hbl HG1 HOK HSS HRK
    have c0 := HSC.out.bc.c0
    by_cases h3 : xk.keys.length < 3
    case' pos =>
     have hk3 : (xk.keys.length : Int) < 3 := by omega
     have HGM : Hid (R = mendM n S2 x k lv2 xk) := Hi (by rw [HR9.out, if_pos h3])
     have HRP := Hi (mend_any H (at_ := k) (lv := lv2) HLW.out hg HSO.out HSC.out.mi (fun g hg => .inl (.inr (.inr hg))) HRT.out HNE.out HE3.out (fun g hg => .inr hg) HSH.out h3 HDS.out HBZ.out HBZ.out HQP.out.2.2.1 HQP.out.2.2.1 HKL.out (by have := HL2.out; omega))
     rw [← HGM.out, show lv2 - 1 = lv by rw [HL2.out, HLE.out]; omega] at HRP
     clear HGM HR9 h3
     go_wp2_with (with_reducible refine stop_at (o := ⟨some 57, _, _, _, _, _⟩) ?_)
     refine wpList_load_nd Tryz.ndProg (by rfl) _ rfl q rfl l x HSC.out.bq ?_
     go_wp2_with (with_reducible refine stop_at (o := ⟨some 60, _, _, _, _, _⟩) ?_)
     refine wpList_load_nd Tryz.ndProg (by rfl) _ rfl c rfl lk xk HSC.out.bc ?_
     go_wp2_with fail
     refine HRP.out.mono ?_
     rintro e w8 hrp
     obtain ⟨l5, x5, v5, rfl, hk5, ho5⟩ := me_out H hrp HBZ.out (fun k hk => .inl (.inl (HL.out.low k hk)))
     have hk5 := hk5.less8 (K := fun g => (K g ∨ g = r) ∧ ¬ l.has g) fun g hg => ⟨.inl (hg.1.imp id .inl), hg.2, fun h => by
      have := HLR.out g h
      rcases hg.1 with h9 | h9
      ·have := HTH.out g h9; omega
      ·omega⟩
    case' neg =>
     have hk3 : ¬ (xk.keys.length : Int) < 3 := by omega
     have HGM : Hid (R = replaceM n S2 x k 1 xk) := Hi (by rw [HR9.out, if_neg h3])
     have HRP := Hi (replace_any H (at_ := k) (many := 1) HLW.out hg HSO.out HSC.out.mi (fun g hg => .inl (.inr (.inr hg))) HRT.out HNE.out HE3.out (fun g hg => .inr hg) HSH.out HDS.out HBZ.out HQP.out.2.2.1 (Nat.le_refl _) (by decide) HKL.out)
     rw [← HGM.out, show ((1 : Nat) : Int) = 1 from rfl] at HRP
     clear HGM HR9 h3
     go_wp2_with (with_reducible refine stop_at (o := ⟨some 65, _, _, _, _, _⟩) ?_)
     refine wpList_load_nd Tryz.ndProg (by rfl) _ rfl q rfl l x HSC.out.bq ?_
     go_wp2_with (with_reducible refine stop_at (o := ⟨some 67, _, _, _, _, _⟩) ?_)
     refine wpList_load_nd Tryz.ndProg (by rfl) _ rfl c rfl lk xk HSC.out.bc ?_
     go_wp2_with fail
     refine HRP.out.mono ?_
     rintro e w8 hrp
     obtain ⟨l5, x5, v5, rfl, hk5, ho5⟩ := repl_out H hrp HBZ.out (fun k hk => .inl (.inl (HL.out.low k hk)))
     have hk5 := hk5.less8 (K := fun g => (K g ∨ g = r) ∧ ¬ l.has g) fun g hg => ⟨.inl (hg.1.imp id .inl), hg.2⟩
    all_goals
     have hrb := hk5.block r ⟨.inr rfl, fun h => by have := HLB.out r h; have := HRL.out; omega⟩
     have HR5 : Hid (NdBox w8 r Lay3.none_ Nd.empty ∧ ∀ j, w8.frozen? ⟨r, j, none⟩ = false) := Hi ⟨HSC.out.br.keep hrb, fun j => (World.frozen?_of_block (w := w7) (a := ⟨r, j, none⟩) hrb).trans (HSC.out.fr j)⟩
     have HK5 : Hid (Kept K w w8) := Hi (HSC.out.kept.trans (hk5.less8 fun k hk => ⟨.inl hk, fun h => by have := HTH.out k hk; have := HLB.out k h; have := HRL.out; omega⟩))
     have HO5 := Hi ho5
     clear hrp hk5 ho5 hrb HRP c0 hk3
     have f0 := HR5.out.2 0
     have f1 := HR5.out.2 1
     have f2 := HR5.out.2 2
     have HBR9 := Hi HR5.out.1
     have d0 := HBR9.out.c0
     have d1 := HBR9.out.c1
     have d2 := HBR9.out.c2
     obtain ⟨w9, HW9⟩ : ∃ w9, Hid (w9 = ((w8.setCell ⟨r, 0, none⟩ (.slice l5.A x5.keys.length l5.ca)).setCell ⟨r, 1, none⟩ (.slice l5.B x5.vals.length l5.cb)).setCell ⟨r, 2, none⟩ (.slice l5.C x5.kids.length l5.cc)) := Hy
     have HS9 : Hid (w9 = store3 w8 r l5 x5) := Hi HW9.out
     have HX9 : Hid (NdBox w9 r l5 x5) := Hi (by rw [HS9.out]; exact store3_box HBR9.out)
     have HP9 : Hid (PutPost O w0 K w P D n firm R (.returned (.tuple #[ndV l5 x5, v5])) w9) := Hi (by
      rw [HS9.out]
      exact HO5.out.ret H HK5.out HTH.out (fun k hk => .inl (.inl hk)) (.inl (.inr (.inl rfl))) HR5.out.1.lt HQP.out.2.2.2 HRL.out.2 HW0.out HL.out.low)
     go_wp2_with fail
     rw [← HW9.out]
     exact bodyPost_ret (results_nd2 Tryz.ndProg rfl _ _ r l5 x5 (v5) rfl rfl HX9.out) rfl HP9.out
 all_goals
  go_enter Tryz.func52, Tryz.ntmps52
  go_upto_region 1 with (fail)
  rw [← HW1.out, ← HRC.out]
  clear HW1
  go_wp2_with fail
  refine HLD.out.mono ?_
  rintro e w2 ⟨hc, v, rfl, he, hb⟩
  obtain ⟨tt, xx, rfl⟩ := he.some hc
  have HE := Hi he
  have HB := Hi hb
  have HC := Hi hc
  clear he hb HLD hc
  obtain ⟨q, HCq⟩ : ∃ q, Hid (q = w2.heap.size) := Hy
  obtain ⟨w3, HWw3⟩ : ∃ w3, Hid (w3 = w2.alloc (.cells #[.slice Lay3.none_.A Nd.empty.keys.length Lay3.none_.ca, .slice Lay3.none_.B Nd.empty.vals.length Lay3.none_.cb, .slice Lay3.none_.C Nd.empty.kids.length Lay3.none_.cc] 61)) := Hy
  have HB3 : Hid (Below w2.heap.size w2 w3) := Hi (by rw [HWw3.out]; exact (Below.refl _ _).alloc (Nat.le_refl _) _)
  go_upto_region 2 with (fail)
  rw [← HWw3.out, ← HCq.out]
  have HB13 : Hid (Below w1.heap.size w1 w3) := Hi (HB.out.trans (HB3.out.mono HB.out.size))
  have HR3 : Hid (NdBox w3 r Lay3.none_ Nd.empty ∧ ∀ j, w3.frozen? ⟨r, j, none⟩ = false) := Hi ⟨HX1.out.1.carry HB13.out HX1.out.1.lt, frozen_below HB13.out HX1.out.1.lt HX1.out.2⟩
  have HE3 := Hi (HE.out.below HB3.out)
  have HB03 : Hid (Below w.heap.size w w3) := Hi (HB1.out.1.trans (HB13.out.mono HB1.out.1.size))
  clear HWw3 HCq HE HB HB3 HB13
  have f0 := HR3.out.2 0
  have f1 := HR3.out.2 1
  have f2 := HR3.out.2 2
  have HBR9 := Hi HR3.out.1
  have d0 := HBR9.out.c0
  have d1 := HBR9.out.c1
  have d2 := HBR9.out.c2
  obtain ⟨w9, HW9⟩ : ∃ w9, Hid (w9 = ((w3.setCell ⟨r, 0, none⟩ (.slice none 0 0)).setCell ⟨r, 1, none⟩ (.slice none 0 0)).setCell ⟨r, 2, none⟩ (.slice none 0 0)) := Hy
  have HS9 : Hid (w9 = store3 w3 r Lay3.none_ Nd.empty) := Hi HW9.out
  have HX9 : Hid (NdBox w9 r Lay3.none_ Nd.empty) := Hi (by rw [HS9.out]; exact store3_box HBR9.out)
  have HP9 : Hid (PutPost O w0 K w P D n firm R (.returned (.tuple #[ndV Lay3.none_ Nd.empty, .iface tt xx])) w9) := Hi (by
   rw [HS9.out]
   exact by rw [HG0.out]; exact cut_fail H HL.out HB03.out HRL.out HC.out HE3.out)
  go_wp2_with fail
  rw [← HW9.out]
  exact bodyPost_ret (results_nd2 Tryz.ndProg rfl _ _ r Lay3.none_ Nd.empty (.iface tt xx) rfl rfl HX9.out) rfl HP9.out
end
end Go.Proofs.YticbgbngookmnaaGreatDoor
