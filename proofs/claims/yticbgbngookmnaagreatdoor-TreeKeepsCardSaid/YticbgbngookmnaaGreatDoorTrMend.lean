/-
 TrMend. Conditions: as each theorem says.
-/
import Derived.Test.YticbgbngookmnaaGreatDoorSm
import Derived.Test.YticbgbngookmnaaGreatDoorTrJoin
import Derived.Test.YticbgbngookmnaaGreatDoorTw
namespace Go.Proofs.YticbgbngookmnaaGreatDoor
open Go.RowKit
def MendPost (O : PgOwn) (w0 : World) (K : Nat → Prop) (w : World) (P D n : Nat) (firm : Nat → List UInt8) (b : Nat) (l l2 : Lay3) (R : Except Int Nd × TS) (e : Ending) (w' : World) : Prop :=
 Kept (fun g => K g ∧ ¬ l.has g ∧ ¬ l2.has g) w w' ∧ match R.1 with
 | .error c => LawT O w0 K w' P D n R.2 firm ∧ c ≠ 0 ∧ ∃ v, e = .returned (.tuple #[ndV Lay3.none_ Nd.empty, v]) ∧ ErrFrom w' w.heap.size c v
 | .ok x => ∃ l', LawT O w0 (fun g => K g ∨ l'.has g) w' P D n R.2 firm ∧ e = .returned (.tuple #[ndV l' x, .nilIface]) ∧ NdMine w' b l' x
structure MeS (w : World) (p q r b b2 : Nat) (l l2 : Lay3) (x y : Nd) (wr : World) : Prop where
 bp : NdBox wr p l x
 bq : NdBox wr q l2 y
 br : NdBox wr r Lay3.none_ Nd.empty
 fr : ∀ j, wr.frozen? ⟨r, j, none⟩ = false
 mx : NdMine wr b l x
 my : NdMine wr b2 l2 y
 below : Below w.heap.size w wr
 pw : w.heap.size ≤ p ∧ p < w.heap.size + 3
 qw : w.heap.size ≤ q ∧ q < w.heap.size + 3
 rw_ : w.heap.size ≤ r ∧ r < w.heap.size + 3
 hw : w.heap.size + 3 ≤ wr.heap.size
theorem MeS.carry {w : World} {p q r b b2 : Nat} {l l2 : Lay3} {x y : Nd} {wr w' : World} (h : MeS w p q r b b2 l l2 x y wr) (hb : Below wr.heap.size wr w') : MeS w p q r b b2 l l2 x y w' :=
 ⟨h.bp.carry hb h.bp.lt, h.bq.carry hb h.bq.lt, h.br.carry hb h.br.lt, frozen_below hb h.br.lt h.fr, h.mx.carry hb, h.my.carry hb, h.below.trans (hb.mono h.below.size), h.pw, h.qw, h.rw_, Nat.le_trans h.hw hb.size⟩
theorem shape_few {x : Nd} (h : NdShape x) : x.vals.length ≤ x.keys.length ∧ x.kids.length ≤ x.keys.length + 1 := by
 by_cases h0 : x.kids.length = 0
 ·have := h.leaf h0; omega
 ·have := h.inner h0; omega
section
variable {O : PgOwn} (H : PgSpec O)
include H
theorem mend_law {w0 : World} {K : Nat → Prop} {w wj : World} {P D n : Nat} {S : TS} {firm : Nat → List UInt8} {l2 : Lay3} (hl : LawT O w0 K w P D n S firm) (ht : Turn l2.has w wj) (h2 : ∀ g, l2.has g → K g ∧ w0.heap.size ≤ g) :
  LawT O w0 (fun k => K k ∨ (w.heap.size ≤ k ∧ k < wj.heap.size)) wj P D n S firm :=
 hl.off H ht h2 (fun _ hk => hk.imp id fun h => h.1) (fun k hk => hk.elim (fun h => Nat.lt_of_lt_of_le (hl.there k h) ht.size) fun h => h.2) fun k hk => .inl (hl.low k hk)
theorem mend_out {w0 : World} {K : Nat → Prop} {w wj w2 : World} {P D n : Nat} {firm : Nat → List UInt8} {b r : Nat} {l l2 : Lay3} {R : Except Int Nd × TS} {e : Ending} (h : ReplPost O w0 (fun k => K k ∨ (w.heap.size ≤ k ∧ k < wj.heap.size)) wj P D n firm b l R e w2) (ht : Turn l2.has w wj) (hK : There K w)
  (hlow : ∀ k, k < w0.heap.size → K k) (hlw : ∀ g, l.has g → g < w.heap.size) (hr : w.heap.size ≤ r ∧ r < wj.heap.size) (hw0 : w0.heap.size ≤ w.heap.size) :
  ∃ lk xk v, e = .returned (.tuple #[ndV lk xk, v]) ∧ Kept (fun k => w.heap.size ≤ k ∧ k < wj.heap.size) wj w2 ∧ Kept (fun k => K k ∧ ¬ l.has k) wj w2 ∧ MendPost O w0 K w P D n firm b l l2 R (.returned (.tuple #[ndV lk xk, v])) (store3 w2 r lk xk) := by
 obtain ⟨h1, h2⟩ := h
 have k1 : Kept (fun k => w.heap.size ≤ k ∧ k < wj.heap.size) wj w2 := h1.less8 fun k hk => ⟨.inr hk, fun hh => by have := hlw k hh; omega⟩
 have k2 : Kept (fun k => K k ∧ ¬ l.has k) wj w2 := h1.less8 fun k hk => ⟨.inl hk.1, hk.2⟩
 have hst : ∀ lk xk, Turn (fun k => k = r) w2 (store3 w2 r lk xk) := fun lk xk => ⟨rfl, rfl, rfl, by rw [store3_size]; exact Nat.le_refl _, fun k hk => store3_far hk.2⟩
 have hkp : ∀ lk xk, Kept (fun g => K g ∧ ¬ l.has g ∧ ¬ l2.has g) w (store3 w2 r lk xk) := fun lk xk => by
  have h3 := hst lk xk
  refine ⟨h3.os.trans (k2.os.trans ht.os), h3.tape.trans (k2.tape.trans ht.tape), h3.output.trans (k2.output.trans ht.output), Nat.le_trans ht.size (Nat.le_trans k2.size h3.size), fun k hk => ?_⟩
  have h4 := hK k hk.1
  exact ((store3_far (by omega)).trans (k2.block k ⟨hk.1, hk.2.1⟩)).trans (ht.block k ⟨h4, hk.2.2⟩)
 have hrw : r < w2.heap.size := Nat.lt_of_lt_of_le hr.2 k2.size
 obtain ⟨R1, R2⟩ := R
 cases R1 with
 | error cd =>
  obtain ⟨h3, h4, v, h5, h6⟩ := h2
  refine ⟨Lay3.none_, Nd.empty, v, h5, k1, k2, hkp _ _, ?_, h4, v, rfl, ?_⟩
  ·refine h3.off H (hst _ _) (fun k hk => ?_) (fun k hk => .inl (.inl hk)) (fun k hk => ?_) hlow
   ·have hk' : k = r := hk
    subst hk'
    exact ⟨.inr hr, by omega⟩
   ·rw [store3_size]; exact h3.there k (.inl hk)
  ·exact (store3_err h6 hr.2).mono ht.size
 | ok z =>
  obtain ⟨l', h3, h4, h5, h6⟩ := h2
  have hnr : ¬ l'.has r := fun hh => (h6 r hh).elim (fun h7 => by have := hlw r h7; omega) fun h7 => by omega
  refine ⟨l', z, .nilIface, h4, k1, k2, hkp _ _, l', ?_, rfl, store3_mine h5 hnr⟩
  refine h3.off H (hst _ _) (fun k hk => ?_) (fun k hk => .inl (hk.imp .inl id)) (fun k hk => ?_) fun k hk => .inl (hlow k hk)
  ·have hk' : k = r := hk
   subst hk'
   exact ⟨.inl (.inr hr), by omega⟩
  ·rw [store3_size]; exact h3.there k (hk.imp .inl id)
theorem mend_fail {w0 : World} {K : Nat → Prop} {w wr : World} {P D n : Nat} {S : TS} {firm : Nat → List UInt8} {b r lo : Nat} {l l2 : Lay3} {c : Int} {v : Value} (hl : LawT O w0 K w P D n S firm) (hb : Below w.heap.size w wr) (hr : w.heap.size ≤ r ∧ r < lo) (hlo : w.heap.size ≤ lo) (hc : c ≠ 0) (he : ErrFrom wr lo c v) :
  MendPost O w0 K w P D n firm b l l2 (.error c, S) (.returned (.tuple #[ndV Lay3.none_ Nd.empty, v])) (store3 wr r Lay3.none_ Nd.empty) := by
 have h3 : Below w.heap.size w (store3 wr r Lay3.none_ Nd.empty) := store3_below hb hr.1
 exact ⟨(Kept.of_below h3 hl.there).less8 fun k hk => hk.1, hl.carry H h3, hc, v, rfl, (store3_err he hr.2).mono hlo⟩
set_option maxRecDepth 100000 in
set_option maxHeartbeats 4000000 in
theorem mend_any {w0 : World} {K : Nat → Prop} {w : World} {P D n : Nat} {S : TS} {firm : Nat → List UInt8} (hl : LawT O w0 K w P D n S firm) (hg : Laid2 w0) (hs : S.d.soft.length ≤ 99990) {b b2 : Nat} {l l2 : Lay3} {x y : Nd}
  (hx : NdMine w b l x) (hxK : ∀ g, l.has g → K g) (hr : rightN x = true) (hki : x.kids.length ≠ 0) (hy : NdMine w b2 l2 y) (hyK : ∀ g, l2.has g → K g) (hys : NdShape y) (hyf : y.keys.length < 3) (hdis : ∀ g, l.has g → ¬ l2.has g) (hbw : b ≤ w.heap.size) (hbw2 : b2 ≤ w.heap.size) (hw0 : w0.heap.size ≤ b) (hw02 : w0.heap.size ≤ b2)
  {at_ : Nat} (hat : at_ < x.kids.length) {lv : Int} (hlv : 0 ≤ lv ∧ lv ≤ 13) :
  Calls Tryz.prog 84 #[ptr P, ndV l x, .int .i64 (at_ : Int), .int .i64 (lv - 1), ndV l2 y] w (MendPost O w0 K w P D n firm b l l2 (mendM n S x at_ lv y)) := by
 have hbn := Tryz.nodeNone
 have hz := Tryz.zeroNode
 have h7 := (right_parts hr).2.1
 have hin := (right_shape hr).inner hki
 have HSZ : Hid (x.keys.length ≤ 7 ∧ x.kids.length = x.keys.length + 1 ∧ x.vals.length = 0 ∧ 0 < x.keys.length) := Hi ⟨h7, hin.2, hin.1, right_pos hr hki⟩
 have HLV : Hid (wrap64 lv = lv ∧ IntKind.i64.wrap lv = lv) := Hi (by rw [IntKind.wrap_i64]; unfold wrap64; omega)
 obtain ⟨ot, HOT⟩ : ∃ ot, Hid (ot = otherN x at_) := Hy
 obtain ⟨la, HLA⟩ : ∃ la, Hid (la = decide (at_ = x.keys.length)) := Hy
 have HOL : Hid (ot < x.kids.length ∧ (la = true → ot + 1 = at_ ∧ at_ = x.keys.length) ∧ (la = false → ot = at_ + 1 ∧ at_ < x.keys.length)) := Hi (by
  have h1 := HSZ.out
  rw [HOT.out, HLA.out]
  unfold otherN
  by_cases e : at_ = x.keys.length
  ·rw [if_pos e, decide_eq_true e]; exact ⟨by omega, fun _ => ⟨by omega, e⟩, fun h => (by cases h)⟩
  ·rw [if_neg e, decide_eq_false e]; exact ⟨by omega, fun h => (by cases h), fun _ => ⟨rfl, by omega⟩⟩)
 obtain ⟨p, HPP⟩ : ∃ p, Hid (p = w.heap.size) := Hy
 obtain ⟨q, HQQ⟩ : ∃ q, Hid (q = p + 1) := Hy
 obtain ⟨r, HRR⟩ : ∃ r, Hid (r = q + 1) := Hy
 obtain ⟨w1, HW1⟩ : ∃ w1, Hid (w1 = ((w.alloc (.cells #[.slice l.A x.keys.length l.ca, .slice l.B x.vals.length l.cb, .slice l.C x.kids.length l.cc] 61)).alloc (.cells #[.slice l2.A y.keys.length l2.ca, .slice l2.B y.vals.length l2.cb, .slice l2.C y.kids.length l2.cc] 61)).alloc (.cells #[.slice none 0 0, .slice none 0 0, .slice none 0 0] 61)) := Hy
 have HB1 : Hid (Below w.heap.size w w1 ∧ w1.heap.size = w.heap.size + 3) := Hi (by rw [HW1.out]; exact ⟨(((Below.refl _ _).alloc (Nat.le_refl _) _).alloc (by simp) _).alloc (by simp; omega) _, by simp⟩)
 have HS1 : Hid (MeS w p q r b b2 l l2 x y w1) := Hi (by
  have hmx := hx.carry HB1.out.1
  have hmy := hy.carry HB1.out.1
  have hbel := HB1.out.1
  have hsz1 : w.heap.size + 3 ≤ w1.heap.size := by rw [HB1.out.2]; exact Nat.le_refl _
  have e1 := NdBox.new (w := w) (l := l) (x := x) 61
  rw [HW1.out] at hmx hmy hbel hsz1 ⊢
  obtain ⟨wa, hwa⟩ : ∃ wa, wa = w.alloc (.cells #[.slice l.A x.keys.length l.ca, .slice l.B x.vals.length l.cb, .slice l.C x.kids.length l.cc] 61) := ⟨_, rfl⟩
  rw [← hwa] at e1 hmx hmy hbel hsz1 ⊢
  have hsa : wa.heap.size = w.heap.size + 1 := by rw [hwa]; simp
  have e2 := NdBox.new (w := wa) (l := l2) (x := y) 61
  obtain ⟨wb, hwb⟩ : ∃ wb, wb = wa.alloc (.cells #[.slice l2.A y.keys.length l2.ca, .slice l2.B y.vals.length l2.cb, .slice l2.C y.kids.length l2.cc] 61) := ⟨_, rfl⟩
  rw [← hwb] at e2 hmx hmy hbel hsz1 ⊢
  have hsb : wb.heap.size = wa.heap.size + 1 := by rw [hwb]; simp
  have hab : Below wa.heap.size wa wb := by rw [hwb]; exact (Below.refl _ _).alloc (Nat.le_refl _) _
  have e3 := NdBox.new (w := wb) (l := Lay3.none_) (x := Nd.empty) 61
  have f3 := frozen_new1 wb #[.slice none 0 0, .slice none 0 0, .slice none 0 0] 61
  have hbc : Below wb.heap.size wb (wb.alloc (.cells #[.slice none 0 0, .slice none 0 0, .slice none 0 0] 61)) := (Below.refl _ _).alloc (Nat.le_refl _) _
  rw [hsb, hsa] at e3 f3
  rw [hsa] at e2
  rw [HRR.out, HQQ.out, HPP.out]
  exact ⟨(e1.carry hab e1.lt).carry hbc (e1.carry hab e1.lt).lt, e2.carry hbc e2.lt, e3, f3, hmx, hmy, hbel, by omega, by omega, by omega, hsz1⟩)
 have HL := Hi hl
 have HSS := Hi hs
 have HXK := Hi hxK
 have HYK : Hid (∀ g, l2.has g → K g ∧ w0.heap.size ≤ g) := Hi fun g hh => ⟨hyK g hh, Nat.le_trans hw02 (hy.lt g hh).1⟩
 have HYS := Hi (And.intro hys hyf)
 have HDIS := Hi hdis
 have HRT := Hi hr
 have HKI := Hi hki
 have HXW : Hid (∀ g, l.has g → g < w.heap.size) := Hi fun g hh => (hx.lt g hh).2
 have HYW : Hid (∀ g, l2.has g → g < w.heap.size) := Hi fun g hh => (hy.lt g hh).2
 have HBW : Hid (w0.heap.size ≤ b ∧ b ≤ w.heap.size ∧ b2 ≤ w.heap.size) := Hi ⟨hw0, hbw, hbw2⟩
 obtain ⟨z, HZ⟩ : ∃ z, Hid (z = x.kids.getD ot 0) := Hy
 obtain ⟨R, HRS⟩ : ∃ R, Hid (R = mendM n S x at_ lv y) := Hy
 have HG0 : Hid (R = match loadM S z lv with
   | .error c => (.error c, S)
   | .ok yn => if decide (yn.kids.length = 0) ≠ decide (y.kids.length = 0) then (.error 2, S)
    else if la = true then replaceM n S x ot 2 (joinN yn (x.keys.getD ot 0) y)
    else replaceM n S x at_ 2 (joinN y (x.keys.getD at_ 0) yn)) := Hi (by
  rw [HRS.out, HZ.out, HOT.out]
  unfold mendM
  cases loadM S (x.kids.getD (otherN x at_) 0) lv with
  | error c => rfl
  | ok yn =>
   simp only
   split
   ·rfl
   ·rw [HLA.out]
    by_cases e : at_ = x.keys.length
    ·rw [if_pos e, if_pos (by simpa using e)]
     have : at_ - 1 = otherN x at_ := by unfold otherN; rw [if_pos e]
     rw [← this]
    ·rw [if_neg e, if_neg (by simpa using e)])
 obtain ⟨o, HO⟩ : ∃ o, Hid (o = loadM S z lv) := Hy
 have HLD := Hi fun wr (h : Below w.heap.size w wr) => load_any H (hl.carry H h) hg z lv
 rw [← HO.out] at HG0 HLD
 rw [← HRS.out]
 have hwl := HLV.out.1
 have hwl2 := HLV.out.2
 have hcc0 := HS1.out.bp.c0
 clear hl hs hx hxK hr hki hy hyK hys hyf hdis hbw hbw2 hw0 hw02 hlv h7 hin HRS
 have HX1 : Hid (∀ w', NdIs w' l x → ∃ C, l.C = some C ∧ w'.cell? (C.add ot) = some (.int .i64 z)) := Hi fun w' h => by
  obtain ⟨C, h1, h2⟩ := nums_cell h.kids (i := ot) HOL.out.1
  exact ⟨C, h1, by rw [h2, HZ.out, List.getD_eq_getElem?_getD, List.getElem?_eq_getElem HOL.out.1]; rfl⟩
 obtain ⟨C, hC, hcc⟩ := HX1.out w1 HS1.out.mx.is
 have HCC := Hi hC
 have c2 := HS1.out.bp.c2
 rw [hC] at c2
 clear hC
 have hkl : (ot : Int) < (x.kids.length : Int) := by have := HOL.out.1; omega
 have hwo : wrap64 (ot : Int) = (ot : Int) := by have := HOL.out.1; have := HSZ.out; unfold wrap64; omega
 by_cases hat2 : at_ = x.keys.length
 case' pos =>
  obtain rfl : la = true := by rw [HLA.out]; exact decide_eq_true hat2
  have hi1 : (at_ : Int) = (x.keys.length : Int) := by omega
  have hi2 : (x.keys.length : Int) - 1 = (ot : Int) := by have := (HOL.out.2.1 rfl).1; omega
  have hi3 : IntKind.i64.wrap ((x.keys.length : Int) - 1) = (ot : Int) := by have := HSZ.out; rw [IntKind.wrap_i64]; omega
  have hi4 : IntKind.i64.wrap ((x.keys.length : Int) + 1) = (x.keys.length : Int) + 1 := by have := HSZ.out; rw [IntKind.wrap_i64]; omega
  rw [hi1]
  go_enter Tryz.func84, Tryz.ntmps84
  go_upto_region 1 with (fail)
  rw [← HW1.out, ← HPP.out, ← HQQ.out, ← HRR.out]
  clear HW1
  go_upto_region 5 with (fail)
  rw [hwo]
  clear hi1 hi2 hi3 hi4 hwo hat2
 case' neg =>
  obtain rfl : la = false := by rw [HLA.out]; exact decide_eq_false hat2
  have hi1 : ¬ (at_ : Int) = (x.keys.length : Int) := by omega
  have hi2 : (at_ : Int) + 1 = (ot : Int) := by have := (HOL.out.2.2 rfl).1; omega
  have hi3 : IntKind.i64.wrap ((at_ : Int) + 1) = (ot : Int) := by have := HSZ.out; rw [IntKind.wrap_i64]; omega
  go_enter Tryz.func84, Tryz.ntmps84
  go_upto_region 1 with (fail)
  rw [← HW1.out, ← HPP.out, ← HQQ.out, ← HRR.out]
  clear HW1
  go_upto_region 5 with (fail)
  rw [hwo, show ((at_ : Int) == (x.keys.length : Int)) = false by simpa using hi1]
  clear hi1 hi2 hi3 hwo hat2
 all_goals
  go_wp2_with fail
  try rw [hwl]
  refine (HLD.out _ HB1.out.1).mono ?_
  rintro e w2 hld
  clear HLD
  cases o
  case error cd =>
   obtain ⟨hc0, v, rfl, he, hb⟩ := hld
   obtain ⟨tt, xx, rfl⟩ := he.some hc0
   have HE := Hi he
   have HC0 := Hi hc0
   have HS2 := Hi (HS1.out.carry hb)
   have HRN : Hid (R = (.error cd, S)) := Hi HG0.out
   clear he hb hc0 HG0 hcc c2 hwl hwl2 hkl
   obtain ⟨c, HCc⟩ : ∃ c, Hid (c = w2.heap.size) := Hy
   obtain ⟨w3, HWw3⟩ : ∃ w3, Hid (w3 = w2.alloc (.cells #[.slice Lay3.none_.A Nd.empty.keys.length Lay3.none_.ca, .slice Lay3.none_.B Nd.empty.vals.length Lay3.none_.cb, .slice Lay3.none_.C Nd.empty.kids.length Lay3.none_.cc] 61)) := Hy
   have HBw3 : Hid (Below w2.heap.size w2 w3) := Hi (by rw [HWw3.out]; exact (Below.refl _ _).alloc (Nat.le_refl _) _)
   go_upto_region 6 with (fail)
   rw [← HWw3.out, ← HCc.out]
   have HS3 := Hi (HS2.out.carry HBw3.out)
   have HE3 := Hi (HE.out.below HBw3.out)
   clear HWw3 HBw3 HE
   have f0 := HS3.out.fr 0
   have f1 := HS3.out.fr 1
   have f2 := HS3.out.fr 2
   have HBR9 := Hi HS3.out.br
   have d0 := HBR9.out.c0
   have d1 := HBR9.out.c1
   have d2 := HBR9.out.c2
   obtain ⟨w9, HW9⟩ : ∃ w9, Hid (w9 = ((w3.setCell ⟨r, 0, none⟩ (.slice none 0 0)).setCell ⟨r, 1, none⟩ (.slice none 0 0)).setCell ⟨r, 2, none⟩ (.slice none 0 0)) := Hy
   have HS9 : Hid (w9 = store3 w3 r Lay3.none_ Nd.empty) := Hi HW9.out
   have HX9 : Hid (NdBox w9 r Lay3.none_ Nd.empty) := Hi (by rw [HS9.out]; exact store3_box HBR9.out)
   have HP9 : Hid (MendPost O w0 K w P D n firm b l l2 R (.returned (.tuple #[ndV Lay3.none_ Nd.empty, .iface tt xx])) w9) := Hi (by
    rw [HS9.out, HRN.out]
    exact mend_fail H HL.out HS3.out.below ⟨HS1.out.rw_.1, HS1.out.br.lt⟩ HB1.out.1.size HC0.out HE3.out)
   go_wp2_with fail
   rw [← HW9.out]
   exact bodyPost_ret (results_nd2 Tryz.ndProg rfl _ _ r Lay3.none_ Nd.empty (.iface tt xx) rfl rfl HX9.out) rfl HP9.out
  case' ok yn =>
   obtain ⟨hyr, ln, rfl, hmn, hb⟩ := hld
   have HYR := Hi hyr
   have HS2 := Hi (HS1.out.carry hb)
   have HN2 := Hi hmn
   have HSZ1 : Hid (w1.heap.size ≤ w2.heap.size ∧ r < w1.heap.size ∧ w.heap.size ≤ w1.heap.size) := Hi ⟨hb.size, HS1.out.br.lt, HB1.out.1.size⟩
   clear hb hyr hmn hcc c2 hwl hwl2 hkl
   obtain ⟨c, HCc⟩ : ∃ c, Hid (c = w2.heap.size) := Hy
   obtain ⟨w3, HWw3⟩ : ∃ w3, Hid (w3 = w2.alloc (.cells #[.slice ln.A yn.keys.length ln.ca, .slice ln.B yn.vals.length ln.cb, .slice ln.C yn.kids.length ln.cc] 61)) := Hy
   have HBw3 : Hid (Below w2.heap.size w2 w3) := Hi (by rw [HWw3.out]; exact (Below.refl _ _).alloc (Nat.le_refl _) _)
   have HBC : Hid (NdBox w3 c ln yn) := Hi (by rw [HWw3.out, HCc.out]; exact NdBox.new _)
   go_upto_region 8 with (fail)
   rw [← HWw3.out, ← HCc.out]
   have HS3 := Hi (HS2.out.carry HBw3.out)
   have HN3 := Hi (HN2.out.carry HBw3.out)
   have HNW : Hid (∀ g, ln.has g → w1.heap.size ≤ g ∧ g < c) := Hi (fun g hg => by rw [HCc.out]; exact HN2.out.lt g hg)
   have HCW : Hid (w1.heap.size ≤ c) := Hi (by rw [HCc.out]; exact HSZ1.out.1)
   clear HWw3 HBw3 HS2 HN2
   obtain ⟨bl, HBL⟩ : ∃ bl, Hid (bl = decide (yn.kids.length = 0)) := Hy
   obtain ⟨bk, HBK⟩ : ∃ bk, Hid (bk = decide (y.kids.length = 0)) := Hy
   have HLY := Hi fun wr => Leaf_any (w := wr) (l := ln) yn
   have HLK := Hi fun wr => Leaf_any (w := wr) (l := l2) y
   rw [← HBL.out] at HLY
   rw [← HBK.out] at HLK
   have HG1 : Hid (R = if bl ≠ bk then (.error 2, S) else if _ then _ else _) := Hi (by rw [HG0.out, HBL.out, HBK.out])
   clear HG0
   refine wp_region_held (S := fun w9 => NdBox w9 c ln yn ∧ NdBox w9 q l2 y) (by kernel_rfl) ?_
   change wpAnyH _ _ _ _ _ _ _ _ w3.drew
   obtain ⟨wa, HWA⟩ : ∃ wa, Hid (wa = w3.drew) := Hy
   rw [← HWA.out]
   have HSA : Hid (MeS w p q r b b2 l l2 x y wa ∧ NdMine wa w1.heap.size ln yn ∧ NdBox wa c ln yn) := Hi (by
    have hdr : Below w3.heap.size w3 wa := by rw [HWA.out]; exact (Below.refl _ _).drew
    exact ⟨HS3.out.carry hdr, HN3.out.carry hdr, HBC.out.carry hdr HBC.out.lt⟩)
   have hS : NdBox wa c ln yn ∧ NdBox wa q l2 y := ⟨HSA.out.2.2, HSA.out.1.bq⟩
   clear HWA HS3 HN3 HBC
   refine takeJ (i := 0) 42 (v := ndV ln yn) rfl rfl (yieldsIf_nd Tryz.ndProg (by rfl) _ rfl c rfl ln yn (fun _ h => h.1)) hS ?_
   simp only [Act.put, pU]
   refine takeJ (i := 2) 44 (v := ndV l2 y) rfl rfl (yieldsIf_nd Tryz.ndProg (by rfl) _ rfl q rfl l2 y (fun _ h => h.2)) hS ?_
   simp only [Act.put, pU]
   refine oneH (i := 1) (oi := ⟨some 43, _, _, _, _, _⟩) rfl (by kernel_rfl) (fun K0 hK => ?_)
   go_simp
   refine (HLY.out wa).mono ?_
   rintro e wb ⟨rfl, hb⟩
   have HSA : Hid (MeS w p q r b b2 l l2 x y wb ∧ NdMine wb w1.heap.size ln yn ∧ NdBox wb c ln yn) := Hi ⟨HSA.out.1.carry hb, HSA.out.2.1.carry hb, HSA.out.2.2.carry hb HSA.out.2.2.lt⟩
   have hS2 : NdBox wb c ln yn ∧ NdBox wb q l2 y := ⟨HSA.out.2.2, HSA.out.1.bq⟩
   clear hS hb
   refine hK.out _ _ hS2 ?_
   clear hK K0
   have hS := hS2
   clear hS2
   refine oneH (i := 3) (oi := ⟨some 45, _, _, _, _, _⟩) rfl (by kernel_rfl) (fun K0 hK => ?_)
   go_simp
   refine (HLK.out wb).mono ?_
   rintro e wc ⟨rfl, hb⟩
   have HSA : Hid (MeS w p q r b b2 l l2 x y wc ∧ NdMine wc w1.heap.size ln yn ∧ NdBox wc c ln yn) := Hi ⟨HSA.out.1.carry hb, HSA.out.2.1.carry hb, HSA.out.2.2.carry hb HSA.out.2.2.lt⟩
   have hS2 : NdBox wc c ln yn ∧ NdBox wc q l2 y := ⟨HSA.out.2.2, HSA.out.1.bq⟩
   clear hS hb
   refine hK.out _ _ hS2 ?_
   clear hK K0
   have hS := hS2
   clear hS2
   refine takeJ (i := 4) 46 (v := .bool (bl != bk)) rfl rfl (.inl ⟨by rfl, fun _ _ => by go_simp; cases bl <;> cases bk <;> rfl⟩) hS ?_
   simp only [Act.put, pU]
   refine wpAnyH_done (by kernel_rfl) ?_ _
   by_cases hne : bl = bk
   case' neg =>
    rw [show (bl != bk) = true by revert hne; cases bl <;> cases bk <;> simp]
    have HRN : Hid (R = (.error 2, S)) := Hi (by rw [HG1.out, if_pos hne])
    clear hS HG1 hne
    go_wp2_with fail
    refine (trFault_any 2 (by decide) _).mono ?_
    rintro e wd ⟨v, rfl, he, hb⟩
    obtain ⟨tt, xx, rfl⟩ := he.some (by decide)
    have HE3 := Hi he
    have HS3 := Hi (HSA.out.1.carry hb)
    have HLO : Hid (r < wc.heap.size ∧ w.heap.size ≤ wc.heap.size) := Hi ⟨HSA.out.1.br.lt, HSA.out.1.below.size⟩
    clear he hb HSA
    have f0 := HS3.out.fr 0
    have f1 := HS3.out.fr 1
    have f2 := HS3.out.fr 2
    have HBR9 := Hi HS3.out.br
    have d0 := HBR9.out.c0
    have d1 := HBR9.out.c1
    have d2 := HBR9.out.c2
    obtain ⟨w9, HW9⟩ : ∃ w9, Hid (w9 = ((wd.setCell ⟨r, 0, none⟩ (.slice none 0 0)).setCell ⟨r, 1, none⟩ (.slice none 0 0)).setCell ⟨r, 2, none⟩ (.slice none 0 0)) := Hy
    have HS9 : Hid (w9 = store3 wd r Lay3.none_ Nd.empty) := Hi HW9.out
    have HX9 : Hid (NdBox w9 r Lay3.none_ Nd.empty) := Hi (by rw [HS9.out]; exact store3_box HBR9.out)
    have HP9 : Hid (MendPost O w0 K w P D n firm b l l2 R (.returned (.tuple #[ndV Lay3.none_ Nd.empty, .iface tt xx])) w9) := Hi (by
     rw [HS9.out, HRN.out]
     exact mend_fail H HL.out HS3.out.below ⟨HS3.out.rw_.1, HLO.out.1⟩ HLO.out.2 (by decide) HE3.out)
    go_wp2_with fail
    rw [← HW9.out]
    exact bodyPost_ret (results_nd2 Tryz.ndProg rfl _ _ r Lay3.none_ Nd.empty (.iface tt xx) rfl rfl HX9.out) rfl HP9.out
   case' pos =>
    rw [show (bl != bk) = false by rw [hne]; cases bk <;> rfl]
    have HG2 := HG1.out
    rw [if_neg (not_not_intro hne)] at HG2
    have HNE : Hid (decide (yn.kids.length = 0) = decide (y.kids.length = 0)) := Hi (by rw [← HBL.out, ← HBK.out]; exact hne)
    clear HG1 hne hS HBL HBK
 ·obtain ⟨k, HKK⟩ : ∃ k, Hid (k = x.keys.getD at_ 0) := Hy
  have HIL : Hid (at_ < x.keys.length ∧ at_ + 2 ≤ x.kids.length) := Hi (by have h := HOL.out.2.2 (by simp); have h2 := HSZ.out; omega)
  rw [if_neg (by simp), ← HKK.out] at HG2
  have HGR := Hi HG2
  clear HG2
  have HKR : Hid (-9223372036854775808 ≤ k ∧ k ≤ 9223372036854775807) := Hi (by rw [HKK.out, List.getD_eq_getElem?_getD, List.getElem?_eq_getElem HIL.out.1]; exact HSA.out.1.mx.is.kw _ (List.getElem_mem _))
  have hil : (at_ : Int) < (x.keys.length : Int) := by have := HIL.out.1; omega
  go_upto_region 12 with (fail)
  refine wp_region_held (S := fun w9 => NdBox w9 p l x ∧ NdBox w9 q l2 y ∧ NdBox w9 c ln yn) (by kernel_rfl) ?_
  change wpAnyH _ _ _ _ _ _ _ _ wc.drew
  obtain ⟨wd, HWD⟩ : ∃ wd, Hid (wd = wc.drew) := Hy
  rw [← HWD.out]
  have HSD : Hid (MeS w p q r b b2 l l2 x y wd ∧ NdMine wd w1.heap.size ln yn ∧ NdBox wd c ln yn) := Hi (by
   have hdr : Below wc.heap.size wc wd := by rw [HWD.out]; exact (Below.refl _ _).drew
   exact ⟨HSA.out.1.carry hdr, HSA.out.2.1.carry hdr, HSA.out.2.2.carry hdr HSA.out.2.2.lt⟩)
  have hS : NdBox wd p l x ∧ NdBox wd q l2 y ∧ NdBox wd c ln yn := ⟨HSD.out.1.bp, HSD.out.1.bq, HSD.out.2.2⟩
  clear HWD HSA
  obtain ⟨A, hA, hcell⟩ := nums_cell HSD.out.1.mx.is.keys (i := at_) HIL.out.1
  rw [show x.keys[at_]'HIL.out.1 = k by rw [HKK.out, List.getD_eq_getElem?_getD, List.getElem?_eq_getElem HIL.out.1]; rfl] at hcell
  have HAA := Hi hA
  clear hA
  refine takeK (i := 0) 64 (v := ptr P) rfl rfl hS ?_
  simp only [Act.put, pU]
  refine takeJ (i := 1) 65 (v := ndV l x) rfl rfl (yieldsIf_nd Tryz.ndProg (by rfl) _ rfl p rfl l x (fun _ h => h.1)) hS ?_
  simp only [Act.put, pU]
  refine takeK (i := 2) 66 (v := .int .i64 (at_ : Int)) rfl rfl hS ?_
  simp only [Act.put, pU]
  refine takeJ (i := 3) 67 (v := ndV l2 y) rfl rfl (yieldsIf_nd Tryz.ndProg (by rfl) _ rfl q rfl l2 y (fun _ h => h.2.1)) hS ?_
  simp only [Act.put, pU]
  refine takeK (i := 4) 68 (v := .pointer (some ⟨p, 0, none⟩)) rfl rfl hS ?_
  simp only [Act.put, pU]
  refine takeJ (i := 5) 69 (v := .slice (some A) x.keys.length l.ca) rfl rfl (.inl ⟨by rfl, fun _ h => by have c0 := h.1.c0; rw [HAA.out] at c0; go_simp⟩) hS ?_
  simp only [Act.put, pU]
  refine takeK (i := 6) 70 (v := .int .i64 (at_ : Int)) rfl rfl hS ?_
  simp only [Act.put, pU]
  refine takeK (i := 7) 71 (v := .pointer (some (A.add at_))) rfl rfl hS ?_
  simp only [Act.put, pU]
  refine takeJ (i := 9) 73 (v := ndV ln yn) rfl rfl (yieldsIf_nd Tryz.ndProg (by rfl) _ rfl c rfl ln yn (fun _ h => h.2.2)) hS ?_
  simp only [Act.put, pU]
  refine oneH (i := 8) (oi := ⟨some 72, _, _, _, _, _⟩) rfl (by kernel_rfl) (fun K0 hK => ?_)
  go_simp
  refine hK.out _ _ hS ?_
  clear hK K0 hcell hil
  have HJN := Hi (join_any (k := k) HSD.out.1.my HSD.out.2.1 (fun g h1 h2 => by have := (HNW.out g h2).1; have := HYW.out g h1; have := HSZ1.out; omega) (Nat.le_trans HBW.out.2.2 HSD.out.1.below.size) HKR.out (by have := shape_few (right_shape HYR.out); have := shape_few HYS.out.1; have := HYS.out.2; have := (right_parts HYR.out).2.1; omega) (by have := shape_few (right_shape HYR.out); have := shape_few HYS.out.1; have := HYS.out.2; have := (right_parts HYR.out).2.1; omega) (by have := shape_few (right_shape HYR.out); have := shape_few HYS.out.1; have := HYS.out.2; have := (right_parts HYR.out).2.1; omega))
  refine oneH (i := 10) (oi := ⟨some 74, _, _, _, _, _⟩) rfl (by kernel_rfl) (fun K0 hK => ?_)
  go_simp
  refine HJN.out.mono ?_
  rintro e we ⟨lj, rfl, hmj, ht, hlj⟩
  have hno : ∀ g, w.heap.size ≤ g → ¬ l2.has g := fun g hg h => by have := HYW.out g h; omega
  have hl1 : ∀ g, l.has g → ¬ l2.has g := HDIS.out
  have HTE : Hid (Turn l2.has w we) := Hi ((Turn.of_below HSD.out.1.below).trans (ht.more fun g _ hg => .inl hg))
  have hS2 : NdBox we p l x ∧ NdBox we q l2 y ∧ NdBox we c ln yn := ⟨hS.1.turn ht (hno p HSD.out.1.pw.1), hS.2.1.turn ht (hno q HSD.out.1.qw.1), hS.2.2.turn ht (hno c (by have := HCW.out; have := HSZ1.out; omega))⟩
  have HRE : Hid (NdBox we r Lay3.none_ Nd.empty ∧ ∀ j, we.frozen? ⟨r, j, none⟩ = false) := Hi ⟨HSD.out.1.br.turn ht (hno r HSD.out.1.rw_.1), fun j => (World.frozen?_of_block (w := wd) (a := ⟨r, j, none⟩) (ht.block r ⟨HSD.out.1.br.lt, (hno r HSD.out.1.rw_.1)⟩)).trans (HSD.out.1.fr j)⟩
  have HXE : Hid (NdMine we b l x) := Hi (HSD.out.1.mx.keep ht.size fun g hg => ht.block g ⟨(HSD.out.1.mx.lt g hg).2, hl1 g hg⟩)
  have HME := Hi hmj
  have HLJ : Hid ((∀ g, l.has g → ¬ lj.has g) ∧ ∀ g, lj.has g → K g ∨ (w.heap.size ≤ g ∧ g < we.heap.size)) := Hi (by
   have hwd := HSD.out.1.below.size
   have hlt := fun g hg => (hmj.lt g hg).2
   refine ⟨fun g h1 h2 => (hlj g h2).elim (hl1 g h1) fun h3 => by have := HXW.out g h1; omega, fun g hg => ?_⟩
   exact (hlj g hg).imp (fun h => (HYK.out g h).1) fun h => ⟨by omega, hlt g hg⟩)
  have HEW : Hid (w.heap.size ≤ we.heap.size ∧ r < we.heap.size ∧ c < we.heap.size) := Hi ⟨HTE.out.size, HRE.out.1.lt, hS2.2.2.lt⟩
  clear hS hmj ht hlj hno hl1 HJN
  refine hK.out _ _ hS2 ?_
  clear hK K0
  have hS := hS2
  clear hS2
  have HRP := Hi (replace_any H (at_ := at_) (many := 2) (mend_law H HL.out HTE.out HYK.out) hg HSS.out HXE.out (fun g hg => .inl (HXK.out g hg)) HRT.out HKI.out HME.out HLJ.out.2 (joinN_shape HYS.out.1 (right_shape HYR.out) HNE.out.symm (by have := HYS.out.2; have := (right_parts HYR.out).2.1; omega) k) HLJ.out.1 (Nat.le_trans HBW.out.2.1 HEW.out.1) HBW.out.1 (by decide) (by decide) HIL.out.2)
  rw [← HGR.out, show ((2 : Nat) : Int) = 2 from rfl] at HRP
  refine oneH (i := 11) (oi := ⟨some 75, _, _, _, _, _⟩) rfl (by kernel_rfl) (fun K0 hK => ?_)
  go_simp
  refine HRP.out.mono ?_
  rintro e wf hrp
  obtain ⟨lk, xk, v, rfl, hk1, _, hpo⟩ := mend_out H hrp HTE.out HL.out.there HL.out.low HXW.out ⟨HSD.out.1.rw_.1, HEW.out.2.1⟩ (Nat.le_trans HBW.out.1 HBW.out.2.1)
  have HPO := Hi hpo
  have hbp := hk1.block p ⟨HSD.out.1.pw.1, hS.1.lt⟩
  have hbq := hk1.block q ⟨HSD.out.1.qw.1, hS.2.1.lt⟩
  have hbc := hk1.block c ⟨by have := HCW.out; have := HSZ1.out; omega, hS.2.2.lt⟩
  have hbr := hk1.block r ⟨HSD.out.1.rw_.1, HEW.out.2.1⟩
  have hS2 : NdBox wf p l x ∧ NdBox wf q l2 y ∧ NdBox wf c ln yn := ⟨hS.1.keep hbp, hS.2.1.keep hbq, hS.2.2.keep hbc⟩
  have HRF : Hid (NdBox wf r Lay3.none_ Nd.empty ∧ ∀ j, wf.frozen? ⟨r, j, none⟩ = false) := Hi ⟨HRE.out.1.keep hbr, fun j => (World.frozen?_of_block (w := we) (a := ⟨r, j, none⟩) hbr).trans (HRE.out.2 j)⟩
  clear hS hrp hk1 hpo hbp hbq hbc hbr HRP HME HRE HXE
  refine hK.out _ _ hS2 ?_
  clear hK K0
  have hS := hS2
  clear hS2
  refine takeK (i := 12) 76 (v := ndV lk xk) rfl rfl hS ?_
  simp only [Act.put, pU]
  refine takeK (i := 13) 77 (v := v) rfl rfl hS ?_
  simp only [Act.put, pU]
  refine oneH (i := 14) (oi := ⟨none, _, _, _, _, _⟩) rfl (by kernel_rfl) (fun K0 hK => ?_)
  have HBQ := Hi HRF.out.1
  have f0 := HRF.out.2 0
  have f1 := HRF.out.2 1
  have f2 := HRF.out.2 2
  have d0 := HBQ.out.c0
  have d1 := HBQ.out.c1
  have d2 := HBQ.out.c2
  obtain ⟨w4, HWw4⟩ : ∃ w4, Hid (w4 = ((wf.setCell ⟨r, 0, none⟩ (.slice lk.A xk.keys.length lk.ca)).setCell ⟨r, 1, none⟩ (.slice lk.B xk.vals.length lk.cb)).setCell ⟨r, 2, none⟩ (.slice lk.C xk.kids.length lk.cc)) := Hy
  have HSw4 : Hid (w4 = store3 wf r lk xk) := Hi HWw4.out
  have HXw4 : Hid (NdBox w4 r lk xk) := Hi (by rw [HSw4.out]; exact store3_box HBQ.out)
  go_simp
  rw [← HWw4.out]
  have hS4 : NdBox w4 p l x ∧ NdBox w4 q l2 y ∧ NdBox w4 c ln yn := ⟨hS.1.keep (by rw [HSw4.out]; exact store3_far (by rw [HRR.out, HQQ.out]; omega)), hS.2.1.keep (by rw [HSw4.out]; exact store3_far (by rw [HRR.out]; omega)), hS.2.2.keep (by rw [HSw4.out]; exact store3_far (by have := HCW.out; have := HSZ1.out; omega))⟩
  clear hS d0 d1 d2 f0 f1 f2
  refine hK.out _ _ hS4 ?_
  clear hK K0
  refine takeK (i := 15) 11 (v := v) rfl rfl hS4 ?_
  simp only [Act.put, pU]
  refine wpAnyH_done (by kernel_rfl) ?_ _
  go_wp2_with fail
  exact bodyPost_ret (results_nd2 Tryz.ndProg rfl _ _ r lk xk v rfl rfl HXw4.out) rfl (by rw [HSw4.out]; exact HPO.out)
 ·obtain ⟨k, HKK⟩ : ∃ k, Hid (k = x.keys.getD ot 0) := Hy
  have HIL : Hid (ot < x.keys.length ∧ ot + 2 ≤ x.kids.length) := Hi (by have h := HOL.out.2.1 (by simp); have h2 := HSZ.out; omega)
  rw [if_pos (by simp), ← HKK.out] at HG2
  have HGR := Hi HG2
  clear HG2
  have HKR : Hid (-9223372036854775808 ≤ k ∧ k ≤ 9223372036854775807) := Hi (by rw [HKK.out, List.getD_eq_getElem?_getD, List.getElem?_eq_getElem HIL.out.1]; exact HSA.out.1.mx.is.kw _ (List.getElem_mem _))
  have hil : (ot : Int) < (x.keys.length : Int) := by have := HIL.out.1; omega
  go_upto_region 11 with (fail)
  refine wp_region_held (S := fun w9 => NdBox w9 p l x ∧ NdBox w9 q l2 y ∧ NdBox w9 c ln yn) (by kernel_rfl) ?_
  change wpAnyH _ _ _ _ _ _ _ _ wc.drew
  obtain ⟨wd, HWD⟩ : ∃ wd, Hid (wd = wc.drew) := Hy
  rw [← HWD.out]
  have HSD : Hid (MeS w p q r b b2 l l2 x y wd ∧ NdMine wd w1.heap.size ln yn ∧ NdBox wd c ln yn) := Hi (by
   have hdr : Below wc.heap.size wc wd := by rw [HWD.out]; exact (Below.refl _ _).drew
   exact ⟨HSA.out.1.carry hdr, HSA.out.2.1.carry hdr, HSA.out.2.2.carry hdr HSA.out.2.2.lt⟩)
  have hS : NdBox wd p l x ∧ NdBox wd q l2 y ∧ NdBox wd c ln yn := ⟨HSD.out.1.bp, HSD.out.1.bq, HSD.out.2.2⟩
  clear HWD HSA
  obtain ⟨A, hA, hcell⟩ := nums_cell HSD.out.1.mx.is.keys (i := ot) HIL.out.1
  rw [show x.keys[ot]'HIL.out.1 = k by rw [HKK.out, List.getD_eq_getElem?_getD, List.getElem?_eq_getElem HIL.out.1]; rfl] at hcell
  have HAA := Hi hA
  clear hA
  refine takeK (i := 0) 50 (v := ptr P) rfl rfl hS ?_
  simp only [Act.put, pU]
  refine takeJ (i := 1) 51 (v := ndV l x) rfl rfl (yieldsIf_nd Tryz.ndProg (by rfl) _ rfl p rfl l x (fun _ h => h.1)) hS ?_
  simp only [Act.put, pU]
  refine takeK (i := 2) 52 (v := .int .i64 (ot : Int)) rfl rfl hS ?_
  simp only [Act.put, pU]
  refine takeJ (i := 3) 53 (v := ndV ln yn) rfl rfl (yieldsIf_nd Tryz.ndProg (by rfl) _ rfl c rfl ln yn (fun _ h => h.2.2)) hS ?_
  simp only [Act.put, pU]
  refine takeK (i := 4) 54 (v := .pointer (some ⟨p, 0, none⟩)) rfl rfl hS ?_
  simp only [Act.put, pU]
  refine takeJ (i := 5) 55 (v := .slice (some A) x.keys.length l.ca) rfl rfl (.inl ⟨by rfl, fun _ h => by have c0 := h.1.c0; rw [HAA.out] at c0; go_simp⟩) hS ?_
  simp only [Act.put, pU]
  refine takeK (i := 6) 56 (v := .int .i64 (ot : Int)) rfl rfl hS ?_
  simp only [Act.put, pU]
  refine takeK (i := 7) 57 (v := .pointer (some (A.add ot))) rfl rfl hS ?_
  simp only [Act.put, pU]
  refine takeJ (i := 9) 59 (v := ndV l2 y) rfl rfl (yieldsIf_nd Tryz.ndProg (by rfl) _ rfl q rfl l2 y (fun _ h => h.2.1)) hS ?_
  simp only [Act.put, pU]
  refine oneH (i := 8) (oi := ⟨some 58, _, _, _, _, _⟩) rfl (by kernel_rfl) (fun K0 hK => ?_)
  go_simp
  refine hK.out _ _ hS ?_
  clear hK K0 hcell hil
  have HJN := Hi (join_any (k := k) HSD.out.2.1 HSD.out.1.my (fun g h1 h2 => by have := (HNW.out g h1).1; have := HYW.out g h2; have := HSZ1.out; omega) (by have := HSZ1.out; have := HSD.out.2.2.lt; have := HCW.out; omega) HKR.out (by have := shape_few (right_shape HYR.out); have := shape_few HYS.out.1; have := HYS.out.2; have := (right_parts HYR.out).2.1; omega) (by have := shape_few (right_shape HYR.out); have := shape_few HYS.out.1; have := HYS.out.2; have := (right_parts HYR.out).2.1; omega) (by have := shape_few (right_shape HYR.out); have := shape_few HYS.out.1; have := HYS.out.2; have := (right_parts HYR.out).2.1; omega))
  refine oneH (i := 10) (oi := ⟨some 60, _, _, _, _, _⟩) rfl (by kernel_rfl) (fun K0 hK => ?_)
  go_simp
  refine HJN.out.mono ?_
  rintro e we ⟨lj, rfl, hmj, ht, hlj⟩
  have hno : ∀ g, g < w1.heap.size ∨ c ≤ g → ¬ ln.has g := fun g hg h => by have := HNW.out g h; omega
  have hl1 : ∀ g, l.has g → ¬ ln.has g := fun g hg => hno g (.inl (by have := HXW.out g hg; have := HSZ1.out; omega))
  have HTE : Hid (Turn l2.has w we) := Hi ((Turn.of_below HSD.out.1.below).trans (ht.more fun g _ hg => .inr (by have := (HNW.out g hg).1; have := HSZ1.out; omega)))
  have hS2 : NdBox we p l x ∧ NdBox we q l2 y ∧ NdBox we c ln yn := ⟨hS.1.turn ht (hno p (.inl (by have := HSD.out.1.pw; have := HB1.out.2; omega))), hS.2.1.turn ht (hno q (.inl (by have := HSD.out.1.qw; have := HB1.out.2; omega))), hS.2.2.turn ht (hno c (.inr (Nat.le_refl _)))⟩
  have HRE : Hid (NdBox we r Lay3.none_ Nd.empty ∧ ∀ j, we.frozen? ⟨r, j, none⟩ = false) := Hi ⟨HSD.out.1.br.turn ht (hno r (.inl (by have := HSD.out.1.rw_; have := HB1.out.2; omega))), fun j => (World.frozen?_of_block (w := wd) (a := ⟨r, j, none⟩) (ht.block r ⟨HSD.out.1.br.lt, (hno r (.inl (by have := HSD.out.1.rw_; have := HB1.out.2; omega)))⟩)).trans (HSD.out.1.fr j)⟩
  have HXE : Hid (NdMine we b l x) := Hi (HSD.out.1.mx.keep ht.size fun g hg => ht.block g ⟨(HSD.out.1.mx.lt g hg).2, hl1 g hg⟩)
  have HME := Hi hmj
  have HLJ : Hid ((∀ g, l.has g → ¬ lj.has g) ∧ ∀ g, lj.has g → K g ∨ (w.heap.size ≤ g ∧ g < we.heap.size)) := Hi (by
   have hwd := HSD.out.1.below.size
   have hlt := fun g hg => (hmj.lt g hg).2
   refine ⟨fun g h1 h2 => (hlj g h2).elim (hl1 g h1) fun h3 => by have := HXW.out g h1; omega, fun g hg => ?_⟩
   exact .inr ⟨(hlj g hg).elim (fun h => by have := (HNW.out g h).1; have := HSZ1.out; omega) fun h => by omega, hlt g hg⟩)
  have HEW : Hid (w.heap.size ≤ we.heap.size ∧ r < we.heap.size ∧ c < we.heap.size) := Hi ⟨HTE.out.size, HRE.out.1.lt, hS2.2.2.lt⟩
  clear hS hmj ht hlj hno hl1 HJN
  refine hK.out _ _ hS2 ?_
  clear hK K0
  have hS := hS2
  clear hS2
  have HRP := Hi (replace_any H (at_ := ot) (many := 2) (mend_law H HL.out HTE.out HYK.out) hg HSS.out HXE.out (fun g hg => .inl (HXK.out g hg)) HRT.out HKI.out HME.out HLJ.out.2 (joinN_shape (right_shape HYR.out) HYS.out.1 HNE.out (by have := HYS.out.2; have := (right_parts HYR.out).2.1; omega) k) HLJ.out.1 (Nat.le_trans HBW.out.2.1 HEW.out.1) HBW.out.1 (by decide) (by decide) HIL.out.2)
  rw [← HGR.out, show ((2 : Nat) : Int) = 2 from rfl] at HRP
  refine oneH (i := 11) (oi := ⟨some 61, _, _, _, _, _⟩) rfl (by kernel_rfl) (fun K0 hK => ?_)
  go_simp
  refine HRP.out.mono ?_
  rintro e wf hrp
  obtain ⟨lk, xk, v, rfl, hk1, _, hpo⟩ := mend_out H hrp HTE.out HL.out.there HL.out.low HXW.out ⟨HSD.out.1.rw_.1, HEW.out.2.1⟩ (Nat.le_trans HBW.out.1 HBW.out.2.1)
  have HPO := Hi hpo
  have hbp := hk1.block p ⟨HSD.out.1.pw.1, hS.1.lt⟩
  have hbq := hk1.block q ⟨HSD.out.1.qw.1, hS.2.1.lt⟩
  have hbc := hk1.block c ⟨by have := HCW.out; have := HSZ1.out; omega, hS.2.2.lt⟩
  have hbr := hk1.block r ⟨HSD.out.1.rw_.1, HEW.out.2.1⟩
  have hS2 : NdBox wf p l x ∧ NdBox wf q l2 y ∧ NdBox wf c ln yn := ⟨hS.1.keep hbp, hS.2.1.keep hbq, hS.2.2.keep hbc⟩
  have HRF : Hid (NdBox wf r Lay3.none_ Nd.empty ∧ ∀ j, wf.frozen? ⟨r, j, none⟩ = false) := Hi ⟨HRE.out.1.keep hbr, fun j => (World.frozen?_of_block (w := we) (a := ⟨r, j, none⟩) hbr).trans (HRE.out.2 j)⟩
  clear hS hrp hk1 hpo hbp hbq hbc hbr HRP HME HRE HXE
  refine hK.out _ _ hS2 ?_
  clear hK K0
  have hS := hS2
  clear hS2
  refine takeK (i := 12) 62 (v := ndV lk xk) rfl rfl hS ?_
  simp only [Act.put, pU]
  refine takeK (i := 13) 63 (v := v) rfl rfl hS ?_
  simp only [Act.put, pU]
  refine oneH (i := 14) (oi := ⟨none, _, _, _, _, _⟩) rfl (by kernel_rfl) (fun K0 hK => ?_)
  have HBQ := Hi HRF.out.1
  have f0 := HRF.out.2 0
  have f1 := HRF.out.2 1
  have f2 := HRF.out.2 2
  have d0 := HBQ.out.c0
  have d1 := HBQ.out.c1
  have d2 := HBQ.out.c2
  obtain ⟨w4, HWw4⟩ : ∃ w4, Hid (w4 = ((wf.setCell ⟨r, 0, none⟩ (.slice lk.A xk.keys.length lk.ca)).setCell ⟨r, 1, none⟩ (.slice lk.B xk.vals.length lk.cb)).setCell ⟨r, 2, none⟩ (.slice lk.C xk.kids.length lk.cc)) := Hy
  have HSw4 : Hid (w4 = store3 wf r lk xk) := Hi HWw4.out
  have HXw4 : Hid (NdBox w4 r lk xk) := Hi (by rw [HSw4.out]; exact store3_box HBQ.out)
  go_simp
  rw [← HWw4.out]
  have hS4 : NdBox w4 p l x ∧ NdBox w4 q l2 y ∧ NdBox w4 c ln yn := ⟨hS.1.keep (by rw [HSw4.out]; exact store3_far (by rw [HRR.out, HQQ.out]; omega)), hS.2.1.keep (by rw [HSw4.out]; exact store3_far (by rw [HRR.out]; omega)), hS.2.2.keep (by rw [HSw4.out]; exact store3_far (by have := HCW.out; have := HSZ1.out; omega))⟩
  clear hS d0 d1 d2 f0 f1 f2
  refine hK.out _ _ hS4 ?_
  clear hK K0
  refine takeK (i := 15) 11 (v := v) rfl rfl hS4 ?_
  simp only [Act.put, pU]
  refine wpAnyH_done (by kernel_rfl) ?_ _
  go_wp2_with fail
  exact bodyPost_ret (results_nd2 Tryz.ndProg rfl _ _ r lk xk v rfl rfl HXw4.out) rfl (by rw [HSw4.out]; exact HPO.out)
end
end Go.Proofs.YticbgbngookmnaaGreatDoor
