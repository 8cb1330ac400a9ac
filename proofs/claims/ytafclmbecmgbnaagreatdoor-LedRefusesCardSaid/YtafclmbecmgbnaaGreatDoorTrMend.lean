/-
 TrMend. Conditions: as each theorem says.
-/
import Derived.Test.YtafclmbecmgbnaaGreatDoorTrJoin
set_option maxRecDepth 100000
set_option maxHeartbeats 4000000
open Nat renaming le_trans -> zd6, le_refl -> zdH
open List renaming getD_eq_getElem?_getD -> zd0, getElem?_eq_getElem -> zdK
namespace Go.Proofs.YtafclmbecmgbnaaGreatDoor
open Go.RowKit
def jg (O : yq) (w0 : World) (K : Nat -> Prop) (w : World) (P D n : Nat) (firm : Nat -> List UInt8) (b : Nat) (l l2 : zd) (R : Except Int Nd × TS) (e : Ending) (w' : World) : Prop :=
 zg (fun g => K g /\ ¬ l.has g /\ ¬ l2.has g) w w' /\ match R.1 with
 | .error c => zX O w0 K w' P D n R.2 firm /\ c ≠ 0 /\ ∃ v, e = .returned (.tuple #[ndV zd.none_ Nd.empty, v]) /\ zi w' w.1.size c v
 | .ok x => ∃ l', zX O w0 (fun g => K g \/ l'.has g) w' P D n R.2 firm /\ e = .returned (.tuple #[ndV l' x, .nilIface]) /\ zl w' b l' x
structure MeS (w : World) (p q r b b2 : Nat) (l l2 : zd) (x y : Nd) (wr : World) : Prop where
 bp : zb wr p l x
 bq : zb wr q l2 y
 br : zb wr r zd.none_ Nd.empty
 fr : ∀ j, wr.frozen? ⟨r, j, none⟩ = false
 mx : zl wr b l x
 my : zl wr b2 l2 y
 below : Below w.1.size w wr
 pw : w.1.size <= p /\ p < w.1.size + 3
 qw : w.1.size <= q /\ q < w.1.size + 3
 rw_ : w.1.size <= r /\ r < w.1.size + 3
 hw : w.1.size + 3 <= wr.1.size
theorem MeS.carry {w : World} {p q r b b2 : Nat} {l l2 : zd} {x y : Nd} {wr w' : World} (h : MeS w p q r b b2 l l2 x y wr) (hb : Below wr.1.size wr w') : MeS w p q r b b2 l l2 x y w' :=
 ⟨h.bp.carry hb h.bp.lt, h.bq.carry hb h.bq.lt, h.br.carry hb h.br.lt, zw hb h.br.lt h.fr, h.mx.carry hb, h.my.carry hb, h.below.trans (hb.mono h.below.size), h.pw, h.qw, h.rw_, zd6 h.hw hb.size⟩
theorem xh {x : Nd} (h : xw x) : x.vals.length <= x.keys.length /\ x.kids.length <= x.keys.length + 1 := by
 by_cases h0 : x.kids.length = 0
 ·have := h.leaf h0; omega
 ·have := h.inner h0; omega
section
variable {O : yq} (H : yA O)
include H
theorem VT {w0 : World} {K : Nat -> Prop} {w wj : World} {P D n : Nat} {S : TS} {firm : Nat -> List UInt8} {l2 : zd} (hl : zX O w0 K w P D n S firm) (ht : zq l2.has w wj) (h2 : ∀ g, l2.has g -> K g /\ w0.1.size <= g) :
  zX O w0 (fun k => K k \/ (w.1.size <= k /\ k < wj.1.size)) wj P D n S firm :=
 hl.off H ht h2 (fun _ hk => hk.imp id fun h => h.1) (fun k hk => hk.elim (fun h => Nat.lt_of_lt_of_le (hl.there k h) ht.size) fun h => h.2) fun k hk => .inl (hl.low k hk)
theorem VU {w0 : World} {K : Nat -> Prop} {w wj w2 : World} {P D n : Nat} {firm : Nat -> List UInt8} {b r : Nat} {l l2 : zd} {R : Except Int Nd × TS} {e : Ending} (h : Xi O w0 (fun k => K k \/ (w.1.size <= k /\ k < wj.1.size)) wj P D n firm b l R e w2) (ht : zq l2.has w wj) (hK : yd K w)
  (hlow : ∀ k, k < w0.1.size -> K k) (hlw : ∀ g, l.has g -> g < w.1.size) (hr : w.1.size <= r /\ r < wj.1.size) (hw0 : w0.1.size <= w.1.size) :
  ∃ lk xk v, e = .returned (.tuple #[ndV lk xk, v]) /\ zg (fun k => w.1.size <= k /\ k < wj.1.size) wj w2 /\ zg (fun k => K k /\ ¬ l.has k) wj w2 /\ jg O w0 K w P D n firm b l l2 R (.returned (.tuple #[ndV lk xk, v])) (zC w2 r lk xk) := by
 obtain ⟨h1, h2⟩ := h;have k1 : zg (fun k => w.1.size <= k /\ k < wj.1.size) wj w2 := h1.less8 fun k hk => ⟨.inr hk, fun hh => by have := hlw k hh; omega⟩
 have k2 : zg (fun k => K k /\ ¬ l.has k) wj w2 := h1.less8 fun k hk => ⟨.inl hk.1, hk.2⟩
 have hst : ∀ lk xk, zq (fun k => k = r) w2 (zC w2 r lk xk) := fun lk xk => ⟨rfl, rfl, rfl, by rw [zM]; exact zdH _, fun k hk => zj hk.2⟩
 have hkp : ∀ lk xk, zg (fun g => K g /\ ¬ l.has g /\ ¬ l2.has g) w (zC w2 r lk xk) := fun lk xk => by
  have h3 := hst lk xk;refine ⟨h3.os.trans (k2.os.trans ht.os), h3.tape.trans (k2.tape.trans ht.tape), h3.output.trans (k2.output.trans ht.output), zd6 ht.size (zd6 k2.size h3.size), fun k hk => ?_⟩;have h4 := hK k hk.1;exact ((zj (by omega)).trans (k2.block k ⟨hk.1, hk.2.1⟩)).trans (ht.block k ⟨h4, hk.2.2⟩)
 have hrw : r < w2.1.size := Nat.lt_of_lt_of_le hr.2 k2.size;obtain ⟨R1, R2⟩ := R;cases R1 with
 | error cd =>
  obtain ⟨h3, h4, v, h5, h6⟩ := h2;refine ⟨zd.none_, Nd.empty, v, h5, k1, k2, hkp _ _, ?_, h4, v, rfl, ?_⟩
  ·refine h3.off H (hst _ _) (fun k hk => ?_) (fun k hk => .inl (.inl hk)) (fun k hk => ?_) hlow
   ·have hk' : k = r := hk;subst hk';exact ⟨.inr hr, by omega⟩
   ·rw [zM]; exact h3.there k (.inl hk)
  ·exact (xn h6 hr.2).mono ht.size
 | ok z =>
  obtain ⟨l', h3, h4, h5, h6⟩ := h2;have hnr : ¬ l'.has r := fun hh => (h6 r hh).elim (fun h7 => by have := hlw r h7; omega) fun h7 => by omega
  refine ⟨l', z, .nilIface, h4, k1, k2, hkp _ _, l', ?_, rfl, ki h5 hnr⟩;refine h3.off H (hst _ _) (fun k hk => ?_) (fun k hk => .inl (hk.imp .inl id)) (fun k hk => ?_) fun k hk => .inl (hlow k hk)
  ·have hk' : k = r := hk;subst hk';exact ⟨.inl (.inr hr), by omega⟩
  ·rw [zM]; exact h3.there k (hk.imp .inl id)
theorem WI {w0 : World} {K : Nat -> Prop} {w wr : World} {P D n : Nat} {S : TS} {firm : Nat -> List UInt8} {b r lo : Nat} {l l2 : zd} {c : Int} {v : Value} (hl : zX O w0 K w P D n S firm) (hb : Below w.1.size w wr) (hr : w.1.size <= r /\ r < lo) (hlo : w.1.size <= lo) (hc : c ≠ 0) (he : zi wr lo c v) :
  jg O w0 K w P D n firm b l l2 (.error c, S) (.returned (.tuple #[ndV zd.none_ Nd.empty, v])) (zC wr r zd.none_ Nd.empty) := by
 have h3 : Below w.1.size w (zC wr r zd.none_ Nd.empty) := wG hb hr.1;exact ⟨(zg.of_below h3 hl.there).less8 fun k hk => hk.1, hl.carry H h3, hc, v, rfl, (xn he hr.2).mono hlo⟩
theorem zbd {w0 : World} {K : Nat -> Prop} {w : World} {P D n : Nat} {S : TS} {firm : Nat -> List UInt8} (hl : zX O w0 K w P D n S firm) (hg : yO w0) (hs : S.d.soft.length <= 99990) {b b2 : Nat} {l l2 : zd} {x y : Nd}
  (hx : zl w b l x) (hxK : ∀ g, l.has g -> K g) (hr : zL x = true) (hki : x.kids.length ≠ 0) (hy : zl w b2 l2 y) (hyK : ∀ g, l2.has g -> K g) (hys : xw y) (hyf : y.keys.length < 3) (hdis : ∀ g, l.has g -> ¬ l2.has g) (hbw : b <= w.1.size) (hbw2 : b2 <= w.1.size) (hw0 : w0.1.size <= b) (hw02 : w0.1.size <= b2)
  {at_ : Nat} (hat : at_ < x.kids.length) {lv : Int} (hlv : 0 <= lv /\ lv <= 13) :
  Calls Tryz.prog 103 #[ptr P, ndV l x, .int .i64 (at_ : Int), .int .i64 (lv - 1), ndV l2 y] w (jg O w0 K w P D n firm b l l2 (vZ n S x at_ lv y)) := by
 have hbn := Tryz.nodeNone;have hz := Tryz.zeroNode;have h7 := (zo hr).2.1;have hin := (yb hr).inner hki;have HSZ : Hid (x.keys.length <= 7 /\ x.kids.length = x.keys.length + 1 /\ x.vals.length = 0 /\ 0 < x.keys.length) := Hi ⟨h7, hin.2, hin.1, Yo hr hki⟩;have HLV : Hid (wrap64 lv = lv /\ IntKind.i64.wrap lv = lv) := Hi (by rw [IntKind.wrap_i64]; unfold wrap64; omega);obtain ⟨ot, HOT⟩ : ∃ ot, Hid (ot = jd x at_) := Hy;obtain ⟨la, HLA⟩ : ∃ la, Hid (la = decide (at_ = x.keys.length)) := Hy;have HOL : Hid (ot < x.kids.length /\ (la = true -> ot + 1 = at_ /\ at_ = x.keys.length) /\ (la = false -> ot = at_ + 1 /\ at_ < x.keys.length)) := Hi (by
  have h1 := HSZ.o;rw [HOT.o, HLA.o];unfold jd;by_cases e : at_ = x.keys.length
  ·rw [if_pos e, decide_eq_true e]; exact ⟨by omega, fun _ => ⟨by omega, e⟩, fun h => (by cases h)⟩
  ·rw [if_neg e, decide_eq_false e]; exact ⟨by omega, fun h => (by cases h), fun _ => ⟨rfl, by omega⟩⟩)
 obtain ⟨p, HPP⟩ : ∃ p, Hid (p = w.1.size) := Hy;obtain ⟨q, HQQ⟩ : ∃ q, Hid (q = p + 1) := Hy;obtain ⟨r, HRR⟩ : ∃ r, Hid (r = q + 1) := Hy;obtain ⟨w1, HW1⟩ : ∃ w1, Hid (w1 = ((w.alloc (.cells #[.slice l.A x.keys.length l.ca, .slice l.B x.vals.length l.cb, .slice l.C x.kids.length l.cc] 48)).alloc (.cells #[.slice l2.A y.keys.length l2.ca, .slice l2.B y.vals.length l2.cb, .slice l2.C y.kids.length l2.cc] 48)).alloc (.cells #[.slice none 0 0, .slice none 0 0, .slice none 0 0] 48)) := Hy;have HB1 : Hid (Below w.1.size w w1 /\ w1.1.size = w.1.size + 3) := Hi (by rw [HW1.o]; exact ⟨(((Below.refl _ _).alloc (zdH _) _).alloc (by simp) _).alloc (by simp; omega) _, by simp⟩);have HS1 : Hid (MeS w p q r b b2 l l2 x y w1) := Hi (by
  have hmx := hx.carry HB1.o.1;have hmy := hy.carry HB1.o.1;have hbel := HB1.o.1;have hsz1 : w.1.size + 3 <= w1.1.size := by rw [HB1.o.2]; exact zdH _
  have e1 := zb.new (w := w) (l := l) (x := x) 48;rw [HW1.o] at hmx hmy hbel hsz1 ⊢;obtain ⟨wa, hwa⟩ : ∃ wa, wa = w.alloc (.cells #[.slice l.A x.keys.length l.ca, .slice l.B x.vals.length l.cb, .slice l.C x.kids.length l.cc] 48) := ⟨_, rfl⟩
  rw [<- hwa] at e1 hmx hmy hbel hsz1 ⊢;have hsa : wa.1.size = w.1.size + 1 := by rw [hwa]; simp
  have e2 := zb.new (w := wa) (l := l2) (x := y) 48;obtain ⟨wb, hwb⟩ : ∃ wb, wb = wa.alloc (.cells #[.slice l2.A y.keys.length l2.ca, .slice l2.B y.vals.length l2.cb, .slice l2.C y.kids.length l2.cc] 48) := ⟨_, rfl⟩
  rw [<- hwb] at e2 hmx hmy hbel hsz1 ⊢;have hsb : wb.1.size = wa.1.size + 1 := by rw [hwb]; simp
  have hab : Below wa.1.size wa wb := by rw [hwb]; exact (Below.refl _ _).alloc (zdH _) _
  have e3 := zb.new (w := wb) (l := zd.none_) (x := Nd.empty) 48;have f3 := zV wb #[.slice none 0 0, .slice none 0 0, .slice none 0 0] 48;have hbc : Below wb.1.size wb (wb.alloc (.cells #[.slice none 0 0, .slice none 0 0, .slice none 0 0] 48)) := (Below.refl _ _).alloc (zdH _) _;rw [hsb, hsa] at e3 f3;rw [hsa] at e2;rw [HRR.o, HQQ.o, HPP.o];exact ⟨(e1.carry hab e1.lt).carry hbc (e1.carry hab e1.lt).lt, e2.carry hbc e2.lt, e3, f3, hmx, hmy, hbel, by omega, by omega, by omega, hsz1⟩)
 have HL := Hi hl;have HSS := Hi hs;have HXK := Hi hxK;have HYK : Hid (∀ g, l2.has g -> K g /\ w0.1.size <= g) := Hi fun g hh => ⟨hyK g hh, zd6 hw02 (hy.lt g hh).1⟩
 have HYS := Hi (And.intro hys hyf);have HDIS := Hi hdis;have HRT := Hi hr;have HKI := Hi hki;have HXW : Hid (∀ g, l.has g -> g < w.1.size) := Hi fun g hh => (hx.lt g hh).2
 have HYW : Hid (∀ g, l2.has g -> g < w.1.size) := Hi fun g hh => (hy.lt g hh).2
 have HBW : Hid (w0.1.size <= b /\ b <= w.1.size /\ b2 <= w.1.size) := Hi ⟨hw0, hbw, hbw2⟩;obtain ⟨z, HZ⟩ : ∃ z, Hid (z = x.kids.getD ot 0) := Hy;obtain ⟨R, HRS⟩ : ∃ R, Hid (R = vZ n S x at_ lv y) := Hy;have HG0 : Hid (R = match yI S z lv with
   | .error c => (.error c, S)
   | .ok yn => if decide (yn.kids.length = 0) ≠ decide (y.kids.length = 0) then (.error 2, S)
    else if la = true then zQ n S x ot 2 (vg yn (x.keys.getD ot 0) y)
    else zQ n S x at_ 2 (vg y (x.keys.getD at_ 0) yn)) := Hi (by
  rw [HRS.o, HZ.o, HOT.o];unfold vZ;cases yI S (x.kids.getD (jd x at_) 0) lv with
  | error c => rfl
  | ok yn =>
   simp only;split
   ·rfl
   ·rw [HLA.o];by_cases e : at_ = x.keys.length
    ·rw [if_pos e, if_pos (by simpa using e)];have : at_ - 1 = jd x at_ := by unfold jd; rw [if_pos e]
     rw [<- this]
    ·rw [if_neg e, if_neg (by simpa using e)])
 obtain ⟨o, HO⟩ : ∃ o, Hid (o = yI S z lv) := Hy;have HLD := Hi fun wr (h : Below w.1.size w wr) => vY H (hl.carry H h) hg z lv
 rw [<- HO.o] at HG0 HLD;rw [<- HRS.o];have hwl := HLV.o.1;have hwl2 := HLV.o.2;have hcc0 := HS1.o.bp.c0;clear hl hs hx hxK hr hki hy hyK hys hyf hdis hbw hbw2 hw0 hw02 hlv h7 hin HRS;have HX1 : Hid (∀ w', xH w' l x -> ∃ C, l.C = some C /\ w'.cell? (C.add ot) = some (.int .i64 z)) := Hi fun w' h => by
  obtain ⟨C, h1, h2⟩ := yw h.kids (i := ot) HOL.o.1;exact ⟨C, h1, by rw [h2, HZ.o, zd0, zdK HOL.o.1]; rfl⟩
 obtain ⟨C, hC, hcc⟩ := HX1.o w1 HS1.o.mx.is;have HCC := Hi hC;have c2 := HS1.o.bp.c2;rw [hC] at c2;clear hC;have hkl : (ot : Int) < (x.kids.length : Int) := by have := HOL.o.1; omega
 have hwo : wrap64 (ot : Int) = (ot : Int) := by have := HOL.o.1; have := HSZ.o; unfold wrap64; omega
 by_cases hat2 : at_ = x.keys.length
 case' pos =>
  obtain rfl : la = true := by rw [HLA.o]; exact decide_eq_true hat2
  have hi1 : (at_ : Int) = (x.keys.length : Int) := by omega
  have hi2 : (x.keys.length : Int) - 1 = (ot : Int) := by have := (HOL.o.2.1 rfl).1; omega
  have hi3 : IntKind.i64.wrap ((x.keys.length : Int) - 1) = (ot : Int) := by have := HSZ.o; rw [IntKind.wrap_i64]; omega
  have hi4 : IntKind.i64.wrap ((x.keys.length : Int) + 1) = (x.keys.length : Int) + 1 := by have := HSZ.o; rw [IntKind.wrap_i64]; omega
  rw [hi1]
  go_enter Tryz.func103, Tryz.ntmps103
  go_upto_region 1 with (fail)
  rw [<- HW1.o, <- HPP.o, <- HQQ.o, <- HRR.o];clear HW1;go_upto_region 5 with (fail)
  rw [hwo];clear hi1 hi2 hi3 hi4 hwo hat2
 case' neg =>
  obtain rfl : la = false := by rw [HLA.o]; exact decide_eq_false hat2
  have hi1 : ¬ (at_ : Int) = (x.keys.length : Int) := by omega
  have hi2 : (at_ : Int) + 1 = (ot : Int) := by have := (HOL.o.2.2 rfl).1; omega
  have hi3 : IntKind.i64.wrap ((at_ : Int) + 1) = (ot : Int) := by have := HSZ.o; rw [IntKind.wrap_i64]; omega
  go_enter Tryz.func103, Tryz.ntmps103
  go_upto_region 1 with (fail)
  rw [<- HW1.o, <- HPP.o, <- HQQ.o, <- HRR.o];clear HW1;go_upto_region 5 with (fail)
  rw [hwo, show ((at_ : Int) == (x.keys.length : Int)) = false by simpa using hi1];clear hi1 hi2 hi3 hwo hat2
 all_goals
  go_wp2_with fail
  try rw [hwl]
  refine (HLD.o _ HB1.o.1).mono ?_;rintro e w2 hld;clear HLD;cases o
  case error cd =>
   obtain ⟨hc0, v, rfl, he, hb⟩ := hld;obtain ⟨tt, xx, rfl⟩ := he.some hc0;have HE := Hi he;have HC0 := Hi hc0;have HS2 := Hi (HS1.o.carry hb);have HRN : Hid (R = (.error cd, S)) := Hi HG0.o;clear he hb hc0 HG0 hcc c2 hwl hwl2 hkl;obtain ⟨c, HCc⟩ : ∃ c, Hid (c = w2.1.size) := Hy;obtain ⟨w3, HWw3⟩ : ∃ w3, Hid (w3 = w2.alloc (.cells #[.slice zd.none_.A Nd.empty.keys.length zd.none_.ca, .slice zd.none_.B Nd.empty.vals.length zd.none_.cb, .slice zd.none_.C Nd.empty.kids.length zd.none_.cc] 48)) := Hy;have HBw3 : Hid (Below w2.1.size w2 w3) := Hi (by rw [HWw3.o]; exact (Below.refl _ _).alloc (zdH _) _);go_upto_region 6 with (fail)
   rw [<- HWw3.o, <- HCc.o];have HS3 := Hi (HS2.o.carry HBw3.o);have HE3 := Hi (HE.o.below HBw3.o);clear HWw3 HBw3 HE;have f0 := HS3.o.fr 0;have f1 := HS3.o.fr 1;have f2 := HS3.o.fr 2;have HBR9 := Hi HS3.o.br;have d0 := HBR9.o.c0;have d1 := HBR9.o.c1;have d2 := HBR9.o.c2;obtain ⟨w9, HW9⟩ : ∃ w9, Hid (w9 = ((w3.setCell ⟨r, 0, none⟩ (.slice none 0 0)).setCell ⟨r, 1, none⟩ (.slice none 0 0)).setCell ⟨r, 2, none⟩ (.slice none 0 0)) := Hy;have HS9 : Hid (w9 = zC w3 r zd.none_ Nd.empty) := Hi HW9.o;have HX9 : Hid (zb w9 r zd.none_ Nd.empty) := Hi (by rw [HS9.o]; exact zK HBR9.o);have HP9 : Hid (jg O w0 K w P D n firm b l l2 R (.returned (.tuple #[ndV zd.none_ Nd.empty, .iface tt xx])) w9) := Hi (by
    rw [HS9.o, HRN.o];exact WI H HL.o HS3.o.below ⟨HS1.o.rw_.1, HS1.o.br.lt⟩ HB1.o.1.size HC0.o HE3.o)
   go_wp2_with fail;rw [<- HW9.o];exact bodyPost_ret (zv Tryz.ndProg rfl _ _ r zd.none_ Nd.empty (.iface tt xx) rfl rfl HX9.o) rfl HP9.o
  case' ok yn =>
   obtain ⟨hyr, ln, rfl, hmn, hb⟩ := hld;have HYR := Hi hyr;have HS2 := Hi (HS1.o.carry hb);have HN2 := Hi hmn;have HSZ1 : Hid (w1.1.size <= w2.1.size /\ r < w1.1.size /\ w.1.size <= w1.1.size) := Hi ⟨hb.size, HS1.o.br.lt, HB1.o.1.size⟩;clear hb hyr hmn hcc c2 hwl hwl2 hkl;obtain ⟨c, HCc⟩ : ∃ c, Hid (c = w2.1.size) := Hy;obtain ⟨w3, HWw3⟩ : ∃ w3, Hid (w3 = w2.alloc (.cells #[.slice ln.A yn.keys.length ln.ca, .slice ln.B yn.vals.length ln.cb, .slice ln.C yn.kids.length ln.cc] 48)) := Hy;have HBw3 : Hid (Below w2.1.size w2 w3) := Hi (by rw [HWw3.o]; exact (Below.refl _ _).alloc (zdH _) _);have HBC : Hid (zb w3 c ln yn) := Hi (by rw [HWw3.o, HCc.o]; exact zb.new _);go_upto_region 8 with (fail)
   rw [<- HWw3.o, <- HCc.o];have HS3 := Hi (HS2.o.carry HBw3.o);have HN3 := Hi (HN2.o.carry HBw3.o);have HNW : Hid (∀ g, ln.has g -> w1.1.size <= g /\ g < c) := Hi (fun g hg => by rw [HCc.o]; exact HN2.o.lt g hg);have HCW : Hid (w1.1.size <= c) := Hi (by rw [HCc.o]; exact HSZ1.o.1);clear HWw3 HBw3 HS2 HN2;obtain ⟨bl, HBL⟩ : ∃ bl, Hid (bl = decide (yn.kids.length = 0)) := Hy;obtain ⟨bk, HBK⟩ : ∃ bk, Hid (bk = decide (y.kids.length = 0)) := Hy;have HLY := Hi fun wr => wZ (w := wr) (l := ln) yn
   have HLK := Hi fun wr => wZ (w := wr) (l := l2) y
   rw [<- HBL.o] at HLY;rw [<- HBK.o] at HLK;have HG1 : Hid (R = if bl ≠ bk then (.error 2, S) else if _ then _ else _) := Hi (by rw [HG0.o, HBL.o, HBK.o]);clear HG0;refine wp_region_held (S := fun w9 => zb w9 c ln yn /\ zb w9 q l2 y) (by kernel_rfl) ?_;change wpAnyH _ _ _ _ _ _ _ _ w3.drew;obtain ⟨wa, HWA⟩ : ∃ wa, Hid (wa = w3.drew) := Hy;rw [<- HWA.o];have HSA : Hid (MeS w p q r b b2 l l2 x y wa /\ zl wa w1.1.size ln yn /\ zb wa c ln yn) := Hi (by
    have hdr : Below w3.1.size w3 wa := by rw [HWA.o]; exact (Below.refl _ _).drew
    exact ⟨HS3.o.carry hdr, HN3.o.carry hdr, HBC.o.carry hdr HBC.o.lt⟩)
   have hS : zb wa c ln yn /\ zb wa q l2 y := ⟨HSA.o.2.2, HSA.o.1.bq⟩
   clear HWA HS3 HN3 HBC;refine zy (i := 0) 42 (v := ndV ln yn) rfl rfl (yE Tryz.ndProg (by rfl) _ rfl c rfl ln yn (fun _ h => h.1)) hS ?_;simp only [Act.put, pU];refine zy (i := 2) 44 (v := ndV l2 y) rfl rfl (yE Tryz.ndProg (by rfl) _ rfl q rfl l2 y (fun _ h => h.2)) hS ?_;simp only [Act.put, pU];refine zN (i := 1) (oi := ⟨some 43, _, _, _, _, _⟩) rfl (by kernel_rfl) (fun K0 hK => ?_);go_simp;refine (HLY.o wa).mono ?_;rintro e wb ⟨rfl, hb⟩;have HSA : Hid (MeS w p q r b b2 l l2 x y wb /\ zl wb w1.1.size ln yn /\ zb wb c ln yn) := Hi ⟨HSA.o.1.carry hb, HSA.o.2.1.carry hb, HSA.o.2.2.carry hb HSA.o.2.2.lt⟩;have hS2 : zb wb c ln yn /\ zb wb q l2 y := ⟨HSA.o.2.2, HSA.o.1.bq⟩
   clear hS hb;refine hK.out _ _ hS2 ?_;clear hK K0;have hS := hS2;clear hS2;refine zN (i := 3) (oi := ⟨some 45, _, _, _, _, _⟩) rfl (by kernel_rfl) (fun K0 hK => ?_);go_simp;refine (HLK.o wb).mono ?_;rintro e wc ⟨rfl, hb⟩;have HSA : Hid (MeS w p q r b b2 l l2 x y wc /\ zl wc w1.1.size ln yn /\ zb wc c ln yn) := Hi ⟨HSA.o.1.carry hb, HSA.o.2.1.carry hb, HSA.o.2.2.carry hb HSA.o.2.2.lt⟩;have hS2 : zb wc c ln yn /\ zb wc q l2 y := ⟨HSA.o.2.2, HSA.o.1.bq⟩
   clear hS hb;refine hK.out _ _ hS2 ?_;clear hK K0;have hS := hS2;clear hS2;refine zy (i := 4) 46 (v := .bool (bl != bk)) rfl rfl (.inl ⟨by rfl, fun _ _ => by go_simp; cases bl <;> cases bk <;> rfl⟩) hS ?_;simp only [Act.put, pU];refine wpAnyH_done (by kernel_rfl) ?_ _;by_cases hne : bl = bk
   case' neg =>
    rw [show (bl != bk) = true by revert hne; cases bl <;> cases bk <;> simp];have HRN : Hid (R = (.error 2, S)) := Hi (by rw [HG1.o, if_pos hne]);clear hS HG1 hne;go_wp2_with fail;refine (xF 2 (by decide) _).mono ?_;rintro e wd ⟨v, rfl, he, hb⟩;obtain ⟨tt, xx, rfl⟩ := he.some (by decide);have HE3 := Hi he;have HS3 := Hi (HSA.o.1.carry hb);have HLO : Hid (r < wc.1.size /\ w.1.size <= wc.1.size) := Hi ⟨HSA.o.1.br.lt, HSA.o.1.below.size⟩;clear he hb HSA;have f0 := HS3.o.fr 0;have f1 := HS3.o.fr 1;have f2 := HS3.o.fr 2;have HBR9 := Hi HS3.o.br;have d0 := HBR9.o.c0;have d1 := HBR9.o.c1;have d2 := HBR9.o.c2;obtain ⟨w9, HW9⟩ : ∃ w9, Hid (w9 = ((wd.setCell ⟨r, 0, none⟩ (.slice none 0 0)).setCell ⟨r, 1, none⟩ (.slice none 0 0)).setCell ⟨r, 2, none⟩ (.slice none 0 0)) := Hy;have HS9 : Hid (w9 = zC wd r zd.none_ Nd.empty) := Hi HW9.o;have HX9 : Hid (zb w9 r zd.none_ Nd.empty) := Hi (by rw [HS9.o]; exact zK HBR9.o);have HP9 : Hid (jg O w0 K w P D n firm b l l2 R (.returned (.tuple #[ndV zd.none_ Nd.empty, .iface tt xx])) w9) := Hi (by
     rw [HS9.o, HRN.o];exact WI H HL.o HS3.o.below ⟨HS3.o.rw_.1, HLO.o.1⟩ HLO.o.2 (by decide) HE3.o)
    go_wp2_with fail;rw [<- HW9.o];exact bodyPost_ret (zv Tryz.ndProg rfl _ _ r zd.none_ Nd.empty (.iface tt xx) rfl rfl HX9.o) rfl HP9.o
   case' pos =>
    rw [show (bl != bk) = false by rw [hne]; cases bk <;> rfl];have HG2 := HG1.o;rw [if_neg (not_not_intro hne)] at HG2;have HNE : Hid (decide (yn.kids.length = 0) = decide (y.kids.length = 0)) := Hi (by rw [<- HBL.o, <- HBK.o]; exact hne);clear HG1 hne hS HBL HBK
 ·obtain ⟨k, HKK⟩ : ∃ k, Hid (k = x.keys.getD at_ 0) := Hy;have HIL : Hid (at_ < x.keys.length /\ at_ + 2 <= x.kids.length) := Hi (by have h := HOL.o.2.2 (by simp); have h2 := HSZ.o; omega);rw [if_neg (by simp), <- HKK.o] at HG2;have HGR := Hi HG2;clear HG2;have HKR : Hid (-9223372036854775808 <= k /\ k <= 9223372036854775807) := Hi (by rw [HKK.o, zd0, zdK HIL.o.1]; exact HSA.o.1.mx.is.kw _ (List.getElem_mem _));have hil : (at_ : Int) < (x.keys.length : Int) := by have := HIL.o.1; omega
  go_upto_region 12 with (fail)
  refine wp_region_held (S := fun w9 => zb w9 p l x /\ zb w9 q l2 y /\ zb w9 c ln yn) (by kernel_rfl) ?_;change wpAnyH _ _ _ _ _ _ _ _ wc.drew;obtain ⟨wd, HWD⟩ : ∃ wd, Hid (wd = wc.drew) := Hy;rw [<- HWD.o];have HSD : Hid (MeS w p q r b b2 l l2 x y wd /\ zl wd w1.1.size ln yn /\ zb wd c ln yn) := Hi (by
   have hdr : Below wc.1.size wc wd := by rw [HWD.o]; exact (Below.refl _ _).drew
   exact ⟨HSA.o.1.carry hdr, HSA.o.2.1.carry hdr, HSA.o.2.2.carry hdr HSA.o.2.2.lt⟩)
  have hS : zb wd p l x /\ zb wd q l2 y /\ zb wd c ln yn := ⟨HSD.o.1.bp, HSD.o.1.bq, HSD.o.2.2⟩
  clear HWD HSA;obtain ⟨A, hA, hcell⟩ := yw HSD.o.1.mx.is.keys (i := at_) HIL.o.1;rw [show x.keys[at_]'HIL.out.1 = k by rw [HKK.o, zd0, zdK HIL.o.1]; rfl] at hcell;have HAA := Hi hA;clear hA;refine za (i := 0) 64 (v := ptr P) rfl rfl hS ?_;simp only [Act.put, pU];refine zy (i := 1) 65 (v := ndV l x) rfl rfl (yE Tryz.ndProg (by rfl) _ rfl p rfl l x (fun _ h => h.1)) hS ?_;simp only [Act.put, pU];refine za (i := 2) 66 (v := .int .i64 (at_ : Int)) rfl rfl hS ?_;simp only [Act.put, pU];refine zy (i := 3) 67 (v := ndV l2 y) rfl rfl (yE Tryz.ndProg (by rfl) _ rfl q rfl l2 y (fun _ h => h.2.1)) hS ?_;simp only [Act.put, pU];refine za (i := 4) 68 (v := .pointer (some ⟨p, 0, none⟩)) rfl rfl hS ?_;simp only [Act.put, pU];refine zy (i := 5) 69 (v := .slice (some A) x.keys.length l.ca) rfl rfl (.inl ⟨by rfl, fun _ h => by have c0 := h.1.c0; rw [HAA.o] at c0; go_simp⟩) hS ?_;simp only [Act.put, pU];refine za (i := 6) 70 (v := .int .i64 (at_ : Int)) rfl rfl hS ?_;simp only [Act.put, pU];refine za (i := 7) 71 (v := .pointer (some (A.add at_))) rfl rfl hS ?_;simp only [Act.put, pU];refine zy (i := 9) 73 (v := ndV ln yn) rfl rfl (yE Tryz.ndProg (by rfl) _ rfl c rfl ln yn (fun _ h => h.2.2)) hS ?_;simp only [Act.put, pU];refine zN (i := 8) (oi := ⟨some 72, _, _, _, _, _⟩) rfl (by kernel_rfl) (fun K0 hK => ?_);go_simp;refine hK.out _ _ hS ?_;clear hK K0 hcell hil;have HJN := Hi (VO (k := k) HSD.o.1.my HSD.o.2.1 (fun g h1 h2 => by have := (HNW.o g h2).1; have := HYW.o g h1; have := HSZ1.o; omega) (zd6 HBW.o.2.2 HSD.o.1.below.size) HKR.o (by have := xh (yb HYR.o); have := xh HYS.o.1; have := HYS.o.2; have := (zo HYR.o).2.1; omega) (by have := xh (yb HYR.o); have := xh HYS.o.1; have := HYS.o.2; have := (zo HYR.o).2.1; omega) (by have := xh (yb HYR.o); have := xh HYS.o.1; have := HYS.o.2; have := (zo HYR.o).2.1; omega));refine zN (i := 10) (oi := ⟨some 74, _, _, _, _, _⟩) rfl (by kernel_rfl) (fun K0 hK => ?_);go_simp;refine HJN.o.mono ?_;rintro e we ⟨lj, rfl, hmj, ht, hlj⟩;have hno : ∀ g, w.1.size <= g -> ¬ l2.has g := fun g hg h => by have := HYW.o g h; omega
  have hl1 : ∀ g, l.has g -> ¬ l2.has g := HDIS.o;have HTE : Hid (zq l2.has w we) := Hi ((zq.of_below HSD.o.1.below).trans (ht.more fun g _ hg => .inl hg));have hS2 : zb we p l x /\ zb we q l2 y /\ zb we c ln yn := ⟨hS.1.turn ht (hno p HSD.o.1.pw.1), hS.2.1.turn ht (hno q HSD.o.1.qw.1), hS.2.2.turn ht (hno c (by have := HCW.o; have := HSZ1.o; omega))⟩
  have HRE : Hid (zb we r zd.none_ Nd.empty /\ ∀ j, we.frozen? ⟨r, j, none⟩ = false) := Hi ⟨HSD.o.1.br.turn ht (hno r HSD.o.1.rw_.1), fun j => (World.frozen?_of_block (w := wd) (a := ⟨r, j, none⟩) (ht.block r ⟨HSD.o.1.br.lt, (hno r HSD.o.1.rw_.1)⟩)).trans (HSD.o.1.fr j)⟩;have HXE : Hid (zl we b l x) := Hi (HSD.o.1.mx.keep ht.size fun g hg => ht.block g ⟨(HSD.o.1.mx.lt g hg).2, hl1 g hg⟩);have HME := Hi hmj;have HLJ : Hid ((∀ g, l.has g -> ¬ lj.has g) /\ ∀ g, lj.has g -> K g \/ (w.1.size <= g /\ g < we.1.size)) := Hi (by
   have hwd := HSD.o.1.below.size;have hlt := fun g hg => (hmj.lt g hg).2
   refine ⟨fun g h1 h2 => (hlj g h2).elim (hl1 g h1) fun h3 => by have := HXW.o g h1; omega, fun g hg => ?_⟩;exact (hlj g hg).imp (fun h => (HYK.o g h).1) fun h => ⟨by omega, hlt g hg⟩)
  have HEW : Hid (w.1.size <= we.1.size /\ r < we.1.size /\ c < we.1.size) := Hi ⟨HTE.o.size, HRE.o.1.lt, hS2.2.2.lt⟩;clear hS hmj ht hlj hno hl1 HJN;refine hK.out _ _ hS2 ?_;clear hK K0;have hS := hS2;clear hS2;have HRP := Hi (kX H (at_ := at_) (many := 2) (VT H HL.o HTE.o HYK.o) hg HSS.o HXE.o (fun g hg => .inl (HXK.o g hg)) HRT.o HKI.o HME.o HLJ.o.2 (YF HYS.o.1 (yb HYR.o) HNE.o.symm (by have := HYS.o.2; have := (zo HYR.o).2.1; omega) k) HLJ.o.1 (zd6 HBW.o.2.1 HEW.o.1) HBW.o.1 (by decide) (by decide) HIL.o.2);rw [<- HGR.o, show ((2 : Nat) : Int) = 2 from rfl] at HRP;refine zN (i := 11) (oi := ⟨some 75, _, _, _, _, _⟩) rfl (by kernel_rfl) (fun K0 hK => ?_);go_simp;refine HRP.o.mono ?_;rintro e wf hrp;obtain ⟨lk, xk, v, rfl, hk1, _, hpo⟩ := VU H hrp HTE.o HL.o.there HL.o.low HXW.o ⟨HSD.o.1.rw_.1, HEW.o.2.1⟩ (zd6 HBW.o.1 HBW.o.2.1);have HPO := Hi hpo;have hbp := hk1.block p ⟨HSD.o.1.pw.1, hS.1.lt⟩;have hbq := hk1.block q ⟨HSD.o.1.qw.1, hS.2.1.lt⟩;have hbc := hk1.block c ⟨by have := HCW.o; have := HSZ1.o; omega, hS.2.2.lt⟩;have hbr := hk1.block r ⟨HSD.o.1.rw_.1, HEW.o.2.1⟩;have hS2 : zb wf p l x /\ zb wf q l2 y /\ zb wf c ln yn := ⟨hS.1.keep hbp, hS.2.1.keep hbq, hS.2.2.keep hbc⟩
  have HRF : Hid (zb wf r zd.none_ Nd.empty /\ ∀ j, wf.frozen? ⟨r, j, none⟩ = false) := Hi ⟨HRE.o.1.keep hbr, fun j => (World.frozen?_of_block (w := we) (a := ⟨r, j, none⟩) hbr).trans (HRE.o.2 j)⟩;clear hS hrp hk1 hpo hbp hbq hbc hbr HRP HME HRE HXE;refine hK.out _ _ hS2 ?_;clear hK K0;have hS := hS2;clear hS2;refine za (i := 12) 76 (v := ndV lk xk) rfl rfl hS ?_;simp only [Act.put, pU];refine za (i := 13) 77 (v := v) rfl rfl hS ?_;simp only [Act.put, pU];refine zN (i := 14) (oi := ⟨none, _, _, _, _, _⟩) rfl (by kernel_rfl) (fun K0 hK => ?_);have HBQ := Hi HRF.o.1;have f0 := HRF.o.2 0;have f1 := HRF.o.2 1;have f2 := HRF.o.2 2;have d0 := HBQ.o.c0;have d1 := HBQ.o.c1;have d2 := HBQ.o.c2;obtain ⟨w4, HWw4⟩ : ∃ w4, Hid (w4 = ((wf.setCell ⟨r, 0, none⟩ (.slice lk.A xk.keys.length lk.ca)).setCell ⟨r, 1, none⟩ (.slice lk.B xk.vals.length lk.cb)).setCell ⟨r, 2, none⟩ (.slice lk.C xk.kids.length lk.cc)) := Hy;have HSw4 : Hid (w4 = zC wf r lk xk) := Hi HWw4.o;have HXw4 : Hid (zb w4 r lk xk) := Hi (by rw [HSw4.o]; exact zK HBQ.o);go_simp;rw [<- HWw4.o];have hS4 : zb w4 p l x /\ zb w4 q l2 y /\ zb w4 c ln yn := ⟨hS.1.keep (by rw [HSw4.o]; exact zj (by rw [HRR.o, HQQ.o]; omega)), hS.2.1.keep (by rw [HSw4.o]; exact zj (by rw [HRR.o]; omega)), hS.2.2.keep (by rw [HSw4.o]; exact zj (by have := HCW.o; have := HSZ1.o; omega))⟩
  clear hS d0 d1 d2 f0 f1 f2;refine hK.out _ _ hS4 ?_;clear hK K0;refine za (i := 15) 11 (v := v) rfl rfl hS4 ?_;simp only [Act.put, pU];refine wpAnyH_done (by kernel_rfl) ?_ _;go_wp2_with fail;exact bodyPost_ret (zv Tryz.ndProg rfl _ _ r lk xk v rfl rfl HXw4.o) rfl (by rw [HSw4.o]; exact HPO.o)
 ·obtain ⟨k, HKK⟩ : ∃ k, Hid (k = x.keys.getD ot 0) := Hy;have HIL : Hid (ot < x.keys.length /\ ot + 2 <= x.kids.length) := Hi (by have h := HOL.o.2.1 (by simp); have h2 := HSZ.o; omega);rw [if_pos (by simp), <- HKK.o] at HG2;have HGR := Hi HG2;clear HG2;have HKR : Hid (-9223372036854775808 <= k /\ k <= 9223372036854775807) := Hi (by rw [HKK.o, zd0, zdK HIL.o.1]; exact HSA.o.1.mx.is.kw _ (List.getElem_mem _));have hil : (ot : Int) < (x.keys.length : Int) := by have := HIL.o.1; omega
  go_upto_region 11 with (fail)
  refine wp_region_held (S := fun w9 => zb w9 p l x /\ zb w9 q l2 y /\ zb w9 c ln yn) (by kernel_rfl) ?_;change wpAnyH _ _ _ _ _ _ _ _ wc.drew;obtain ⟨wd, HWD⟩ : ∃ wd, Hid (wd = wc.drew) := Hy;rw [<- HWD.o];have HSD : Hid (MeS w p q r b b2 l l2 x y wd /\ zl wd w1.1.size ln yn /\ zb wd c ln yn) := Hi (by
   have hdr : Below wc.1.size wc wd := by rw [HWD.o]; exact (Below.refl _ _).drew
   exact ⟨HSA.o.1.carry hdr, HSA.o.2.1.carry hdr, HSA.o.2.2.carry hdr HSA.o.2.2.lt⟩)
  have hS : zb wd p l x /\ zb wd q l2 y /\ zb wd c ln yn := ⟨HSD.o.1.bp, HSD.o.1.bq, HSD.o.2.2⟩
  clear HWD HSA;obtain ⟨A, hA, hcell⟩ := yw HSD.o.1.mx.is.keys (i := ot) HIL.o.1;rw [show x.keys[ot]'HIL.out.1 = k by rw [HKK.o, zd0, zdK HIL.o.1]; rfl] at hcell;have HAA := Hi hA;clear hA;refine za (i := 0) 50 (v := ptr P) rfl rfl hS ?_;simp only [Act.put, pU];refine zy (i := 1) 51 (v := ndV l x) rfl rfl (yE Tryz.ndProg (by rfl) _ rfl p rfl l x (fun _ h => h.1)) hS ?_;simp only [Act.put, pU];refine za (i := 2) 52 (v := .int .i64 (ot : Int)) rfl rfl hS ?_;simp only [Act.put, pU];refine zy (i := 3) 53 (v := ndV ln yn) rfl rfl (yE Tryz.ndProg (by rfl) _ rfl c rfl ln yn (fun _ h => h.2.2)) hS ?_;simp only [Act.put, pU];refine za (i := 4) 54 (v := .pointer (some ⟨p, 0, none⟩)) rfl rfl hS ?_;simp only [Act.put, pU];refine zy (i := 5) 55 (v := .slice (some A) x.keys.length l.ca) rfl rfl (.inl ⟨by rfl, fun _ h => by have c0 := h.1.c0; rw [HAA.o] at c0; go_simp⟩) hS ?_;simp only [Act.put, pU];refine za (i := 6) 56 (v := .int .i64 (ot : Int)) rfl rfl hS ?_;simp only [Act.put, pU];refine za (i := 7) 57 (v := .pointer (some (A.add ot))) rfl rfl hS ?_;simp only [Act.put, pU];refine zy (i := 9) 59 (v := ndV l2 y) rfl rfl (yE Tryz.ndProg (by rfl) _ rfl q rfl l2 y (fun _ h => h.2.1)) hS ?_;simp only [Act.put, pU];refine zN (i := 8) (oi := ⟨some 58, _, _, _, _, _⟩) rfl (by kernel_rfl) (fun K0 hK => ?_);go_simp;refine hK.out _ _ hS ?_;clear hK K0 hcell hil;have HJN := Hi (VO (k := k) HSD.o.2.1 HSD.o.1.my (fun g h1 h2 => by have := (HNW.o g h1).1; have := HYW.o g h2; have := HSZ1.o; omega) (by have := HSZ1.o; have := HSD.o.2.2.lt; have := HCW.o; omega) HKR.o (by have := xh (yb HYR.o); have := xh HYS.o.1; have := HYS.o.2; have := (zo HYR.o).2.1; omega) (by have := xh (yb HYR.o); have := xh HYS.o.1; have := HYS.o.2; have := (zo HYR.o).2.1; omega) (by have := xh (yb HYR.o); have := xh HYS.o.1; have := HYS.o.2; have := (zo HYR.o).2.1; omega));refine zN (i := 10) (oi := ⟨some 60, _, _, _, _, _⟩) rfl (by kernel_rfl) (fun K0 hK => ?_);go_simp;refine HJN.o.mono ?_;rintro e we ⟨lj, rfl, hmj, ht, hlj⟩;have hno : ∀ g, g < w1.1.size \/ c <= g -> ¬ ln.has g := fun g hg h => by have := HNW.o g h; omega
  have hl1 : ∀ g, l.has g -> ¬ ln.has g := fun g hg => hno g (.inl (by have := HXW.o g hg; have := HSZ1.o; omega))
  have HTE : Hid (zq l2.has w we) := Hi ((zq.of_below HSD.o.1.below).trans (ht.more fun g _ hg => .inr (by have := (HNW.o g hg).1; have := HSZ1.o; omega)));have hS2 : zb we p l x /\ zb we q l2 y /\ zb we c ln yn := ⟨hS.1.turn ht (hno p (.inl (by have := HSD.o.1.pw; have := HB1.o.2; omega))), hS.2.1.turn ht (hno q (.inl (by have := HSD.o.1.qw; have := HB1.o.2; omega))), hS.2.2.turn ht (hno c (.inr (zdH _)))⟩
  have HRE : Hid (zb we r zd.none_ Nd.empty /\ ∀ j, we.frozen? ⟨r, j, none⟩ = false) := Hi ⟨HSD.o.1.br.turn ht (hno r (.inl (by have := HSD.o.1.rw_; have := HB1.o.2; omega))), fun j => (World.frozen?_of_block (w := wd) (a := ⟨r, j, none⟩) (ht.block r ⟨HSD.o.1.br.lt, (hno r (.inl (by have := HSD.o.1.rw_; have := HB1.o.2; omega)))⟩)).trans (HSD.o.1.fr j)⟩;have HXE : Hid (zl we b l x) := Hi (HSD.o.1.mx.keep ht.size fun g hg => ht.block g ⟨(HSD.o.1.mx.lt g hg).2, hl1 g hg⟩);have HME := Hi hmj;have HLJ : Hid ((∀ g, l.has g -> ¬ lj.has g) /\ ∀ g, lj.has g -> K g \/ (w.1.size <= g /\ g < we.1.size)) := Hi (by
   have hwd := HSD.o.1.below.size;have hlt := fun g hg => (hmj.lt g hg).2
   refine ⟨fun g h1 h2 => (hlj g h2).elim (hl1 g h1) fun h3 => by have := HXW.o g h1; omega, fun g hg => ?_⟩;exact .inr ⟨(hlj g hg).elim (fun h => by have := (HNW.o g h).1; have := HSZ1.o; omega) fun h => by omega, hlt g hg⟩)
  have HEW : Hid (w.1.size <= we.1.size /\ r < we.1.size /\ c < we.1.size) := Hi ⟨HTE.o.size, HRE.o.1.lt, hS2.2.2.lt⟩;clear hS hmj ht hlj hno hl1 HJN;refine hK.out _ _ hS2 ?_;clear hK K0;have hS := hS2;clear hS2;have HRP := Hi (kX H (at_ := ot) (many := 2) (VT H HL.o HTE.o HYK.o) hg HSS.o HXE.o (fun g hg => .inl (HXK.o g hg)) HRT.o HKI.o HME.o HLJ.o.2 (YF (yb HYR.o) HYS.o.1 HNE.o (by have := HYS.o.2; have := (zo HYR.o).2.1; omega) k) HLJ.o.1 (zd6 HBW.o.2.1 HEW.o.1) HBW.o.1 (by decide) (by decide) HIL.o.2);rw [<- HGR.o, show ((2 : Nat) : Int) = 2 from rfl] at HRP;refine zN (i := 11) (oi := ⟨some 61, _, _, _, _, _⟩) rfl (by kernel_rfl) (fun K0 hK => ?_);go_simp;refine HRP.o.mono ?_;rintro e wf hrp;obtain ⟨lk, xk, v, rfl, hk1, _, hpo⟩ := VU H hrp HTE.o HL.o.there HL.o.low HXW.o ⟨HSD.o.1.rw_.1, HEW.o.2.1⟩ (zd6 HBW.o.1 HBW.o.2.1);have HPO := Hi hpo;have hbp := hk1.block p ⟨HSD.o.1.pw.1, hS.1.lt⟩;have hbq := hk1.block q ⟨HSD.o.1.qw.1, hS.2.1.lt⟩;have hbc := hk1.block c ⟨by have := HCW.o; have := HSZ1.o; omega, hS.2.2.lt⟩;have hbr := hk1.block r ⟨HSD.o.1.rw_.1, HEW.o.2.1⟩;have hS2 : zb wf p l x /\ zb wf q l2 y /\ zb wf c ln yn := ⟨hS.1.keep hbp, hS.2.1.keep hbq, hS.2.2.keep hbc⟩
  have HRF : Hid (zb wf r zd.none_ Nd.empty /\ ∀ j, wf.frozen? ⟨r, j, none⟩ = false) := Hi ⟨HRE.o.1.keep hbr, fun j => (World.frozen?_of_block (w := we) (a := ⟨r, j, none⟩) hbr).trans (HRE.o.2 j)⟩;clear hS hrp hk1 hpo hbp hbq hbc hbr HRP HME HRE HXE;refine hK.out _ _ hS2 ?_;clear hK K0;have hS := hS2;clear hS2;refine za (i := 12) 62 (v := ndV lk xk) rfl rfl hS ?_;simp only [Act.put, pU];refine za (i := 13) 63 (v := v) rfl rfl hS ?_;simp only [Act.put, pU];refine zN (i := 14) (oi := ⟨none, _, _, _, _, _⟩) rfl (by kernel_rfl) (fun K0 hK => ?_);have HBQ := Hi HRF.o.1;have f0 := HRF.o.2 0;have f1 := HRF.o.2 1;have f2 := HRF.o.2 2;have d0 := HBQ.o.c0;have d1 := HBQ.o.c1;have d2 := HBQ.o.c2;obtain ⟨w4, HWw4⟩ : ∃ w4, Hid (w4 = ((wf.setCell ⟨r, 0, none⟩ (.slice lk.A xk.keys.length lk.ca)).setCell ⟨r, 1, none⟩ (.slice lk.B xk.vals.length lk.cb)).setCell ⟨r, 2, none⟩ (.slice lk.C xk.kids.length lk.cc)) := Hy;have HSw4 : Hid (w4 = zC wf r lk xk) := Hi HWw4.o;have HXw4 : Hid (zb w4 r lk xk) := Hi (by rw [HSw4.o]; exact zK HBQ.o);go_simp;rw [<- HWw4.o];have hS4 : zb w4 p l x /\ zb w4 q l2 y /\ zb w4 c ln yn := ⟨hS.1.keep (by rw [HSw4.o]; exact zj (by rw [HRR.o, HQQ.o]; omega)), hS.2.1.keep (by rw [HSw4.o]; exact zj (by rw [HRR.o]; omega)), hS.2.2.keep (by rw [HSw4.o]; exact zj (by have := HCW.o; have := HSZ1.o; omega))⟩
  clear hS d0 d1 d2 f0 f1 f2;refine hK.out _ _ hS4 ?_;clear hK K0;refine za (i := 15) 11 (v := v) rfl rfl hS4 ?_;simp only [Act.put, pU];refine wpAnyH_done (by kernel_rfl) ?_ _;go_wp2_with fail;exact bodyPost_ret (zv Tryz.ndProg rfl _ _ r lk xk v rfl rfl HXw4.o) rfl (by rw [HSw4.o]; exact HPO.o)
end
end Go.Proofs.YtafclmbecmgbnaaGreatDoor
