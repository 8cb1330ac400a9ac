/-
  Tc: several texts in one file. Conditions: as each part says.
-/
import Derived.Test.YtafclmbecmgbnaaGreatDoorTw
/-
 TrPut. Conditions: as each theorem says.
-/
set_option maxRecDepth 100000
set_option maxHeartbeats 4000000
open Nat renaming le_refl -> zdH, lt_of_lt_of_le -> zd5, le_trans -> zd6
open List renaming getElem?_cons_zero -> zew
namespace Go.Proofs.YtafclmbecmgbnaaGreatDoor
section
open Go.RowKit
def xi (O : yq) (w0 : World) (K : Nat -> Prop) (w : World) (P D n : Nat) (firm : Nat -> List UInt8) (R : Except Int Nd × TS) (e : Ending) (w' : World) : Prop :=
 zg K w w' /\ match R.1 with
 | .error c => zX O w0 K w' P D n R.2 firm /\ c ≠ 0 /\ ∃ v, e = .returned (.tuple #[ndV zd.none_ Nd.empty, v]) /\ zi w' w.1.size c v
 | .ok x => ∃ l', zX O w0 (fun g => K g \/ l'.has g) w' P D n R.2 firm /\ e = .returned (.tuple #[ndV l' x, .nilIface]) /\ zl w' w.1.size l' x
def kS (O : yq) (w0 : World) (L : Nat -> Prop) (lo : Nat) (P D n : Nat) (firm : Nat -> List UInt8) (R : Except Int Nd × TS) (lk : zd) (xk : Nd) (v : Value) (wr : World) : Prop :=
 zX O w0 (fun g => L g \/ lk.has g) wr P D n R.2 firm /\ ((∃ cd, R.1 = .error cd /\ cd ≠ 0 /\ lk = zd.none_ /\ xk = Nd.empty /\ zi wr lo cd v) \/ (R.1 = .ok xk /\ v = .nilIface /\ zl wr lo lk xk))
structure PuS (O : yq) (w0 : World) (K : Nat -> Prop) (w : World) (P D n : Nat) (firm : Nat -> List UInt8) (q r c b : Nat) (l : zd) (x : Nd) (R : Except Int Nd × TS) (lk : zd) (xk : Nd) (v : Value) (wr : World) : Prop where
 bq : zb wr q l x
 bc : zb wr c lk xk
 br : zb wr r zd.none_ Nd.empty
 fr : ∀ j, wr.frozen? ⟨r, j, none⟩ = false
 mi : zl wr b l x
 kept : zg K w wr
 out : ∃ lo, (∀ g, l.has g -> g < lo) /\ r < lo /\ b <= lo /\ kS O w0 (fun g => K g \/ g = r \/ l.has g) lo P D n firm R lk xk v wr
section
variable {O : yq} (H : yA O)
include H
theorem Y6 {w0 : World} {L : Nat -> Prop} {w1 w2 : World} {P D n : Nat} {firm : Nat -> List UInt8} {R : Except Int Nd × TS} {e : Ending} (h : xi O w0 L w1 P D n firm R e w2) (hlow : ∀ k, k < w0.1.size -> L k) :
  ∃ lk xk v, e = .returned (.tuple #[ndV lk xk, v]) /\ zg L w1 w2 /\ kS O w0 L w1.1.size P D n firm R lk xk v w2 := by
 obtain ⟨R1, R2⟩ := R;obtain ⟨h1, h2⟩ := h;cases R1 with
 | error cd =>
  obtain ⟨h3, h4, v, h5, h6⟩ := h2;exact ⟨_, _, _, h5, h1, h3.less H (fun k hk => hk.elim id fun h => absurd h (zd.has_none k)) (fun k hk => .inl (hlow k hk)), .inl ⟨cd, rfl, h4, rfl, rfl, h6⟩⟩
 | ok x =>
  obtain ⟨l', h3, h4, h5⟩ := h2;exact ⟨_, _, _, h4, h1, h3, .inr ⟨rfl, rfl, h5⟩⟩
theorem kS.turn {w0 : World} {L : Nat -> Prop} {lo : Nat} {P D n : Nat} {firm : Nat -> List UInt8} {R : Except Int Nd × TS} {lk : zd} {xk : Nd} {v : Value} {wr w' : World} {M L' : Nat -> Prop} (h : kS O w0 L lo P D n firm R lk xk v wr) (ht : zq M wr w')
  (hM : ∀ k, M k -> k < wr.1.size -> L k /\ w0.1.size <= k /\ k < lo) (hL : ∀ k, L' k -> L k \/ wr.1.size <= k) (hLt : yd L' w') (hlow : ∀ k, k < w0.1.size -> L' k) : kS O w0 L' lo P D n firm R lk xk v w' := by
 obtain ⟨h1, h2⟩ := h;have hth := h1.there;have ht2 : zq (fun k => M k /\ k < wr.1.size) wr w' := ⟨ht.os, ht.tape, ht.output, ht.size, fun k hk => ht.block k ⟨hk.1, fun hm => hk.2 ⟨hm, hk.1⟩⟩⟩
 refine ⟨h1.off H ht2 (fun k hk => ⟨.inl (hM k hk.1 hk.2).1, (hM k hk.1 hk.2).2.1⟩) (fun k hk => ?_) (fun k hk => ?_) (fun k hk => .inl (hlow k hk)), ?_⟩
 ·rcases hk with hk | hk
  ·exact (hL k hk).imp .inl id
  ·exact .inl (.inr hk)
 ·rcases hk with hk | hk
  ·exact hLt k hk
  ·exact zd5 (hth k (.inr hk)) ht.size
 ·rcases h2 with ⟨cd, e1, e2, e3, e4, e5⟩ | ⟨e1, e2, e3⟩
  ·exact .inl ⟨cd, e1, e2, e3, e4, e5.carry ht.size fun i h3 h4 => ht.block i ⟨h4, fun hm => by have := (hM i hm h4).2.2; omega⟩⟩
  ·exact .inr ⟨e1, e2, e3.keep ht.size fun g hg => ht.block g ⟨(e3.lt g hg).2, fun hm => by have := (hM g hm (e3.lt g hg).2).2.2; have := (e3.lt g hg).1; omega⟩⟩
theorem kS.ret {w0 : World} {K L : Nat -> Prop} {lo r : Nat} {P D n : Nat} {firm : Nat -> List UInt8} {R : Except Int Nd × TS} {lk : zd} {xk : Nd} {v : Value} {w wr : World} (h : kS O w0 L lo P D n firm R lk xk v wr) (hk : zg K w wr) (hK : yd K w) (hKL : ∀ k, K k -> L k) (hr : L r) (hrs : r < wr.1.size) (hwr : w.1.size <= r) (hrl : r < lo)
  (hw0 : w0.1.size <= w.1.size) (hlow : ∀ k, k < w0.1.size -> K k) : xi O w0 K w P D n firm R (.returned (.tuple #[ndV lk xk, v])) (zC wr r lk xk) := by
 have ht : zq (fun k => k = r) wr (zC wr r lk xk) := ⟨rfl, rfl, rfl, by rw [zM]; exact zdH _, fun k hk => zj hk.2⟩
 obtain ⟨h1, h2⟩ := h.turn H (L' := L) ht (fun k hk _ => by have hk' : k = r := hk; subst hk'; exact ⟨hr, by omega, hrl⟩) (fun k hk => .inl hk) (fun k hk => by rw [zM]; exact h.1.there k (.inl hk)) (fun k hk => hKL k (hlow k hk));refine ⟨hk.trans ⟨rfl, rfl, rfl, by rw [zM]; exact zdH _, fun k hk2 => zj (by have := hK k hk2; omega)⟩, ?_⟩;obtain ⟨R1, R2⟩ := R;rcases h2 with ⟨cd, e1, e2, rfl, rfl, e5⟩ | ⟨e1, rfl, e3⟩
 ·obtain rfl : R1 = .error cd := e1;exact ⟨h1.less H (fun k hk => .inl (hKL k hk)) hlow, e2, v, rfl, e5.mono (by omega)⟩
 ·obtain rfl : R1 = .ok xk := e1;exact ⟨lk, h1.less H (fun k hk => hk.imp (hKL k) id) (fun k hk => .inl (hlow k hk)), rfl, e3.mono (by omega)⟩
theorem PuS.make {w0 : World} {K L : Nat -> Prop} {w wn wz : World} {P D n : Nat} {firm : Nat -> List UInt8} {q r c b lo : Nat} {l : zd} {x : Nd} {R : Except Int Nd × TS} {lk : zd} {xk : Nd} {v : Value} (hbq : zb wn q l x) (hbr : zb wn r zd.none_ Nd.empty) (hfr : ∀ j, wn.frozen? ⟨r, j, none⟩ = false)
  (hmi : zl wn b l x) (hkn : zg K w wn) (ho : kS O w0 L lo P D n firm R lk xk v wn) (ht : zq (fun k => k = c) wn wz) (hbc : zb wz c lk xk) (hc : c < wn.1.size -> L c /\ c < lo) (hL : ∀ k, K k \/ k = r \/ l.has k -> L k) (hqc : q ≠ c) (hrc : r ≠ c) (hlc : ¬ l.has c)
  (hwc : w.1.size <= c) (hlo : b <= lo) (hrl : r < lo) (hll : ∀ g, l.has g -> g < lo) (hK : yd K w) (hw0 : w0.1.size <= w.1.size) (hlow : ∀ k, k < w0.1.size -> K k) :
  PuS O w0 K w P D n firm q r c b l x R lk xk v wz := by
 have bq := ht.block q ⟨hbq.lt, hqc⟩;have br := ht.block r ⟨hbr.lt, hrc⟩;have hkz : zg K wn wz := ⟨ht.os, ht.tape, ht.output, ht.size, fun k hk => ht.block k ⟨zd5 (hK k hk) hkn.size, fun e => by have := hK k hk; omega⟩⟩
 refine ⟨hbq.keep bq, hbc, hbr.keep br, fun j => (World.frozen?_of_block (w := wn) (a := ⟨r, j, none⟩) br).trans (hfr j), hmi.keep ht.size fun g hg => ht.block g ⟨(hmi.lt g hg).2, fun e => hlc (by have e' : g = c := e; rw [<- e']; exact hg)⟩, hkn.trans hkz, ⟨lo, hll, hrl, hlo, ?_⟩⟩;refine ho.turn H ht (fun k hk hlt => ?_) (fun k hk => .inl (hL k hk)) (fun k hk => ?_) (fun k hk => .inl (hlow k hk))
 ·have hk' : k = c := hk;subst hk';exact ⟨(hc hlt).1, by omega, (hc hlt).2⟩
 ·rcases hk with hk | hk | hk
  ·exact zd5 (hK k hk) (zd6 hkn.size ht.size)
  ·rw [hk]; exact zd5 hbr.lt ht.size
  ·exact zd5 (hmi.lt k hk).2 ht.size
theorem V9 {w0 : World} {L : Nat -> Prop} {w1 w2 : World} {P D n : Nat} {firm : Nat -> List UInt8} {b : Nat} {l : zd} {R : Except Int Nd × TS} {e : Ending} (h : Xi O w0 L w1 P D n firm b l R e w2) (hb : b <= w1.1.size) (hlow : ∀ k, k < w0.1.size -> L k) :
  ∃ lk xk v, e = .returned (.tuple #[ndV lk xk, v]) /\ zg (fun g => L g /\ ¬ l.has g) w1 w2 /\ kS O w0 L b P D n firm R lk xk v w2 := by
 obtain ⟨R1, R2⟩ := R;obtain ⟨h1, h2⟩ := h;cases R1 with
 | error cd =>
  obtain ⟨h3, h4, v, h5, h6⟩ := h2;exact ⟨_, _, _, h5, h1, h3.less H (fun k hk => hk.elim id fun h => absurd h (zd.has_none k)) (fun k hk => .inl (hlow k hk)), .inl ⟨cd, rfl, h4, rfl, rfl, h6.mono hb⟩⟩
 | ok x =>
  obtain ⟨l', h3, h4, h5, _⟩ := h2;exact ⟨_, _, _, h4, h1, h3, .inr ⟨rfl, rfl, h5⟩⟩
theorem zcz {w0 : World} {P D n : Nat} {firm : Nat -> List UInt8} (hg : yO w0) {key : Int} (hk : -9223372036854775808 <= key /\ key <= 9223372036854775807) {val : ByteArray} (hv : val.size <= maxLen) (f : Nat) (hf : f <= 12) {K : Nat -> Prop} {w : World} {S : TS} (hl : zX O w0 K w P D n S firm) (hs : S.d.soft.length + 2 * f <= 99990) (i : Int) :
  Calls Tryz.prog 68 #[ptr P, .int .i64 i, .int .i64 (13 - (f : Int)), .agg #[.int .i64 key, .string val]] w (xi O w0 K w P D n firm (kK n f S i key val)) := by
 have hbn := Tryz.nodeNone;have hz := Tryz.zeroNode;induction f generalizing w K i S with
 | zero =>
  have HL := Hi hl;have HW0 : Hid (w0.1.size <= w.1.size) := Hi hl.below.size;have HTH : Hid (yd K w) := Hi hl.there;obtain ⟨R, HRR⟩ : ∃ R, Hid (R = kK n 0 S i key val) := Hy;rw [<- HRR.o];obtain ⟨p, HPP⟩ : ∃ p, Hid (p = w.1.size) := Hy;obtain ⟨r, HRC⟩ : ∃ r, Hid (r = p + 1) := Hy;obtain ⟨w1, HW1⟩ : ∃ w1, Hid (w1 = (w.alloc (.cells #[.int .i64 key, .string val] 97)).alloc (.cells #[.slice none 0 0, .slice none 0 0, .slice none 0 0] 48)) := Hy;have HB1 : Hid (Below w.1.size w w1 /\ w1.1.size = w.1.size + 2) := Hi (by rw [HW1.o]; exact ⟨((Below.refl _ _).alloc (zdH _) _).alloc (by simp) _, by simp⟩);have HX1 : Hid (w1.cell? ⟨p, 0, none⟩ = some (.int .i64 key) /\ w1.cell? ⟨p, 1, none⟩ = some (.string val) /\ zb w1 r zd.none_ Nd.empty /\ ∀ j, w1.frozen? ⟨r, j, none⟩ = false) := Hi (by
   rw [HW1.o];obtain ⟨wa, hwa⟩ : ∃ wa, wa = w.alloc (.cells #[.int .i64 key, .string val] 97) := ⟨_, rfl⟩
   have hsa : wa.1.size = w.1.size + 1 := by rw [hwa]; simp
   have e1 : wa.cell? ⟨w.1.size, 0, none⟩ = some (.int .i64 key) := by rw [hwa]; simp
   have e2 : wa.cell? ⟨w.1.size, 1, none⟩ = some (.string val) := by rw [hwa]; simp
   rw [<- hwa];have hab : Below wa.1.size wa (wa.alloc (.cells #[.slice none 0 0, .slice none 0 0, .slice none 0 0] 48)) := (Below.refl _ _).alloc (zdH _) _;have e3 := zb.new (w := wa) (l := zd.none_) (x := Nd.empty) 48;have f3 := zV wa #[.slice none 0 0, .slice none 0 0, .slice none 0 0] 48;rw [hsa] at e3 f3;rw [HRC.o, HPP.o];exact ⟨(hab.cell (p := ⟨w.1.size, 0, none⟩) (by show w.1.size < _; omega)).trans e1, (hab.cell (p := ⟨w.1.size, 1, none⟩) (by show w.1.size < _; omega)).trans e2, e3, f3⟩)
  have HLD := Hi (vY H (hl.carry H HB1.o.1) hg i 13);have HM : Hid (yI S i 13 = .error 2) := Hi (by unfold yI; rw [if_pos (by decide)]);rw [HM.o] at HLD;have HG0 : Hid (R = (.error 2, S)) := Hi HRR.o;rw [show (13 : Int) - ((0 : Nat) : Int) = 13 from rfl];clear hl hs hk hv HRR
  go_enter Tryz.func68, Tryz.ntmps68
  go_upto_region 1 with (fail)
  rw [<- HW1.o, <- HPP.o, <- HRC.o];clear HW1;go_wp2_with fail;refine HLD.o.mono ?_;rintro e w2 ⟨hc, v, rfl, he, hb⟩;obtain ⟨tt, xx, rfl⟩ := he.some hc;have HE := Hi he;have HB := Hi hb;have HC := Hi hc;clear he hb HLD hc;obtain ⟨q, HCq⟩ : ∃ q, Hid (q = w2.1.size) := Hy;obtain ⟨w3, HWw3⟩ : ∃ w3, Hid (w3 = w2.alloc (.cells #[.slice zd.none_.A Nd.empty.keys.length zd.none_.ca, .slice zd.none_.B Nd.empty.vals.length zd.none_.cb, .slice zd.none_.C Nd.empty.kids.length zd.none_.cc] 48)) := Hy;have HBw3 : Hid (Below w2.1.size w2 w3 /\ w3.1.size = w2.1.size + 1) := Hi (by rw [HWw3.o]; exact ⟨(Below.refl _ _).alloc (zdH _) _, by simp⟩);go_upto_region 2 with (fail)
  rw [<- HWw3.o, <- HCq.o];have HB13 : Hid (Below w1.1.size w1 w3) := Hi (HB.o.trans (HBw3.o.1.mono HB.o.size));have HR3 : Hid (zb w3 r zd.none_ Nd.empty /\ ∀ j, w3.frozen? ⟨r, j, none⟩ = false) := Hi ⟨HX1.o.2.2.1.carry HB13.o HX1.o.2.2.1.lt, zw HB13.o HX1.o.2.2.1.lt HX1.o.2.2.2⟩;have HO3 : Hid (kS O w0 (fun g => K g \/ g = r) w1.1.size P D n firm R zd.none_ Nd.empty (.iface tt xx) w3) := Hi (by
   refine ⟨?_, .inl ⟨2, by rw [HG0.o], HC.o, rfl, rfl, HE.o.below HBw3.o.1⟩⟩;rw [HG0.o];refine (HL.o.grow H (HB1.o.1.trans (HB13.o.mono HB1.o.1.size))).less H (fun k hk => ?_) fun k hk => .inl (.inl (HL.o.low k hk))
   rcases hk with (hk | hk) | hk
   ·exact .inl hk
   ·have := HR3.o.1.lt;have := HRC.o;have := HPP.o;exact .inr (by omega)
   ·exact absurd hk (zd.has_none k))
  clear HWw3 HCq;have f0 := HR3.o.2 0;have f1 := HR3.o.2 1;have f2 := HR3.o.2 2;have HBR9 := Hi HR3.o.1;have d0 := HBR9.o.c0;have d1 := HBR9.o.c1;have d2 := HBR9.o.c2;obtain ⟨w9, HW9⟩ : ∃ w9, Hid (w9 = ((w3.setCell ⟨r, 0, none⟩ (.slice none 0 0)).setCell ⟨r, 1, none⟩ (.slice none 0 0)).setCell ⟨r, 2, none⟩ (.slice none 0 0)) := Hy;have HS9 : Hid (w9 = zC w3 r zd.none_ Nd.empty) := Hi HW9.o;have HX9 : Hid (zb w9 r zd.none_ Nd.empty) := Hi (by rw [HS9.o]; exact zK HBR9.o);have HP9 : Hid (xi O w0 K w P D n firm R (.returned (.tuple #[ndV zd.none_ Nd.empty, .iface tt xx])) w9) := Hi (by
   rw [HS9.o];have hpl : w.1.size <= p /\ w.1.size <= r /\ p < w1.1.size /\ r < w1.1.size /\ w1.1.size = w.1.size + 2 := by rw [HRC.o, HPP.o, HB1.o.2]; omega
   exact HO3.o.ret H (zg.of_below (HB1.o.1.trans (HB13.o.mono HB1.o.1.size)) HTH.o) HTH.o (fun k hk => .inl hk) (.inr rfl) HR3.o.1.lt hpl.2.1 hpl.2.2.2.1 HW0.o HL.o.low)
  go_wp2_with fail;rw [<- HW9.o];exact bodyPost_ret (zv Tryz.ndProg rfl _ _ r zd.none_ Nd.empty (.iface tt xx) rfl rfl HX9.o) rfl HP9.o
 | succ f ih =>
  obtain ⟨lv, HLV⟩ : ∃ lv : Int, Hid (lv = 12 - (f : Int)) := Hy;have HLW : Hid (wrap64 (lv + 1) = 13 - (f : Int)) := Hi (by rw [HLV.o]; unfold wrap64; omega);have HLW2 : Hid (IntKind.i64.wrap (lv + 1) = 13 - (f : Int)) := Hi (by rw [IntKind.wrap_i64, HLV.o]; omega);rw [show (13 : Int) - ((f + 1 : Nat) : Int) = lv by rw [HLV.o]; omega];have HL := Hi hl;have HW0 : Hid (w0.1.size <= w.1.size) := Hi hl.below.size;have HTH : Hid (yd K w) := Hi hl.there;have HOK : Hid (OkT n S firm) := Hi hl.inv;have HSS : Hid (S.d.soft.length + 2 * (f + 1) <= 99990) := Hi hs;have HKV := Hi (And.intro hk hv);have HIH : Hid (∀ {K : Nat -> Prop} {w : World}, zX O w0 K w P D n S firm -> ∀ i : Int, Calls Tryz.prog 68 #[ptr P, .int .i64 i, .int .i64 (13 - (f : Int)), .agg #[.int .i64 key, .string val]] w (xi O w0 K w P D n firm (kK n f S i key val))) := Hi fun h i => ih (by omega) h (by omega) i
  obtain ⟨R, HRR⟩ : ∃ R, Hid (R = kK n (f + 1) S i key val) := Hy;rw [<- HRR.o];obtain ⟨p, HPP⟩ : ∃ p, Hid (p = w.1.size) := Hy;obtain ⟨r, HRC⟩ : ∃ r, Hid (r = p + 1) := Hy;obtain ⟨w1, HW1⟩ : ∃ w1, Hid (w1 = (w.alloc (.cells #[.int .i64 key, .string val] 97)).alloc (.cells #[.slice none 0 0, .slice none 0 0, .slice none 0 0] 48)) := Hy;have HB1 : Hid (Below w.1.size w w1 /\ w1.1.size = w.1.size + 2) := Hi (by rw [HW1.o]; exact ⟨((Below.refl _ _).alloc (zdH _) _).alloc (by simp) _, by simp⟩);have HX1 : Hid (w1.cell? ⟨p, 0, none⟩ = some (.int .i64 key) /\ w1.cell? ⟨p, 1, none⟩ = some (.string val) /\ zb w1 r zd.none_ Nd.empty /\ ∀ j, w1.frozen? ⟨r, j, none⟩ = false) := Hi (by
   rw [HW1.o];obtain ⟨wa, hwa⟩ : ∃ wa, wa = w.alloc (.cells #[.int .i64 key, .string val] 97) := ⟨_, rfl⟩
   have hsa : wa.1.size = w.1.size + 1 := by rw [hwa]; simp
   have e1 : wa.cell? ⟨w.1.size, 0, none⟩ = some (.int .i64 key) := by rw [hwa]; simp
   have e2 : wa.cell? ⟨w.1.size, 1, none⟩ = some (.string val) := by rw [hwa]; simp
   rw [<- hwa];have hab : Below wa.1.size wa (wa.alloc (.cells #[.slice none 0 0, .slice none 0 0, .slice none 0 0] 48)) := (Below.refl _ _).alloc (zdH _) _;have e3 := zb.new (w := wa) (l := zd.none_) (x := Nd.empty) 48;have f3 := zV wa #[.slice none 0 0, .slice none 0 0, .slice none 0 0] 48;rw [hsa] at e3 f3;rw [HRC.o, HPP.o];exact ⟨(hab.cell (p := ⟨w.1.size, 0, none⟩) (by show w.1.size < _; omega)).trans e1, (hab.cell (p := ⟨w.1.size, 1, none⟩) (by show w.1.size < _; omega)).trans e2, e3, f3⟩)
  have HLD := Hi (vY H (hl.carry H HB1.o.1) hg i lv);clear hl ih hs hk hv;cases hlm : yI S i lv with
  | error c =>
   have HG0 : Hid (R = (.error c, S)) := Hi (by rw [HRR.o]; unfold kK; rw [<- HLV.o, hlm]);rw [hlm] at HLD;clear hlm HRR
   go_enter Tryz.func68, Tryz.ntmps68
   go_upto_region 1 with (fail)
   rw [<- HW1.o, <- HPP.o, <- HRC.o];clear HW1;go_wp2_with fail;refine HLD.o.mono ?_;rintro e w2 ⟨hc, v, rfl, he, hb⟩;obtain ⟨tt, xx, rfl⟩ := he.some hc;have HE := Hi he;have HB := Hi hb;have HC := Hi hc;clear he hb HLD hc;obtain ⟨q, HCq⟩ : ∃ q, Hid (q = w2.1.size) := Hy;obtain ⟨w3, HWw3⟩ : ∃ w3, Hid (w3 = w2.alloc (.cells #[.slice zd.none_.A Nd.empty.keys.length zd.none_.ca, .slice zd.none_.B Nd.empty.vals.length zd.none_.cb, .slice zd.none_.C Nd.empty.kids.length zd.none_.cc] 48)) := Hy;have HBw3 : Hid (Below w2.1.size w2 w3 /\ w3.1.size = w2.1.size + 1) := Hi (by rw [HWw3.o]; exact ⟨(Below.refl _ _).alloc (zdH _) _, by simp⟩);go_upto_region 2 with (fail)
   rw [<- HWw3.o, <- HCq.o];have HB13 : Hid (Below w1.1.size w1 w3) := Hi (HB.o.trans (HBw3.o.1.mono HB.o.size));have HR3 : Hid (zb w3 r zd.none_ Nd.empty /\ ∀ j, w3.frozen? ⟨r, j, none⟩ = false) := Hi ⟨HX1.o.2.2.1.carry HB13.o HX1.o.2.2.1.lt, zw HB13.o HX1.o.2.2.1.lt HX1.o.2.2.2⟩;have HO3 : Hid (kS O w0 (fun g => K g \/ g = r) w1.1.size P D n firm R zd.none_ Nd.empty (.iface tt xx) w3) := Hi (by
    refine ⟨?_, .inl ⟨c, by rw [HG0.o], HC.o, rfl, rfl, HE.o.below HBw3.o.1⟩⟩;rw [HG0.o];refine (HL.o.grow H (HB1.o.1.trans (HB13.o.mono HB1.o.1.size))).less H (fun k hk => ?_) fun k hk => .inl (.inl (HL.o.low k hk))
    rcases hk with (hk | hk) | hk
    ·exact .inl hk
    ·have := HR3.o.1.lt;have := HRC.o;have := HPP.o;exact .inr (by omega)
    ·exact absurd hk (zd.has_none k))
   clear HWw3 HCq;have f0 := HR3.o.2 0;have f1 := HR3.o.2 1;have f2 := HR3.o.2 2;have HBR9 := Hi HR3.o.1;have d0 := HBR9.o.c0;have d1 := HBR9.o.c1;have d2 := HBR9.o.c2;obtain ⟨w9, HW9⟩ : ∃ w9, Hid (w9 = ((w3.setCell ⟨r, 0, none⟩ (.slice none 0 0)).setCell ⟨r, 1, none⟩ (.slice none 0 0)).setCell ⟨r, 2, none⟩ (.slice none 0 0)) := Hy;have HS9 : Hid (w9 = zC w3 r zd.none_ Nd.empty) := Hi HW9.o;have HX9 : Hid (zb w9 r zd.none_ Nd.empty) := Hi (by rw [HS9.o]; exact zK HBR9.o);have HP9 : Hid (xi O w0 K w P D n firm R (.returned (.tuple #[ndV zd.none_ Nd.empty, .iface tt xx])) w9) := Hi (by
    rw [HS9.o];have hpl : w.1.size <= p /\ w.1.size <= r /\ p < w1.1.size /\ r < w1.1.size /\ w1.1.size = w.1.size + 2 := by rw [HRC.o, HPP.o, HB1.o.2]; omega
    exact HO3.o.ret H (zg.of_below (HB1.o.1.trans (HB13.o.mono HB1.o.1.size)) HTH.o) HTH.o (fun k hk => .inl hk) (.inr rfl) HR3.o.1.lt hpl.2.1 hpl.2.2.2.1 HW0.o HL.o.low)
   go_wp2_with fail;rw [<- HW9.o];exact bodyPost_ret (zv Tryz.ndProg rfl _ _ r zd.none_ Nd.empty (.iface tt xx) rfl rfl HX9.o) rfl HP9.o
  | ok x =>
   have HRT := Hi (xY hlm);have HG0 : Hid (R = if x.kids.length = 0 then (.ok (jv x key val), S) else match kK n f S (x.kids.getD (yu x key) 0) key val with
    | (.error c, S1) => (.error c, S1)
    | (.ok kid, S1) => zQ n S1 x (yu x key) 1 kid) := Hi (by
    rw [HRR.o];show (match yI S i (12 - f : Int) with | .error c => (Except.error c, S) | .ok x => _) = _;rw [<- HLV.o, hlm];rfl)
   rw [hlm] at HLD;clear hlm HRR
   go_enter Tryz.func68, Tryz.ntmps68
   go_upto_region 1 with (fail)
   rw [<- HW1.o, <- HPP.o, <- HRC.o];clear HW1;go_wp2_with fail;refine HLD.o.mono ?_;rintro e w2 ⟨_, l, rfl, hn, hb⟩;have HN := Hi hn;have HB := Hi hb;clear hn hb HLD;obtain ⟨q, HCq⟩ : ∃ q, Hid (q = w2.1.size) := Hy;obtain ⟨w3, HWw3⟩ : ∃ w3, Hid (w3 = w2.alloc (.cells #[.slice l.A x.keys.length l.ca, .slice l.B x.vals.length l.cb, .slice l.C x.kids.length l.cc] 48)) := Hy;have HBw3 : Hid (Below w2.1.size w2 w3 /\ w3.1.size = w2.1.size + 1) := Hi (by rw [HWw3.o]; exact ⟨(Below.refl _ _).alloc (zdH _) _, by simp⟩);have HQ3 : Hid (zb w3 q l x) := Hi (by rw [HWw3.o, HCq.o]; exact zb.new _);go_upto_region 2 with (fail)
   rw [<- HWw3.o, <- HCq.o];have HB13 : Hid (Below w1.1.size w1 w3) := Hi (HB.o.trans (HBw3.o.1.mono HB.o.size));have HR3 : Hid (zb w3 r zd.none_ Nd.empty /\ ∀ j, w3.frozen? ⟨r, j, none⟩ = false) := Hi ⟨HX1.o.2.2.1.carry HB13.o HX1.o.2.2.1.lt, zw HB13.o HX1.o.2.2.1.lt HX1.o.2.2.2⟩;have HN3 : Hid (zl w3 w1.1.size l x) := Hi (HN.o.carry HBw3.o.1);have HLB : Hid (∀ g, l.has g -> w1.1.size <= g /\ g < w2.1.size) := Hi HN.o.lt;have HQL : Hid (w2.1.size <= q) := Hi (by rw [HCq.o]; exact zdH _);have HQ3L : Hid (q < w3.1.size) := Hi HQ3.o.lt;have HP3 : Hid (w3.cell? ⟨p, 0, none⟩ = some (.int .i64 key) /\ w3.cell? ⟨p, 1, none⟩ = some (.string val)) := Hi (by
    have hp : p < w1.1.size := by rw [HPP.o, HB1.o.2]; omega
    exact ⟨(HB13.o.cell (p := ⟨p, 0, none⟩) hp).trans HX1.o.1, (HB13.o.cell (p := ⟨p, 1, none⟩) hp).trans HX1.o.2.1⟩)
   have HB03 : Hid (Below w.1.size w w3) := Hi (HB1.o.1.trans (HB13.o.mono HB1.o.1.size));have HSZ3 : Hid (w2.1.size + 1 = w3.1.size /\ w1.1.size <= w2.1.size) := Hi ⟨HBw3.o.2.symm, HB.o.size⟩;clear HWw3 HCq HN HBw3 HB;go_wp2_with (with_reducible refine zc (o := ⟨some 25, _, _, _, _, _⟩) ?_);refine zf Tryz.ndProg (by rfl) _ rfl q rfl l x HQ3.o ?_;go_wp2_with fail;refine (wZ x).mono ?_;rintro e w4 ⟨rfl, hb⟩;have HB4 := Hi hb;have HQ4 := Hi (HQ3.o.carry hb HQ3.o.lt);have HR4 : Hid (zb w4 r zd.none_ Nd.empty /\ ∀ j, w4.frozen? ⟨r, j, none⟩ = false) := Hi ⟨HR3.o.1.carry hb HR3.o.1.lt, zw hb HR3.o.1.lt HR3.o.2⟩;have HN4 := Hi (HN3.o.carry hb);have HP4 : Hid (w4.cell? ⟨p, 0, none⟩ = some (.int .i64 key) /\ w4.cell? ⟨p, 1, none⟩ = some (.string val)) := Hi (by
    have hp : p < w3.1.size := zm HP3.o.1;exact ⟨(hb.cell (p := ⟨p, 0, none⟩) hp).trans HP3.o.1, (hb.cell (p := ⟨p, 1, none⟩) hp).trans HP3.o.2⟩)
   have HB04 : Hid (Below w.1.size w w4) := Hi (HB03.o.trans (hb.mono HB03.o.size));clear hb HQ3 HR3 HN3 HP3;by_cases hlf : x.kids.length = 0
   ·rw [decide_eq_true hlf];have HG1 : Hid (R = (.ok (jv x key val), S)) := Hi (by rw [HG0.o, if_pos hlf]);have HWI := Hi (zbN HN4.o (by have := HSZ3.o; have := HB4.o.size; omega) HRT.o hlf HKV.o.1 HKV.o.2);obtain ⟨xo, HXO⟩ : ∃ xo, Hid (xo = jv x key val) := Hy;rw [<- HXO.o] at HWI HG1;have p0 := HP4.o.1;have p1 := HP4.o.2;clear hlf HG0;go_wp2_with (with_reducible refine zc (o := ⟨some 27, _, _, _, _, _⟩) ?_);refine zf Tryz.ndProg (by rfl) _ rfl q rfl l x HQ4.o ?_;go_wp2_with fail;refine HWI.o.mono ?_;rintro e w5 ⟨lk, rfl, hn, ht, hbl⟩;have hpl : w.1.size <= p /\ w.1.size <= r /\ p < w1.1.size /\ r < w1.1.size /\ w1.1.size = w.1.size + 2 := by rw [HRC.o, HPP.o, HB1.o.2]; omega
    have hrb := ht.block r ⟨HR4.o.1.lt, fun h => by have := (HLB.o r h).1; omega⟩;have HR5 : Hid (zb w5 r zd.none_ Nd.empty /\ ∀ j, w5.frozen? ⟨r, j, none⟩ = false) := Hi ⟨HR4.o.1.keep hrb, fun j => (World.frozen?_of_block (w := w4) (a := ⟨r, j, none⟩) hrb).trans (HR4.o.2 j)⟩;have HO5 : Hid (kS O w0 (fun g => K g \/ g = r) w1.1.size P D n firm R lk xo .nilIface w5) := Hi (by
     refine ⟨?_, .inr ⟨by rw [HG1.o], rfl, hn⟩⟩;rw [HG1.o];have h4 := HL.o.grow H HB04.o;have hw0 := HW0.o;have hb4 := HB4.o.size;have hs3 := HSZ3.o;have hin : ∀ g, l.has g -> K g \/ (w.1.size <= g /\ g < w4.1.size) := fun g hg => .inr (by have := HLB.o g hg; omega)
     refine h4.off H ht (fun k hk => ⟨hin k hk, by have := (HLB.o k hk).1; omega⟩) (fun k hk => ?_) (fun k hk => ?_) fun k hk => .inl (.inl (HL.o.low k hk))
     ·rcases hk with (hk | hk) | hk
      ·exact .inl (.inl hk)
      ·have := HR4.o.1.lt;exact .inl (.inr (by omega))
      ·rcases hbl k hk with h | h
       ·exact .inl (hin k h)
       ·exact .inr h
     ·have hts := ht.size;rcases hk with (hk | hk) | hk
      ·have := HTH.o k hk; have := HB04.o.size; omega
      ·have := HR4.o.1.lt; omega
      ·exact (hn.lt k hk).2)
    have HK5 : Hid (zg K w w5) := Hi ((zg.of_below HB04.o HTH.o).trans ⟨ht.os, ht.tape, ht.output, ht.size, fun k hk => ht.block k ⟨by have := HTH.o k hk; have := HB04.o.size; omega, fun h => by have := HTH.o k hk; have := (HLB.o k h).1; omega⟩⟩);clear hn ht hbl hpl hrb HWI;have f0 := HR5.o.2 0;have f1 := HR5.o.2 1;have f2 := HR5.o.2 2;have HBR9 := Hi HR5.o.1;have d0 := HBR9.o.c0;have d1 := HBR9.o.c1;have d2 := HBR9.o.c2;obtain ⟨w9, HW9⟩ : ∃ w9, Hid (w9 = ((w5.setCell ⟨r, 0, none⟩ (.slice lk.A xo.keys.length lk.ca)).setCell ⟨r, 1, none⟩ (.slice lk.B xo.vals.length lk.cb)).setCell ⟨r, 2, none⟩ (.slice lk.C xo.kids.length lk.cc)) := Hy;have HS9 : Hid (w9 = zC w5 r lk xo) := Hi HW9.o;have HX9 : Hid (zb w9 r lk xo) := Hi (by rw [HS9.o]; exact zK HBR9.o);have HP9 : Hid (xi O w0 K w P D n firm R (.returned (.tuple #[ndV lk xo, .nilIface])) w9) := Hi (by
     rw [HS9.o];have hpl : w.1.size <= p /\ w.1.size <= r /\ p < w1.1.size /\ r < w1.1.size /\ w1.1.size = w.1.size + 2 := by rw [HRC.o, HPP.o, HB1.o.2]; omega
     exact HO5.o.ret H HK5.o HTH.o (fun k hk => .inl hk) (.inr rfl) HR5.o.1.lt hpl.2.1 hpl.2.2.2.1 HW0.o HL.o.low)
    go_wp2_with fail;rw [<- HW9.o];exact bodyPost_ret (zv Tryz.ndProg rfl _ _ r lk xo (.nilIface) rfl rfl HX9.o) rfl HP9.o
   ·rw [decide_eq_false hlf];have HNE := Hi hlf;have HKL := Hi (kD HRT.o hlf key);obtain ⟨k, HK⟩ : ∃ k, Hid (k = yu x key) := Hy;obtain ⟨z, HZ⟩ : ∃ z, Hid (z = x.kids.getD k 0) := Hy;obtain ⟨RK, HRK⟩ : ∃ RK, Hid (RK = kK n f S z key val) := Hy;have HG1 : Hid (R = match (generalizing := false) RK with
     | (.error c, S1) => (.error c, S1)
     | (.ok kid, S1) => zQ n S1 x k 1 kid) := Hi (by rw [HG0.o, if_neg hlf, HRK.o, HZ.o, HK.o])
    have HKA := Hi (Yh HN4.o.is key);rw [<- HK.o] at HKL HKA;obtain ⟨C, HC0, hc⟩ := yw HN4.o.is.kids (i := k) HKL.o;rw [show x.kids[k]'HKL.out = z by rw [HZ.o, List.getD_eq_getElem?_getD, List.getElem?_eq_getElem HKL.o]; rfl] at hc;have HCC := Hi HC0;have HCL := Hi hc;have p0 := HP4.o.1;clear hlf HG0 HC0 hc;go_wp2_with (with_reducible refine zc (o := ⟨some 30, _, _, _, _, _⟩) ?_);refine zf Tryz.ndProg (by rfl) _ rfl q rfl l x HQ4.o ?_;go_wp2_with fail;refine HKA.o.mono ?_;rintro e w5 ⟨rfl, hb⟩;have hbl : C.block < w4.1.size := by have := zm HCL.o; rwa [yH] at this
    have HB05 : Hid (Below w.1.size w w5) := Hi (HB04.o.trans (hb.mono HB04.o.size));have HSZ5 : Hid (w3.1.size <= w5.1.size) := Hi (zd6 HB4.o.size hb.size);have HR5 : Hid (zb w5 r zd.none_ Nd.empty /\ ∀ j, w5.frozen? ⟨r, j, none⟩ = false) := Hi ⟨HR4.o.1.carry hb HR4.o.1.lt, zw hb HR4.o.1.lt HR4.o.2⟩;have HN5 := Hi (HN4.o.carry hb);have HS5 : Hid (zb w5 q l x /\ w5.cell? ⟨p, 0, none⟩ = some (.int .i64 key) /\ w5.cell? ⟨p, 1, none⟩ = some (.string val) /\ w5.cell? (C.add k) = some (.int .i64 z)) := Hi (by
     have hp : p < w4.1.size := zm HP4.o.1;exact ⟨HQ4.o.carry hb HQ4.o.lt, (hb.cell (p := ⟨p, 0, none⟩) hp).trans HP4.o.1, (hb.cell (p := ⟨p, 1, none⟩) hp).trans HP4.o.2, (hb.cell (p := C.add k) (by rw [yH]; exact hbl)).trans HCL.o⟩)
    have hkl : (k : Int) < (x.kids.length : Int) := by have := HKL.o; omega
    have hlw := HLW2.o;have hlw2 := HLW.o;clear hb hbl HCL HP4 HN4 HR4 HQ4 HKA p0 HB04;go_upto_region 7 with (fail)
    refine wp_region_held (S := fun w9 => zb w9 q l x /\ w9.cell? ⟨p, 0, none⟩ = some (.int .i64 key) /\ w9.cell? ⟨p, 1, none⟩ = some (.string val) /\ w9.cell? (C.add k) = some (.int .i64 z)) (by kernel_rfl) ?_;change wpAnyH _ _ _ _ _ _ _ _ w5.drew;obtain ⟨wa, HWA⟩ : ∃ wa, Hid (wa = w5.drew) := Hy;rw [<- HWA.o];have hdr : Below w5.1.size w5 wa := by rw [HWA.o]; exact (Below.refl _ _).drew
    have HBA : Hid (Below w.1.size w wa /\ w3.1.size <= wa.1.size) := Hi ⟨HB05.o.trans (hdr.mono HB05.o.size), zd6 HSZ5.o hdr.size⟩;have HRA : Hid (zb wa r zd.none_ Nd.empty /\ ∀ j, wa.frozen? ⟨r, j, none⟩ = false) := Hi ⟨HR5.o.1.carry hdr HR5.o.1.lt, zw hdr HR5.o.1.lt HR5.o.2⟩;have HNA := Hi (HN5.o.carry hdr);have hS : zb wa q l x /\ wa.cell? ⟨p, 0, none⟩ = some (.int .i64 key) /\ wa.cell? ⟨p, 1, none⟩ = some (.string val) /\ wa.cell? (C.add k) = some (.int .i64 z) := ⟨HS5.o.1.carry hdr HS5.o.1.lt, (hdr.cell (p := ⟨p, 0, none⟩) (zm HS5.o.2.1)).trans HS5.o.2.1, (hdr.cell (p := ⟨p, 1, none⟩) (zm HS5.o.2.2.1)).trans HS5.o.2.2.1, (hdr.cell (p := C.add k) (zm HS5.o.2.2.2)).trans HS5.o.2.2.2⟩
    have HCW : Hid (∀ w', (zb w' q l x /\ w'.cell? ⟨p, 0, none⟩ = some (.int .i64 key) /\ w'.cell? ⟨p, 1, none⟩ = some (.string val) /\ w'.cell? (C.add k) = some (.int .i64 z)) -> w'.cell? ⟨q, 2, none⟩ = some (.slice (some C) x.kids.length l.cc)) := Hi fun w' h => by have := h.1.c2; rwa [HCC.o] at this
    have HCH : Hid (∀ wr, Below w.1.size w wr -> Calls Tryz.prog 68 #[ptr P, .int .i64 z, .int .i64 (13 - (f : Int)), .agg #[.int .i64 key, .string val]] wr fun e w2 => ∃ lk xk v, e = .returned (.tuple #[ndV lk xk, v]) /\ zg (fun k => K k \/ (w.1.size <= k /\ k < wr.1.size)) wr w2 /\ kS O w0 (fun k => K k \/ (w.1.size <= k /\ k < wr.1.size)) wr.1.size P D n firm RK lk xk v w2) := Hi fun wr hb => by
     have h1 := HL.o.grow H hb;have := HIH.o h1 z;rw [<- HRK.o] at this;exact this.mono fun e w2 h => Y6 H h h1.low
    have HQP : Hid (p < w1.1.size /\ r < w1.1.size /\ w.1.size <= r /\ w1.1.size <= q /\ q < w3.1.size /\ w1.1.size <= w2.1.size /\ w2.1.size <= w3.1.size /\ w.1.size <= w1.1.size) := Hi (by
     have h1 := HSZ3.o;have h2 := HQL.o;have h3 := HQ3L.o;rw [HRC.o, HPP.o, HB1.o.2];have := HB1.o.2;omega)
    clear HWA hdr HB05 HR5 HN5 HS5 HSZ5 HIH;refine za (i := 0) 35 (v := ptr P) rfl rfl hS ?_;simp only [Act.put, pU];refine za (i := 1) 36 (v := .pointer (some ⟨q, 2, none⟩)) rfl rfl hS ?_;simp only [Act.put, pU];refine zy (i := 2) 37 (v := .slice (some C) x.kids.length l.cc) rfl rfl (.inl ⟨by rfl, fun _ h => by have c0 := HCW.o _ h; go_simp⟩) hS ?_;simp only [Act.put, pU];refine za (i := 3) 38 (v := .int .i64 (k : Int)) rfl rfl hS ?_;simp only [Act.put, pU];refine za (i := 4) 39 (v := .pointer (some (C.add k))) rfl rfl hS ?_;simp only [Act.put, pU];refine zy (i := 5) 40 (v := .int .i64 z) rfl rfl (.inl ⟨by rfl, fun _ h => by have c0 := h.2.2.2; go_simp⟩) hS ?_;simp only [Act.put, pU];refine za (i := 6) 41 (v := .int .i64 lv) rfl rfl hS ?_;simp only [Act.put, pU];refine za (i := 7) 42 (v := .int .i64 (13 - (f : Int))) rfl rfl hS ?_;simp only [Act.put, pU];refine zy (i := 8) 43 (v := .agg #[.int .i64 key, .string val]) rfl rfl (.inl ⟨by rfl, fun _ h => by have c0 := h.2.1; have c1 := h.2.2.1; go_simp⟩) hS ?_;simp only [Act.put, pU];refine Kj (i := 9) (j := 13) (oi := ⟨some 44, _, _, _, _, _⟩) (oj := ⟨some 13, _, _, _, _, _⟩) rfl rfl (by kernel_rfl) (fun K0 hK => ?_) (fun K0 hK => ?_)
    case' refine_1 =>
     have HBX := Hi HBA.o.1;go_simp;refine (HCH.o wa HBA.o.1).mono ?_;rintro e wn ⟨lk, xk, v, rfl, hk, ho⟩;have hCb : w1.1.size <= C.block /\ C.block < w2.1.size := HLB.o _ (.inr (.inr ⟨C, HCC.o, rfl⟩));have hqp := HQP.o;have hba := HBA.o.2;have hbp := hk.block p (.inr ⟨by rw [HPP.o]; exact zdH _, by omega⟩);have hbq := hk.block q (.inr ⟨by omega, by omega⟩);have hbr := hk.block r (.inr ⟨by omega, by omega⟩);have hbC := hk.block C.block (.inr ⟨by omega, by omega⟩);have HMN : Hid (zl wn w1.1.size l x) := Hi (HNA.o.keep hk.size fun g hg => hk.block g (.inr (by have := HLB.o g hg; omega)));have HKN := Hi hk;have HON := Hi ho;have HXN : Hid (zb wn r zd.none_ Nd.empty /\ ∀ j, wn.frozen? ⟨r, j, none⟩ = false) := Hi ⟨HRA.o.1.keep hbr, fun j => (World.frozen?_of_block (w := wa) (a := ⟨r, j, none⟩) hbr).trans (HRA.o.2 j)⟩;have hS2 : zb wn q l x /\ wn.cell? ⟨p, 0, none⟩ = some (.int .i64 key) /\ wn.cell? ⟨p, 1, none⟩ = some (.string val) /\ wn.cell? (C.add k) = some (.int .i64 z) := ⟨hS.1.keep hbq, (World.cell?_of_block (w := wa) (a := ⟨p, 0, none⟩) hbp).trans hS.2.1, (World.cell?_of_block (w := wa) (a := ⟨p, 1, none⟩) hbp).trans hS.2.2.1, (World.cell?_of_block (w := wa) (a := C.add k) (by rw [yH]; exact hbC)).trans hS.2.2.2⟩
     clear hk ho hbp hbq hbr hbC hS hCb hqp hba;refine hK.out _ _ hS2 ?_;clear hK K0;have hS := hS2;clear hS2;refine za (i := 10) 34 (v := .tuple #[ndV lk xk, v]) rfl rfl hS ?_;simp only [Act.put, pU];refine za (i := 11) 45 (v := ndV lk xk) rfl rfl hS ?_;simp only [Act.put, pU];refine za (i := 12) 46 (v := v) rfl rfl hS ?_;simp only [Act.put, pU];refine zN (i := 13) (oi := ⟨some 13, _, _, _, _, _⟩) rfl (by kernel_rfl) (fun K0 hK => ?_);go_simp;obtain ⟨c, HCB⟩ : ∃ c, Hid (c = wn.1.size) := Hy;obtain ⟨wc, HWwc⟩ : ∃ wc, Hid (wc = wn.alloc (.cells #[.slice none 0 0, .slice none 0 0, .slice none 0 0] 48)) := Hy;rw [<- HWwc.o, <- HCB.o];have HBB : Hid (Below wn.1.size wn wc /\ wc.1.size = wn.1.size + 1) := Hi (by rw [HWwc.o]; exact ⟨(Below.refl _ _).alloc (zdH _) _, by simp⟩);have HXC : Hid (zb wc c zd.none_ Nd.empty /\ ∀ j, wc.frozen? ⟨c, j, none⟩ = false) := Hi (by rw [HWwc.o, HCB.o]; exact ⟨zb.new (l := zd.none_) (x := Nd.empty) _, zV _ _ _⟩);clear HWwc;have hS2 : zb wc q l x /\ wc.cell? ⟨p, 0, none⟩ = some (.int .i64 key) /\ wc.cell? ⟨p, 1, none⟩ = some (.string val) /\ wc.cell? (C.add k) = some (.int .i64 z) := ⟨hS.1.carry HBB.o.1 hS.1.lt, (HBB.o.1.cell (p := ⟨p, 0, none⟩) (zm hS.2.1)).trans hS.2.1, (HBB.o.1.cell (p := ⟨p, 1, none⟩) (zm hS.2.2.1)).trans hS.2.2.1, (HBB.o.1.cell (p := C.add k) (zm hS.2.2.2)).trans hS.2.2.2⟩
     have HQN : Hid (zb wn q l x) := Hi hS.1;clear hS;refine hK.out _ _ hS2 ?_;clear hK K0;have hS := hS2;clear hS2;refine zN (i := 14) (oi := ⟨none, _, _, _, _, _⟩) rfl (by kernel_rfl) (fun K0 hK => ?_);have HBC := Hi HXC.o.1;have f0 := HXC.o.2 0;have f1 := HXC.o.2 1;have f2 := HXC.o.2 2;have d0 := HBC.o.c0;have d1 := HBC.o.c1;have d2 := HBC.o.c2;obtain ⟨wz, HWY⟩ : ∃ wz, Hid (wz = ((wc.setCell ⟨c, 0, none⟩ (.slice lk.A xk.keys.length lk.ca)).setCell ⟨c, 1, none⟩ (.slice lk.B xk.vals.length lk.cb)).setCell ⟨c, 2, none⟩ (.slice lk.C xk.kids.length lk.cc)) := Hy;have HWZ : Hid (wz = zC wc c lk xk) := Hi HWY.o;go_simp;rw [<- HWY.o];clear d0 d1 d2 f0 f1 f2;have HSC : Hid (PuS O w0 K w P D n firm q r c w1.1.size l x RK lk xk v wz) := Hi (by
      have hqp := HQP.o;have hsz := HKN.o.size;have hsb := HBB.o.2;have hcb := HCB.o;have hba := HBA.o.1.size;have hba2 := HBA.o.2;have hkn : zg K w wn := (zg.of_below HBX.o HTH.o).trans (HKN.o.less8 fun k hk => .inl hk);refine PuS.make H HQN.o HXN.o.1 HXN.o.2 HMN.o hkn HON.o ⟨by rw [HWZ.o]; exact HBB.o.1.os, by rw [HWZ.o]; exact HBB.o.1.tape, by rw [HWZ.o]; exact HBB.o.1.output, by rw [HWZ.o, zM]; exact HBB.o.1.size, fun k hk => by rw [HWZ.o, zj hk.2]; exact HBB.o.1.block k hk.1⟩ (by rw [HWZ.o]; exact zK HXC.o.1) (fun h => by omega) (fun k hk => ?_) (by omega) (by omega) (fun h => by have := HLB.o c h; omega) (by omega) (by omega) (by omega) (fun g hg => by have := HLB.o g hg; omega) HTH.o HW0.o HL.o.low;rcases hk with hk | hk | hk
      ·exact .inl hk
      ·exact .inr ⟨by omega, by omega⟩
      ·exact .inr (by have := HLB.o k hk; omega))
     have hCb : w1.1.size <= C.block /\ C.block < w2.1.size := HLB.o _ (.inr (.inr ⟨C, HCC.o, rfl⟩));have hqp := HQP.o;have hba := HBA.o.2;have hcb := HCB.o;have hsb := HBB.o.2;have hkn := HKN.o.size;have hbq : wz.1[q]? = wc.1[q]? := by rw [HWZ.o]; exact zj (by omega)
     have hbp : wz.1[p]? = wc.1[p]? := by rw [HWZ.o]; exact zj (by omega)
     have hbC : wz.1[C.block]? = wc.1[C.block]? := by rw [HWZ.o]; exact zj (by omega)
     have hS2 : zb wz q l x /\ wz.cell? ⟨p, 0, none⟩ = some (.int .i64 key) /\ wz.cell? ⟨p, 1, none⟩ = some (.string val) /\ wz.cell? (C.add k) = some (.int .i64 z) := ⟨hS.1.keep hbq, (World.cell?_of_block (w := wc) (a := ⟨p, 0, none⟩) hbp).trans hS.2.1, (World.cell?_of_block (w := wc) (a := ⟨p, 1, none⟩) hbp).trans hS.2.2.1, (World.cell?_of_block (w := wc) (a := C.add k) (by rw [yH]; exact hbC)).trans hS.2.2.2⟩
     clear hS hbp hbq hbC hCb hqp hba hcb hsb hkn;refine hK.out _ _ hS2 ?_;clear hK K0;have hS := hS2;clear hS2;refine za (i := 15) 11 (v := v) rfl rfl hS ?_;simp only [Act.put, pU];refine wpAnyH_done (by kernel_rfl) ?_ _
    case' refine_2 =>
     go_simp;obtain ⟨c, HCB⟩ : ∃ c, Hid (c = wa.1.size) := Hy;obtain ⟨wb, HWwb⟩ : ∃ wb, Hid (wb = wa.alloc (.cells #[.slice none 0 0, .slice none 0 0, .slice none 0 0] 48)) := Hy;rw [<- HWwb.o, <- HCB.o];have HBB : Hid (Below wa.1.size wa wb /\ wb.1.size = wa.1.size + 1) := Hi (by rw [HWwb.o]; exact ⟨(Below.refl _ _).alloc (zdH _) _, by simp⟩);have HXC : Hid (zb wb c zd.none_ Nd.empty /\ ∀ j, wb.frozen? ⟨c, j, none⟩ = false) := Hi (by rw [HWwb.o, HCB.o]; exact ⟨zb.new (l := zd.none_) (x := Nd.empty) _, zV _ _ _⟩);clear HWwb;have HBX : Hid (Below w.1.size w wb) := Hi (HBA.o.1.trans (HBB.o.1.mono HBA.o.1.size));have HXB : Hid (zb wb r zd.none_ Nd.empty /\ ∀ j, wb.frozen? ⟨r, j, none⟩ = false) := Hi ⟨HRA.o.1.carry HBB.o.1 HRA.o.1.lt, zw HBB.o.1 HRA.o.1.lt HRA.o.2⟩;have HNB := Hi (HNA.o.carry HBB.o.1);have hS2 : zb wb q l x /\ wb.cell? ⟨p, 0, none⟩ = some (.int .i64 key) /\ wb.cell? ⟨p, 1, none⟩ = some (.string val) /\ wb.cell? (C.add k) = some (.int .i64 z) := ⟨hS.1.carry HBB.o.1 hS.1.lt, (HBB.o.1.cell (p := ⟨p, 0, none⟩) (zm hS.2.1)).trans hS.2.1, (HBB.o.1.cell (p := ⟨p, 1, none⟩) (zm hS.2.2.1)).trans hS.2.2.1, (HBB.o.1.cell (p := C.add k) (zm hS.2.2.2)).trans hS.2.2.2⟩
     clear hS;refine hK.out _ _ hS2 ?_;clear hK K0;have hS := hS2;clear hS2;refine zN (i := 9) (oi := ⟨some 44, _, _, _, _, _⟩) rfl (by kernel_rfl) (fun K0 hK => ?_);go_simp;refine (HCH.o wb HBX.o).mono ?_;rintro e wn ⟨lk, xk, v, rfl, hk, ho⟩;have hCb : w1.1.size <= C.block /\ C.block < w2.1.size := HLB.o _ (.inr (.inr ⟨C, HCC.o, rfl⟩));have hqp := HQP.o;have hsb := HBB.o.2;have hcb := HCB.o;have hba := HBA.o.2;have hbp := hk.block p (.inr ⟨by rw [HPP.o]; exact zdH _, by omega⟩);have hbq := hk.block q (.inr ⟨by omega, by omega⟩);have hbr := hk.block r (.inr ⟨by omega, by omega⟩);have hbC := hk.block C.block (.inr ⟨by omega, by omega⟩);have hbc := hk.block c (.inr ⟨by omega, by omega⟩);have HMN : Hid (zl wn w1.1.size l x) := Hi (HNB.o.keep hk.size fun g hg => hk.block g (.inr (by have := HLB.o g hg; omega)));have HKN := Hi hk;have HON := Hi ho;have HXN : Hid (zb wn r zd.none_ Nd.empty /\ ∀ j, wn.frozen? ⟨r, j, none⟩ = false) := Hi ⟨HXB.o.1.keep hbr, fun j => (World.frozen?_of_block (w := wb) (a := ⟨r, j, none⟩) hbr).trans (HXB.o.2 j)⟩;have HXC : Hid (zb wn c zd.none_ Nd.empty /\ ∀ j, wn.frozen? ⟨c, j, none⟩ = false) := Hi ⟨HXC.o.1.keep hbc, fun j => (World.frozen?_of_block (w := wb) (a := ⟨c, j, none⟩) hbc).trans (HXC.o.2 j)⟩;have hS2 : zb wn q l x /\ wn.cell? ⟨p, 0, none⟩ = some (.int .i64 key) /\ wn.cell? ⟨p, 1, none⟩ = some (.string val) /\ wn.cell? (C.add k) = some (.int .i64 z) := ⟨hS.1.keep hbq, (World.cell?_of_block (w := wb) (a := ⟨p, 0, none⟩) hbp).trans hS.2.1, (World.cell?_of_block (w := wb) (a := ⟨p, 1, none⟩) hbp).trans hS.2.2.1, (World.cell?_of_block (w := wb) (a := C.add k) (by rw [yH]; exact hbC)).trans hS.2.2.2⟩
     have HQN : Hid (zb wn q l x) := Hi hS2.1;clear hk ho hbp hbq hbr hbC hbc hS hsb hcb hba hCb hqp;refine hK.out _ _ hS2 ?_;clear hK K0;have hS := hS2;clear hS2;refine za (i := 10) 34 (v := .tuple #[ndV lk xk, v]) rfl rfl hS ?_;simp only [Act.put, pU];refine za (i := 11) 45 (v := ndV lk xk) rfl rfl hS ?_;simp only [Act.put, pU];refine za (i := 12) 46 (v := v) rfl rfl hS ?_;simp only [Act.put, pU];refine zN (i := 14) (oi := ⟨none, _, _, _, _, _⟩) rfl (by kernel_rfl) (fun K0 hK => ?_);have HBC := Hi HXC.o.1;have f0 := HXC.o.2 0;have f1 := HXC.o.2 1;have f2 := HXC.o.2 2;have d0 := HBC.o.c0;have d1 := HBC.o.c1;have d2 := HBC.o.c2;obtain ⟨wz, HWY⟩ : ∃ wz, Hid (wz = ((wn.setCell ⟨c, 0, none⟩ (.slice lk.A xk.keys.length lk.ca)).setCell ⟨c, 1, none⟩ (.slice lk.B xk.vals.length lk.cb)).setCell ⟨c, 2, none⟩ (.slice lk.C xk.kids.length lk.cc)) := Hy;have HWZ : Hid (wz = zC wn c lk xk) := Hi HWY.o;go_simp;rw [<- HWY.o];clear d0 d1 d2 f0 f1 f2;have HSC : Hid (PuS O w0 K w P D n firm q r c w1.1.size l x RK lk xk v wz) := Hi (by
      have hqp := HQP.o;have hsz := HKN.o.size;have hsb := HBB.o.2;have hcb := HCB.o;have hba := HBA.o.1.size;have hba2 := HBA.o.2;have hkn : zg K w wn := (zg.of_below HBX.o HTH.o).trans (HKN.o.less8 fun k hk => .inl hk);refine PuS.make H HQN.o HXN.o.1 HXN.o.2 HMN.o hkn HON.o ⟨by rw [HWZ.o]; rfl, by rw [HWZ.o]; rfl, by rw [HWZ.o]; rfl, by rw [HWZ.o, zM]; exact zdH _, fun k hk => by rw [HWZ.o]; exact zj hk.2⟩ (by rw [HWZ.o]; exact zK HXC.o.1) (fun h => ⟨.inr ⟨by omega, by omega⟩, by omega⟩) (fun k hk => ?_) (by omega) (by omega) (fun h => by have := HLB.o c h; omega) (by omega) (by omega) (by omega) (fun g hg => by have := HLB.o g hg; omega) HTH.o HW0.o HL.o.low;rcases hk with hk | hk | hk
      ·exact .inl hk
      ·exact .inr ⟨by omega, by omega⟩
      ·exact .inr (by have := HLB.o k hk; omega))
     have hCb : w1.1.size <= C.block /\ C.block < w2.1.size := HLB.o _ (.inr (.inr ⟨C, HCC.o, rfl⟩));have hqp := HQP.o;have hba := HBA.o.2;have hcb := HCB.o;have hsb := HBB.o.2;have hkn := HKN.o.size;have hbq : wz.1[q]? = wn.1[q]? := by rw [HWZ.o]; exact zj (by omega)
     have hbp : wz.1[p]? = wn.1[p]? := by rw [HWZ.o]; exact zj (by omega)
     have hbC : wz.1[C.block]? = wn.1[C.block]? := by rw [HWZ.o]; exact zj (by omega)
     have hS2 : zb wz q l x /\ wz.cell? ⟨p, 0, none⟩ = some (.int .i64 key) /\ wz.cell? ⟨p, 1, none⟩ = some (.string val) /\ wz.cell? (C.add k) = some (.int .i64 z) := ⟨hS.1.keep hbq, (World.cell?_of_block (w := wn) (a := ⟨p, 0, none⟩) hbp).trans hS.2.1, (World.cell?_of_block (w := wn) (a := ⟨p, 1, none⟩) hbp).trans hS.2.2.1, (World.cell?_of_block (w := wn) (a := C.add k) (by rw [yH]; exact hbC)).trans hS.2.2.2⟩
     clear hS hbp hbq hbC hCb hqp hba hcb hsb hkn;refine hK.out _ _ hS2 ?_;clear hK K0;have hS := hS2;clear hS2;refine za (i := 15) 11 (v := v) rfl rfl hS ?_;simp only [Act.put, pU];refine wpAnyH_done (by kernel_rfl) ?_ _
    all_goals
     clear HXN HKN HON HXC HCB HBB HBA HCH HWZ HWY HMN HQN HBX HNA HRA hS;obtain ⟨lo, hll, hrl, hbl, hout⟩ := HSC.o.out;have HLO := Hi (And.intro hll (And.intro hrl hbl));have HOU := Hi hout;obtain ⟨hlaw, hcase⟩ := hout;obtain ⟨R1, S2⟩ := RK;rcases hcase with ⟨cd, e1, e2, rfl, rfl, e5⟩ | ⟨e1, rfl, e3⟩
     ·obtain rfl : R1 = .error cd := e1;have HR9 : Hid (R = (.error cd, S2)) := Hi HG1.o;obtain ⟨tt, xx, rfl⟩ := e5.some e2;clear e2 e5 hlaw hll hrl hbl;have f0 := HSC.o.fr 0;have f1 := HSC.o.fr 1;have f2 := HSC.o.fr 2;have HBR9 := Hi HSC.o.br;have d0 := HBR9.o.c0;have d1 := HBR9.o.c1;have d2 := HBR9.o.c2;obtain ⟨w9, HW9⟩ : ∃ w9, Hid (w9 = ((wz.setCell ⟨r, 0, none⟩ (.slice none 0 0)).setCell ⟨r, 1, none⟩ (.slice none 0 0)).setCell ⟨r, 2, none⟩ (.slice none 0 0)) := Hy;have HS9 : Hid (w9 = zC wz r zd.none_ Nd.empty) := Hi HW9.o;have HX9 : Hid (zb w9 r zd.none_ Nd.empty) := Hi (by rw [HS9.o]; exact zK HBR9.o);have HP9 : Hid (xi O w0 K w P D n firm R (.returned (.tuple #[ndV zd.none_ Nd.empty, .iface tt xx])) w9) := Hi (by
       rw [HS9.o];have hpl : w.1.size <= p /\ w.1.size <= r /\ p < w1.1.size /\ r < w1.1.size /\ w1.1.size = w.1.size + 2 := by rw [HRC.o, HPP.o, HB1.o.2]; omega
       exact by rw [HR9.o]; exact HOU.o.ret H HSC.o.kept HTH.o (fun k hk => .inl hk) (.inr (.inl rfl)) HSC.o.br.lt hpl.2.1 HLO.o.2.1 HW0.o HL.o.low)
      go_wp2_with fail;rw [<- HW9.o];exact bodyPost_ret (zv Tryz.ndProg rfl _ _ r zd.none_ Nd.empty (.iface tt xx) rfl rfl HX9.o) rfl HP9.o
     ·obtain rfl : R1 = .ok xk := e1;have HR9 : Hid (R = zQ n S2 x k 1 xk) := Hi HG1.o;have HRP := Hi (kX H (at_ := k) (many := 1) hlaw hg (by
        have h1 := (jq f HOK.o z key val).soft;rw [<- HRK.o] at h1;have h2 : S2.d.soft.length <= S.d.soft.length + 2 * f := h1;have := HSS.o;omega) HSC.o.mi (fun g hg => .inl (.inr (.inr hg))) HRT.o HNE.o e3 (fun g hg => .inr hg) (XM f HRK.o.symm) (fun g h1 h2 => by have := hll g h1; have := (e3.lt g h2).1; omega)
        (by have := HSC.o.mi.lt; have := HSC.o.br.lt; have := HSC.o.kept.size; have := hlaw.there; exact Nat.le_of_lt (Nat.lt_of_le_of_lt HQP.o.2.2.2.1 HSC.o.bq.lt)) (zd6 HW0.o HQP.o.2.2.2.2.2.2.2) (zdH _) (by decide) HKL.o)
      rw [<- HR9.o, show ((1 : Nat) : Int) = 1 from rfl] at HRP;have HBZ : Hid (w1.1.size <= wz.1.size) := Hi (Nat.le_of_lt (Nat.lt_of_le_of_lt HQP.o.2.2.2.1 HSC.o.bq.lt));clear e3 hlaw hll hrl hbl;go_wp2_with (with_reducible refine zc (o := ⟨some 52, _, _, _, _, _⟩) ?_);refine zf Tryz.ndProg (by rfl) _ rfl q rfl l x HSC.o.bq ?_;go_wp2_with (with_reducible refine zc (o := ⟨some 54, _, _, _, _, _⟩) ?_);refine zf Tryz.ndProg (by rfl) _ rfl c rfl lk xk HSC.o.bc ?_;go_wp2_with fail;refine HRP.o.mono ?_;rintro e w5 hrp;obtain ⟨l5, x5, v5, rfl, hk5, ho5⟩ := V9 H hrp HBZ.o (fun k hk => .inl (.inl (HL.o.low k hk)));have hpl : w.1.size <= p /\ w.1.size <= r /\ p < w1.1.size /\ r < w1.1.size /\ w1.1.size = w.1.size + 2 := by rw [HRC.o, HPP.o, HB1.o.2]; omega
      have hrb := hk5.block r ⟨.inl (.inr (.inl rfl)), fun h => by have := (HLB.o r h).1; omega⟩;have HR5 : Hid (zb w5 r zd.none_ Nd.empty /\ ∀ j, w5.frozen? ⟨r, j, none⟩ = false) := Hi ⟨HSC.o.br.keep hrb, fun j => (World.frozen?_of_block (w := wz) (a := ⟨r, j, none⟩) hrb).trans (HSC.o.fr j)⟩;have HK5 : Hid (zg K w w5) := Hi (HSC.o.kept.trans (hk5.less8 fun k hk => ⟨.inl (.inl hk), fun h => by have := HTH.o k hk; have := (HLB.o k h).1; omega⟩));have HO5 := Hi ho5;clear hrp hk5 ho5 hpl hrb HRP;have f0 := HR5.o.2 0;have f1 := HR5.o.2 1;have f2 := HR5.o.2 2;have HBR9 := Hi HR5.o.1;have d0 := HBR9.o.c0;have d1 := HBR9.o.c1;have d2 := HBR9.o.c2;obtain ⟨w9, HW9⟩ : ∃ w9, Hid (w9 = ((w5.setCell ⟨r, 0, none⟩ (.slice l5.A x5.keys.length l5.ca)).setCell ⟨r, 1, none⟩ (.slice l5.B x5.vals.length l5.cb)).setCell ⟨r, 2, none⟩ (.slice l5.C x5.kids.length l5.cc)) := Hy;have HS9 : Hid (w9 = zC w5 r l5 x5) := Hi HW9.o;have HX9 : Hid (zb w9 r l5 x5) := Hi (by rw [HS9.o]; exact zK HBR9.o);have HP9 : Hid (xi O w0 K w P D n firm R (.returned (.tuple #[ndV l5 x5, v5])) w9) := Hi (by
       rw [HS9.o];have hpl : w.1.size <= p /\ w.1.size <= r /\ p < w1.1.size /\ r < w1.1.size /\ w1.1.size = w.1.size + 2 := by rw [HRC.o, HPP.o, HB1.o.2]; omega
       exact HO5.o.ret H HK5.o HTH.o (fun k hk => .inl (.inl hk)) (.inl (.inr (.inl rfl))) HR5.o.1.lt hpl.2.1 hpl.2.2.2.1 HW0.o HL.o.low)
      go_wp2_with fail;rw [<- HW9.o];exact bodyPost_ret (zv Tryz.ndProg rfl _ _ r l5 x5 (v5) rfl rfl HX9.o) rfl HP9.o
end
end
section
open Go.RowKit
theorem zbq {w : World} (key : Int) (val : ByteArray) (hk : -9223372036854775808 <= key /\ key <= 9223372036854775807) (hv : val.size <= maxLen) :
  xH ((w.alloc (.cells #[.int .i64 key] 3)).alloc (.cells #[.string val] 9)) ⟨some ⟨w.1.size, 0, none⟩, some ⟨w.1.size + 1, 0, none⟩, none, 1, 1, 0⟩ ⟨[key], [val], []⟩ := by
 refine ⟨fun _ => ⟨_, rfl, by simp; omega, fun i z hz => ?_⟩, ⟨rfl, fun _ => ⟨_, rfl, by simp, fun i z hz => ?_⟩⟩, Nums.none_ _ _ _, by show 1 <= maxLen; unfold maxLen; decide, by show 1 <= maxLen; unfold maxLen; decide, Nat.zero_le _, fun z hz => ?_, fun v hv2 => ?_, fun z hz => by cases hz⟩
 ·cases i with
  | zero =>
   simp only [zew, Option.some.injEq] at hz;subst hz;rw [Addr.add_mid];refine (World.cell?_of_block (w := w.alloc (.cells #[.int .i64 key] 3)) ?_).trans (by simp);exact ((Below.refl _ _).alloc (zdH _) _).block _ (by simp)
  | succ i => simp at hz
 ·cases i with
  | zero =>
   simp only [zew, Option.some.injEq] at hz;subst hz;rw [Addr.add_mid];have : w.1.size + 1 = (w.alloc (.cells #[.int .i64 key] 3)).1.size := by simp
   rw [this];simp
  | succ i => simp at hz
 ·rw [List.mem_singleton.1 hz]; exact hk
 ·rw [List.mem_singleton.1 hv2]; exact hv
theorem Zx.is {O : yq} {w0 : World} {L : Nat -> Prop} {lo : Nat} {P D n : Nat} {firm : Nat -> List UInt8} {l2 : zd} {R : Except Int (List Int × List Int) × TS} {lr : zd} {xr : Nd} {v : Value} {wr : World} (h : Zx O w0 L lo P D n firm l2 R lr xr v wr) {bk ks : List Int} {S1 : TS} (hR : R = (.ok (bk, ks), S1)) (hb : bk.length <= 1) (hk : ks.length <= 2) (hbw : ∀ z ∈ bk, -9223372036854775808 <= z /\ z <= 9223372036854775807) (hkw : ∀ z ∈ ks, 0 <= z /\ z < 240) :
  xH wr lr xr /\ v = .nilIface /\ xr = ⟨bk, [], ks⟩ /\ zX O w0 (fun g => L g \/ lr.has g) wr P D n S1 firm := by
 obtain ⟨h1, h2⟩ := h;rw [hR] at h1 h2;rcases h2 with ⟨cd, e1, _⟩ | ⟨bk2, ks2, e1, e2, e3, e4, e5, e6, _⟩
 ·cases e1
 ·simp only [Except.ok.injEq, Prod.mk.injEq] at e1;obtain ⟨rfl, rfl⟩ := e1;refine ⟨?_, e2, e3, h1⟩;obtain ⟨A, c, e, hn⟩ := wT e6;simp only [Value.slice.injEq] at e;rw [<- e.1] at hn;rw [e3];exact ⟨e4, by rw [e5]; exact Strs.none_ _ _, hn, by show bk.length <= maxLen; unfold maxLen; omega, Nat.zero_le _, by show ks.length <= maxLen; unfold maxLen; omega, hbw, (fun v hv => by cases hv), fun z hz => by have := hkw z hz; omega⟩
section
variable {O : yq} (H : yA O)
include H
theorem JK {w0 : World} {K : Nat -> Prop} {w : World} {P D n : Nat} {S : TS} {firm : Nat -> List UInt8} (hl : zX O w0 K w P D n S firm) (hg : yO w0) (hs : S.d.soft.length <= 99900) (root : Int) {key : Int} (hk : -9223372036854775808 <= key /\ key <= 9223372036854775807) {val : ByteArray} (hv : val.size <= maxLen) :
  Calls Tryz.prog 20 #[ptr P, .int .i64 root, .int .i64 key, .string val] w (Zr O w0 K w P D n firm (xb n S root key val)) := by
 obtain ⟨R, HRR⟩ : ∃ R, Hid (R = xb n S root key val) := Hy;have HL := Hi hl;have HTH : Hid (yd K w) := Hi hl.there;have HSS := Hi hs;rw [<- HRR.o];by_cases hbad : key < 0 \/ 4294967295 < key \/ val.size ≠ 12
 ·have HR9 : Hid (R = (.error 1, S)) := Hi (by rw [HRR.o]; unfold xb; rw [if_pos hbad]);have h1 : (decide (key < 0) = true) \/ (decide (key < 0) = false /\ decide (4294967295 < key) = true) \/ (decide (key < 0) = false /\ decide (4294967295 < key) = false /\ ((val.size : Int) != 12) = true) := by
   by_cases a1 : key < 0
   ·exact .inl (decide_eq_true a1)
   ·by_cases a2 : 4294967295 < key
    ·exact .inr (.inl ⟨decide_eq_false a1, decide_eq_true a2⟩)
    ·refine .inr (.inr ⟨decide_eq_false a1, decide_eq_false a2, ?_⟩);simp only [bne_iff_ne, ne_eq];omega
  clear hl hs hk hv hbad HRR;rcases h1 with h1 | ⟨h1, h2⟩ | ⟨h1, h2, h3⟩
  all_goals
   go_enter Tryz.func20, Tryz.ntmps20
   go_wp2_with fail;refine (xF 1 (by decide) _).mono ?_;rintro e w1 ⟨v, rfl, he, hb⟩;have HE := Hi he;have HB := Hi hb;clear he hb;go_wp2_with fail
   go_ret2
   rw [HR9.o];exact ⟨HL.o.carry H HB.o, zg.of_below HB.o HTH.o, by decide, _, rfl, HE.o⟩
 ·have h1 : decide (key < 0) = false := decide_eq_false (by omega);have h2 : decide (4294967295 < key) = false := decide_eq_false (by omega);have h3 : ((val.size : Int) != 12) = false := by simp; omega
  by_cases h0 : root = 0
  ·subst h0;have HR9 : Hid (R = xq n S ⟨[key], [val], []⟩) := Hi (by rw [HRR.o]; unfold xb; rw [if_neg hbad, if_pos rfl]);obtain ⟨w1, HW1⟩ : ∃ w1, Hid (w1 = (w.alloc (.cells #[.int .i64 key] 3)).alloc (.cells #[.string val] 9)) := Hy;have HB1 : Hid (Below w.1.size w w1) := Hi (by rw [HW1.o]; exact ((Below.refl _ _).alloc (zdH _) _).alloc (by simp) _);have HND := Hi (zbq (w := w) key val hk hv);rw [<- HW1.o] at HND;have HAD := Hi (W4 H (hl.carry H HB1.o) hg (by omega) HND.o);rw [<- HR9.o] at HAD;clear hl hs hk hv hbad HRR
   go_enter Tryz.func20, Tryz.ntmps20
   go_wp2_with fail;rw [<- HW1.o];refine HAD.o.mono ?_;rintro e w2 ⟨hlaw, hkept, hm⟩;have HO2 : Hid (∃ k v, e = .returned (.tuple #[.int .i64 k, v]) /\ Zr O w0 K w P D n firm R (.returned (.tuple #[.int .i64 k, v])) w2) := Hi (by
    have hk2 : zg K w w2 := (zg.of_below HB1.o HTH.o).trans hkept;unfold Zr;cases hR1 : R.1 with
    | error c =>
     rw [hR1] at hm;obtain ⟨h1, v, rfl, h3⟩ := hm;exact ⟨_, _, rfl, hlaw, hk2, h1, v, rfl, h3.mono HB1.o.size⟩
    | ok k =>
     rw [hR1] at hm;exact ⟨_, _, hm, hlaw, hk2, rfl⟩)
   obtain ⟨k, v, rfl, hp⟩ := HO2.o;have HP := Hi hp;clear hlaw hkept hm HO2 hp HAD HND HW1;go_wp2_with fail
   go_ret2
   exact HP.o
  ·obtain ⟨RK, HRK⟩ : ∃ RK, Hid (RK = kK n 12 S root key val) := Hy;have HR9 : Hid (R = match (generalizing := false) RK with
    | (.error c, S1) => (.error c, S1)
    | (.ok x, S1) => match yh n S1 x [root] with
     | (.error c, S2) => (.error c, S2)
     | (.ok (bk, ks), S2) => if bk.length = 0 then (.ok (ks.getD 0 0), S2)
      else match xq n S2 ⟨bk, [], ks⟩ with
       | (.error c, S3) => (.error c, S3)
       | (.ok k, S3) => match xB S3 k key with
        | .error c => (.error c, S3)
        | .ok _ => (.ok k, S3)) := Hi (by
    rw [HRR.o, HRK.o];unfold xb;rw [if_neg hbad, if_neg h0];rfl)
   have HPU := Hi (zcz H hg hk hv 12 (zdH _) hl (by omega) root);rw [show (13 : Int) - ((12 : Nat) : Int) = 1 from rfl, <- HRK.o] at HPU;have HST : Hid (RK.2.d.soft.length <= S.d.soft.length + 24) := Hi (by rw [HRK.o]; exact (jq 12 hl.inv root key val).soft);have HW0 : Hid (w0.1.size <= w.1.size) := Hi hl.below.size;have hz : (root == 0) = false := by simp [h0]
   clear hl hs hk hv hbad HRR
   go_enter Tryz.func20, Tryz.ntmps20
   go_wp2_with fail;refine HPU.o.mono ?_;rintro e w2 hpp;obtain ⟨lk, xk, v, rfl, hk2, ho⟩ := Y6 H hpp HL.o.low;have HK2 := Hi hk2;obtain ⟨R1, S1⟩ := RK;obtain ⟨hlaw, hcase⟩ := ho;have HLW := Hi hlaw;obtain ⟨q, HCq⟩ : ∃ q, Hid (q = w2.1.size) := Hy;obtain ⟨w3, HWw3⟩ : ∃ w3, Hid (w3 = w2.alloc (.cells #[.slice lk.A xk.keys.length lk.ca, .slice lk.B xk.vals.length lk.cb, .slice lk.C xk.kids.length lk.cc] 48)) := Hy;have HB3 : Hid (Below w2.1.size w2 w3 /\ w3.1.size = w2.1.size + 1) := Hi (by rw [HWw3.o]; exact ⟨(Below.refl _ _).alloc (zdH _) _, by simp⟩);have HQ3 : Hid (zb w3 q lk xk) := Hi (by rw [HWw3.o, HCq.o]; exact zb.new _);go_upto_region 6 with (fail)
   rw [<- HWw3.o, <- HCq.o];clear HWw3 HPU hpp hk2 hlaw;rcases hcase with ⟨cd, e1, e2, rfl, rfl, e5⟩ | ⟨e1, rfl, e3⟩
   ·obtain rfl : R1 = .error cd := e1;have HR8 : Hid (R = (.error cd, S1)) := Hi HR9.o;obtain ⟨tt, xx, rfl⟩ := e5.some e2;have HE := Hi (e5.below HB3.o.1);have HC0 := Hi e2;clear e2 e5;go_wp2_with fail
    go_ret2
    rw [HR8.o];exact ⟨(HLW.o.less H (fun k hk => .inl hk) HL.o.low).carry H HB3.o.1, HK2.o.trans (zg.of_below HB3.o.1 fun k hk => zd5 (HTH.o k hk) HK2.o.size), HC0.o, _, rfl, HE.o⟩
   ·obtain rfl : R1 = .ok xk := e1;obtain ⟨RC, HRC⟩ : ∃ RC, Hid (RC = yh n S1 xk [root]) := Hy;have HR8 : Hid (R = match (generalizing := false) RC with
     | (.error c, S2) => (.error c, S2)
     | (.ok (bk, ks), S2) => if bk.length = 0 then (.ok (ks.getD 0 0), S2)
      else match xq n S2 ⟨bk, [], ks⟩ with
       | (.error c, S3) => (.error c, S3)
       | (.ok k, S3) => match xB S3 k key with
        | .error c => (.error c, S3)
        | .ok _ => (.ok k, S3)) := Hi (by rw [HRC.o]; exact HR9.o)
    have HN2 := Hi e3;clear e3 HR9;go_wp2_with (with_reducible refine zc (o := ⟨some 53, _, _, _, _, _⟩) ?_);refine zf Tryz.ndProg (by rfl) _ rfl q rfl lk xk HQ3.o ?_;obtain ⟨g, HG⟩ : ∃ g, Hid (g = w3.1.size) := Hy;obtain ⟨w4, HW4⟩ : ∃ w4, Hid (w4 = w3.alloc (.cells #[.int .i64 root] 3)) := Hy;have HB4 : Hid (Below w2.1.size w2 w4 /\ w4.1.size = w2.1.size + 2) := Hi (by rw [HW4.o]; exact ⟨HB3.o.1.alloc HB3.o.1.size _, by simp [HB3.o.2]⟩);have HNU : Hid (Nums w4 .i64 (some ⟨g, 0, none⟩) [root]) := Hi (by
     rw [HW4.o, HG.o];refine fun _ => ⟨_, rfl, by simp, fun i z hz => ?_⟩
     cases i with
     | zero => simp only [zew, Option.some.injEq] at hz; subst hz; rw [Addr.add_mid]; simp
     | succ i => simp at hz)
    have HL4 := Hi (HLW.o.grow H HB4.o.1);have HCH := Hi (Ze H HL4.o hg (by have := HST.o; have h2 : S1.d.soft.length <= S.d.soft.length + 24 := this; have := HSS.o; omega) (HN2.o.carry HB4.o.1) (fun g hg => .inl (.inr hg)) (XM 12 HRK.o.symm) HNU.o (oc := 1) (fun a ha _ => .inr (by cases ha; show w2.1.size <= g /\ g < w4.1.size; have := HG.o; have := HB3.o.2; have := HB4.o.2; omega)) (by show 1 <= 2; decide));rw [<- HRC.o, show [root].length = 1 from rfl] at HCH;have HKX : Hid (∀ z ∈ xk.keys, -9223372036854775808 <= z /\ z <= 9223372036854775807) := Hi HN2.o.is.kw;go_wp2_with fail;rw [<- HW4.o, <- HG.o];refine HCH.o.mono ?_;rintro e w5 hcp;obtain ⟨lr, xr, v, rfl, hk5, ho5⟩ := Zf H hcp (fun k hk => .inl (.inl (HL.o.low k hk)));have HK5 : Hid (zg K w w5) := Hi (HK2.o.trans ((zg.of_below HB4.o.1 fun k hk => zd5 (HTH.o k hk) HK2.o.size).trans (hk5.less8 fun k hk => .inl (.inl hk))));have HO5 := Hi ho5;obtain ⟨c, HCc⟩ : ∃ c, Hid (c = w5.1.size) := Hy;obtain ⟨w6, HW6⟩ : ∃ w6, Hid (w6 = w5.alloc (.cells #[.slice lr.A xr.keys.length lr.ca, .slice lr.B xr.vals.length lr.cb, .slice lr.C xr.kids.length lr.cc] 48)) := Hy;have HB6 : Hid (Below w5.1.size w5 w6) := Hi (by rw [HW6.o]; exact (Below.refl _ _).alloc (zdH _) _);have HC6 : Hid (zb w6 c lr xr) := Hi (by rw [HW6.o, HCc.o]; exact zb.new _);have HK6 : Hid (zg K w w6) := Hi (HK5.o.trans (zg.of_below HB6.o fun k hk => zd5 (HTH.o k hk) HK5.o.size));have HSZ : Hid (w.1.size <= w4.1.size) := Hi (zd6 HK2.o.size HB4.o.1.size);go_upto_region 9 with (fail)
    rw [<- HW6.o, <- HCc.o];clear HW6 HCH hcp hk5 ho5 HW4 HNU HN2;obtain ⟨R2, S2⟩ := RC;have hcase := HO5.o.2;rcases hcase with ⟨cd, e1, e2, rfl, rfl, e5⟩ | ⟨bk, ks, e1, rfl, e3, -, -, -, -, -⟩
    ·obtain rfl : R2 = .error cd := e1;have HR7 : Hid (R = (.error cd, S2)) := Hi HR8.o;obtain ⟨tt, xx, rfl⟩ := e5.some e2;have HE := Hi ((e5.below HB6.o).mono HSZ.o);have HC0 := Hi e2;have HFK := Hi (vf (xH.empty w6));clear e2 e5;go_wp2_with (with_reducible refine zc (o := ⟨some 67, _, _, _, _, _⟩) ?_);refine zf Tryz.ndProg (by rfl) _ rfl c rfl zd.none_ Nd.empty HC6.o ?_;go_wp2_with fail;refine HFK.o.mono ?_;rintro e w7 ⟨rfl, hb⟩;have HB7 := Hi hb;clear hb;go_wp2_with fail
     go_ret2
     rw [HR7.o];refine ⟨((HO5.o.1.less H (fun k hk => .inl (.inl (.inl hk))) HL.o.low).carry H HB6.o).carry H HB7.o, HK6.o.trans (zg.of_below HB7.o fun k hk => zd5 (HTH.o k hk) HK6.o.size), HC0.o, _, rfl, HE.o.below HB7.o⟩
    ·obtain rfl : R2 = .ok (bk, ks) := e1;obtain ⟨h5, h6⟩ := vU HRC.o.symm;have hbl : bk.length <= 1 := by rw [h5]; exact wP xk
     have hrg := ja HLW.o.inv HRC.o.symm;obtain ⟨hnd, -, -, hlw5⟩ := HO5.o.is rfl hbl (by omega) (fun z hz => HKX.o z (Zk (by rw [<- h5]; exact hz))) hrg;obtain ⟨hxk, hxc⟩ : bk = xr.keys /\ ks = xr.kids := by rw [e3]; exact ⟨rfl, rfl⟩
     have HR7 : Hid (R = if xr.keys.length = 0 then (.ok (xr.kids.getD 0 0), S2)
      else match xq n S2 xr with
       | (.error c, S3) => (.error c, S3)
       | (.ok k, S3) => match xB S3 k key with
        | .error c => (.error c, S3)
        | .ok _ => (.ok k, S3)) := Hi (by rw [e3]; exact HR8.o)
     have HN6 := Hi (hnd.carry HB6.o);have HL6 : Hid (zX O w0 K w6 P D n S2 firm) := Hi ((hlw5.less H (fun k hk => .inl (.inl (.inl hk))) HL.o.low).carry H HB6.o);have HS2 : Hid (S2.d.soft.length <= S1.d.soft.length + 2) := Hi (by have h := (ve HLW.o.inv xk [root]).soft; rw [<- HRC.o] at h; exact h);have c0 := HC6.o.c0;clear h5 h6 hbl hrg hnd hlw5 hxk hxc e3 HR8;by_cases hke : xr.keys.length = 0
     ·have HR6 : Hid (R = (.ok (xr.kids.getD 0 0), S2)) := Hi (by rw [HR7.o, if_pos hke]);have hz0 : ((xr.keys.length : Int) == 0) = true := by rw [hke]; rfl
      have HFK := Hi (vf HN6.o);clear hke;go_wp2_with (with_reducible refine zc (o := ⟨some 67, _, _, _, _, _⟩) ?_);clear hz0 c0;refine zf Tryz.ndProg (by rfl) _ rfl c rfl lr xr HC6.o ?_;go_wp2_with fail;refine HFK.o.mono ?_;rintro e w7 ⟨rfl, hb⟩;have HB7 := Hi hb;clear hb;go_wp2_with fail
      go_ret2
      rw [HR6.o];exact ⟨HL6.o.carry H HB7.o, HK6.o.trans (zg.of_below HB7.o fun k hk => zd5 (HTH.o k hk) HK6.o.size), rfl⟩
     ·obtain ⟨RA, HRA⟩ : ∃ RA, Hid (RA = xq n S2 xr) := Hy;have HR6 : Hid (R = match (generalizing := false) RA with
       | (.error c, S3) => (.error c, S3)
       | (.ok k, S3) => match xB S3 k key with
        | .error c => (.error c, S3)
        | .ok _ => (.ok k, S3)) := Hi (by rw [HR7.o, if_neg hke, HRA.o])
      have hz0 : ((xr.keys.length : Int) == 0) = false := by rw [beq_eq_false_iff_ne]; omega
      have HAD := Hi (W4 H HL6.o hg (by have h1 := HS2.o; have h2 : S1.d.soft.length <= S.d.soft.length + 24 := HST.o; have h3 := HSS.o; omega) HN6.o);rw [<- HRA.o] at HAD;clear hke HR7;go_wp2_with (with_reducible refine zc (o := ⟨some 72, _, _, _, _, _⟩) ?_);clear hz0 c0;refine zf Tryz.ndProg (by rfl) _ rfl c rfl lr xr HC6.o ?_;go_wp2_with fail;refine HAD.o.mono ?_;rintro e w7 ⟨hlaw, hkept, hm⟩;obtain ⟨R3, S3⟩ := RA;have HL7 := Hi hlaw;have HK7 : Hid (zg K w w7) := Hi (HK6.o.trans hkept);clear hlaw hkept HAD;cases R3 with
      | error cd =>
       obtain ⟨h1, v, rfl, h3⟩ := hm;obtain ⟨tt, xx, rfl⟩ := h3.some h1;have HR5 : Hid (R = (.error cd, S3)) := Hi HR6.o;have HE := Hi (h3.mono HK6.o.size);have HC0 := Hi h1;clear h1 h3;go_wp2_with fail
       go_ret2
       rw [HR5.o];exact ⟨HL7.o, HK7.o, HC0.o, _, rfl, HE.o⟩
      | ok k =>
       obtain rfl := hm;have HR5 : Hid (R = match (generalizing := false) xB S3 k key with
        | .error c => (.error c, S3)
        | .ok _ => (.ok k, S3)) := Hi HR6.o
       have HGT := Hi (WT H hg HL7.o k key);go_wp2_with fail;refine HGT.o.mono ?_;rintro e w8 hgp;cases hgg : xB S3 k key with
       | error cd =>
        rw [hgg] at hgp;have HR4 : Hid (R = (.error cd, S3)) := Hi (by rw [HR5.o, hgg]);obtain ⟨h1, v, rfl, h3, hb⟩ := hgp;obtain ⟨tt, xx, rfl⟩ := h3.some h1;have HE := Hi (h3.mono HK7.o.size);have HC0 := Hi h1;have HB8 := Hi hb;clear h1 h3 hb hgg HGT HR5;go_wp2_with fail
        go_ret2
        rw [HR4.o];exact ⟨HL7.o.carry H HB8.o, HK7.o.trans (zg.of_below HB8.o fun k hk => zd5 (HTH.o k hk) HK7.o.size), HC0.o, _, rfl, HE.o⟩
       | ok sv =>
        rw [hgg] at hgp;have HR4 : Hid (R = (.ok k, S3)) := Hi (by rw [HR5.o, hgg]);obtain ⟨rfl, hb⟩ := hgp;have HB8 := Hi hb;clear hb hgg HGT HR5;go_wp2_with fail
        go_ret2
        rw [HR4.o];exact ⟨HL7.o.carry H HB8.o, HK7.o.trans (zg.of_below HB8.o fun k hk => zd5 (HTH.o k hk) HK7.o.size), rfl⟩
end
end
end Go.Proofs.YtafclmbecmgbnaaGreatDoor
