/-
  Tc: several texts in one file. Conditions: as each part says.
-/
import Derived.Test.YtafclmbecmgbnaaGreatDoorSm
import Derived.Test.YtafclmbecmgbnaaGreatDoorTw
/-
 TrPut. Conditions: as each theorem says.
-/
namespace Go.Proofs.YtafclmbecmgbnaaGreatDoor
open Go.RowKit
def PutPost (O : PgOwn) (w0 : World) (K : Nat → Prop) (w : World) (P D n : Nat) (firm : Nat → List UInt8) (R : Except Int Nd × TS) (e : Ending) (w' : World) : Prop :=
 Kept K w w' ∧ match R.1 with
 | .error c => LawT O w0 K w' P D n R.2 firm ∧ c ≠ 0 ∧ ∃ v, e = .returned (.tuple #[ndV Lay3.none_ Nd.empty, v]) ∧ ErrFrom w' w.heap.size c v
 | .ok x => ∃ l', LawT O w0 (fun g => K g ∨ l'.has g) w' P D n R.2 firm ∧ e = .returned (.tuple #[ndV l' x, .nilIface]) ∧ NdMine w' w.heap.size l' x
def PuOut (O : PgOwn) (w0 : World) (L : Nat → Prop) (lo : Nat) (P D n : Nat) (firm : Nat → List UInt8) (R : Except Int Nd × TS) (lk : Lay3) (xk : Nd) (v : Value) (wr : World) : Prop :=
 LawT O w0 (fun g => L g ∨ lk.has g) wr P D n R.2 firm ∧ ((∃ cd, R.1 = .error cd ∧ cd ≠ 0 ∧ lk = Lay3.none_ ∧ xk = Nd.empty ∧ ErrFrom wr lo cd v) ∨ (R.1 = .ok xk ∧ v = .nilIface ∧ NdMine wr lo lk xk))
structure PuS (O : PgOwn) (w0 : World) (K : Nat → Prop) (w : World) (P D n : Nat) (firm : Nat → List UInt8) (q r c b : Nat) (l : Lay3) (x : Nd) (R : Except Int Nd × TS) (lk : Lay3) (xk : Nd) (v : Value) (wr : World) : Prop where
 bq : NdBox wr q l x
 bc : NdBox wr c lk xk
 br : NdBox wr r Lay3.none_ Nd.empty
 fr : ∀ j, wr.frozen? ⟨r, j, none⟩ = false
 mi : NdMine wr b l x
 kept : Kept K w wr
 out : ∃ lo, (∀ g, l.has g → g < lo) ∧ r < lo ∧ b ≤ lo ∧ PuOut O w0 (fun g => K g ∨ g = r ∨ l.has g) lo P D n firm R lk xk v wr
section
variable {O : PgOwn} (H : PgSpec O)
include H
theorem put_out {w0 : World} {L : Nat → Prop} {w1 w2 : World} {P D n : Nat} {firm : Nat → List UInt8} {R : Except Int Nd × TS} {e : Ending} (h : PutPost O w0 L w1 P D n firm R e w2) (hlow : ∀ k, k < w0.heap.size → L k) :
  ∃ lk xk v, e = .returned (.tuple #[ndV lk xk, v]) ∧ Kept L w1 w2 ∧ PuOut O w0 L w1.heap.size P D n firm R lk xk v w2 := by
 obtain ⟨R1, R2⟩ := R
 obtain ⟨h1, h2⟩ := h
 cases R1 with
 | error cd =>
  obtain ⟨h3, h4, v, h5, h6⟩ := h2
  exact ⟨_, _, _, h5, h1, h3.less H (fun k hk => hk.elim id fun h => absurd h (Lay3.has_none k)) (fun k hk => .inl (hlow k hk)), .inl ⟨cd, rfl, h4, rfl, rfl, h6⟩⟩
 | ok x =>
  obtain ⟨l', h3, h4, h5⟩ := h2
  exact ⟨_, _, _, h4, h1, h3, .inr ⟨rfl, rfl, h5⟩⟩
theorem PuOut.turn {w0 : World} {L : Nat → Prop} {lo : Nat} {P D n : Nat} {firm : Nat → List UInt8} {R : Except Int Nd × TS} {lk : Lay3} {xk : Nd} {v : Value} {wr w' : World} {M L' : Nat → Prop} (h : PuOut O w0 L lo P D n firm R lk xk v wr) (ht : Turn M wr w')
  (hM : ∀ k, M k → k < wr.heap.size → L k ∧ w0.heap.size ≤ k ∧ k < lo) (hL : ∀ k, L' k → L k ∨ wr.heap.size ≤ k) (hLt : There L' w') (hlow : ∀ k, k < w0.heap.size → L' k) : PuOut O w0 L' lo P D n firm R lk xk v w' := by
 obtain ⟨h1, h2⟩ := h
 have hth := h1.there
 have ht2 : Turn (fun k => M k ∧ k < wr.heap.size) wr w' := ⟨ht.os, ht.tape, ht.output, ht.size, fun k hk => ht.block k ⟨hk.1, fun hm => hk.2 ⟨hm, hk.1⟩⟩⟩
 refine ⟨h1.off H ht2 (fun k hk => ⟨.inl (hM k hk.1 hk.2).1, (hM k hk.1 hk.2).2.1⟩) (fun k hk => ?_) (fun k hk => ?_) (fun k hk => .inl (hlow k hk)), ?_⟩
 ·rcases hk with hk | hk
  ·exact (hL k hk).imp .inl id
  ·exact .inl (.inr hk)
 ·rcases hk with hk | hk
  ·exact hLt k hk
  ·exact Nat.lt_of_lt_of_le (hth k (.inr hk)) ht.size
 ·rcases h2 with ⟨cd, e1, e2, e3, e4, e5⟩ | ⟨e1, e2, e3⟩
  ·exact .inl ⟨cd, e1, e2, e3, e4, e5.carry ht.size fun i h3 h4 => ht.block i ⟨h4, fun hm => by have := (hM i hm h4).2.2; omega⟩⟩
  ·exact .inr ⟨e1, e2, e3.keep ht.size fun g hg => ht.block g ⟨(e3.lt g hg).2, fun hm => by have := (hM g hm (e3.lt g hg).2).2.2; have := (e3.lt g hg).1; omega⟩⟩
theorem PuOut.ret {w0 : World} {K L : Nat → Prop} {lo r : Nat} {P D n : Nat} {firm : Nat → List UInt8} {R : Except Int Nd × TS} {lk : Lay3} {xk : Nd} {v : Value} {w wr : World} (h : PuOut O w0 L lo P D n firm R lk xk v wr) (hk : Kept K w wr) (hK : There K w) (hKL : ∀ k, K k → L k) (hr : L r) (hrs : r < wr.heap.size) (hwr : w.heap.size ≤ r) (hrl : r < lo)
  (hw0 : w0.heap.size ≤ w.heap.size) (hlow : ∀ k, k < w0.heap.size → K k) : PutPost O w0 K w P D n firm R (.returned (.tuple #[ndV lk xk, v])) (store3 wr r lk xk) := by
 have ht : Turn (fun k => k = r) wr (store3 wr r lk xk) := ⟨rfl, rfl, rfl, by rw [store3_size]; exact Nat.le_refl _, fun k hk => store3_far hk.2⟩
 obtain ⟨h1, h2⟩ := h.turn H (L' := L) ht (fun k hk _ => by have hk' : k = r := hk; subst hk'; exact ⟨hr, by omega, hrl⟩) (fun k hk => .inl hk) (fun k hk => by rw [store3_size]; exact h.1.there k (.inl hk)) (fun k hk => hKL k (hlow k hk))
 refine ⟨hk.trans ⟨rfl, rfl, rfl, by rw [store3_size]; exact Nat.le_refl _, fun k hk2 => store3_far (by have := hK k hk2; omega)⟩, ?_⟩
 obtain ⟨R1, R2⟩ := R
 rcases h2 with ⟨cd, e1, e2, rfl, rfl, e5⟩ | ⟨e1, rfl, e3⟩
 ·obtain rfl : R1 = .error cd := e1
  exact ⟨h1.less H (fun k hk => .inl (hKL k hk)) hlow, e2, v, rfl, e5.mono (by omega)⟩
 ·obtain rfl : R1 = .ok xk := e1
  exact ⟨lk, h1.less H (fun k hk => hk.imp (hKL k) id) (fun k hk => .inl (hlow k hk)), rfl, e3.mono (by omega)⟩
theorem PuS.make {w0 : World} {K L : Nat → Prop} {w wn wz : World} {P D n : Nat} {firm : Nat → List UInt8} {q r c b lo : Nat} {l : Lay3} {x : Nd} {R : Except Int Nd × TS} {lk : Lay3} {xk : Nd} {v : Value} (hbq : NdBox wn q l x) (hbr : NdBox wn r Lay3.none_ Nd.empty) (hfr : ∀ j, wn.frozen? ⟨r, j, none⟩ = false)
  (hmi : NdMine wn b l x) (hkn : Kept K w wn) (ho : PuOut O w0 L lo P D n firm R lk xk v wn) (ht : Turn (fun k => k = c) wn wz) (hbc : NdBox wz c lk xk) (hc : c < wn.heap.size → L c ∧ c < lo) (hL : ∀ k, K k ∨ k = r ∨ l.has k → L k) (hqc : q ≠ c) (hrc : r ≠ c) (hlc : ¬ l.has c)
  (hwc : w.heap.size ≤ c) (hlo : b ≤ lo) (hrl : r < lo) (hll : ∀ g, l.has g → g < lo) (hK : There K w) (hw0 : w0.heap.size ≤ w.heap.size) (hlow : ∀ k, k < w0.heap.size → K k) :
  PuS O w0 K w P D n firm q r c b l x R lk xk v wz := by
 have bq := ht.block q ⟨hbq.lt, hqc⟩
 have br := ht.block r ⟨hbr.lt, hrc⟩
 have hkz : Kept K wn wz := ⟨ht.os, ht.tape, ht.output, ht.size, fun k hk => ht.block k ⟨Nat.lt_of_lt_of_le (hK k hk) hkn.size, fun e => by have := hK k hk; omega⟩⟩
 refine ⟨hbq.keep bq, hbc, hbr.keep br, fun j => (World.frozen?_of_block (w := wn) (a := ⟨r, j, none⟩) br).trans (hfr j), hmi.keep ht.size fun g hg => ht.block g ⟨(hmi.lt g hg).2, fun e => hlc (by have e' : g = c := e; rw [← e']; exact hg)⟩, hkn.trans hkz, ⟨lo, hll, hrl, hlo, ?_⟩⟩
 refine ho.turn H ht (fun k hk hlt => ?_) (fun k hk => .inl (hL k hk)) (fun k hk => ?_) (fun k hk => .inl (hlow k hk))
 ·have hk' : k = c := hk
  subst hk'
  exact ⟨(hc hlt).1, by omega, (hc hlt).2⟩
 ·rcases hk with hk | hk | hk
  ·exact Nat.lt_of_lt_of_le (hK k hk) (Nat.le_trans hkn.size ht.size)
  ·rw [hk]; exact Nat.lt_of_lt_of_le hbr.lt ht.size
  ·exact Nat.lt_of_lt_of_le (hmi.lt k hk).2 ht.size
theorem repl_out {w0 : World} {L : Nat → Prop} {w1 w2 : World} {P D n : Nat} {firm : Nat → List UInt8} {b : Nat} {l : Lay3} {R : Except Int Nd × TS} {e : Ending} (h : ReplPost O w0 L w1 P D n firm b l R e w2) (hb : b ≤ w1.heap.size) (hlow : ∀ k, k < w0.heap.size → L k) :
  ∃ lk xk v, e = .returned (.tuple #[ndV lk xk, v]) ∧ Kept (fun g => L g ∧ ¬ l.has g) w1 w2 ∧ PuOut O w0 L b P D n firm R lk xk v w2 := by
 obtain ⟨R1, R2⟩ := R
 obtain ⟨h1, h2⟩ := h
 cases R1 with
 | error cd =>
  obtain ⟨h3, h4, v, h5, h6⟩ := h2
  exact ⟨_, _, _, h5, h1, h3.less H (fun k hk => hk.elim id fun h => absurd h (Lay3.has_none k)) (fun k hk => .inl (hlow k hk)), .inl ⟨cd, rfl, h4, rfl, rfl, h6.mono hb⟩⟩
 | ok x =>
  obtain ⟨l', h3, h4, h5, _⟩ := h2
  exact ⟨_, _, _, h4, h1, h3, .inr ⟨rfl, rfl, h5⟩⟩
set_option maxRecDepth 100000 in
set_option maxHeartbeats 4000000 in
theorem put_any {w0 : World} {P D n : Nat} {firm : Nat → List UInt8} (hg : Laid2 w0) {key : Int} (hk : -9223372036854775808 ≤ key ∧ key ≤ 9223372036854775807) {val : ByteArray} (hv : val.size ≤ maxLen) (f : Nat) (hf : f ≤ 12) {K : Nat → Prop} {w : World} {S : TS} (hl : LawT O w0 K w P D n S firm) (hs : S.d.soft.length + 2 * f ≤ 99990) (i : Int) :
  Calls Tryz.prog 68 #[ptr P, .int .i64 i, .int .i64 (13 - (f : Int)), .agg #[.int .i64 key, .string val]] w (PutPost O w0 K w P D n firm (putM n f S i key val)) := by
 have hbn := Tryz.nodeNone
 have hz := Tryz.zeroNode
 induction f generalizing w K i S with
 | zero =>
  have HL := Hi hl
  have HW0 : Hid (w0.heap.size ≤ w.heap.size) := Hi hl.below.size
  have HTH : Hid (There K w) := Hi hl.there
  obtain ⟨R, HRR⟩ : ∃ R, Hid (R = putM n 0 S i key val) := Hy
  rw [← HRR.out]
  obtain ⟨p, HPP⟩ : ∃ p, Hid (p = w.heap.size) := Hy
  obtain ⟨r, HRC⟩ : ∃ r, Hid (r = p + 1) := Hy
  obtain ⟨w1, HW1⟩ : ∃ w1, Hid (w1 = (w.alloc (.cells #[.int .i64 key, .string val] 97)).alloc (.cells #[.slice none 0 0, .slice none 0 0, .slice none 0 0] 48)) := Hy
  have HB1 : Hid (Below w.heap.size w w1 ∧ w1.heap.size = w.heap.size + 2) := Hi (by rw [HW1.out]; exact ⟨((Below.refl _ _).alloc (Nat.le_refl _) _).alloc (by simp) _, by simp⟩)
  have HX1 : Hid (w1.cell? ⟨p, 0, none⟩ = some (.int .i64 key) ∧ w1.cell? ⟨p, 1, none⟩ = some (.string val) ∧ NdBox w1 r Lay3.none_ Nd.empty ∧ ∀ j, w1.frozen? ⟨r, j, none⟩ = false) := Hi (by
   rw [HW1.out]
   obtain ⟨wa, hwa⟩ : ∃ wa, wa = w.alloc (.cells #[.int .i64 key, .string val] 97) := ⟨_, rfl⟩
   have hsa : wa.heap.size = w.heap.size + 1 := by rw [hwa]; simp
   have e1 : wa.cell? ⟨w.heap.size, 0, none⟩ = some (.int .i64 key) := by rw [hwa]; simp
   have e2 : wa.cell? ⟨w.heap.size, 1, none⟩ = some (.string val) := by rw [hwa]; simp
   rw [← hwa]
   have hab : Below wa.heap.size wa (wa.alloc (.cells #[.slice none 0 0, .slice none 0 0, .slice none 0 0] 48)) := (Below.refl _ _).alloc (Nat.le_refl _) _
   have e3 := NdBox.new (w := wa) (l := Lay3.none_) (x := Nd.empty) 48
   have f3 := frozen_new1 wa #[.slice none 0 0, .slice none 0 0, .slice none 0 0] 48
   rw [hsa] at e3 f3
   rw [HRC.out, HPP.out]
   exact ⟨(hab.cell (p := ⟨w.heap.size, 0, none⟩) (by show w.heap.size < _; omega)).trans e1, (hab.cell (p := ⟨w.heap.size, 1, none⟩) (by show w.heap.size < _; omega)).trans e2, e3, f3⟩)
  have HLD := Hi (load_any H (hl.carry H HB1.out.1) hg i 13)
  have HM : Hid (loadM S i 13 = .error 2) := Hi (by unfold loadM; rw [if_pos (by decide)])
  rw [HM.out] at HLD
  have HG0 : Hid (R = (.error 2, S)) := Hi HRR.out
  rw [show (13 : Int) - ((0 : Nat) : Int) = 13 from rfl]
  clear hl hs hk hv HRR
  go_enter Tryz.func68, Tryz.ntmps68
  go_upto_region 1 with (fail)
  rw [← HW1.out, ← HPP.out, ← HRC.out]
  clear HW1
  go_wp2_with fail
  refine HLD.out.mono ?_
  rintro e w2 ⟨hc, v, rfl, he, hb⟩
  obtain ⟨tt, xx, rfl⟩ := he.some hc
  have HE := Hi he
  have HB := Hi hb
  have HC := Hi hc
  clear he hb HLD hc
  obtain ⟨q, HCq⟩ : ∃ q, Hid (q = w2.heap.size) := Hy
  obtain ⟨w3, HWw3⟩ : ∃ w3, Hid (w3 = w2.alloc (.cells #[.slice Lay3.none_.A Nd.empty.keys.length Lay3.none_.ca, .slice Lay3.none_.B Nd.empty.vals.length Lay3.none_.cb, .slice Lay3.none_.C Nd.empty.kids.length Lay3.none_.cc] 48)) := Hy
  have HBw3 : Hid (Below w2.heap.size w2 w3 ∧ w3.heap.size = w2.heap.size + 1) := Hi (by rw [HWw3.out]; exact ⟨(Below.refl _ _).alloc (Nat.le_refl _) _, by simp⟩)
  go_upto_region 2 with (fail)
  rw [← HWw3.out, ← HCq.out]
  have HB13 : Hid (Below w1.heap.size w1 w3) := Hi (HB.out.trans (HBw3.out.1.mono HB.out.size))
  have HR3 : Hid (NdBox w3 r Lay3.none_ Nd.empty ∧ ∀ j, w3.frozen? ⟨r, j, none⟩ = false) := Hi ⟨HX1.out.2.2.1.carry HB13.out HX1.out.2.2.1.lt, frozen_below HB13.out HX1.out.2.2.1.lt HX1.out.2.2.2⟩
  have HO3 : Hid (PuOut O w0 (fun g => K g ∨ g = r) w1.heap.size P D n firm R Lay3.none_ Nd.empty (.iface tt xx) w3) := Hi (by
   refine ⟨?_, .inl ⟨2, by rw [HG0.out], HC.out, rfl, rfl, HE.out.below HBw3.out.1⟩⟩
   rw [HG0.out]
   refine (HL.out.grow H (HB1.out.1.trans (HB13.out.mono HB1.out.1.size))).less H (fun k hk => ?_) fun k hk => .inl (.inl (HL.out.low k hk))
   rcases hk with (hk | hk) | hk
   ·exact .inl hk
   ·have := HR3.out.1.lt
    have := HRC.out
    have := HPP.out
    exact .inr (by omega)
   ·exact absurd hk (Lay3.has_none k))
  clear HWw3 HCq
  have f0 := HR3.out.2 0
  have f1 := HR3.out.2 1
  have f2 := HR3.out.2 2
  have HBR9 := Hi HR3.out.1
  have d0 := HBR9.out.c0
  have d1 := HBR9.out.c1
  have d2 := HBR9.out.c2
  obtain ⟨w9, HW9⟩ : ∃ w9, Hid (w9 = ((w3.setCell ⟨r, 0, none⟩ (.slice none 0 0)).setCell ⟨r, 1, none⟩ (.slice none 0 0)).setCell ⟨r, 2, none⟩ (.slice none 0 0)) := Hy
  have HS9 : Hid (w9 = store3 w3 r Lay3.none_ Nd.empty) := Hi HW9.out
  have HX9 : Hid (NdBox w9 r Lay3.none_ Nd.empty) := Hi (by rw [HS9.out]; exact store3_box HBR9.out)
  have HP9 : Hid (PutPost O w0 K w P D n firm R (.returned (.tuple #[ndV Lay3.none_ Nd.empty, .iface tt xx])) w9) := Hi (by
   rw [HS9.out]
   have hpl : w.heap.size ≤ p ∧ w.heap.size ≤ r ∧ p < w1.heap.size ∧ r < w1.heap.size ∧ w1.heap.size = w.heap.size + 2 := by rw [HRC.out, HPP.out, HB1.out.2]; omega
   exact HO3.out.ret H (Kept.of_below (HB1.out.1.trans (HB13.out.mono HB1.out.1.size)) HTH.out) HTH.out (fun k hk => .inl hk) (.inr rfl) HR3.out.1.lt hpl.2.1 hpl.2.2.2.1 HW0.out HL.out.low)
  go_wp2_with fail
  rw [← HW9.out]
  exact bodyPost_ret (results_nd2 Tryz.ndProg rfl _ _ r Lay3.none_ Nd.empty (.iface tt xx) rfl rfl HX9.out) rfl HP9.out
 | succ f ih =>
  obtain ⟨lv, HLV⟩ : ∃ lv : Int, Hid (lv = 12 - (f : Int)) := Hy
  have HLW : Hid (wrap64 (lv + 1) = 13 - (f : Int)) := Hi (by rw [HLV.out]; unfold wrap64; omega)
  have HLW2 : Hid (IntKind.i64.wrap (lv + 1) = 13 - (f : Int)) := Hi (by rw [IntKind.wrap_i64, HLV.out]; omega)
  rw [show (13 : Int) - ((f + 1 : Nat) : Int) = lv by rw [HLV.out]; omega]
  have HL := Hi hl
  have HW0 : Hid (w0.heap.size ≤ w.heap.size) := Hi hl.below.size
  have HTH : Hid (There K w) := Hi hl.there
  have HOK : Hid (OkT n S firm) := Hi hl.inv
  have HSS : Hid (S.d.soft.length + 2 * (f + 1) ≤ 99990) := Hi hs
  have HKV := Hi (And.intro hk hv)
  have HIH : Hid (∀ {K : Nat → Prop} {w : World}, LawT O w0 K w P D n S firm → ∀ i : Int, Calls Tryz.prog 68 #[ptr P, .int .i64 i, .int .i64 (13 - (f : Int)), .agg #[.int .i64 key, .string val]] w (PutPost O w0 K w P D n firm (putM n f S i key val))) := Hi fun h i => ih (by omega) h (by omega) i
  obtain ⟨R, HRR⟩ : ∃ R, Hid (R = putM n (f + 1) S i key val) := Hy
  rw [← HRR.out]
  obtain ⟨p, HPP⟩ : ∃ p, Hid (p = w.heap.size) := Hy
  obtain ⟨r, HRC⟩ : ∃ r, Hid (r = p + 1) := Hy
  obtain ⟨w1, HW1⟩ : ∃ w1, Hid (w1 = (w.alloc (.cells #[.int .i64 key, .string val] 97)).alloc (.cells #[.slice none 0 0, .slice none 0 0, .slice none 0 0] 48)) := Hy
  have HB1 : Hid (Below w.heap.size w w1 ∧ w1.heap.size = w.heap.size + 2) := Hi (by rw [HW1.out]; exact ⟨((Below.refl _ _).alloc (Nat.le_refl _) _).alloc (by simp) _, by simp⟩)
  have HX1 : Hid (w1.cell? ⟨p, 0, none⟩ = some (.int .i64 key) ∧ w1.cell? ⟨p, 1, none⟩ = some (.string val) ∧ NdBox w1 r Lay3.none_ Nd.empty ∧ ∀ j, w1.frozen? ⟨r, j, none⟩ = false) := Hi (by
   rw [HW1.out]
   obtain ⟨wa, hwa⟩ : ∃ wa, wa = w.alloc (.cells #[.int .i64 key, .string val] 97) := ⟨_, rfl⟩
   have hsa : wa.heap.size = w.heap.size + 1 := by rw [hwa]; simp
   have e1 : wa.cell? ⟨w.heap.size, 0, none⟩ = some (.int .i64 key) := by rw [hwa]; simp
   have e2 : wa.cell? ⟨w.heap.size, 1, none⟩ = some (.string val) := by rw [hwa]; simp
   rw [← hwa]
   have hab : Below wa.heap.size wa (wa.alloc (.cells #[.slice none 0 0, .slice none 0 0, .slice none 0 0] 48)) := (Below.refl _ _).alloc (Nat.le_refl _) _
   have e3 := NdBox.new (w := wa) (l := Lay3.none_) (x := Nd.empty) 48
   have f3 := frozen_new1 wa #[.slice none 0 0, .slice none 0 0, .slice none 0 0] 48
   rw [hsa] at e3 f3
   rw [HRC.out, HPP.out]
   exact ⟨(hab.cell (p := ⟨w.heap.size, 0, none⟩) (by show w.heap.size < _; omega)).trans e1, (hab.cell (p := ⟨w.heap.size, 1, none⟩) (by show w.heap.size < _; omega)).trans e2, e3, f3⟩)
  have HLD := Hi (load_any H (hl.carry H HB1.out.1) hg i lv)
  clear hl ih hs hk hv
  cases hlm : loadM S i lv with
  | error c =>
   have HG0 : Hid (R = (.error c, S)) := Hi (by rw [HRR.out]; unfold putM; rw [← HLV.out, hlm])
   rw [hlm] at HLD
   clear hlm HRR
   go_enter Tryz.func68, Tryz.ntmps68
   go_upto_region 1 with (fail)
   rw [← HW1.out, ← HPP.out, ← HRC.out]
   clear HW1
   go_wp2_with fail
   refine HLD.out.mono ?_
   rintro e w2 ⟨hc, v, rfl, he, hb⟩
   obtain ⟨tt, xx, rfl⟩ := he.some hc
   have HE := Hi he
   have HB := Hi hb
   have HC := Hi hc
   clear he hb HLD hc
   obtain ⟨q, HCq⟩ : ∃ q, Hid (q = w2.heap.size) := Hy
   obtain ⟨w3, HWw3⟩ : ∃ w3, Hid (w3 = w2.alloc (.cells #[.slice Lay3.none_.A Nd.empty.keys.length Lay3.none_.ca, .slice Lay3.none_.B Nd.empty.vals.length Lay3.none_.cb, .slice Lay3.none_.C Nd.empty.kids.length Lay3.none_.cc] 48)) := Hy
   have HBw3 : Hid (Below w2.heap.size w2 w3 ∧ w3.heap.size = w2.heap.size + 1) := Hi (by rw [HWw3.out]; exact ⟨(Below.refl _ _).alloc (Nat.le_refl _) _, by simp⟩)
   go_upto_region 2 with (fail)
   rw [← HWw3.out, ← HCq.out]
   have HB13 : Hid (Below w1.heap.size w1 w3) := Hi (HB.out.trans (HBw3.out.1.mono HB.out.size))
   have HR3 : Hid (NdBox w3 r Lay3.none_ Nd.empty ∧ ∀ j, w3.frozen? ⟨r, j, none⟩ = false) := Hi ⟨HX1.out.2.2.1.carry HB13.out HX1.out.2.2.1.lt, frozen_below HB13.out HX1.out.2.2.1.lt HX1.out.2.2.2⟩
   have HO3 : Hid (PuOut O w0 (fun g => K g ∨ g = r) w1.heap.size P D n firm R Lay3.none_ Nd.empty (.iface tt xx) w3) := Hi (by
    refine ⟨?_, .inl ⟨c, by rw [HG0.out], HC.out, rfl, rfl, HE.out.below HBw3.out.1⟩⟩
    rw [HG0.out]
    refine (HL.out.grow H (HB1.out.1.trans (HB13.out.mono HB1.out.1.size))).less H (fun k hk => ?_) fun k hk => .inl (.inl (HL.out.low k hk))
    rcases hk with (hk | hk) | hk
    ·exact .inl hk
    ·have := HR3.out.1.lt
     have := HRC.out
     have := HPP.out
     exact .inr (by omega)
    ·exact absurd hk (Lay3.has_none k))
   clear HWw3 HCq
   have f0 := HR3.out.2 0
   have f1 := HR3.out.2 1
   have f2 := HR3.out.2 2
   have HBR9 := Hi HR3.out.1
   have d0 := HBR9.out.c0
   have d1 := HBR9.out.c1
   have d2 := HBR9.out.c2
   obtain ⟨w9, HW9⟩ : ∃ w9, Hid (w9 = ((w3.setCell ⟨r, 0, none⟩ (.slice none 0 0)).setCell ⟨r, 1, none⟩ (.slice none 0 0)).setCell ⟨r, 2, none⟩ (.slice none 0 0)) := Hy
   have HS9 : Hid (w9 = store3 w3 r Lay3.none_ Nd.empty) := Hi HW9.out
   have HX9 : Hid (NdBox w9 r Lay3.none_ Nd.empty) := Hi (by rw [HS9.out]; exact store3_box HBR9.out)
   have HP9 : Hid (PutPost O w0 K w P D n firm R (.returned (.tuple #[ndV Lay3.none_ Nd.empty, .iface tt xx])) w9) := Hi (by
    rw [HS9.out]
    have hpl : w.heap.size ≤ p ∧ w.heap.size ≤ r ∧ p < w1.heap.size ∧ r < w1.heap.size ∧ w1.heap.size = w.heap.size + 2 := by rw [HRC.out, HPP.out, HB1.out.2]; omega
    exact HO3.out.ret H (Kept.of_below (HB1.out.1.trans (HB13.out.mono HB1.out.1.size)) HTH.out) HTH.out (fun k hk => .inl hk) (.inr rfl) HR3.out.1.lt hpl.2.1 hpl.2.2.2.1 HW0.out HL.out.low)
   go_wp2_with fail
   rw [← HW9.out]
   exact bodyPost_ret (results_nd2 Tryz.ndProg rfl _ _ r Lay3.none_ Nd.empty (.iface tt xx) rfl rfl HX9.out) rfl HP9.out
  | ok x =>
   have HRT := Hi (loadM_right hlm)
   have HG0 : Hid (R = if x.kids.length = 0 then (.ok (withN x key val), S) else match putM n f S (x.kids.getD (kidAtN x key) 0) key val with
    | (.error c, S1) => (.error c, S1)
    | (.ok kid, S1) => replaceM n S1 x (kidAtN x key) 1 kid) := Hi (by
    rw [HRR.out]
    show (match loadM S i (12 - f : Int) with | .error c => (Except.error c, S) | .ok x => _) = _
    rw [← HLV.out, hlm]
    rfl)
   rw [hlm] at HLD
   clear hlm HRR
   go_enter Tryz.func68, Tryz.ntmps68
   go_upto_region 1 with (fail)
   rw [← HW1.out, ← HPP.out, ← HRC.out]
   clear HW1
   go_wp2_with fail
   refine HLD.out.mono ?_
   rintro e w2 ⟨_, l, rfl, hn, hb⟩
   have HN := Hi hn
   have HB := Hi hb
   clear hn hb HLD
   obtain ⟨q, HCq⟩ : ∃ q, Hid (q = w2.heap.size) := Hy
   obtain ⟨w3, HWw3⟩ : ∃ w3, Hid (w3 = w2.alloc (.cells #[.slice l.A x.keys.length l.ca, .slice l.B x.vals.length l.cb, .slice l.C x.kids.length l.cc] 48)) := Hy
   have HBw3 : Hid (Below w2.heap.size w2 w3 ∧ w3.heap.size = w2.heap.size + 1) := Hi (by rw [HWw3.out]; exact ⟨(Below.refl _ _).alloc (Nat.le_refl _) _, by simp⟩)
   have HQ3 : Hid (NdBox w3 q l x) := Hi (by rw [HWw3.out, HCq.out]; exact NdBox.new _)
   go_upto_region 2 with (fail)
   rw [← HWw3.out, ← HCq.out]
   have HB13 : Hid (Below w1.heap.size w1 w3) := Hi (HB.out.trans (HBw3.out.1.mono HB.out.size))
   have HR3 : Hid (NdBox w3 r Lay3.none_ Nd.empty ∧ ∀ j, w3.frozen? ⟨r, j, none⟩ = false) := Hi ⟨HX1.out.2.2.1.carry HB13.out HX1.out.2.2.1.lt, frozen_below HB13.out HX1.out.2.2.1.lt HX1.out.2.2.2⟩
   have HN3 : Hid (NdMine w3 w1.heap.size l x) := Hi (HN.out.carry HBw3.out.1)
   have HLB : Hid (∀ g, l.has g → w1.heap.size ≤ g ∧ g < w2.heap.size) := Hi HN.out.lt
   have HQL : Hid (w2.heap.size ≤ q) := Hi (by rw [HCq.out]; exact Nat.le_refl _)
   have HQ3L : Hid (q < w3.heap.size) := Hi HQ3.out.lt
   have HP3 : Hid (w3.cell? ⟨p, 0, none⟩ = some (.int .i64 key) ∧ w3.cell? ⟨p, 1, none⟩ = some (.string val)) := Hi (by
    have hp : p < w1.heap.size := by rw [HPP.out, HB1.out.2]; omega
    exact ⟨(HB13.out.cell (p := ⟨p, 0, none⟩) hp).trans HX1.out.1, (HB13.out.cell (p := ⟨p, 1, none⟩) hp).trans HX1.out.2.1⟩)
   have HB03 : Hid (Below w.heap.size w w3) := Hi (HB1.out.1.trans (HB13.out.mono HB1.out.1.size))
   have HSZ3 : Hid (w2.heap.size + 1 = w3.heap.size ∧ w1.heap.size ≤ w2.heap.size) := Hi ⟨HBw3.out.2.symm, HB.out.size⟩
   clear HWw3 HCq HN HBw3 HB
   go_wp2_with (with_reducible refine stop_at (o := ⟨some 25, _, _, _, _, _⟩) ?_)
   refine wpList_load_nd Tryz.ndProg (by rfl) _ rfl q rfl l x HQ3.out ?_
   go_wp2_with fail
   refine (Leaf_any x).mono ?_
   rintro e w4 ⟨rfl, hb⟩
   have HB4 := Hi hb
   have HQ4 := Hi (HQ3.out.carry hb HQ3.out.lt)
   have HR4 : Hid (NdBox w4 r Lay3.none_ Nd.empty ∧ ∀ j, w4.frozen? ⟨r, j, none⟩ = false) := Hi ⟨HR3.out.1.carry hb HR3.out.1.lt, frozen_below hb HR3.out.1.lt HR3.out.2⟩
   have HN4 := Hi (HN3.out.carry hb)
   have HP4 : Hid (w4.cell? ⟨p, 0, none⟩ = some (.int .i64 key) ∧ w4.cell? ⟨p, 1, none⟩ = some (.string val)) := Hi (by
    have hp : p < w3.heap.size := below_block HP3.out.1
    exact ⟨(hb.cell (p := ⟨p, 0, none⟩) hp).trans HP3.out.1, (hb.cell (p := ⟨p, 1, none⟩) hp).trans HP3.out.2⟩)
   have HB04 : Hid (Below w.heap.size w w4) := Hi (HB03.out.trans (hb.mono HB03.out.size))
   clear hb HQ3 HR3 HN3 HP3
   by_cases hlf : x.kids.length = 0
   ·rw [decide_eq_true hlf]
    have HG1 : Hid (R = (.ok (withN x key val), S)) := Hi (by rw [HG0.out, if_pos hlf])
    have HWI := Hi (with_any HN4.out (by have := HSZ3.out; have := HB4.out.size; omega) HRT.out hlf HKV.out.1 HKV.out.2)
    obtain ⟨xo, HXO⟩ : ∃ xo, Hid (xo = withN x key val) := Hy
    rw [← HXO.out] at HWI HG1
    have p0 := HP4.out.1
    have p1 := HP4.out.2
    clear hlf HG0
    go_wp2_with (with_reducible refine stop_at (o := ⟨some 27, _, _, _, _, _⟩) ?_)
    refine wpList_load_nd Tryz.ndProg (by rfl) _ rfl q rfl l x HQ4.out ?_
    go_wp2_with fail
    refine HWI.out.mono ?_
    rintro e w5 ⟨lk, rfl, hn, ht, hbl⟩
    have hpl : w.heap.size ≤ p ∧ w.heap.size ≤ r ∧ p < w1.heap.size ∧ r < w1.heap.size ∧ w1.heap.size = w.heap.size + 2 := by rw [HRC.out, HPP.out, HB1.out.2]; omega
    have hrb := ht.block r ⟨HR4.out.1.lt, fun h => by have := (HLB.out r h).1; omega⟩
    have HR5 : Hid (NdBox w5 r Lay3.none_ Nd.empty ∧ ∀ j, w5.frozen? ⟨r, j, none⟩ = false) := Hi ⟨HR4.out.1.keep hrb, fun j => (World.frozen?_of_block (w := w4) (a := ⟨r, j, none⟩) hrb).trans (HR4.out.2 j)⟩
    have HO5 : Hid (PuOut O w0 (fun g => K g ∨ g = r) w1.heap.size P D n firm R lk xo .nilIface w5) := Hi (by
     refine ⟨?_, .inr ⟨by rw [HG1.out], rfl, hn⟩⟩
     rw [HG1.out]
     have h4 := HL.out.grow H HB04.out
     have hw0 := HW0.out
     have hb4 := HB4.out.size
     have hs3 := HSZ3.out
     have hin : ∀ g, l.has g → K g ∨ (w.heap.size ≤ g ∧ g < w4.heap.size) := fun g hg => .inr (by have := HLB.out g hg; omega)
     refine h4.off H ht (fun k hk => ⟨hin k hk, by have := (HLB.out k hk).1; omega⟩) (fun k hk => ?_) (fun k hk => ?_) fun k hk => .inl (.inl (HL.out.low k hk))
     ·rcases hk with (hk | hk) | hk
      ·exact .inl (.inl hk)
      ·have := HR4.out.1.lt
       exact .inl (.inr (by omega))
      ·rcases hbl k hk with h | h
       ·exact .inl (hin k h)
       ·exact .inr h
     ·have hts := ht.size
      rcases hk with (hk | hk) | hk
      ·have := HTH.out k hk; have := HB04.out.size; omega
      ·have := HR4.out.1.lt; omega
      ·exact (hn.lt k hk).2)
    have HK5 : Hid (Kept K w w5) := Hi ((Kept.of_below HB04.out HTH.out).trans ⟨ht.os, ht.tape, ht.output, ht.size, fun k hk => ht.block k ⟨by have := HTH.out k hk; have := HB04.out.size; omega, fun h => by have := HTH.out k hk; have := (HLB.out k h).1; omega⟩⟩)
    clear hn ht hbl hpl hrb HWI
    have f0 := HR5.out.2 0
    have f1 := HR5.out.2 1
    have f2 := HR5.out.2 2
    have HBR9 := Hi HR5.out.1
    have d0 := HBR9.out.c0
    have d1 := HBR9.out.c1
    have d2 := HBR9.out.c2
    obtain ⟨w9, HW9⟩ : ∃ w9, Hid (w9 = ((w5.setCell ⟨r, 0, none⟩ (.slice lk.A xo.keys.length lk.ca)).setCell ⟨r, 1, none⟩ (.slice lk.B xo.vals.length lk.cb)).setCell ⟨r, 2, none⟩ (.slice lk.C xo.kids.length lk.cc)) := Hy
    have HS9 : Hid (w9 = store3 w5 r lk xo) := Hi HW9.out
    have HX9 : Hid (NdBox w9 r lk xo) := Hi (by rw [HS9.out]; exact store3_box HBR9.out)
    have HP9 : Hid (PutPost O w0 K w P D n firm R (.returned (.tuple #[ndV lk xo, .nilIface])) w9) := Hi (by
     rw [HS9.out]
     have hpl : w.heap.size ≤ p ∧ w.heap.size ≤ r ∧ p < w1.heap.size ∧ r < w1.heap.size ∧ w1.heap.size = w.heap.size + 2 := by rw [HRC.out, HPP.out, HB1.out.2]; omega
     exact HO5.out.ret H HK5.out HTH.out (fun k hk => .inl hk) (.inr rfl) HR5.out.1.lt hpl.2.1 hpl.2.2.2.1 HW0.out HL.out.low)
    go_wp2_with fail
    rw [← HW9.out]
    exact bodyPost_ret (results_nd2 Tryz.ndProg rfl _ _ r lk xo (.nilIface) rfl rfl HX9.out) rfl HP9.out
   ·rw [decide_eq_false hlf]
    have HNE := Hi hlf
    have HKL := Hi (kidAtN_lt HRT.out hlf key)
    obtain ⟨k, HK⟩ : ∃ k, Hid (k = kidAtN x key) := Hy
    obtain ⟨z, HZ⟩ : ∃ z, Hid (z = x.kids.getD k 0) := Hy
    obtain ⟨RK, HRK⟩ : ∃ RK, Hid (RK = putM n f S z key val) := Hy
    have HG1 : Hid (R = match (generalizing := false) RK with
     | (.error c, S1) => (.error c, S1)
     | (.ok kid, S1) => replaceM n S1 x k 1 kid) := Hi (by rw [HG0.out, if_neg hlf, HRK.out, HZ.out, HK.out])
    have HKA := Hi (kidAt_any HN4.out.is key)
    rw [← HK.out] at HKL HKA
    obtain ⟨C, HC0, hc⟩ := nums_cell HN4.out.is.kids (i := k) HKL.out
    rw [show x.kids[k]'HKL.out = z by rw [HZ.out, List.getD_eq_getElem?_getD, List.getElem?_eq_getElem HKL.out]; rfl] at hc
    have HCC := Hi HC0
    have HCL := Hi hc
    have p0 := HP4.out.1
    clear hlf HG0 HC0 hc
    go_wp2_with (with_reducible refine stop_at (o := ⟨some 30, _, _, _, _, _⟩) ?_)
    refine wpList_load_nd Tryz.ndProg (by rfl) _ rfl q rfl l x HQ4.out ?_
    go_wp2_with fail
    refine HKA.out.mono ?_
    rintro e w5 ⟨rfl, hb⟩
    have hbl : C.block < w4.heap.size := by have := below_block HCL.out; rwa [block_of_add] at this
    have HB05 : Hid (Below w.heap.size w w5) := Hi (HB04.out.trans (hb.mono HB04.out.size))
    have HSZ5 : Hid (w3.heap.size ≤ w5.heap.size) := Hi (Nat.le_trans HB4.out.size hb.size)
    have HR5 : Hid (NdBox w5 r Lay3.none_ Nd.empty ∧ ∀ j, w5.frozen? ⟨r, j, none⟩ = false) := Hi ⟨HR4.out.1.carry hb HR4.out.1.lt, frozen_below hb HR4.out.1.lt HR4.out.2⟩
    have HN5 := Hi (HN4.out.carry hb)
    have HS5 : Hid (NdBox w5 q l x ∧ w5.cell? ⟨p, 0, none⟩ = some (.int .i64 key) ∧ w5.cell? ⟨p, 1, none⟩ = some (.string val) ∧ w5.cell? (C.add k) = some (.int .i64 z)) := Hi (by
     have hp : p < w4.heap.size := below_block HP4.out.1
     exact ⟨HQ4.out.carry hb HQ4.out.lt, (hb.cell (p := ⟨p, 0, none⟩) hp).trans HP4.out.1, (hb.cell (p := ⟨p, 1, none⟩) hp).trans HP4.out.2, (hb.cell (p := C.add k) (by rw [block_of_add]; exact hbl)).trans HCL.out⟩)
    have hkl : (k : Int) < (x.kids.length : Int) := by have := HKL.out; omega
    have hlw := HLW2.out
    have hlw2 := HLW.out
    clear hb hbl HCL HP4 HN4 HR4 HQ4 HKA p0 HB04
    go_upto_region 7 with (fail)
    refine wp_region_held (S := fun w9 => NdBox w9 q l x ∧ w9.cell? ⟨p, 0, none⟩ = some (.int .i64 key) ∧ w9.cell? ⟨p, 1, none⟩ = some (.string val) ∧ w9.cell? (C.add k) = some (.int .i64 z)) (by kernel_rfl) ?_
    change wpAnyH _ _ _ _ _ _ _ _ w5.drew
    obtain ⟨wa, HWA⟩ : ∃ wa, Hid (wa = w5.drew) := Hy
    rw [← HWA.out]
    have hdr : Below w5.heap.size w5 wa := by rw [HWA.out]; exact (Below.refl _ _).drew
    have HBA : Hid (Below w.heap.size w wa ∧ w3.heap.size ≤ wa.heap.size) := Hi ⟨HB05.out.trans (hdr.mono HB05.out.size), Nat.le_trans HSZ5.out hdr.size⟩
    have HRA : Hid (NdBox wa r Lay3.none_ Nd.empty ∧ ∀ j, wa.frozen? ⟨r, j, none⟩ = false) := Hi ⟨HR5.out.1.carry hdr HR5.out.1.lt, frozen_below hdr HR5.out.1.lt HR5.out.2⟩
    have HNA := Hi (HN5.out.carry hdr)
    have hS : NdBox wa q l x ∧ wa.cell? ⟨p, 0, none⟩ = some (.int .i64 key) ∧ wa.cell? ⟨p, 1, none⟩ = some (.string val) ∧ wa.cell? (C.add k) = some (.int .i64 z) := ⟨HS5.out.1.carry hdr HS5.out.1.lt, (hdr.cell (p := ⟨p, 0, none⟩) (below_block HS5.out.2.1)).trans HS5.out.2.1, (hdr.cell (p := ⟨p, 1, none⟩) (below_block HS5.out.2.2.1)).trans HS5.out.2.2.1, (hdr.cell (p := C.add k) (below_block HS5.out.2.2.2)).trans HS5.out.2.2.2⟩
    have HCW : Hid (∀ w', (NdBox w' q l x ∧ w'.cell? ⟨p, 0, none⟩ = some (.int .i64 key) ∧ w'.cell? ⟨p, 1, none⟩ = some (.string val) ∧ w'.cell? (C.add k) = some (.int .i64 z)) → w'.cell? ⟨q, 2, none⟩ = some (.slice (some C) x.kids.length l.cc)) := Hi fun w' h => by have := h.1.c2; rwa [HCC.out] at this
    have HCH : Hid (∀ wr, Below w.heap.size w wr → Calls Tryz.prog 68 #[ptr P, .int .i64 z, .int .i64 (13 - (f : Int)), .agg #[.int .i64 key, .string val]] wr fun e w2 => ∃ lk xk v, e = .returned (.tuple #[ndV lk xk, v]) ∧ Kept (fun k => K k ∨ (w.heap.size ≤ k ∧ k < wr.heap.size)) wr w2 ∧ PuOut O w0 (fun k => K k ∨ (w.heap.size ≤ k ∧ k < wr.heap.size)) wr.heap.size P D n firm RK lk xk v w2) := Hi fun wr hb => by
     have h1 := HL.out.grow H hb
     have := HIH.out h1 z
     rw [← HRK.out] at this
     exact this.mono fun e w2 h => put_out H h h1.low
    have HQP : Hid (p < w1.heap.size ∧ r < w1.heap.size ∧ w.heap.size ≤ r ∧ w1.heap.size ≤ q ∧ q < w3.heap.size ∧ w1.heap.size ≤ w2.heap.size ∧ w2.heap.size ≤ w3.heap.size ∧ w.heap.size ≤ w1.heap.size) := Hi (by
     have h1 := HSZ3.out
     have h2 := HQL.out
     have h3 := HQ3L.out
     rw [HRC.out, HPP.out, HB1.out.2]
     have := HB1.out.2
     omega)
    clear HWA hdr HB05 HR5 HN5 HS5 HSZ5 HIH
    refine takeK (i := 0) 35 (v := ptr P) rfl rfl hS ?_
    simp only [Act.put, pU]
    refine takeK (i := 1) 36 (v := .pointer (some ⟨q, 2, none⟩)) rfl rfl hS ?_
    simp only [Act.put, pU]
    refine takeJ (i := 2) 37 (v := .slice (some C) x.kids.length l.cc) rfl rfl (.inl ⟨by rfl, fun _ h => by have c0 := HCW.out _ h; go_simp⟩) hS ?_
    simp only [Act.put, pU]
    refine takeK (i := 3) 38 (v := .int .i64 (k : Int)) rfl rfl hS ?_
    simp only [Act.put, pU]
    refine takeK (i := 4) 39 (v := .pointer (some (C.add k))) rfl rfl hS ?_
    simp only [Act.put, pU]
    refine takeJ (i := 5) 40 (v := .int .i64 z) rfl rfl (.inl ⟨by rfl, fun _ h => by have c0 := h.2.2.2; go_simp⟩) hS ?_
    simp only [Act.put, pU]
    refine takeK (i := 6) 41 (v := .int .i64 lv) rfl rfl hS ?_
    simp only [Act.put, pU]
    refine takeK (i := 7) 42 (v := .int .i64 (13 - (f : Int))) rfl rfl hS ?_
    simp only [Act.put, pU]
    refine takeJ (i := 8) 43 (v := .agg #[.int .i64 key, .string val]) rfl rfl (.inl ⟨by rfl, fun _ h => by have c0 := h.2.1; have c1 := h.2.2.1; go_simp⟩) hS ?_
    simp only [Act.put, pU]
    refine twoH (i := 9) (j := 13) (oi := ⟨some 44, _, _, _, _, _⟩) (oj := ⟨some 13, _, _, _, _, _⟩) rfl rfl (by kernel_rfl) (fun K0 hK => ?_) (fun K0 hK => ?_)
    case' refine_1 =>
     have HBX := Hi HBA.out.1
     go_simp
     refine (HCH.out wa HBA.out.1).mono ?_
     rintro e wn ⟨lk, xk, v, rfl, hk, ho⟩
     have hCb : w1.heap.size ≤ C.block ∧ C.block < w2.heap.size := HLB.out _ (.inr (.inr ⟨C, HCC.out, rfl⟩))
     have hqp := HQP.out
     have hba := HBA.out.2
     have hbp := hk.block p (.inr ⟨by rw [HPP.out]; exact Nat.le_refl _, by omega⟩)
     have hbq := hk.block q (.inr ⟨by omega, by omega⟩)
     have hbr := hk.block r (.inr ⟨by omega, by omega⟩)
     have hbC := hk.block C.block (.inr ⟨by omega, by omega⟩)
     have HMN : Hid (NdMine wn w1.heap.size l x) := Hi (HNA.out.keep hk.size fun g hg => hk.block g (.inr (by have := HLB.out g hg; omega)))
     have HKN := Hi hk
     have HON := Hi ho
     have HXN : Hid (NdBox wn r Lay3.none_ Nd.empty ∧ ∀ j, wn.frozen? ⟨r, j, none⟩ = false) := Hi ⟨HRA.out.1.keep hbr, fun j => (World.frozen?_of_block (w := wa) (a := ⟨r, j, none⟩) hbr).trans (HRA.out.2 j)⟩
     have hS2 : NdBox wn q l x ∧ wn.cell? ⟨p, 0, none⟩ = some (.int .i64 key) ∧ wn.cell? ⟨p, 1, none⟩ = some (.string val) ∧ wn.cell? (C.add k) = some (.int .i64 z) := ⟨hS.1.keep hbq, (World.cell?_of_block (w := wa) (a := ⟨p, 0, none⟩) hbp).trans hS.2.1, (World.cell?_of_block (w := wa) (a := ⟨p, 1, none⟩) hbp).trans hS.2.2.1, (World.cell?_of_block (w := wa) (a := C.add k) (by rw [block_of_add]; exact hbC)).trans hS.2.2.2⟩
     clear hk ho hbp hbq hbr hbC hS hCb hqp hba
     refine hK.out _ _ hS2 ?_
     clear hK K0
     have hS := hS2
     clear hS2
     refine takeK (i := 10) 34 (v := .tuple #[ndV lk xk, v]) rfl rfl hS ?_
     simp only [Act.put, pU]
     refine takeK (i := 11) 45 (v := ndV lk xk) rfl rfl hS ?_
     simp only [Act.put, pU]
     refine takeK (i := 12) 46 (v := v) rfl rfl hS ?_
     simp only [Act.put, pU]
     refine oneH (i := 13) (oi := ⟨some 13, _, _, _, _, _⟩) rfl (by kernel_rfl) (fun K0 hK => ?_)
     go_simp
     obtain ⟨c, HCB⟩ : ∃ c, Hid (c = wn.heap.size) := Hy
     obtain ⟨wc, HWwc⟩ : ∃ wc, Hid (wc = wn.alloc (.cells #[.slice none 0 0, .slice none 0 0, .slice none 0 0] 48)) := Hy
     rw [← HWwc.out, ← HCB.out]
     have HBB : Hid (Below wn.heap.size wn wc ∧ wc.heap.size = wn.heap.size + 1) := Hi (by rw [HWwc.out]; exact ⟨(Below.refl _ _).alloc (Nat.le_refl _) _, by simp⟩)
     have HXC : Hid (NdBox wc c Lay3.none_ Nd.empty ∧ ∀ j, wc.frozen? ⟨c, j, none⟩ = false) := Hi (by rw [HWwc.out, HCB.out]; exact ⟨NdBox.new (l := Lay3.none_) (x := Nd.empty) _, frozen_new1 _ _ _⟩)
     clear HWwc
     have hS2 : NdBox wc q l x ∧ wc.cell? ⟨p, 0, none⟩ = some (.int .i64 key) ∧ wc.cell? ⟨p, 1, none⟩ = some (.string val) ∧ wc.cell? (C.add k) = some (.int .i64 z) := ⟨hS.1.carry HBB.out.1 hS.1.lt, (HBB.out.1.cell (p := ⟨p, 0, none⟩) (below_block hS.2.1)).trans hS.2.1, (HBB.out.1.cell (p := ⟨p, 1, none⟩) (below_block hS.2.2.1)).trans hS.2.2.1, (HBB.out.1.cell (p := C.add k) (below_block hS.2.2.2)).trans hS.2.2.2⟩
     have HQN : Hid (NdBox wn q l x) := Hi hS.1
     clear hS
     refine hK.out _ _ hS2 ?_
     clear hK K0
     have hS := hS2
     clear hS2
     refine oneH (i := 14) (oi := ⟨none, _, _, _, _, _⟩) rfl (by kernel_rfl) (fun K0 hK => ?_)
     have HBC := Hi HXC.out.1
     have f0 := HXC.out.2 0
     have f1 := HXC.out.2 1
     have f2 := HXC.out.2 2
     have d0 := HBC.out.c0
     have d1 := HBC.out.c1
     have d2 := HBC.out.c2
     obtain ⟨wz, HWY⟩ : ∃ wz, Hid (wz = ((wc.setCell ⟨c, 0, none⟩ (.slice lk.A xk.keys.length lk.ca)).setCell ⟨c, 1, none⟩ (.slice lk.B xk.vals.length lk.cb)).setCell ⟨c, 2, none⟩ (.slice lk.C xk.kids.length lk.cc)) := Hy
     have HWZ : Hid (wz = store3 wc c lk xk) := Hi HWY.out
     go_simp
     rw [← HWY.out]
     clear d0 d1 d2 f0 f1 f2
     have HSC : Hid (PuS O w0 K w P D n firm q r c w1.heap.size l x RK lk xk v wz) := Hi (by
      have hqp := HQP.out
      have hsz := HKN.out.size
      have hsb := HBB.out.2
      have hcb := HCB.out
      have hba := HBA.out.1.size
      have hba2 := HBA.out.2
      have hkn : Kept K w wn := (Kept.of_below HBX.out HTH.out).trans (HKN.out.less8 fun k hk => .inl hk)
      refine PuS.make H HQN.out HXN.out.1 HXN.out.2 HMN.out hkn HON.out ⟨by rw [HWZ.out]; exact HBB.out.1.os, by rw [HWZ.out]; exact HBB.out.1.tape, by rw [HWZ.out]; exact HBB.out.1.output, by rw [HWZ.out, store3_size]; exact HBB.out.1.size, fun k hk => by rw [HWZ.out, store3_far hk.2]; exact HBB.out.1.block k hk.1⟩ (by rw [HWZ.out]; exact store3_box HXC.out.1) (fun h => by omega) (fun k hk => ?_) (by omega) (by omega) (fun h => by have := HLB.out c h; omega) (by omega) (by omega) (by omega) (fun g hg => by have := HLB.out g hg; omega) HTH.out HW0.out HL.out.low
      rcases hk with hk | hk | hk
      ·exact .inl hk
      ·exact .inr ⟨by omega, by omega⟩
      ·exact .inr (by have := HLB.out k hk; omega))
     have hCb : w1.heap.size ≤ C.block ∧ C.block < w2.heap.size := HLB.out _ (.inr (.inr ⟨C, HCC.out, rfl⟩))
     have hqp := HQP.out
     have hba := HBA.out.2
     have hcb := HCB.out
     have hsb := HBB.out.2
     have hkn := HKN.out.size
     have hbq : wz.heap[q]? = wc.heap[q]? := by rw [HWZ.out]; exact store3_far (by omega)
     have hbp : wz.heap[p]? = wc.heap[p]? := by rw [HWZ.out]; exact store3_far (by omega)
     have hbC : wz.heap[C.block]? = wc.heap[C.block]? := by rw [HWZ.out]; exact store3_far (by omega)
     have hS2 : NdBox wz q l x ∧ wz.cell? ⟨p, 0, none⟩ = some (.int .i64 key) ∧ wz.cell? ⟨p, 1, none⟩ = some (.string val) ∧ wz.cell? (C.add k) = some (.int .i64 z) := ⟨hS.1.keep hbq, (World.cell?_of_block (w := wc) (a := ⟨p, 0, none⟩) hbp).trans hS.2.1, (World.cell?_of_block (w := wc) (a := ⟨p, 1, none⟩) hbp).trans hS.2.2.1, (World.cell?_of_block (w := wc) (a := C.add k) (by rw [block_of_add]; exact hbC)).trans hS.2.2.2⟩
     clear hS hbp hbq hbC hCb hqp hba hcb hsb hkn
     refine hK.out _ _ hS2 ?_
     clear hK K0
     have hS := hS2
     clear hS2
     refine takeK (i := 15) 11 (v := v) rfl rfl hS ?_
     simp only [Act.put, pU]
     refine wpAnyH_done (by kernel_rfl) ?_ _
    case' refine_2 =>
     go_simp
     obtain ⟨c, HCB⟩ : ∃ c, Hid (c = wa.heap.size) := Hy
     obtain ⟨wb, HWwb⟩ : ∃ wb, Hid (wb = wa.alloc (.cells #[.slice none 0 0, .slice none 0 0, .slice none 0 0] 48)) := Hy
     rw [← HWwb.out, ← HCB.out]
     have HBB : Hid (Below wa.heap.size wa wb ∧ wb.heap.size = wa.heap.size + 1) := Hi (by rw [HWwb.out]; exact ⟨(Below.refl _ _).alloc (Nat.le_refl _) _, by simp⟩)
     have HXC : Hid (NdBox wb c Lay3.none_ Nd.empty ∧ ∀ j, wb.frozen? ⟨c, j, none⟩ = false) := Hi (by rw [HWwb.out, HCB.out]; exact ⟨NdBox.new (l := Lay3.none_) (x := Nd.empty) _, frozen_new1 _ _ _⟩)
     clear HWwb
     have HBX : Hid (Below w.heap.size w wb) := Hi (HBA.out.1.trans (HBB.out.1.mono HBA.out.1.size))
     have HXB : Hid (NdBox wb r Lay3.none_ Nd.empty ∧ ∀ j, wb.frozen? ⟨r, j, none⟩ = false) := Hi ⟨HRA.out.1.carry HBB.out.1 HRA.out.1.lt, frozen_below HBB.out.1 HRA.out.1.lt HRA.out.2⟩
     have HNB := Hi (HNA.out.carry HBB.out.1)
     have hS2 : NdBox wb q l x ∧ wb.cell? ⟨p, 0, none⟩ = some (.int .i64 key) ∧ wb.cell? ⟨p, 1, none⟩ = some (.string val) ∧ wb.cell? (C.add k) = some (.int .i64 z) := ⟨hS.1.carry HBB.out.1 hS.1.lt, (HBB.out.1.cell (p := ⟨p, 0, none⟩) (below_block hS.2.1)).trans hS.2.1, (HBB.out.1.cell (p := ⟨p, 1, none⟩) (below_block hS.2.2.1)).trans hS.2.2.1, (HBB.out.1.cell (p := C.add k) (below_block hS.2.2.2)).trans hS.2.2.2⟩
     clear hS
     refine hK.out _ _ hS2 ?_
     clear hK K0
     have hS := hS2
     clear hS2
     refine oneH (i := 9) (oi := ⟨some 44, _, _, _, _, _⟩) rfl (by kernel_rfl) (fun K0 hK => ?_)
     go_simp
     refine (HCH.out wb HBX.out).mono ?_
     rintro e wn ⟨lk, xk, v, rfl, hk, ho⟩
     have hCb : w1.heap.size ≤ C.block ∧ C.block < w2.heap.size := HLB.out _ (.inr (.inr ⟨C, HCC.out, rfl⟩))
     have hqp := HQP.out
     have hsb := HBB.out.2
     have hcb := HCB.out
     have hba := HBA.out.2
     have hbp := hk.block p (.inr ⟨by rw [HPP.out]; exact Nat.le_refl _, by omega⟩)
     have hbq := hk.block q (.inr ⟨by omega, by omega⟩)
     have hbr := hk.block r (.inr ⟨by omega, by omega⟩)
     have hbC := hk.block C.block (.inr ⟨by omega, by omega⟩)
     have hbc := hk.block c (.inr ⟨by omega, by omega⟩)
     have HMN : Hid (NdMine wn w1.heap.size l x) := Hi (HNB.out.keep hk.size fun g hg => hk.block g (.inr (by have := HLB.out g hg; omega)))
     have HKN := Hi hk
     have HON := Hi ho
     have HXN : Hid (NdBox wn r Lay3.none_ Nd.empty ∧ ∀ j, wn.frozen? ⟨r, j, none⟩ = false) := Hi ⟨HXB.out.1.keep hbr, fun j => (World.frozen?_of_block (w := wb) (a := ⟨r, j, none⟩) hbr).trans (HXB.out.2 j)⟩
     have HXC : Hid (NdBox wn c Lay3.none_ Nd.empty ∧ ∀ j, wn.frozen? ⟨c, j, none⟩ = false) := Hi ⟨HXC.out.1.keep hbc, fun j => (World.frozen?_of_block (w := wb) (a := ⟨c, j, none⟩) hbc).trans (HXC.out.2 j)⟩
     have hS2 : NdBox wn q l x ∧ wn.cell? ⟨p, 0, none⟩ = some (.int .i64 key) ∧ wn.cell? ⟨p, 1, none⟩ = some (.string val) ∧ wn.cell? (C.add k) = some (.int .i64 z) := ⟨hS.1.keep hbq, (World.cell?_of_block (w := wb) (a := ⟨p, 0, none⟩) hbp).trans hS.2.1, (World.cell?_of_block (w := wb) (a := ⟨p, 1, none⟩) hbp).trans hS.2.2.1, (World.cell?_of_block (w := wb) (a := C.add k) (by rw [block_of_add]; exact hbC)).trans hS.2.2.2⟩
     have HQN : Hid (NdBox wn q l x) := Hi hS2.1
     clear hk ho hbp hbq hbr hbC hbc hS hsb hcb hba hCb hqp
     refine hK.out _ _ hS2 ?_
     clear hK K0
     have hS := hS2
     clear hS2
     refine takeK (i := 10) 34 (v := .tuple #[ndV lk xk, v]) rfl rfl hS ?_
     simp only [Act.put, pU]
     refine takeK (i := 11) 45 (v := ndV lk xk) rfl rfl hS ?_
     simp only [Act.put, pU]
     refine takeK (i := 12) 46 (v := v) rfl rfl hS ?_
     simp only [Act.put, pU]
     refine oneH (i := 14) (oi := ⟨none, _, _, _, _, _⟩) rfl (by kernel_rfl) (fun K0 hK => ?_)
     have HBC := Hi HXC.out.1
     have f0 := HXC.out.2 0
     have f1 := HXC.out.2 1
     have f2 := HXC.out.2 2
     have d0 := HBC.out.c0
     have d1 := HBC.out.c1
     have d2 := HBC.out.c2
     obtain ⟨wz, HWY⟩ : ∃ wz, Hid (wz = ((wn.setCell ⟨c, 0, none⟩ (.slice lk.A xk.keys.length lk.ca)).setCell ⟨c, 1, none⟩ (.slice lk.B xk.vals.length lk.cb)).setCell ⟨c, 2, none⟩ (.slice lk.C xk.kids.length lk.cc)) := Hy
     have HWZ : Hid (wz = store3 wn c lk xk) := Hi HWY.out
     go_simp
     rw [← HWY.out]
     clear d0 d1 d2 f0 f1 f2
     have HSC : Hid (PuS O w0 K w P D n firm q r c w1.heap.size l x RK lk xk v wz) := Hi (by
      have hqp := HQP.out
      have hsz := HKN.out.size
      have hsb := HBB.out.2
      have hcb := HCB.out
      have hba := HBA.out.1.size
      have hba2 := HBA.out.2
      have hkn : Kept K w wn := (Kept.of_below HBX.out HTH.out).trans (HKN.out.less8 fun k hk => .inl hk)
      refine PuS.make H HQN.out HXN.out.1 HXN.out.2 HMN.out hkn HON.out ⟨by rw [HWZ.out]; rfl, by rw [HWZ.out]; rfl, by rw [HWZ.out]; rfl, by rw [HWZ.out, store3_size]; exact Nat.le_refl _, fun k hk => by rw [HWZ.out]; exact store3_far hk.2⟩ (by rw [HWZ.out]; exact store3_box HXC.out.1) (fun h => ⟨.inr ⟨by omega, by omega⟩, by omega⟩) (fun k hk => ?_) (by omega) (by omega) (fun h => by have := HLB.out c h; omega) (by omega) (by omega) (by omega) (fun g hg => by have := HLB.out g hg; omega) HTH.out HW0.out HL.out.low
      rcases hk with hk | hk | hk
      ·exact .inl hk
      ·exact .inr ⟨by omega, by omega⟩
      ·exact .inr (by have := HLB.out k hk; omega))
     have hCb : w1.heap.size ≤ C.block ∧ C.block < w2.heap.size := HLB.out _ (.inr (.inr ⟨C, HCC.out, rfl⟩))
     have hqp := HQP.out
     have hba := HBA.out.2
     have hcb := HCB.out
     have hsb := HBB.out.2
     have hkn := HKN.out.size
     have hbq : wz.heap[q]? = wn.heap[q]? := by rw [HWZ.out]; exact store3_far (by omega)
     have hbp : wz.heap[p]? = wn.heap[p]? := by rw [HWZ.out]; exact store3_far (by omega)
     have hbC : wz.heap[C.block]? = wn.heap[C.block]? := by rw [HWZ.out]; exact store3_far (by omega)
     have hS2 : NdBox wz q l x ∧ wz.cell? ⟨p, 0, none⟩ = some (.int .i64 key) ∧ wz.cell? ⟨p, 1, none⟩ = some (.string val) ∧ wz.cell? (C.add k) = some (.int .i64 z) := ⟨hS.1.keep hbq, (World.cell?_of_block (w := wn) (a := ⟨p, 0, none⟩) hbp).trans hS.2.1, (World.cell?_of_block (w := wn) (a := ⟨p, 1, none⟩) hbp).trans hS.2.2.1, (World.cell?_of_block (w := wn) (a := C.add k) (by rw [block_of_add]; exact hbC)).trans hS.2.2.2⟩
     clear hS hbp hbq hbC hCb hqp hba hcb hsb hkn
     refine hK.out _ _ hS2 ?_
     clear hK K0
     have hS := hS2
     clear hS2
     refine takeK (i := 15) 11 (v := v) rfl rfl hS ?_
     simp only [Act.put, pU]
     refine wpAnyH_done (by kernel_rfl) ?_ _
    all_goals
     clear HXN HKN HON HXC HCB HBB HBA HCH HWZ HWY HMN HQN HBX HNA HRA hS
     obtain ⟨lo, hll, hrl, hbl, hout⟩ := HSC.out.out
     have HLO := Hi (And.intro hll (And.intro hrl hbl))
     have HOU := Hi hout
     obtain ⟨hlaw, hcase⟩ := hout
     obtain ⟨R1, S2⟩ := RK
     rcases hcase with ⟨cd, e1, e2, rfl, rfl, e5⟩ | ⟨e1, rfl, e3⟩
     ·obtain rfl : R1 = .error cd := e1
      have HR9 : Hid (R = (.error cd, S2)) := Hi HG1.out
      obtain ⟨tt, xx, rfl⟩ := e5.some e2
      clear e2 e5 hlaw hll hrl hbl
      have f0 := HSC.out.fr 0
      have f1 := HSC.out.fr 1
      have f2 := HSC.out.fr 2
      have HBR9 := Hi HSC.out.br
      have d0 := HBR9.out.c0
      have d1 := HBR9.out.c1
      have d2 := HBR9.out.c2
      obtain ⟨w9, HW9⟩ : ∃ w9, Hid (w9 = ((wz.setCell ⟨r, 0, none⟩ (.slice none 0 0)).setCell ⟨r, 1, none⟩ (.slice none 0 0)).setCell ⟨r, 2, none⟩ (.slice none 0 0)) := Hy
      have HS9 : Hid (w9 = store3 wz r Lay3.none_ Nd.empty) := Hi HW9.out
      have HX9 : Hid (NdBox w9 r Lay3.none_ Nd.empty) := Hi (by rw [HS9.out]; exact store3_box HBR9.out)
      have HP9 : Hid (PutPost O w0 K w P D n firm R (.returned (.tuple #[ndV Lay3.none_ Nd.empty, .iface tt xx])) w9) := Hi (by
       rw [HS9.out]
       have hpl : w.heap.size ≤ p ∧ w.heap.size ≤ r ∧ p < w1.heap.size ∧ r < w1.heap.size ∧ w1.heap.size = w.heap.size + 2 := by rw [HRC.out, HPP.out, HB1.out.2]; omega
       exact by rw [HR9.out]; exact HOU.out.ret H HSC.out.kept HTH.out (fun k hk => .inl hk) (.inr (.inl rfl)) HSC.out.br.lt hpl.2.1 HLO.out.2.1 HW0.out HL.out.low)
      go_wp2_with fail
      rw [← HW9.out]
      exact bodyPost_ret (results_nd2 Tryz.ndProg rfl _ _ r Lay3.none_ Nd.empty (.iface tt xx) rfl rfl HX9.out) rfl HP9.out
     ·obtain rfl : R1 = .ok xk := e1
      have HR9 : Hid (R = replaceM n S2 x k 1 xk) := Hi HG1.out
      have HRP := Hi (replace_any H (at_ := k) (many := 1) hlaw hg (by
        have h1 := (putM_stay f HOK.out z key val).soft
        rw [← HRK.out] at h1
        have h2 : S2.d.soft.length ≤ S.d.soft.length + 2 * f := h1
        have := HSS.out
        omega) HSC.out.mi (fun g hg => .inl (.inr (.inr hg))) HRT.out HNE.out e3 (fun g hg => .inr hg) (putM_shape f HRK.out.symm) (fun g h1 h2 => by have := hll g h1; have := (e3.lt g h2).1; omega)
        (by have := HSC.out.mi.lt; have := HSC.out.br.lt; have := HSC.out.kept.size; have := hlaw.there; exact Nat.le_of_lt (Nat.lt_of_le_of_lt HQP.out.2.2.2.1 HSC.out.bq.lt)) (Nat.le_trans HW0.out HQP.out.2.2.2.2.2.2.2) (Nat.le_refl _) (by decide) HKL.out)
      rw [← HR9.out, show ((1 : Nat) : Int) = 1 from rfl] at HRP
      have HBZ : Hid (w1.heap.size ≤ wz.heap.size) := Hi (Nat.le_of_lt (Nat.lt_of_le_of_lt HQP.out.2.2.2.1 HSC.out.bq.lt))
      clear e3 hlaw hll hrl hbl
      go_wp2_with (with_reducible refine stop_at (o := ⟨some 52, _, _, _, _, _⟩) ?_)
      refine wpList_load_nd Tryz.ndProg (by rfl) _ rfl q rfl l x HSC.out.bq ?_
      go_wp2_with (with_reducible refine stop_at (o := ⟨some 54, _, _, _, _, _⟩) ?_)
      refine wpList_load_nd Tryz.ndProg (by rfl) _ rfl c rfl lk xk HSC.out.bc ?_
      go_wp2_with fail
      refine HRP.out.mono ?_
      rintro e w5 hrp
      obtain ⟨l5, x5, v5, rfl, hk5, ho5⟩ := repl_out H hrp HBZ.out (fun k hk => .inl (.inl (HL.out.low k hk)))
      have hpl : w.heap.size ≤ p ∧ w.heap.size ≤ r ∧ p < w1.heap.size ∧ r < w1.heap.size ∧ w1.heap.size = w.heap.size + 2 := by rw [HRC.out, HPP.out, HB1.out.2]; omega
      have hrb := hk5.block r ⟨.inl (.inr (.inl rfl)), fun h => by have := (HLB.out r h).1; omega⟩
      have HR5 : Hid (NdBox w5 r Lay3.none_ Nd.empty ∧ ∀ j, w5.frozen? ⟨r, j, none⟩ = false) := Hi ⟨HSC.out.br.keep hrb, fun j => (World.frozen?_of_block (w := wz) (a := ⟨r, j, none⟩) hrb).trans (HSC.out.fr j)⟩
      have HK5 : Hid (Kept K w w5) := Hi (HSC.out.kept.trans (hk5.less8 fun k hk => ⟨.inl (.inl hk), fun h => by have := HTH.out k hk; have := (HLB.out k h).1; omega⟩))
      have HO5 := Hi ho5
      clear hrp hk5 ho5 hpl hrb HRP
      have f0 := HR5.out.2 0
      have f1 := HR5.out.2 1
      have f2 := HR5.out.2 2
      have HBR9 := Hi HR5.out.1
      have d0 := HBR9.out.c0
      have d1 := HBR9.out.c1
      have d2 := HBR9.out.c2
      obtain ⟨w9, HW9⟩ : ∃ w9, Hid (w9 = ((w5.setCell ⟨r, 0, none⟩ (.slice l5.A x5.keys.length l5.ca)).setCell ⟨r, 1, none⟩ (.slice l5.B x5.vals.length l5.cb)).setCell ⟨r, 2, none⟩ (.slice l5.C x5.kids.length l5.cc)) := Hy
      have HS9 : Hid (w9 = store3 w5 r l5 x5) := Hi HW9.out
      have HX9 : Hid (NdBox w9 r l5 x5) := Hi (by rw [HS9.out]; exact store3_box HBR9.out)
      have HP9 : Hid (PutPost O w0 K w P D n firm R (.returned (.tuple #[ndV l5 x5, v5])) w9) := Hi (by
       rw [HS9.out]
       have hpl : w.heap.size ≤ p ∧ w.heap.size ≤ r ∧ p < w1.heap.size ∧ r < w1.heap.size ∧ w1.heap.size = w.heap.size + 2 := by rw [HRC.out, HPP.out, HB1.out.2]; omega
       exact HO5.out.ret H HK5.out HTH.out (fun k hk => .inl (.inl hk)) (.inl (.inr (.inl rfl))) HR5.out.1.lt hpl.2.1 hpl.2.2.2.1 HW0.out HL.out.low)
      go_wp2_with fail
      rw [← HW9.out]
      exact bodyPost_ret (results_nd2 Tryz.ndProg rfl _ _ r l5 x5 (v5) rfl rfl HX9.out) rfl HP9.out
end
end Go.Proofs.YtafclmbecmgbnaaGreatDoor

/-
 TrTopPut. Conditions: as each theorem says.
-/
namespace Go.Proofs.YtafclmbecmgbnaaGreatDoor
open Go.RowKit
theorem one_node {w : World} (key : Int) (val : ByteArray) (hk : -9223372036854775808 ≤ key ∧ key ≤ 9223372036854775807) (hv : val.size ≤ maxLen) :
  NdIs ((w.alloc (.cells #[.int .i64 key] 3)).alloc (.cells #[.string val] 9)) ⟨some ⟨w.heap.size, 0, none⟩, some ⟨w.heap.size + 1, 0, none⟩, none, 1, 1, 0⟩ ⟨[key], [val], []⟩ := by
 refine ⟨fun _ => ⟨_, rfl, by simp; omega, fun i z hz => ?_⟩, ⟨rfl, fun _ => ⟨_, rfl, by simp, fun i z hz => ?_⟩⟩, Nums.none_ _ _ _, by show 1 ≤ maxLen; unfold maxLen; decide, by show 1 ≤ maxLen; unfold maxLen; decide, Nat.zero_le _, fun z hz => ?_, fun v hv2 => ?_, fun z hz => by cases hz⟩
 ·cases i with
  | zero =>
   simp only [List.getElem?_cons_zero, Option.some.injEq] at hz
   subst hz
   rw [Addr.add_mid]
   refine (World.cell?_of_block (w := w.alloc (.cells #[.int .i64 key] 3)) ?_).trans (by simp)
   exact ((Below.refl _ _).alloc (Nat.le_refl _) _).block _ (by simp)
  | succ i => simp at hz
 ·cases i with
  | zero =>
   simp only [List.getElem?_cons_zero, Option.some.injEq] at hz
   subst hz
   rw [Addr.add_mid]
   have : w.heap.size + 1 = (w.alloc (.cells #[.int .i64 key] 3)).heap.size := by simp
   rw [this]
   simp
  | succ i => simp at hz
 ·rw [List.mem_singleton.1 hz]; exact hk
 ·rw [List.mem_singleton.1 hv2]; exact hv
theorem ReOut.is {O : PgOwn} {w0 : World} {L : Nat → Prop} {lo : Nat} {P D n : Nat} {firm : Nat → List UInt8} {l2 : Lay3} {R : Except Int (List Int × List Int) × TS} {lr : Lay3} {xr : Nd} {v : Value} {wr : World} (h : ReOut O w0 L lo P D n firm l2 R lr xr v wr) {bk ks : List Int} {S1 : TS} (hR : R = (.ok (bk, ks), S1)) (hb : bk.length ≤ 1) (hk : ks.length ≤ 2) (hbw : ∀ z ∈ bk, -9223372036854775808 ≤ z ∧ z ≤ 9223372036854775807) (hkw : ∀ z ∈ ks, 0 ≤ z ∧ z < 240) :
  NdIs wr lr xr ∧ v = .nilIface ∧ xr = ⟨bk, [], ks⟩ ∧ LawT O w0 (fun g => L g ∨ lr.has g) wr P D n S1 firm := by
 obtain ⟨h1, h2⟩ := h
 rw [hR] at h1 h2
 rcases h2 with ⟨cd, e1, _⟩ | ⟨bk2, ks2, e1, e2, e3, e4, e5, e6, _⟩
 ·cases e1
 ·simp only [Except.ok.injEq, Prod.mk.injEq] at e1
  obtain ⟨rfl, rfl⟩ := e1
  refine ⟨?_, e2, e3, h1⟩
  obtain ⟨A, c, e, hn⟩ := owned_nums e6
  simp only [Value.slice.injEq] at e
  rw [← e.1] at hn
  rw [e3]
  exact ⟨e4, by rw [e5]; exact Strs.none_ _ _, hn, by show bk.length ≤ maxLen; unfold maxLen; omega, Nat.zero_le _, by show ks.length ≤ maxLen; unfold maxLen; omega, hbw, (fun v hv => by cases hv), fun z hz => by have := hkw z hz; omega⟩
section
variable {O : PgOwn} (H : PgSpec O)
include H
set_option maxRecDepth 100000 in
set_option maxHeartbeats 4000000 in
theorem Put_any {w0 : World} {K : Nat → Prop} {w : World} {P D n : Nat} {S : TS} {firm : Nat → List UInt8} (hl : LawT O w0 K w P D n S firm) (hg : Laid2 w0) (hs : S.d.soft.length ≤ 99900) (root : Int) {key : Int} (hk : -9223372036854775808 ≤ key ∧ key ≤ 9223372036854775807) {val : ByteArray} (hv : val.size ≤ maxLen) :
  Calls Tryz.prog 20 #[ptr P, .int .i64 root, .int .i64 key, .string val] w (AddPost O w0 K w P D n firm (putTop n S root key val)) := by
 obtain ⟨R, HRR⟩ : ∃ R, Hid (R = putTop n S root key val) := Hy
 have HL := Hi hl
 have HTH : Hid (There K w) := Hi hl.there
 have HSS := Hi hs
 rw [← HRR.out]
 by_cases hbad : key < 0 ∨ 4294967295 < key ∨ val.size ≠ 12
 ·have HR9 : Hid (R = (.error 1, S)) := Hi (by rw [HRR.out]; unfold putTop; rw [if_pos hbad])
  have h1 : (decide (key < 0) = true) ∨ (decide (key < 0) = false ∧ decide (4294967295 < key) = true) ∨ (decide (key < 0) = false ∧ decide (4294967295 < key) = false ∧ ((val.size : Int) != 12) = true) := by
   by_cases a1 : key < 0
   ·exact .inl (decide_eq_true a1)
   ·by_cases a2 : 4294967295 < key
    ·exact .inr (.inl ⟨decide_eq_false a1, decide_eq_true a2⟩)
    ·refine .inr (.inr ⟨decide_eq_false a1, decide_eq_false a2, ?_⟩)
     simp only [bne_iff_ne, ne_eq]
     omega
  clear hl hs hk hv hbad HRR
  rcases h1 with h1 | ⟨h1, h2⟩ | ⟨h1, h2, h3⟩
  all_goals
   go_enter Tryz.func20, Tryz.ntmps20
   go_wp2_with fail
   refine (trFault_any 1 (by decide) _).mono ?_
   rintro e w1 ⟨v, rfl, he, hb⟩
   have HE := Hi he
   have HB := Hi hb
   clear he hb
   go_wp2_with fail
   go_ret2
   rw [HR9.out]
   exact ⟨HL.out.carry H HB.out, Kept.of_below HB.out HTH.out, by decide, _, rfl, HE.out⟩
 ·have h1 : decide (key < 0) = false := decide_eq_false (by omega)
  have h2 : decide (4294967295 < key) = false := decide_eq_false (by omega)
  have h3 : ((val.size : Int) != 12) = false := by simp; omega
  by_cases h0 : root = 0
  ·subst h0
   have HR9 : Hid (R = addM n S ⟨[key], [val], []⟩) := Hi (by rw [HRR.out]; unfold putTop; rw [if_neg hbad, if_pos rfl])
   obtain ⟨w1, HW1⟩ : ∃ w1, Hid (w1 = (w.alloc (.cells #[.int .i64 key] 3)).alloc (.cells #[.string val] 9)) := Hy
   have HB1 : Hid (Below w.heap.size w w1) := Hi (by rw [HW1.out]; exact ((Below.refl _ _).alloc (Nat.le_refl _) _).alloc (by simp) _)
   have HND := Hi (one_node (w := w) key val hk hv)
   rw [← HW1.out] at HND
   have HAD := Hi (add_any H (hl.carry H HB1.out) hg (by omega) HND.out)
   rw [← HR9.out] at HAD
   clear hl hs hk hv hbad HRR
   go_enter Tryz.func20, Tryz.ntmps20
   go_wp2_with fail
   rw [← HW1.out]
   refine HAD.out.mono ?_
   rintro e w2 ⟨hlaw, hkept, hm⟩
   have HO2 : Hid (∃ k v, e = .returned (.tuple #[.int .i64 k, v]) ∧ AddPost O w0 K w P D n firm R (.returned (.tuple #[.int .i64 k, v])) w2) := Hi (by
    have hk2 : Kept K w w2 := (Kept.of_below HB1.out HTH.out).trans hkept
    unfold AddPost
    cases hR1 : R.1 with
    | error c =>
     rw [hR1] at hm
     obtain ⟨h1, v, rfl, h3⟩ := hm
     exact ⟨_, _, rfl, hlaw, hk2, h1, v, rfl, h3.mono HB1.out.size⟩
    | ok k =>
     rw [hR1] at hm
     exact ⟨_, _, hm, hlaw, hk2, rfl⟩)
   obtain ⟨k, v, rfl, hp⟩ := HO2.out
   have HP := Hi hp
   clear hlaw hkept hm HO2 hp HAD HND HW1
   go_wp2_with fail
   go_ret2
   exact HP.out
  ·obtain ⟨RK, HRK⟩ : ∃ RK, Hid (RK = putM n 12 S root key val) := Hy
   have HR9 : Hid (R = match (generalizing := false) RK with
    | (.error c, S1) => (.error c, S1)
    | (.ok x, S1) => match changeM n S1 x [root] with
     | (.error c, S2) => (.error c, S2)
     | (.ok (bk, ks), S2) => if bk.length = 0 then (.ok (ks.getD 0 0), S2)
      else match addM n S2 ⟨bk, [], ks⟩ with
       | (.error c, S3) => (.error c, S3)
       | (.ok k, S3) => match getTop S3 k key with
        | .error c => (.error c, S3)
        | .ok _ => (.ok k, S3)) := Hi (by
    rw [HRR.out, HRK.out]
    unfold putTop
    rw [if_neg hbad, if_neg h0]
    rfl)
   have HPU := Hi (put_any H hg hk hv 12 (Nat.le_refl _) hl (by omega) root)
   rw [show (13 : Int) - ((12 : Nat) : Int) = 1 from rfl, ← HRK.out] at HPU
   have HST : Hid (RK.2.d.soft.length ≤ S.d.soft.length + 24) := Hi (by rw [HRK.out]; exact (putM_stay 12 hl.inv root key val).soft)
   have HW0 : Hid (w0.heap.size ≤ w.heap.size) := Hi hl.below.size
   have hz : (root == 0) = false := by simp [h0]
   clear hl hs hk hv hbad HRR
   go_enter Tryz.func20, Tryz.ntmps20
   go_wp2_with fail
   refine HPU.out.mono ?_
   rintro e w2 hpp
   obtain ⟨lk, xk, v, rfl, hk2, ho⟩ := put_out H hpp HL.out.low
   have HK2 := Hi hk2
   obtain ⟨R1, S1⟩ := RK
   obtain ⟨hlaw, hcase⟩ := ho
   have HLW := Hi hlaw
   obtain ⟨q, HCq⟩ : ∃ q, Hid (q = w2.heap.size) := Hy
   obtain ⟨w3, HWw3⟩ : ∃ w3, Hid (w3 = w2.alloc (.cells #[.slice lk.A xk.keys.length lk.ca, .slice lk.B xk.vals.length lk.cb, .slice lk.C xk.kids.length lk.cc] 48)) := Hy
   have HB3 : Hid (Below w2.heap.size w2 w3 ∧ w3.heap.size = w2.heap.size + 1) := Hi (by rw [HWw3.out]; exact ⟨(Below.refl _ _).alloc (Nat.le_refl _) _, by simp⟩)
   have HQ3 : Hid (NdBox w3 q lk xk) := Hi (by rw [HWw3.out, HCq.out]; exact NdBox.new _)
   go_upto_region 6 with (fail)
   rw [← HWw3.out, ← HCq.out]
   clear HWw3 HPU hpp hk2 hlaw
   rcases hcase with ⟨cd, e1, e2, rfl, rfl, e5⟩ | ⟨e1, rfl, e3⟩
   ·obtain rfl : R1 = .error cd := e1
    have HR8 : Hid (R = (.error cd, S1)) := Hi HR9.out
    obtain ⟨tt, xx, rfl⟩ := e5.some e2
    have HE := Hi (e5.below HB3.out.1)
    have HC0 := Hi e2
    clear e2 e5
    go_wp2_with fail
    go_ret2
    rw [HR8.out]
    exact ⟨(HLW.out.less H (fun k hk => .inl hk) HL.out.low).carry H HB3.out.1, HK2.out.trans (Kept.of_below HB3.out.1 fun k hk => Nat.lt_of_lt_of_le (HTH.out k hk) HK2.out.size), HC0.out, _, rfl, HE.out⟩
   ·obtain rfl : R1 = .ok xk := e1
    obtain ⟨RC, HRC⟩ : ∃ RC, Hid (RC = changeM n S1 xk [root]) := Hy
    have HR8 : Hid (R = match (generalizing := false) RC with
     | (.error c, S2) => (.error c, S2)
     | (.ok (bk, ks), S2) => if bk.length = 0 then (.ok (ks.getD 0 0), S2)
      else match addM n S2 ⟨bk, [], ks⟩ with
       | (.error c, S3) => (.error c, S3)
       | (.ok k, S3) => match getTop S3 k key with
        | .error c => (.error c, S3)
        | .ok _ => (.ok k, S3)) := Hi (by rw [HRC.out]; exact HR9.out)
    have HN2 := Hi e3
    clear e3 HR9
    go_wp2_with (with_reducible refine stop_at (o := ⟨some 53, _, _, _, _, _⟩) ?_)
    refine wpList_load_nd Tryz.ndProg (by rfl) _ rfl q rfl lk xk HQ3.out ?_
    obtain ⟨g, HG⟩ : ∃ g, Hid (g = w3.heap.size) := Hy
    obtain ⟨w4, HW4⟩ : ∃ w4, Hid (w4 = w3.alloc (.cells #[.int .i64 root] 3)) := Hy
    have HB4 : Hid (Below w2.heap.size w2 w4 ∧ w4.heap.size = w2.heap.size + 2) := Hi (by rw [HW4.out]; exact ⟨HB3.out.1.alloc HB3.out.1.size _, by simp [HB3.out.2]⟩)
    have HNU : Hid (Nums w4 .i64 (some ⟨g, 0, none⟩) [root]) := Hi (by
     rw [HW4.out, HG.out]
     refine fun _ => ⟨_, rfl, by simp, fun i z hz => ?_⟩
     cases i with
     | zero => simp only [List.getElem?_cons_zero, Option.some.injEq] at hz; subst hz; rw [Addr.add_mid]; simp
     | succ i => simp at hz)
    have HL4 := Hi (HLW.out.grow H HB4.out.1)
    have HCH := Hi (change_any H HL4.out hg (by have := HST.out; have h2 : S1.d.soft.length ≤ S.d.soft.length + 24 := this; have := HSS.out; omega) (HN2.out.carry HB4.out.1) (fun g hg => .inl (.inr hg)) (putM_shape 12 HRK.out.symm) HNU.out (oc := 1) (fun a ha _ => .inr (by cases ha; show w2.heap.size ≤ g ∧ g < w4.heap.size; have := HG.out; have := HB3.out.2; have := HB4.out.2; omega)) (by show 1 ≤ 2; decide))
    rw [← HRC.out, show [root].length = 1 from rfl] at HCH
    have HKX : Hid (∀ z ∈ xk.keys, -9223372036854775808 ≤ z ∧ z ≤ 9223372036854775807) := Hi HN2.out.is.kw
    go_wp2_with fail
    rw [← HW4.out, ← HG.out]
    refine HCH.out.mono ?_
    rintro e w5 hcp
    obtain ⟨lr, xr, v, rfl, hk5, ho5⟩ := change_out H hcp (fun k hk => .inl (.inl (HL.out.low k hk)))
    have HK5 : Hid (Kept K w w5) := Hi (HK2.out.trans ((Kept.of_below HB4.out.1 fun k hk => Nat.lt_of_lt_of_le (HTH.out k hk) HK2.out.size).trans (hk5.less8 fun k hk => .inl (.inl hk))))
    have HO5 := Hi ho5
    obtain ⟨c, HCc⟩ : ∃ c, Hid (c = w5.heap.size) := Hy
    obtain ⟨w6, HW6⟩ : ∃ w6, Hid (w6 = w5.alloc (.cells #[.slice lr.A xr.keys.length lr.ca, .slice lr.B xr.vals.length lr.cb, .slice lr.C xr.kids.length lr.cc] 48)) := Hy
    have HB6 : Hid (Below w5.heap.size w5 w6) := Hi (by rw [HW6.out]; exact (Below.refl _ _).alloc (Nat.le_refl _) _)
    have HC6 : Hid (NdBox w6 c lr xr) := Hi (by rw [HW6.out, HCc.out]; exact NdBox.new _)
    have HK6 : Hid (Kept K w w6) := Hi (HK5.out.trans (Kept.of_below HB6.out fun k hk => Nat.lt_of_lt_of_le (HTH.out k hk) HK5.out.size))
    have HSZ : Hid (w.heap.size ≤ w4.heap.size) := Hi (Nat.le_trans HK2.out.size HB4.out.1.size)
    go_upto_region 9 with (fail)
    rw [← HW6.out, ← HCc.out]
    clear HW6 HCH hcp hk5 ho5 HW4 HNU HN2
    obtain ⟨R2, S2⟩ := RC
    have hcase := HO5.out.2
    rcases hcase with ⟨cd, e1, e2, rfl, rfl, e5⟩ | ⟨bk, ks, e1, rfl, e3, -, -, -, -, -⟩
    ·obtain rfl : R2 = .error cd := e1
     have HR7 : Hid (R = (.error cd, S2)) := Hi HR8.out
     obtain ⟨tt, xx, rfl⟩ := e5.some e2
     have HE := Hi ((e5.below HB6.out).mono HSZ.out)
     have HC0 := Hi e2
     have HFK := Hi (firstKid_any (NdIs.empty w6))
     clear e2 e5
     go_wp2_with (with_reducible refine stop_at (o := ⟨some 67, _, _, _, _, _⟩) ?_)
     refine wpList_load_nd Tryz.ndProg (by rfl) _ rfl c rfl Lay3.none_ Nd.empty HC6.out ?_
     go_wp2_with fail
     refine HFK.out.mono ?_
     rintro e w7 ⟨rfl, hb⟩
     have HB7 := Hi hb
     clear hb
     go_wp2_with fail
     go_ret2
     rw [HR7.out]
     refine ⟨((HO5.out.1.less H (fun k hk => .inl (.inl (.inl hk))) HL.out.low).carry H HB6.out).carry H HB7.out, HK6.out.trans (Kept.of_below HB7.out fun k hk => Nat.lt_of_lt_of_le (HTH.out k hk) HK6.out.size), HC0.out, _, rfl, HE.out.below HB7.out⟩
    ·obtain rfl : R2 = .ok (bk, ks) := e1
     obtain ⟨h5, h6⟩ := changeM_row HRC.out.symm
     have hbl : bk.length ≤ 1 := by rw [h5]; exact partsN_keys_few xk
     have hrg := changeM_range HLW.out.inv HRC.out.symm
     obtain ⟨hnd, -, -, hlw5⟩ := HO5.out.is rfl hbl (by omega) (fun z hz => HKX.out z (partsN_mem (by rw [← h5]; exact hz))) hrg
     obtain ⟨hxk, hxc⟩ : bk = xr.keys ∧ ks = xr.kids := by rw [e3]; exact ⟨rfl, rfl⟩
     have HR7 : Hid (R = if xr.keys.length = 0 then (.ok (xr.kids.getD 0 0), S2)
      else match addM n S2 xr with
       | (.error c, S3) => (.error c, S3)
       | (.ok k, S3) => match getTop S3 k key with
        | .error c => (.error c, S3)
        | .ok _ => (.ok k, S3)) := Hi (by rw [e3]; exact HR8.out)
     have HN6 := Hi (hnd.carry HB6.out)
     have HL6 : Hid (LawT O w0 K w6 P D n S2 firm) := Hi ((hlw5.less H (fun k hk => .inl (.inl (.inl hk))) HL.out.low).carry H HB6.out)
     have HS2 : Hid (S2.d.soft.length ≤ S1.d.soft.length + 2) := Hi (by have h := (changeM_stay HLW.out.inv xk [root]).soft; rw [← HRC.out] at h; exact h)
     have c0 := HC6.out.c0
     clear h5 h6 hbl hrg hnd hlw5 hxk hxc e3 HR8
     by_cases hke : xr.keys.length = 0
     ·have HR6 : Hid (R = (.ok (xr.kids.getD 0 0), S2)) := Hi (by rw [HR7.out, if_pos hke])
      have hz0 : ((xr.keys.length : Int) == 0) = true := by rw [hke]; rfl
      have HFK := Hi (firstKid_any HN6.out)
      clear hke
      go_wp2_with (with_reducible refine stop_at (o := ⟨some 67, _, _, _, _, _⟩) ?_)
      clear hz0 c0
      refine wpList_load_nd Tryz.ndProg (by rfl) _ rfl c rfl lr xr HC6.out ?_
      go_wp2_with fail
      refine HFK.out.mono ?_
      rintro e w7 ⟨rfl, hb⟩
      have HB7 := Hi hb
      clear hb
      go_wp2_with fail
      go_ret2
      rw [HR6.out]
      exact ⟨HL6.out.carry H HB7.out, HK6.out.trans (Kept.of_below HB7.out fun k hk => Nat.lt_of_lt_of_le (HTH.out k hk) HK6.out.size), rfl⟩
     ·obtain ⟨RA, HRA⟩ : ∃ RA, Hid (RA = addM n S2 xr) := Hy
      have HR6 : Hid (R = match (generalizing := false) RA with
       | (.error c, S3) => (.error c, S3)
       | (.ok k, S3) => match getTop S3 k key with
        | .error c => (.error c, S3)
        | .ok _ => (.ok k, S3)) := Hi (by rw [HR7.out, if_neg hke, HRA.out])
      have hz0 : ((xr.keys.length : Int) == 0) = false := by rw [beq_eq_false_iff_ne]; omega
      have HAD := Hi (add_any H HL6.out hg (by have h1 := HS2.out; have h2 : S1.d.soft.length ≤ S.d.soft.length + 24 := HST.out; have h3 := HSS.out; omega) HN6.out)
      rw [← HRA.out] at HAD
      clear hke HR7
      go_wp2_with (with_reducible refine stop_at (o := ⟨some 72, _, _, _, _, _⟩) ?_)
      clear hz0 c0
      refine wpList_load_nd Tryz.ndProg (by rfl) _ rfl c rfl lr xr HC6.out ?_
      go_wp2_with fail
      refine HAD.out.mono ?_
      rintro e w7 ⟨hlaw, hkept, hm⟩
      obtain ⟨R3, S3⟩ := RA
      have HL7 := Hi hlaw
      have HK7 : Hid (Kept K w w7) := Hi (HK6.out.trans hkept)
      clear hlaw hkept HAD
      cases R3 with
      | error cd =>
       obtain ⟨h1, v, rfl, h3⟩ := hm
       obtain ⟨tt, xx, rfl⟩ := h3.some h1
       have HR5 : Hid (R = (.error cd, S3)) := Hi HR6.out
       have HE := Hi (h3.mono HK6.out.size)
       have HC0 := Hi h1
       clear h1 h3
       go_wp2_with fail
       go_ret2
       rw [HR5.out]
       exact ⟨HL7.out, HK7.out, HC0.out, _, rfl, HE.out⟩
      | ok k =>
       obtain rfl := hm
       have HR5 : Hid (R = match (generalizing := false) getTop S3 k key with
        | .error c => (.error c, S3)
        | .ok _ => (.ok k, S3)) := Hi HR6.out
       have HGT := Hi (Get_any H hg HL7.out k key)
       go_wp2_with fail
       refine HGT.out.mono ?_
       rintro e w8 hgp
       cases hgg : getTop S3 k key with
       | error cd =>
        rw [hgg] at hgp
        have HR4 : Hid (R = (.error cd, S3)) := Hi (by rw [HR5.out, hgg])
        obtain ⟨h1, v, rfl, h3, hb⟩ := hgp
        obtain ⟨tt, xx, rfl⟩ := h3.some h1
        have HE := Hi (h3.mono HK7.out.size)
        have HC0 := Hi h1
        have HB8 := Hi hb
        clear h1 h3 hb hgg HGT HR5
        go_wp2_with fail
        go_ret2
        rw [HR4.out]
        exact ⟨HL7.out.carry H HB8.out, HK7.out.trans (Kept.of_below HB8.out fun k hk => Nat.lt_of_lt_of_le (HTH.out k hk) HK7.out.size), HC0.out, _, rfl, HE.out⟩
       | ok sv =>
        rw [hgg] at hgp
        have HR4 : Hid (R = (.ok k, S3)) := Hi (by rw [HR5.out, hgg])
        obtain ⟨rfl, hb⟩ := hgp
        have HB8 := Hi hb
        clear hb hgg HGT HR5
        go_wp2_with fail
        go_ret2
        rw [HR4.out]
        exact ⟨HL7.out.carry H HB8.out, HK7.out.trans (Kept.of_below HB8.out fun k hk => Nat.lt_of_lt_of_le (HTH.out k hk) HK7.out.size), rfl⟩
end
end Go.Proofs.YtafclmbecmgbnaaGreatDoor
