/-
  Pgr: several texts in one file. Conditions: as each part says.
-/
import Derived.Test.YtafclmbecmgbnaaGreatDoorPgSpec
import Derived.Test.YtafclmbecmgbnaaGreatDoorTagSame
import Derived.Lib.SliceRun
/-
 ya. Conditions: as each theorem says.
-/
set_option maxRecDepth 100000
set_option maxHeartbeats 2000000
open Nat renaming le_refl -> zdH, lt_of_lt_of_le -> zd5
namespace Go.Proofs.YtafclmbecmgbnaaGreatDoor
section
open Go.RowKit
open Bits (Ok has with_ without both minus)
def kh (D : Nat) (s : Pst) : List Value := [ptr D] ++ zP s.sup ++ zp s.new ++ zp s.gone
structure yD (w : World) (P D : Nat) (s : Pst) : Prop where
 sup : s.sup.Ok
 new : Ok s.new
 gone : Ok s.gone
 disk : w.rangeAt P 0 [ptr D]
 sb : w.rangeAt P 1 (zP s.sup)
 fresh : w.rangeAt P 33 (zp s.new)
 going : w.rangeAt P 63 (zp s.gone)
 free : ∀ j, w.frozen? ⟨P, j, none⟩ = false
theorem qq {w : World} {b o : Nat} {xs ys : List Value} (h : w.rangeAt b o (xs ++ ys)) : w.rangeAt b o xs /\ w.rangeAt b (o + xs.length) ys :=
 ⟨fun j v hv => h j v (by rw [List.getElem?_append_left (List.getElem?_eq_some_iff.1 hv).1]; exact hv), fun j v hv => by
  have := h (xs.length + j) v (by rw [List.getElem?_append_right (Nat.le_add_right _ _), Nat.add_sub_cancel_left]; exact hv)
  rwa [<- Nat.add_assoc] at this⟩
theorem yD.of_cells {w : World} {P D : Nat} {s : Pst} (h1 : s.sup.Ok) (h2 : Ok s.new) (h3 : Ok s.gone) (h : w.rangeAt P 0 (kh D s)) (hf : ∀ j, w.frozen? ⟨P, j, none⟩ = false) : yD w P D s := by
 obtain ⟨h, g⟩ := qq h;obtain ⟨h, f⟩ := qq h;obtain ⟨h, b⟩ := qq h;have e1 : (zP s.sup).length = 32 := zH h1;have e2 : (zp s.new).length = 30 := by rw [zI, h2.len]
 simp only [List.length_append, List.length_singleton, e1, e2] at g f b;exact ⟨h1, h2, h3, h, b, f, g, hf⟩
theorem yD.lt {w : World} {P D : Nat} {s : Pst} (h : yD w P D s) : P < w.1.size := zm (h.disk 0 _ rfl)
theorem yD.block {w w' : World} {P D : Nat} {s : Pst} (h : yD w P D s) (hb : w'.1[P]? = w.1[P]?) : yD w' P D s :=
 ⟨h.sup, h.new, h.gone, fun j v hv => (World.cell?_of_block (w := w) (a := ⟨P, 0 + j, none⟩) hb).trans (h.disk j v hv), fun j v hv => (World.cell?_of_block (w := w) (a := ⟨P, 1 + j, none⟩) hb).trans (h.sb j v hv),
  fun j v hv => (World.cell?_of_block (w := w) (a := ⟨P, 33 + j, none⟩) hb).trans (h.fresh j v hv), fun j v hv => (World.cell?_of_block (w := w) (a := ⟨P, 63 + j, none⟩) hb).trans (h.going j v hv),
  fun j => (World.frozen?_of_block (w := w) (a := ⟨P, j, none⟩) hb).trans (h.free j)⟩
theorem yD.below {w w' : World} {P D : Nat} {s : Pst} (h : yD w P D s) (hb : Below w.1.size w w') : yD w' P D s := h.block (hb.block P h.lt)
theorem yD.at0 {w : World} {P D : Nat} {s : Pst} (h : yD w P D s) : w.cell? ⟨P, 0, none⟩ = some (ptr D) := h.disk 0 _ rfl
theorem yD.genC {w : World} {P D : Nat} {s : Pst} (h : yD w P D s) : w.cell? ⟨P, 1, none⟩ = some (.int .u32 (s.sup.gen : Int)) := h.sb 0 _ rfl
theorem yD.rootC {w : World} {P D : Nat} {s : Pst} (h : yD w P D s) : w.cell? ⟨P, 2, none⟩ = some (.int .i64 s.sup.root) := h.sb 1 _ rfl
theorem yD.usedC {w : World} {P D : Nat} {s : Pst} (h : yD w P D s) : w.rangeAt P 3 (zp s.sup.used) := fun j v hv => by
 have := h.sb (2 + j) v (by rw [Nat.add_comm]; exact hv)
 rwa [<- Nat.add_assoc] at this
theorem yQ {w : World} {b o n : Nat} {cs : List Value} (h : w.rangeAt b o cs) (hl : cs.length = n) (hf : ∀ j, w.frozen? ⟨b, j, none⟩ = false) : w.there b o n :=
 fun j hj => ⟨by rw [h j _ (List.getElem?_eq_getElem (by omega))]; rfl, hf _⟩
theorem yD.putFresh {w : World} {P D : Nat} {s : Pst} (h : yD w P D s) {t : List Nat} (ht : Ok t) : yD (w.setCells P 33 (zp t)) P D ⟨s.sup, t, s.gone⟩ := by
 have e1 : (zP s.sup).length = 32 := zH h.sup;have e2 : (zp t).length = 30 := by rw [zI, ht.len]
 have e3 : (zp s.new).length = 30 := by rw [zI, h.new.len]
 exact ⟨h.sup, ht, h.gone, World.rangeAt_setCells_apart h.disk _ _ _ (.inr (.inl (by simp))), World.rangeAt_setCells_apart h.sb _ _ _ (.inr (.inl (by rw [e1]; decide))),
  World.rangeAt_setCells_same _ _ _ _ (yQ h.fresh (by rw [e2, e3]) h.free), World.rangeAt_setCells_apart h.going _ _ _ (.inr (.inr (by rw [e2]; decide))), fun j => by rw [World.frozen?_setCells]; exact h.free j⟩
theorem yD.putGoing {w : World} {P D : Nat} {s : Pst} (h : yD w P D s) {t : List Nat} (ht : Ok t) : yD (w.setCells P 63 (zp t)) P D ⟨s.sup, s.new, t⟩ := by
 have e1 : (zP s.sup).length = 32 := zH h.sup;have e2 : (zp t).length = 30 := by rw [zI, ht.len]
 have e3 : (zp s.new).length = 30 := by rw [zI, h.new.len]
 have e4 : (zp s.gone).length = 30 := by rw [zI, h.gone.len]
 exact ⟨h.sup, h.new, ht, World.rangeAt_setCells_apart h.disk _ _ _ (.inr (.inl (by simp))), World.rangeAt_setCells_apart h.sb _ _ _ (.inr (.inl (by rw [e1]; decide))),
  World.rangeAt_setCells_apart h.fresh _ _ _ (.inr (.inl (by rw [e3]; decide))), World.rangeAt_setCells_same _ _ _ _ (yQ h.going (by rw [e2, e4]) h.free), fun j => by rw [World.frozen?_setCells]; exact h.free j⟩
theorem yD.putSb {w : World} {P D : Nat} {s : Pst} (h : yD w P D s) {x : Sb} (hx : x.Ok) : yD (w.setCells P 1 (zP x)) P D ⟨x, s.new, s.gone⟩ := by
 have e1 : (zP s.sup).length = 32 := zH h.sup;have e2 : (zP x).length = 32 := zH hx;exact ⟨hx, h.new, h.gone, World.rangeAt_setCells_apart h.disk _ _ _ (.inr (.inl (by simp))), World.rangeAt_setCells_same _ _ _ _ (yQ h.sb (by rw [e1, e2]) h.free),
  World.rangeAt_setCells_apart h.fresh _ _ _ (.inr (.inr (by rw [e2]; decide))), World.rangeAt_setCells_apart h.going _ _ _ (.inr (.inr (by rw [e2]; decide))), fun j => by rw [World.frozen?_setCells]; exact h.free j⟩
abbrev wL (P : Nat) (w w' : World) : Prop := zg (fun b => b < w.1.size /\ b ≠ P) w w'
theorem wL.of_below {P : Nat} {w w' : World} (hb : Below w.1.size w w') : wL P w w' := zg.of_below hb fun _ h => h.1
theorem wL.setCells {P : Nat} {w0 w : World} (h : wL P w0 w) (o : Nat) (vs : List Value) : wL P w0 (w.setCells P o vs) := by
 exact zg.setCells h (fun hk => hk.2 rfl) o vs
theorem wL.trans {P : Nat} {w w1 w2 : World} (h : wL P w w1) (h2 : wL P w1 w2) : wL P w w2 := zg.trans h (h2.less fun _ hk => ⟨zd5 hk.1 h.size, hk.2⟩)
theorem wJ {ops : Array Oper} {rest : List Oper} {op : Oper} {a : Act} {w : World} {Q : Exit -> Act -> World -> Prop} (hgd : op.guard = none) (x y : Operand) (ho : op.op = .store 63 x y)
  (b o : Nat) (s : List Nat) (hl : s.length = 30) (hx : a.eval x = .pointer (some ⟨b, o, none⟩)) (hy : a.eval y = stV s) (hb : w.there b o 30)
  (h : ∀ w2, Hid (w2 = w.setCells b o (zp s)) -> wpList Tryz.prog ops Q rest (a.put op.dst undef) w2) : wpList Tryz.prog ops Q (op :: rest) a w :=
 wpList_store_mid hgd _ x y ho b o (yt s) hx hy (by rw [yK, hl]; exact hb) (by rw [yK, hl]; exact Tryz.setSize) (js s) (h _ (Hi rfl))
def qU : yq := fun B w P D s => (∀ b, B b ↔ b = P) /\ yD w P D s
end
section
open Go.RowKit
open Bits (Ok has with_ without both minus)
theorem yT (c : Int) (hc : c ≠ 0) (w : World) : Calls Tryz.prog 57 #[.int .i64 c] w (yN c w.1.size w) := by
 have H := Hi hc;clear hc
 go_enter Tryz.func57, Tryz.ntmps57
 go_wp2_with fail;refine (ym _ w.1.size c _ w (.inr ⟨H.o, .base⟩) (zdH _)).mono ?_;rintro e w' ⟨v, rfl, h1, h4⟩;have H1 := Hi h1;have H4 := Hi h4;clear h1 h4;go_wp2_with fail
 go_ret
 exact ⟨v, rfl, H1.o, H4.o⟩
theorem wQ {ops : Array Oper} {S : World -> Prop} {op : Oper} {a : Act} (hw : Region.wanted op (yielded ops a.tmps) = true) (x : Operand) (ho : op.op = .load 63 x)
  (b o : Nat) (hx : a.eval x = .pointer (some ⟨b, o, none⟩)) (s : List Nat) (hl : s.length = 30) (hS : ∀ w, S w -> w.rangeAt b o (zp s)) : YieldsIf Tryz.prog ops S op (stV s) a :=
 yieldsIf_load_mid hw _ x ho b o hx (zp s) _ hS Tryz.underlying63 rfl (by rw [zI, hl]; exact Tryz.setSize)
structure Zv (w : World) (P D b : Nat) (s : Pst) (wr : World) : Prop where
 own : yD wr P D s
 res : yG wr b zY
 below : Below w.1.size w wr
theorem Zv.carry {w wr w' : World} {P D b : Nat} {s : Pst} (h : Zv w P D b s wr) (hb : Below wr.1.size wr w') : Zv w P D b s w' :=
 ⟨h.own.below hb, h.res.below hb (h.res.lt (by decide)), h.below.trans (hb.mono h.below.size)⟩
theorem Zv.new {w : World} {P D : Nat} {s : Pst} (h : yD w P D s) : Zv w P D w.1.size s (w.alloc (.cells (yt zY) 63)) := by
 have hb : Below w.1.size w (w.alloc (.cells (yt zY) 63)) := (Below.refl _ _).alloc (zdH _) _;exact ⟨h.below hb, yG.new _, hb⟩
theorem jU {w : World} {P D : Nat} {s : Pst} (h : yD w P D s) (hu : Ok s.sup.used) : Calls Tryz.prog 78 #[ptr P] w fun e w' => e = .returned (stV (both s.sup.used s.new)) /\ Below w.1.size w w' := by
 have hz := Tryz.zeroSet;have HU := Hi hu;have HN := Hi h.new;obtain ⟨w1, HW⟩ : ∃ w1, Hid (w1 = w.alloc (.cells (yt zY) 63)) := Hy;obtain ⟨b, HBB⟩ : ∃ b, Hid (b = w.1.size) := Hy;have HS : Hid (Zv w P D b s w1) := Hi (by rw [HW.o, HBB.o]; exact .new h);have hbb : w.1.size <= b := by rw [HBB.o]; exact zdH _
 have HLE := Hi hbb;clear h hu hbb
 go_enter Tryz.func78, Tryz.ntmps78
 go_upto_region 1 with (fail)
 rw [<- HW.o, <- HBB.o];clear HW HBB;refine wy (Zv w P D b s) 10 (by kernel_rfl) (by kernel_rfl) (fun wa HWA => ?_);have hS : Zv w P D b s wa := by rw [HWA.o]; exact HS.o.carry (Below.refl _ _).drew
 clear HWA HS;refine za (i := 0) 3 (v := ptr P) rfl rfl hS ?_;simp only [Act.put, pU];refine za (i := 1) 4 (v := .pointer (some ⟨P, 0, none⟩)) rfl rfl hS ?_;simp only [Act.put, pU];refine za (i := 2) 5 (v := .pointer (some ⟨P, 1, none⟩)) rfl rfl hS ?_;simp only [Act.put, pU];refine za (i := 3) 6 (v := .pointer (some ⟨P, 3, none⟩)) rfl rfl hS ?_;simp only [Act.put, pU];refine zy (i := 4) 7 (v := stV s.sup.used) rfl rfl (wQ (by rfl) _ rfl P 3 rfl s.sup.used HU.o.len (fun _ h => h.own.usedC)) hS ?_;simp only [Act.put, pU];refine za (i := 5) 8 (v := ptr P) rfl rfl hS ?_;simp only [Act.put, pU];refine za (i := 6) 9 (v := .pointer (some ⟨P, 0, none⟩)) rfl rfl hS ?_;simp only [Act.put, pU];refine za (i := 7) 10 (v := .pointer (some ⟨P, 33, none⟩)) rfl rfl hS ?_;simp only [Act.put, pU];refine zy (i := 8) 11 (v := stV s.new) rfl rfl (wQ (by rfl) _ rfl P 33 rfl s.new HN.o.len (fun _ h => h.own.fresh)) hS ?_;simp only [Act.put, pU];refine zN (i := 9) (oi := ⟨some 12, _, _, _, _, _⟩) rfl (by kernel_rfl) (fun K hK => ?_);go_simp;refine (zak _ _ HU.o HN.o _).mono ?_;rintro e wn ⟨rfl, hb⟩;have hS2 := hS.carry hb;clear hb hS;refine hK.out _ _ hS2 ?_;clear hK K;have hS := hS2;clear hS2
 try simp only [Act.put, pU]
 refine wpAnyH_done (by kernel_rfl) ?_ _;unfold wK;simp only [List.drop_succ_cons, List.drop_zero];have hl := (HU.o.both HN.o).len;refine yS rfl _ _ rfl b (both s.sup.used s.new) zY hl yF rfl rfl hS.res ?_;intro w4 HW4 HO4;go_wp2_with fail;exact bodyPost_ret (wX rfl _ _ b _ rfl HO4.o.at_ hl) rfl ⟨rfl, zG hS.below HW4.o HLE.o⟩
theorem yG.blockEq {w w' : World} {b : Nat} {s : List Nat} (h : yG w b s) (hb : w'.1[b]? = w.1[b]?) : yG w' b s :=
 ⟨fun j v hv => (World.cell?_of_block (w := w) (a := ⟨b, 0 + j, none⟩) hb).trans (h.at_ j v hv), fun j => (World.frozen?_of_block (w := w) (a := ⟨b, j, none⟩) hb).trans (h.free j)⟩
structure WA (w : World) (P D b u : Nat) (s : Pst) (k : Nat) (wr : World) : Prop where
 own : yD wr P D s
 res : yG wr b zY
 set : yG wr u (minus (both s.sup.used s.new) s.gone k)
 below : Below w.1.size w wr
 lo : w.1.size <= b
 lo2 : w.1.size <= u
 ne : b ≠ u
 was : P < w.1.size
theorem WA.carry {w wr w' : World} {P D b u k : Nat} {s : Pst} (hl : (minus (both s.sup.used s.new) s.gone k).length = 30) (h : WA w P D b u s k wr) (hb : Below wr.1.size wr w') : WA w P D b u s k w' :=
 ⟨h.own.below hb, h.res.below hb (h.res.lt (by decide)), h.set.below hb (h.set.lt (by omega)), h.below.trans (hb.mono h.below.size), h.lo, h.lo2, h.ne, h.was⟩
def zb7 (w : World) (P D b u : Nat) (s : Pst) (i : Value) (wr : World) : Prop := ∃ k : Nat, k <= 240 /\ i = .int .i64 (k : Int) /\ WA w P D b u s k wr
theorem jX {w : World} {P D : Nat} {s : Pst} (h : yD w P D s) (hu : Ok s.sup.used) : Calls Tryz.prog 36 #[ptr P] w fun e w' => e = .returned (stV s.used) /\ Below w.1.size w w' := by
 have hz := Tryz.zeroSet;have HU := Hi (hu.both h.new);have HU0 := Hi hu;have HG := Hi h.gone;obtain ⟨w1, HW⟩ : ∃ w1, Hid (w1 = w.alloc (.cells (yt zY) 63)) := Hy;obtain ⟨b, HBB⟩ : ∃ b, Hid (b = w.1.size) := Hy;have HS : Hid (Zv w P D b s w1) := Hi (by rw [HW.o, HBB.o]; exact .new h);have hbb : w.1.size <= b := by rw [HBB.o]; exact zdH _
 have HLE := Hi hbb;have HP := Hi h.lt;clear h hu hbb
 go_enter Tryz.func36, Tryz.ntmps36
 go_upto_region 1 with (fail)
 rw [<- HW.o, <- HBB.o];clear HW HBB;go_wp2_with fail;refine (jU HS.o.own HU0.o).mono ?_;rintro e w2 ⟨rfl, hb⟩;have HS2 := Hi (HS.o.carry hb);obtain ⟨t, HT⟩ : ∃ t, Hid (t = both s.sup.used s.new) := Hy;have HTL : Hid (t.length = 30) := Hi (by rw [HT.o]; exact HU.o.len);rw [<- HT.o];clear hb HS;go_wp2_with (with_reducible refine zc (o := ⟨none, _, _, _, _, _⟩) ?_);refine zu rfl _ _ _ rfl (yt zY) (yt t) _ rfl rfl rfl (by rw [yK, HTL.o]; exact Tryz.setSize) (by rw [yK, yK, HTL.o]; rfl) (js _) ?_;obtain ⟨u, HUU⟩ : ∃ u, Hid (u = w2.1.size) := Hy;obtain ⟨w3, HW⟩ : ∃ w3, Hid (w3 = w2.alloc (.cells (yt t) 63)) := Hy;rw [<- HW.o, <- HUU.o];have HS3 : Hid (WA w P D b u s 0 w3) := Hi (by
  have hb : Below w2.1.size w2 w3 := by rw [HW.o]; exact (Below.refl _ _).alloc (zdH _) _
  have hl := HS2.o.res.lt (by decide);have h3 := HS2.o.carry hb;refine ⟨h3.own, h3.res, ?_, h3.below, HLE.o, by rw [HUU.o]; exact HS2.o.below.size, by rw [HUU.o]; omega, HP.o⟩;show yG w3 u (both s.sup.used s.new);rw [<- HT.o, HW.o, HUU.o];exact yG.new _)
 clear HW HUU HS2 HT HTL;go_wp2_with fail
 go_loopw [10] (fun i wr => zb7 w P D b u s i wr) (fun i _ => 240 - (intOf i).toNat)
 case atStart => exact ⟨0, by decide, rfl, HS3.o⟩
 case round =>
  obtain ⟨k, hk, rfl, hst⟩ := hrel;have HML := Hi (HU.o.minus (t := s.gone) k).len;have HS := Hi hst;clear hst HS3;by_cases hlt : k < 240
  ·go_wp2_with (with_reducible refine zc (o := ⟨some 16, _, _, _, _, _⟩) ?_);refine yC (by rfl) _ rfl P 63 rfl s.gone HG.o.len HS.o.own.going ?_;go_wp2_with fail;refine (Zu s.gone HG.o k hlt _).mono ?_;have HM : Hid (minus (both s.sup.used s.new) s.gone (k + 1) = if has s.gone k then without (minus (both s.sup.used s.new) s.gone k) k else minus (both s.sup.used s.new) s.gone k) := Hi rfl;have HMO := Hi (HU.o.minus (t := s.gone) k);obtain ⟨v, HV⟩ : ∃ v, Hid (v = has s.gone k) := Hy;rw [<- HV.o];rintro e w4 ⟨rfl, hb⟩;have HS4 := Hi (HS.o.carry HML.o hb);clear hb HS;cases v with
   | true =>
    rw [<- HV.o, if_pos rfl] at HM;obtain ⟨m, HMM⟩ : ∃ m, Hid (m = minus (both s.sup.used s.new) s.gone k) := Hy;rw [<- HMM.o] at HM HMO HML;have HSET : Hid (yG w4 u m) := Hi (by rw [HMM.o]; exact HS4.o.set);go_wp2_with (with_reducible refine zc (o := ⟨some 19, _, _, _, _, _⟩) ?_);refine yB (by rfl) _ rfl u rfl m HML.o HSET.o.at_ ?_;go_wp2_with fail;refine (Yv m HMO.o k hlt _).mono ?_;rintro e w5 ⟨rfl, hb⟩;have HS5 : Hid (WA w P D b u s k w5) := Hi (HS4.o.carry (by rw [<- HMM.o]; exact HML.o) hb);have HSET5 := Hi (HSET.o.below hb (HSET.o.lt (by have := HML.o; omega)));have HWL : Hid ((without m k).length = 30) := Hi (HMO.o.without k).len;obtain ⟨q, HQ⟩ : ∃ q, Hid (q = without m k) := Hy;rw [<- HQ.o] at HWL ⊢;clear hb HS4 HSET;go_wp2_with (with_reducible refine zc (o := ⟨none, _, _, _, _, _⟩) ?_);refine yS rfl _ _ rfl u q m HWL.o HML.o rfl rfl HSET5.o ?_;intro w6 HW6 HO6;go_wp2_with fail
    go_roundw
    case rel =>
     refine ⟨k + 1, hlt, by go_num, ?_⟩;have h5 := HS5.o;have hk6 : zg (fun j => j ≠ u) w5 w6 := by rw [HW6.o]; exact zg.setCells (zg.refl _ _) (fun hh => hh rfl) _ _
     have hne : P ≠ u := by
      have := h5.was;have := h5.lo2;omega
     exact ⟨h5.own.block (hk6.block P hne), h5.res.blockEq (hk6.block b h5.ne), by rw [HM.o, <- HQ.o]; exact HO6.o, zG h5.below HW6.o h5.lo2, h5.lo, h5.lo2, h5.ne, h5.was⟩
    case measure => simp [intOf]; omega
   | false =>
    rw [<- HV.o, if_neg (by decide)] at HM;go_wp2_with fail
    go_roundw
    case rel => exact ⟨k + 1, hlt, by go_num, HS4.o.own, HS4.o.res, by rw [HM.o]; exact HS4.o.set, HS4.o.below, HS4.o.lo, HS4.o.lo2, HS4.o.ne, HS4.o.was⟩
    case measure => simp [intOf]; omega
  ·obtain rfl : k = 240 := by omega
   have HSU : Hid (yG wr u s.used) := Hi HS.o.set;have HUL : Hid (s.used.length = 30) := HML;go_wp2_with (with_reducible refine zc (o := ⟨some 23, _, _, _, _, _⟩) ?_);refine yB (by rfl) _ rfl u rfl s.used HUL.o HSU.o.at_ ?_;refine yS rfl _ _ rfl b s.used zY HUL.o yF rfl rfl HS.o.res ?_;intro w6 HW6 HO6;go_wp2_with fail;exact bodyPost_ret (wX rfl _ _ b _ rfl HO6.o.at_ HUL.o) rfl ⟨rfl, zG HS.o.below HW6.o HS.o.lo⟩
theorem zaF (w : World) : Calls Tryz.prog 36 #[.pointer none] w fun e w' => e = .returned (stV zY) /\ Below w.1.size w w' := by
 have hz := Tryz.zeroSet;obtain ⟨w1, HW⟩ : ∃ w1, Hid (w1 = w.alloc (.cells (yt zY) 63)) := Hy;obtain ⟨b, HBB⟩ : ∃ b, Hid (b = w.1.size) := Hy;have HO : Hid (yG w1 b zY) := Hi (by rw [HW.o, HBB.o]; exact yG.new _);have HB : Hid (Below w.1.size w w1) := Hi (by rw [HW.o]; exact (Below.refl _ _).alloc (zdH _) _)
 go_enter Tryz.func36, Tryz.ntmps36
 go_upto_region 1 with (fail)
 rw [<- HW.o, <- HBB.o];clear HW;go_wp2_with (with_reducible refine zc (o := ⟨some 7, _, _, _, _, _⟩) ?_);refine jw rfl rfl ?_;refine yS rfl _ _ rfl b zY zY yF yF rfl rfl HO.o ?_;intro w6 HW6 HO6;go_wp2_with fail;exact bodyPost_ret (wX rfl _ _ b _ rfl HO6.o.at_ yF) rfl ⟨rfl, zG HB.o HW6.o (by rw [HBB.o]; exact zdH _)⟩
end
section
open Go.RowKit
open Bits (Ok has with_ without both minus)
theorem zaB {w : World} {P D : Nat} {s : Pst} (h : yD w P D s) : Calls Tryz.prog 19 #[ptr P] w fun e w' => e = .returned (.int .i64 s.sup.root) /\ Below w.1.size w w' := by
 have hc := h.rootC;clear h
 go_enter Tryz.func19, Tryz.ntmps19
 go_wp2_with fail
 go_ret
 exact ⟨rfl, Below.refl _ _⟩
theorem zbV {w : World} {P D : Nat} {s : Pst} (h : yD w P D s) : Calls Tryz.prog 53 #[ptr P] w fun e w' => e = .returned (.int .u32 (s.sup.gen : Int)) /\ Below w.1.size w w' := by
 have hc := h.genC;clear h
 go_enter Tryz.func53, Tryz.ntmps53
 go_wp2_with fail
 go_ret
 exact ⟨rfl, Below.refl _ _⟩
theorem zaC (w : World) : Calls Tryz.prog 19 #[.pointer none] w fun e w' => e = .returned (.int .i64 0) /\ Below w.1.size w w' := by
 go_enter Tryz.func19, Tryz.ntmps19
 go_wp2_with fail
 go_ret
 exact ⟨rfl, Below.refl _ _⟩
theorem zbW (w : World) : Calls Tryz.prog 53 #[.pointer none] w fun e w' => e = .returned (.int .u32 0) /\ Below w.1.size w w' := by
 go_enter Tryz.func53, Tryz.ntmps53
 go_wp2_with fail
 go_ret
 exact ⟨rfl, Below.refl _ _⟩
theorem J0 (w : World) : Calls Tryz.prog 23 #[.pointer none] w fun e w' => e = .returned (.tuple #[]) /\ Below w.1.size w w' := by
 go_enter Tryz.func23, Tryz.ntmps23
 go_wp2_with fail;exact bodyPost_ret (results_none rfl _ _ _) rfl ⟨rfl, Below.refl _ _⟩
theorem zat (w : World) (i : Int) : Calls Tryz.prog 123 #[.pointer none, .int .i64 i] w (Two (txt []) 9 w) := by
 go_enter Tryz.func123, Tryz.ntmps123
 go_wp2_with fail;refine (yT 9 (by decide) w).mono ?_;rintro e w' ⟨v, rfl, he, hb⟩;have HE := Hi he;have HB := Hi hb;clear he hb;go_wp2_with fail
 go_ret2
 exact ⟨v, rfl, HE.o, HB.o⟩
theorem zb3 (w : World) (t : ByteArray) : Calls Tryz.prog 30 #[.pointer none, .string t] w (Two (.int .i64 0) 9 w) := by
 go_enter Tryz.func30, Tryz.ntmps30
 go_wp2_with fail;refine (yT 9 (by decide) w).mono ?_;rintro e w' ⟨v, rfl, he, hb⟩;have HE := Hi he;have HB := Hi hb;clear he hb;go_wp2_with fail
 go_ret2
 exact ⟨v, rfl, HE.o, HB.o⟩
theorem zam (w : World) (i : Int) : Calls Tryz.prog 106 #[.pointer none, .int .i64 i] w (yN 9 w.1.size w) := by
 go_enter Tryz.func106, Tryz.ntmps106
 go_wp2_with fail;refine (yT 9 (by decide) w).mono ?_;rintro e w' ⟨v, rfl, he, hb⟩;have HE := Hi he;have HB := Hi hb;clear he hb;go_wp2_with fail
 go_ret
 exact ⟨v, rfl, HE.o, HB.o⟩
theorem Kr (w : World) (i : Int) : Calls Tryz.prog 22 #[.pointer none, .int .i64 i] w (yN 9 w.1.size w) := by
 go_enter Tryz.func22, Tryz.ntmps22
 go_wp2_with fail;refine (yT 9 (by decide) w).mono ?_;rintro e w' ⟨v, rfl, he, hb⟩;have HE := Hi he;have HB := Hi hb;clear he hb;go_wp2_with fail
 go_ret
 exact ⟨v, rfl, HE.o, HB.o⟩
theorem zbO (w : World) : (zeroValue 5).run Tryz.prog w = .ok (.int .u8 0) w := by kernel_rfl
theorem WB {w : World} {P o : Nat} {s : List Nat} (h : w.rangeAt P o (zp s)) (hl : s.length = 30) (hf : ∀ j, w.frozen? ⟨P, j, none⟩ = false) (ty : TypeId) :
  (Builtin.clear_ #[75] ty #[.slice (some ⟨P, o, none⟩) 30 30]).run Tryz.prog w = .ok (.tuple #[]) (w.setCells P o (zp vr)) :=
 Lib.run_clear_slice w _ _ ty (.int .u8 0) Tryz.underlying75 zbO rfl rfl P o 30 30 (by decide) (fun j hj => (yQ h (by rw [zI, hl]) hf j hj).1) (fun j _ => hf _)
theorem vx {w : World} {P D : Nat} {s : Pst} (h : yD w P D s) : Calls Tryz.prog 70 #[ptr P] w fun e w' => e = .returned (.tuple #[]) /\ yD w' P D s.abort /\ wL P w w' := by
 have hc1 := WB h.fresh h.new.len h.free;obtain ⟨w1, HW⟩ : ∃ w1, Hid (w1 = w.setCells P 33 (zp vr)) := Hy;have h1 : yD w1 P D ⟨s.sup, vr, s.gone⟩ := by rw [HW.o]; exact h.putFresh wD
 have HK : Hid (wL P w w1) := Hi (by rw [HW.o]; exact wL.setCells (zg.refl _ _) _ _);rw [<- HW.o] at hc1;have hc2 := WB h1.going h1.gone.len h1.free;obtain ⟨w2, HW2⟩ : ∃ w2, Hid (w2 = w1.setCells P 63 (zp vr)) := Hy;have H2 : Hid (yD w2 P D s.abort) := Hi (by rw [HW2.o]; exact h1.putGoing wD);have HK2 : Hid (wL P w w2) := Hi (by rw [HW2.o]; exact wL.setCells HK.o _ _);rw [<- HW2.o] at hc2;clear h h1 HW HW2 HK
 go_enter Tryz.func70, Tryz.ntmps70
 go_wp2_with fail;exact bodyPost_end (results_none rfl _ _ _) rfl ⟨rfl, H2.o, HK2.o⟩
theorem JZ {w : World} {P D : Nat} {s : Pst} (h : yD w P D s) : Calls Tryz.prog 23 #[ptr P] w fun e w' => e = .returned (.tuple #[]) /\ yD w' P D s.abort /\ wL P w w' := by
 have HF := Hi (vx h);clear h
 go_enter Tryz.func23, Tryz.ntmps23
 go_wp2_with fail;refine HF.o.mono ?_;rintro e w' ⟨rfl, h1, h2⟩;have H1 := Hi h1;have H2 := Hi h2;clear h1 h2 HF;go_wp2_with fail;exact bodyPost_end (results_none rfl _ _ _) rfl ⟨rfl, H1.o, H2.o⟩
theorem zcm {s : Pst} (h1 : Ok s.sup.used) (h2 : Ok s.new) (i : Int) : ZJ (both s.sup.used s.new) i = qg s i := by
 unfold ZJ qg ZL;by_cases hi : 0 <= i /\ i < 240
 ·rw [Bits.has_both h1 h2 (by omega)]; rfl
 ·rw [decide_eq_false hi]; rfl
theorem zas {K : Nat -> Prop} {w : World} {P D n : Nat} {d : Dk} {s : Pst} {data firm : Nat -> List UInt8} (ho : yD w P D s) (hd : zF K w D n d) (h : yP n d s data firm) (hdn : d.down = false) (hg : zO w) (i : Int) :
  Calls Tryz.prog 123 #[ptr P, .int .i64 i] w (Two (if qg s i = true then txt (data i.toNat) else txt []) (if qg s i = true then 0 else 4) w) := by
 have HO := Hi ho;have HU := Hi h.held.good.used;have HD := Hi hd;have HG := Hi hg;have HBO := Hi (h.held.good.used.both h.newOk);have HZ := Hi (zcm h.held.good.used h.newOk i);cases hi : qg s i with
 | false =>
  rw [hi] at HZ;clear h ho hd hg hdn hi;rw [if_neg (by decide), if_neg (by decide)]
  go_enter Tryz.func123, Tryz.ntmps123
  go_wp2_with fail;refine (jU HO.o HU.o).mono ?_;rintro e w1 ⟨rfl, hb⟩;have HB1 := Hi hb;clear hb;go_wp2_with fail;refine (qG _ HBO.o i w1).mono ?_;rw [HZ.o];rintro e w2 ⟨rfl, hb⟩;have HB2 := Hi (HB1.o.trans (hb.mono HB1.o.size));clear hb;go_wp2_with fail;refine (yT 4 (by decide) w2).mono ?_;rintro e w3 ⟨v, rfl, he, hb⟩;have HE := Hi (he.mono HB2.o.size);have HB3 := Hi (HB2.o.trans (hb.mono HB2.o.size));clear he hb;go_wp2_with fail
  go_ret2
  exact ⟨v, rfl, HE.o, HB3.o⟩
 | true =>
  rw [hi] at HZ;rw [if_pos rfl, if_pos rfl];have hi2 : (0 <= i /\ i < 240) /\ s.isIn i.toNat = true := by
   unfold qg at hi;rw [Bool.and_eq_true, decide_eq_true_eq] at hi;exact hi
  obtain ⟨k, rfl⟩ : ∃ k : Nat, i = (k : Int) := ⟨i.toNat, by omega⟩
  have hk : k < 240 := by omega
  have hin : s.isIn k = true := hi2.2;obtain ⟨hsec, hlen⟩ := h.page hk hin;have hkn := (h.in_range hk hin).2;have hc0 : xA d.down n (k : Int) = 0 := by rw [hdn]; exact qf hkn
  have hcl : xS 0 2 (wW (data k)) = 0 := by
   unfold xS wW;rw [if_neg (by decide), if_neg (by rw [WC (by decide) hlen]; decide), if_pos (by rw [K6]; rfl)]
  have HL : Hid (∀ w2, Below w.1.size w w2 -> Calls Tryz.prog 127 #[ptr D, .int .i64 (k : Int), .int .i64 2] w2 (jx 0 (wW (data k)) w2)) := Hi fun w2 hb => by
   have := Xb (hd.carry hb) (k : Int) 2 (wW (data k)) hsec.2 (fun _ => hsec.1) (hg.carry hb);rw [hc0, hcl] at this;exact this
  have HT : Hid (Value.string ⟨(dB (wW (data k))).toArray⟩ = txt (data k)) := Hi (by
   unfold wW txt;rw [KO hlen])
  obtain ⟨x, HX⟩ : ∃ x, Hid (x = data k) := Hy;rw [Int.toNat_natCast, <- HX.o];rw [<- HX.o] at HT HL;clear h ho hd hg hdn hi hi2 hin hsec hlen hkn hc0 hcl HX
  go_enter Tryz.func123, Tryz.ntmps123
  go_wp2_with fail;refine (jU HO.o HU.o).mono ?_;rintro e w1 ⟨rfl, hb⟩;have HB1 := Hi hb;clear hb;go_wp2_with fail;refine (qG _ HBO.o (k : Int) w1).mono ?_;rw [HZ.o];rintro e w2 ⟨rfl, hb⟩;have HB2 := Hi (HB1.o.trans (hb.mono HB1.o.size));have hc := (HO.o.below HB2.o).at0;clear hb;go_wp2_with fail;refine (HL.o w2 HB2.o).mono ?_;rintro e w3 ⟨v, rfl, he, hb⟩;obtain rfl := he.zero;rw [if_pos rfl, HT.o];have HB3 := Hi (HB2.o.trans (hb.mono HB2.o.size));clear he hb hc;unfold txt;go_wp2_with fail;refine (ym _ w3.1.size 0 _ w3 (.nil _ _) (zdH _)).mono ?_;rintro e w4 ⟨v, rfl, he, hb⟩;obtain rfl := he.zero;have HB4 := Hi (HB3.o.trans (hb.mono HB3.o.size));clear he hb;go_wp2_with fail
  go_ret2
  exact ⟨.nilIface, rfl, .nil _ _, HB4.o⟩
end
section
open Go.RowKit
open Bits (Ok has with_ without both minus)
theorem ya.own {K : Nat -> Prop} {w : World} {P D n : Nat} {d : Dk} {s : Pst} (h : ya qU K w P D n d s) : yD w P D s := by
 obtain ⟨B, h1, _⟩ := h;exact h1.2
theorem ya.notK {K : Nat -> Prop} {w : World} {P D n : Nat} {d : Dk} {s : Pst} (h : ya qU K w P D n d s) : ¬ K P := by
 obtain ⟨B, h1, h2, h3, h4⟩ := h;exact h4 P ((h1.1 P).2 rfl)
theorem ya.there {K : Nat -> Prop} {w : World} {P D n : Nat} {d : Dk} {s : Pst} (h : ya qU K w P D n d s) : yd K w := by
 obtain ⟨B, h1, h2, h3, h4⟩ := h;exact h3
theorem ya.diskP {K : Nat -> Prop} {w : World} {P D n : Nat} {d : Dk} {s : Pst} (h : ya qU K w P D n d s) : zF (fun b => K b \/ b = P) w D n d := by
 obtain ⟨B, h1, h2, h3, h4⟩ := h;refine h2.more (Below.refl _ _) fun k hk => ?_
 rcases hk with hk | hk
 ·exact .inl (.inl hk)
 ·exact .inl (.inr ((h1.1 k).2 hk))
theorem ya.mk {K : Nat -> Prop} {w : World} {P D n : Nat} {d : Dk} {s : Pst} (h1 : yD w P D s) (h2 : zF (fun b => K b \/ b = P) w D n d) (h3 : yd K w) (h4 : ¬ K P) : ya qU K w P D n d s :=
 ⟨fun b => b = P, ⟨fun _ => Iff.rfl, h1⟩, h2, h3, fun b hb => by rw [hb]; exact h4⟩
theorem ya.off {K : Nat -> Prop} {w w' : World} {P D n : Nat} {d : Dk} {s s' : Pst} (h : ya qU K w P D n d s) (ho : yD w' P D s') (hk : wL P w w') : ya qU K w' P D n d s' /\ zg K w w' := by
 have hK : ∀ k, K k -> k < w.1.size /\ k ≠ P := fun k hk => ⟨h.there k hk, fun e => h.notK (e ▸ hk)⟩
 refine ⟨ya.mk ho (h.diskP.off (B := fun b => b = P) (fun b hb => .inr hb) hk fun k hk => .inl hk) (fun k hk2 => zd5 (h.there k hk2) hk.size) h.notK, hk.less hK⟩
theorem zbU {w : World} {P D : Nat} {s : Pst} (h : yD w P D s) (i : Int) (hi : vV s.used i = false) : Calls Tryz.prog 106 #[ptr P, .int .i64 i] w (yN 4 w.1.size w) := by
 have HO := Hi h;have HUO : Hid (Ok s.used) := Hi ((h.sup.used.both h.new).minus 240);have HI : Hid (ZJ s.used i = false) := Hi hi;clear h hi
 go_enter Tryz.func106, Tryz.ntmps106
 go_wp2_with fail;refine (jX HO.o HO.o.sup.used).mono ?_;rintro e w1 ⟨rfl, hb⟩;have HB1 := Hi hb;clear hb;go_wp2_with fail;refine (qG _ HUO.o i w1).mono ?_;rw [HI.o];rintro e w2 ⟨rfl, hb⟩;have HB2 := Hi (HB1.o.trans (hb.mono HB1.o.size));clear hb;go_wp2_with fail;refine (yT 4 (by decide) w2).mono ?_;rintro e w3 ⟨v, rfl, he, hb⟩;have HE := Hi (he.mono HB2.o.size);have HB3 := Hi (HB2.o.trans (hb.mono HB2.o.size));clear he hb;go_wp2_with fail
 go_ret
 exact ⟨v, rfl, HE.o, HB3.o⟩
theorem zan {w : World} {P D : Nat} {s : Pst} (h : yD w P D s) (k : Nat) (hk : k < 240) (hu : has s.used k = true) :
  Calls Tryz.prog 106 #[ptr P, .int .i64 (k : Int)] w fun e w' => e = .returned .nilIface /\ yD w' P D (s.drop k) /\ wL P w w' := by
 have HO := Hi h;have HUO : Hid (Ok s.used) := Hi ((h.sup.used.both h.new).minus 240);have HI := Hi hu;have HNO := Hi h.new;have HGO := Hi h.gone;clear h hu
 go_enter Tryz.func106, Tryz.ntmps106
 go_wp2_with fail;refine (jX HO.o HO.o.sup.used).mono ?_;rintro e w1 ⟨rfl, hb⟩;have HB1 := Hi hb;clear hb;go_wp2_with fail;refine (Zu _ HUO.o k hk w1).mono ?_;rw [HI.o];rintro e w2 ⟨rfl, hb⟩;have HB2 := Hi (HB1.o.trans (hb.mono HB1.o.size));have HO2 := Hi (HO.o.below HB2.o);clear hb;go_wp2_with (with_reducible refine zc (o := ⟨some 17, _, _, _, _, _⟩) ?_);refine yC (by rfl) _ rfl P 33 rfl s.new HNO.o.len HO2.o.fresh ?_;go_wp2_with fail;refine (Zu _ HNO.o k hk w2).mono ?_;obtain ⟨v, HV⟩ : ∃ v, Hid (v = has s.new k) := Hy;rw [<- HV.o];rintro e w3 ⟨rfl, hb⟩;have HB3 := Hi (HB2.o.trans (hb.mono HB2.o.size));have HO3 := Hi (HO.o.below HB3.o);clear hb HO2 HB2;cases v with
 | true =>
  go_wp2_with (with_reducible refine zc (o := ⟨some 24, _, _, _, _, _⟩) ?_);refine yC (by rfl) _ rfl P 33 rfl s.new HNO.o.len HO3.o.fresh ?_;go_wp2_with fail;refine (Yv _ HNO.o k hk w3).mono ?_;rintro e w4 ⟨rfl, hb⟩;have HB4 := Hi (HB3.o.trans (hb.mono HB3.o.size));have HO4 := Hi (HO.o.below HB4.o);have HSL : Hid (s.drop k = ⟨s.sup, without s.new k, s.gone⟩) := Hi (by unfold Pst.drop; rw [if_pos (by rw [<- HV.o])]);have HTO := Hi (HNO.o.without k);obtain ⟨t, HT⟩ : ∃ t, Hid (t = without s.new k) := Hy;rw [<- HT.o] at HSL HTO ⊢;clear hb HB3 HO3;go_wp2_with (with_reducible refine zc (o := ⟨none, _, _, _, _, _⟩) ?_);refine wJ rfl _ _ rfl P 33 t HTO.o.len rfl rfl (yQ HO4.o.fresh (by rw [zI, HNO.o.len]) HO4.o.free) ?_;intro w5 HW5;go_wp2_with fail
  go_ret
  refine ⟨rfl, by rw [HSL.o, HW5.o]; exact HO4.o.putFresh HTO.o, by rw [HW5.o]; exact wL.setCells (wL.of_below HB4.o) _ _⟩
 | false =>
  go_wp2_with (with_reducible refine zc (o := ⟨some 33, _, _, _, _, _⟩) ?_);refine yC (by rfl) _ rfl P 63 rfl s.gone HGO.o.len HO3.o.going ?_;go_wp2_with fail;refine (Vx _ HGO.o k hk w3).mono ?_;rintro e w4 ⟨rfl, hb⟩;have HB4 := Hi (HB3.o.trans (hb.mono HB3.o.size));have HO4 := Hi (HO.o.below HB4.o);have HSL : Hid (s.drop k = ⟨s.sup, s.new, with_ s.gone k⟩) := Hi (by unfold Pst.drop; rw [if_neg (by rw [<- HV.o]; decide)]);have HTO := Hi (HGO.o.with_ k);obtain ⟨t, HT⟩ : ∃ t, Hid (t = with_ s.gone k) := Hy;rw [<- HT.o] at HSL HTO ⊢;clear hb HB3 HO3;go_wp2_with (with_reducible refine zc (o := ⟨none, _, _, _, _, _⟩) ?_);refine wJ rfl _ _ rfl P 63 t HTO.o.len rfl rfl (yQ HO4.o.going (by rw [zI, HGO.o.len]) HO4.o.free) ?_;intro w5 HW5;go_wp2_with fail
  go_ret
  refine ⟨rfl, by rw [HSL.o, HW5.o]; exact HO4.o.putGoing HTO.o, by rw [HW5.o]; exact wL.setCells (wL.of_below HB4.o) _ _⟩
end
section
open Go.RowKit
open Bits (Ok has with_ without both minus)
theorem vd {L : Nat -> Prop} {D n : Nat} {d : Dk} {w : World} (h : zF L w D n d) (ht : yd L w) (hd : d.down = false) (hn : 3 <= n) (g : Nat) (r : Int) (u : List Nat) (hu : Ok u) (hgl : g + 1 < 4294967296) (hr : yy ⟨g + 1, r, u⟩ = true)
  (hg : ∀ w', zg L w w' -> zO w') :
  Calls Tryz.prog 60 #[ptr D, .int .u32 (g : Int), .int .i64 r, stV u] w fun e w' => e = .returned (.tuple #[sbV ⟨g + 1, r, u⟩, .nilIface]) /\ zF L w' D n (Ki d ⟨g + 1, r, u⟩) /\ zg L w w' := by
 have hz := Tryz.sbProg.zero;obtain ⟨m, HM⟩ : ∃ m, Hid (m = g + 1) := Hy;rw [<- HM.o] at hr hgl ⊢;have hwr : IntKind.u32.wrap ((g : Int) + 1) = (m : Int) := by
  have := HM.o;rw [IntKind.wrap_u32];omega
 have hne : ((g : Int) == 4294967295) = false := by
  have := HM.o;simp;omega
 have HXO : Hid ((⟨m, r, u⟩ : Sb).Ok) := Hi ⟨hgl, hu⟩;have HR := Hi hr;have HT := Hi ht;have HG := Hi hg;have HUO := Hi hu;obtain ⟨b, HB⟩ : ∃ b, Hid (b = w.1.size) := Hy;obtain ⟨w1, HW⟩ : ∃ w1, Hid (w1 = (w.alloc (.cells (yt u) 63)).alloc (.cells (zR Sb.zero) 103)) := Hy;have HST : Hid (yG w1 b u /\ zU w1 (b + 1) Sb.zero /\ Below w.1.size w w1) := Hi (by
  rw [HW.o, HB.o];refine ⟨(yG.new (w := w) 63).below ((Below.refl _ _).alloc (zdH _) _) (by simp), ?_, ((Below.refl _ _).alloc (zdH _) _).alloc (by simp) _⟩;have := zU.new (w := w.alloc (.cells (yt u) 63)) (x := Sb.zero) 103;simpa using this)
 have HD := Hi h;have HDN := Hi hd;have HN := Hi hn;clear h ht hd hn hr hg hu hgl
 go_enter Tryz.func60, Tryz.ntmps60
 go_upto_region 1 with (fail)
 rw [<- HW.o, <- HB.o];clear HW;go_wp2_with (with_reducible refine zc (o := ⟨some 19, _, _, _, _, _⟩) ?_);refine yB (by rfl) _ rfl b rfl u HUO.o.len HST.o.1.at_ ?_;refine Yq Tryz.sbProg rfl _ _ _ rfl ⟨m, r, u⟩ HXO.o rfl rfl rfl ?_;obtain ⟨x, HX⟩ : ∃ x : Sb, Hid (x = ⟨m, r, u⟩) := Hy;rw [<- HX.o] at HXO HR ⊢;go_wp2_with (with_reducible refine zc (o := ⟨none, _, _, _, _, _⟩) ?_);refine zu rfl _ _ _ rfl (zR Sb.zero) (zR x) _ rfl rfl rfl (by rw [zJ HXO.o]; exact Tryz.sbProg.size) (by rw [zJ HXO.o, zJ Sb.Ok.zero]) (xg _) ?_;obtain ⟨c, HC⟩ : ∃ c, Hid (c = w1.1.size) := Hy;obtain ⟨w2, HW⟩ : ∃ w2, Hid (w2 = w1.alloc (.cells (zR x) 103)) := Hy;rw [<- HW.o, <- HC.o];have hb2 : Below w1.1.size w1 w2 := by rw [HW.o]; exact (Below.refl _ _).alloc (zdH _) _
 have HB2 : Hid (Below w.1.size w w2) := Hi (HST.o.2.2.trans (hb2.mono HST.o.2.2.size));have HO2 : Hid (zU w2 (b + 1) Sb.zero) := Hi (HST.o.2.1.below hb2 HST.o.2.1.lt);have HN2 : Hid (zU w2 c x) := Hi (by rw [HW.o, HC.o]; exact zU.new _);have HCL : Hid (w.1.size <= c) := Hi (by rw [HC.o]; exact HST.o.2.2.size);have HBL : Hid (w.1.size <= b + 1) := Hi (by rw [HB.o]; omega);have HNE : Hid (c ≠ b + 1) := Hi (by have := HST.o.2.1.lt; rw [HC.o]; omega);obtain ⟨L2, HL2⟩ : ∃ L2 : Nat -> Prop, Hid (L2 = fun k => L k \/ k = b + 1 \/ k = c) := Hy;have HD2 : Hid (zF L2 w2 D n d) := Hi (HD.o.more HB2.o fun k hk => by
  rw [HL2.o] at hk;rcases hk with hk | rfl | rfl
  ·exact .inl hk
  ·exact .inr HBL.o
  ·exact .inr HCL.o)
 have HT2 : Hid (yd L2 w2) := Hi fun k hk => by
  rw [HL2.o] at hk;rcases hk with hk | rfl | rfl
  ·exact zd5 (HT.o k hk) HB2.o.size
  ·exact HO2.o.lt
  ·exact HN2.o.lt
 have HLL : Hid (∀ k, L k -> L2 k) := Hi fun k hk => by rw [HL2.o]; exact .inl hk
 have HL21 : Hid (L2 (b + 1)) := Hi (by rw [HL2.o]; exact .inr (.inl rfl));have HL22 : Hid (L2 c) := Hi (by rw [HL2.o]; exact .inr (.inr rfl));have HG2 : Hid (∀ w', zg L2 w2 w' -> zO w') := Hi fun w' hk => HG.o w' ((zg.of_below HB2.o fun k hk => HT.o k hk).trans (hk.less HLL.o))
 clear hb2 HW HST HD HC HL2;go_wp2_with (with_reducible refine zc (o := ⟨some 22, _, _, _, _, _⟩) ?_);refine zW Tryz.sbProg (by rfl) _ rfl c rfl x HXO.o HN2.o.at_ ?_;go_wp2_with fail;refine (KH HD2.o HT2.o HDN.o HN.o x HXO.o HR.o HG2.o).mono ?_;rintro e w3 ⟨rfl, hd3, hk3⟩;have HD3 := Hi hd3;have HO3 := Hi (HO2.o.block (hk3.block _ HL21.o));have HN3 := Hi (HN2.o.block (hk3.block _ HL22.o));have HK3 : Hid (zg L w w3) := Hi ((zg.of_below HB2.o fun k hk => HT.o k hk).trans (hk3.less HLL.o));clear hd3 hk3 HD2 HO2 HN2;go_wp2_with (with_reducible refine zc (o := ⟨some 29, _, _, _, _, _⟩) ?_);refine zW Tryz.sbProg (by rfl) _ rfl c rfl x HXO.o HN3.o.at_ ?_;refine yc Tryz.sbProg rfl _ _ rfl (b + 1) x Sb.zero HXO.o Sb.Ok.zero rfl rfl HO3.o ?_;intro w5 HW5 HO5;go_wp2_with fail;have hk5 : zg (fun k => k < w3.1.size /\ ¬ k = b + 1) w3 w5 := by rw [HW5.o]; exact zg.setCells (zg.refl _ _) (fun hh => hh.2 rfl) _ _
 refine bodyPost_ret (yX Tryz.sbProg rfl _ _ (b + 1) x .nilIface rfl rfl HO5.o.at_ HXO.o) rfl ⟨by rw [HX.o], ?_, ?_⟩
 ·rw [<- HX.o];exact HD3.o.off (B := fun k => k = b + 1) (fun k hk => by rw [hk]; exact HL21.o) hk5 fun k hk => .inl (HLL.o k hk)
 ·rw [HW5.o];refine zg.setCells HK3.o (fun hh => ?_) _ _;have := HT.o _ hh;have := HBL.o;omega
def ZX : Array Value := ([Value.pointer none] ++ zP Sb.zero ++ zp vr ++ zp vr).toArray
theorem Tryz.pagerTwo (x y : Value) : Tryz.prog.built 118 [(0, x), (1, y)] = Instr.fill ((#[(0, 1), (1, 32), (33, 30), (63, 30)] : Array (Nat × Nat))[·]?) ZX [(0, x), (1, y)] := by kernel_rfl
theorem Yy (D : Nat) {x : Sb} (hx : x.Ok) : Tryz.prog.built 118 [(0, ptr D), (1, sbV x)] = some (kh D (Pst.opened x)).toArray := by
 rw [Tryz.pagerTwo];have hl : (zP Sb.zero).length = 32 := zH Sb.Ok.zero;have hn : (zp vr).length = 30 := by rw [zI]; exact wD.len
 have hx2 : (zR x).size = 32 := zJ hx;have hz : ZX.size = 93 := by simp [ZX, hl, hn]
 rw [wV _ _ 0 _ _ 0 1 rfl rfl (by rw [hz]; decide)];have e0 : ZX.toList = .pointer none :: (zP Sb.zero ++ zp vr ++ zp vr) := by simp [ZX]
 rw [e0];rw [wV _ _ 1 (sbV x) _ 1 32 rfl hx2 (by simp [Value.cells, hl, hn])];rw [Instr.fill];congr 1;simp [Value.cells, kh, zR, Pst.opened, hl]
theorem kO {ops : Array Oper} {rest : List Oper} {o : Oper} {a : Act} {w : World} {Q : Exit -> Act -> World -> Prop} (hgd : o.guard = none) (x y : Operand) (ho : o.op = .build 118 #[(0, x), (1, y)]) (D : Nat) (s : Sb) (hs : s.Ok)
  (hx : a.eval x = ptr D) (hy : a.eval y = sbV s)
  (h : wpList Tryz.prog ops Q rest (a.put o.dst (.agg (kh D (Pst.opened s)).toArray)) w) : wpList Tryz.prog ops Q (o :: rest) a w :=
 wpList_plain hgd fun _ hK => by
  have e : (#[(0, x), (1, y)].map fun (i, x) => (i, a.eval x)).toList = [(0, ptr D), (1, sbV s)] := by
   simp only [List.map_toArray, List.map_cons, List.map_nil, hx, hy]
  exact wp_build 118 _ ho (by rw [e, Yy D hs]; rfl) (hK _ _ (by rw [e, Yy D hs]; exact h))
theorem yD.newP {w : World} {D : Nat} {x : Sb} (hx : x.Ok) (t : TypeId) : yD (w.alloc (.cells (kh D (Pst.opened x)).toArray t)) w.1.size D (Pst.opened x) := by
 refine yD.of_cells hx wD wD (fun j v hv => ?_) fun j => ?_
 ·have hb : (w.alloc (.cells (kh D (Pst.opened x)).toArray t)).1[w.1.size]? = some (.cells (kh D (Pst.opened x)).toArray t (0, 0)) := heap_alloc_last w _;rw [cell_of_row _ w.1.size (0 + j) _ _ _ hb, Nat.zero_add];simpa using hv
 ·exact frozen_of_row _ _ j _ _ (heap_alloc_last w _)
theorem YY {D : Value} {w : World} (c : Int) (h0 : c ≠ 0) (h : Calls Tryz.prog 52 #[D] w (vN c none w)) : Calls Tryz.prog 27 #[D] w (Two (.pointer none) c w) := by
 have HC := Hi h0;have HH := Hi h;clear h h0;have hz := Tryz.sbProg.zero
 go_enter Tryz.func27, Tryz.ntmps27
 go_wp2_with fail;refine HH.o.mono ?_;rintro e w1 ⟨v, rfl, he, hb⟩;obtain ⟨t, y, rfl⟩ := he.some HC.o;have HE := Hi he;have HB := Hi hb;clear he hb HH;go_wp2_with (with_reducible refine zc (o := ⟨none, _, _, _, _, _⟩) ?_);refine zu rfl _ _ _ rfl (zR Sb.zero) (zR Sb.zero) _ rfl rfl rfl (by rw [zJ Sb.Ok.zero]; exact Tryz.sbProg.size) rfl (xg _) ?_;obtain ⟨w2, HW⟩ : ∃ w2, Hid (w2 = w1.alloc (.cells (zR Sb.zero) 103)) := Hy;rw [<- HW.o];have hb2 : Below w1.1.size w1 w2 := by rw [HW.o]; exact (Below.refl _ _).alloc (zdH _) _
 have HB2 : Hid (Below w.1.size w w2) := Hi (HB.o.trans (hb2.mono HB.o.size));have HE2 := Hi (HE.o.below hb2);clear hb2 HW HB HE;go_wp2_with fail;refine (ym _ w.1.size c _ w2 HE2.o HB2.o.size).mono ?_;rintro e w3 ⟨v, rfl, he, hb⟩;have HE3 := Hi he;have HB3 := Hi (HB2.o.trans (hb.mono HB2.o.size));clear he hb;go_wp2_with fail
 go_ret2
 exact ⟨v, rfl, HE3.o, HB3.o⟩
theorem zau {D : Nat} {w : World} {x : Sb} (hx : x.Ok) (h : Calls Tryz.prog 52 #[ptr D] w (vN 0 (some x) w)) : Calls Tryz.prog 27 #[ptr D] w fun e w' =>
  ∃ P, e = .returned (.tuple #[ptr P, .nilIface]) /\ yD w' P D (Pst.opened x) /\ w.1.size <= P /\ Below w.1.size w w' := by
 have HXO := Hi hx;have HH : Hid (Calls Tryz.prog 52 #[ptr D] w fun e w' => e = .returned (.tuple #[sbV x, .nilIface]) /\ Below w.1.size w w') := Hi (h.mono (by
  rintro e w' ⟨v, rfl, he, hb⟩;obtain rfl := he.zero;exact ⟨rfl, hb⟩))
 clear h hx;have hz := Tryz.sbProg.zero
 go_enter Tryz.func27, Tryz.ntmps27
 go_wp2_with fail;refine HH.o.mono ?_;rintro e w1 ⟨rfl, hb⟩;have HB := Hi hb;clear hb HH;go_wp2_with (with_reducible refine zc (o := ⟨none, _, _, _, _, _⟩) ?_);refine zu rfl _ _ _ rfl (zR Sb.zero) (zR x) _ rfl rfl rfl (by rw [zJ HXO.o]; exact Tryz.sbProg.size) (by rw [zJ HXO.o, zJ Sb.Ok.zero]) (xg _) ?_;obtain ⟨c, HC⟩ : ∃ c, Hid (c = w1.1.size) := Hy;obtain ⟨w2, HW⟩ : ∃ w2, Hid (w2 = w1.alloc (.cells (zR x) 103)) := Hy;rw [<- HW.o, <- HC.o];have HN : Hid (zU w2 c x) := Hi (by rw [HW.o, HC.o]; exact zU.new _);have hb2 : Below w1.1.size w1 w2 := by rw [HW.o]; exact (Below.refl _ _).alloc (zdH _) _
 have HB2 : Hid (Below w.1.size w w2) := Hi (HB.o.trans (hb2.mono HB.o.size));clear hb2 HW HB;go_wp2_with (with_reducible refine zc (o := ⟨some 16, _, _, _, _, _⟩) ?_);refine zW Tryz.sbProg (by rfl) _ rfl c rfl x HXO.o HN.o.at_ ?_;refine kO rfl _ _ rfl D x HXO.o rfl rfl ?_;go_wp2_with fail
 go_ret2
 exact ⟨w2.1.size, rfl, .newP HXO.o _, HB2.o.size, HB2.o.alloc HB2.o.size _⟩
end
section
open Go.RowKit
open Bits (Ok has with_ without both minus)
structure KC (L : Nat -> Prop) (w : World) (P D n : Nat) (d : Dk) (s : Pst) (wr : World) : Prop where
 own : yD wr P D s
 disk : zF L wr D n d
 below : Below w.1.size w wr
theorem KC.carry {L : Nat -> Prop} {w wr w' : World} {P D n : Nat} {d : Dk} {s : Pst} (h : KC L w P D n d s wr) (hb : Below wr.1.size wr w') : KC L w P D n d s w' :=
 ⟨h.own.below hb, h.disk.carry hb, h.below.trans (hb.mono h.below.size)⟩
theorem ya.ofStore {K : Nat -> Prop} {w w4 w5 : World} {P D n : Nat} {d : Dk} {s : Pst} (hK : ¬ K P) (ht : yd K w) (hd : zF (fun b => K b \/ b = P) w4 D n d) (hk : zg (fun b => K b \/ b = P) w w4) (ho : yD w5 P D s) (h5 : wL P w4 w5) :
  ya qU K w5 P D n d s /\ zg K w w5 := by
 have h4 : zg K w w5 := (hk.less fun k hk => .inl hk).trans (h5.less fun k hk2 => ⟨zd5 (ht k hk2) hk.size, fun e => hK (e ▸ hk2)⟩);exact ⟨ya.mk ho (hd.off (B := fun b => b = P) (fun b hb => .inr hb) h5 fun k hk => .inl hk) (fun k hk2 => zd5 (ht k hk2) h4.size) hK, h4⟩
theorem Vt (P : Nat) (w : World) (t : ByteArray) (ht : 120 < t.size) : Calls Tryz.prog 30 #[ptr P, .string t] w (Two (.int .i64 0) 8 w) := by
 have hl : (120 : Int) < (t.size : Int) := by omega
 clear ht
 go_enter Tryz.func30, Tryz.ntmps30
 go_wp2_with fail;refine (yT 8 (by decide) w).mono ?_;rintro e w' ⟨v, rfl, he, hb⟩;have HE := Hi he;have HB := Hi hb;clear he hb;go_wp2_with fail
 go_ret2
 exact ⟨v, rfl, HE.o, HB.o⟩
theorem Vs {K : Nat -> Prop} {w : World} {P D n : Nat} {d : Dk} {s : Pst} {data firm : Nat -> List UInt8} (hA : ya qU K w P D n d s) (h : yP n d s data firm) (t : ByteArray) (ht : t.size <= 120) (hf : s.first n = none) :
  Calls Tryz.prog 30 #[ptr P, .string t] w (Two (.int .i64 0) 6 w) := by
 obtain ⟨L, HL⟩ : ∃ L : Nat -> Prop, Hid (L = fun b => K b \/ b = P) := Hy;have HO := Hi hA.own;have HD := Hi hA.diskP;have HU := Hi h.held.good.used;have HBO := Hi (h.held.good.used.both h.newOk);have HF : Hid (Zh (both s.sup.used s.new) 2 (n : Int) = none) := Hi (by
  have := h.le;rw [<- hf];unfold Zh Pst.first;congr 1;omega)
 have hlen : ¬ (120 : Int) < (t.size : Int) := by omega
 rw [<- HL.o] at HD;clear hA h ht hf HL
 go_enter Tryz.func30, Tryz.ntmps30
 go_upto_region 5 with (fail)
 refine wp_region_held (S := KC L w P D n d s) (by kernel_rfl) ?_;change wpAnyH _ _ _ _ _ _ _ _ w.drew;obtain ⟨wa, HWA⟩ : ∃ wa, Hid (wa = w.drew) := Hy;rw [<- HWA.o];have hS : KC L w P D n d s wa := by rw [HWA.o]; exact ⟨HO.o.below (Below.refl _ _).drew, HD.o.carry (Below.refl _ _).drew, (Below.refl _ _).drew⟩
 clear HWA;refine za (i := 0) 17 (v := ptr P) rfl rfl hS ?_;simp only [Act.put, pU];refine za (i := 2) 19 (v := ptr P) rfl rfl hS ?_;simp only [Act.put, pU];refine za (i := 3) 20 (v := .pointer (some ⟨P, 0, none⟩)) rfl rfl hS ?_;simp only [Act.put, pU];refine za (i := 4) 21 (v := .pointer (some ⟨P, 0, none⟩)) rfl rfl hS ?_;simp only [Act.put, pU];refine zy (i := 5) 22 (v := ptr D) rfl rfl (.inl ⟨by rfl, fun _ h => by have c0 := h.own.at0; go_simp⟩) hS ?_;simp only [Act.put, pU];refine zN (i := 1) (oi := ⟨some 18, _, _, _, _, _⟩) rfl (by kernel_rfl) (fun K0 hK => ?_);go_simp;refine (jU hS.own HU.o).mono ?_;rintro e wn ⟨rfl, hb⟩;have hS2 := hS.carry hb;clear hb hS;refine hK.out _ _ hS2 ?_;clear hK K0;have hS := hS2;clear hS2;refine zN (i := 6) (oi := ⟨some 23, _, _, _, _, _⟩) rfl (by kernel_rfl) (fun K0 hK => ?_);go_simp;refine (kE hS.disk).mono ?_;rintro e wn ⟨rfl, rfl⟩;refine hK.out _ _ hS ?_;clear hK K0;refine zN (i := 7) (oi := ⟨some 24, _, _, _, _, _⟩) rfl (by kernel_rfl) (fun K0 hK => ?_);go_simp;refine (Wt _ HBO.o 2 (n : Int) _).mono ?_;rw [HF.o];rintro e wn ⟨rfl, hb⟩;have hS2 := hS.carry hb;clear hb hS;unfold KS;dsimp only;refine hK.out _ _ hS2 ?_;clear hK K0;have hS := hS2;clear hS2;refine za (i := 8) 16 (v := .tuple #[.int .i64 0, .bool false]) rfl rfl hS ?_;simp only [Act.put, pU];refine za (i := 9) 25 (v := .int .i64 0) rfl rfl hS ?_;simp only [Act.put, pU];refine za (i := 10) 26 (v := .bool false) rfl rfl hS ?_;simp only [Act.put, pU];refine za (i := 11) 6 (v := .int .i64 0) rfl rfl hS ?_;simp only [Act.put, pU];refine za (i := 12) 7 (v := .bool false) rfl rfl hS ?_;simp only [Act.put, pU];refine wpAnyH_done (by kernel_rfl) ?_ _;clear HD HO;have HS := Hi hS;clear hS;go_wp2_with fail;refine (yT 6 (by decide) _).mono ?_;rintro e w' ⟨v, rfl, he, hb⟩;have HE := Hi (he.mono HS.o.below.size);have HB := Hi (HS.o.below.trans (hb.mono HS.o.below.size));clear he hb;go_wp2_with fail
 go_ret2
 exact ⟨v, rfl, HE.o, HB.o⟩
theorem Xr {t : ByteArray} (ht : t.size <= 120) : jI 2 t = 0 := by
 unfold jI;rw [if_neg (by decide), if_neg (by omega)]
theorem Jj {t : ByteArray} (ht : t.size <= 120) : jM 2 t = pgB (wW t.data.toList) := by
 unfold jM;rw [if_pos (Xr ht)];rfl
theorem KB {K : Nat -> Prop} {w : World} {P D n : Nat} {d : Dk} {s : Pst} {data firm : Nat -> List UInt8} (hA : ya qU K w P D n d s) (h : yP n d s data firm) (hdn : d.down = false) (hg : ∀ w', zg K w w' -> yO w') (hsl : d.soft.length <= 100000)
  (t : ByteArray) (ht : t.size <= 120) (k : Nat) (hf : s.first n = some k) :
  Calls Tryz.prog 30 #[ptr P, .string t] w fun e w' => e = .returned (.tuple #[.int .i64 (k : Int), .nilIface]) /\ ya qU K w' P D n (d.write k (pgB (wW t.data.toList))) (s.at_ k) /\ zg K w w' := by
 obtain ⟨L, HL⟩ : ∃ L : Nat -> Prop, Hid (L = fun b => K b \/ b = P) := Hy;have HNK := Hi hA.notK;have HT := Hi hA.there;have HKN : Hid (k < n /\ k < 240) := Hi (by
  have := h.first_some hf;have := h.le;omega)
 have HTL : Hid (yd L w) := Hi fun j hj => by
  rw [HL.o] at hj;rcases hj with hj | rfl
  ·exact hA.there j hj
  ·exact hA.own.lt
 have HLP : Hid (L P) := Hi (by rw [HL.o]; exact .inr rfl);have HLK : Hid (∀ j, K j -> L j) := Hi fun j hj => by rw [HL.o]; exact .inl hj
 have HG := Hi hg;have HDN := Hi hdn;have HSL : Hid (d.soft.length <= 1000000) := Hi (by omega);have HPL := Hi (Jj ht);have HCL := Hi (Xr ht);have HNO := Hi h.newOk;have HO := Hi hA.own;have HD := Hi hA.diskP;have HU := Hi h.held.good.used;have HBO := Hi (h.held.good.used.both h.newOk);have HF : Hid (Zh (both s.sup.used s.new) 2 (n : Int) = some k) := Hi (by
  have := h.le;rw [<- hf];unfold Zh Pst.first;congr 1;omega)
 have hlen : ¬ (120 : Int) < (t.size : Int) := by omega
 rw [<- HL.o] at HD;clear hA h ht hf hdn hg hsl
 go_enter Tryz.func30, Tryz.ntmps30
 go_upto_region 5 with (fail)
 refine wp_region_held (S := KC L w P D n d s) (by kernel_rfl) ?_;change wpAnyH _ _ _ _ _ _ _ _ w.drew;obtain ⟨wa, HWA⟩ : ∃ wa, Hid (wa = w.drew) := Hy;rw [<- HWA.o];have hS : KC L w P D n d s wa := by rw [HWA.o]; exact ⟨HO.o.below (Below.refl _ _).drew, HD.o.carry (Below.refl _ _).drew, (Below.refl _ _).drew⟩
 clear HWA;refine za (i := 0) 17 (v := ptr P) rfl rfl hS ?_;simp only [Act.put, pU];refine za (i := 2) 19 (v := ptr P) rfl rfl hS ?_;simp only [Act.put, pU];refine za (i := 3) 20 (v := .pointer (some ⟨P, 0, none⟩)) rfl rfl hS ?_;simp only [Act.put, pU];refine za (i := 4) 21 (v := .pointer (some ⟨P, 0, none⟩)) rfl rfl hS ?_;simp only [Act.put, pU];refine zy (i := 5) 22 (v := ptr D) rfl rfl (.inl ⟨by rfl, fun _ h => by have c0 := h.own.at0; go_simp⟩) hS ?_;simp only [Act.put, pU];refine zN (i := 1) (oi := ⟨some 18, _, _, _, _, _⟩) rfl (by kernel_rfl) (fun K0 hK => ?_);go_simp;refine (jU hS.own HU.o).mono ?_;rintro e wn ⟨rfl, hb⟩;have hS2 := hS.carry hb;clear hb hS;refine hK.out _ _ hS2 ?_;clear hK K0;have hS := hS2;clear hS2;refine zN (i := 6) (oi := ⟨some 23, _, _, _, _, _⟩) rfl (by kernel_rfl) (fun K0 hK => ?_);go_simp;refine (kE hS.disk).mono ?_;rintro e wn ⟨rfl, rfl⟩;refine hK.out _ _ hS ?_;clear hK K0;refine zN (i := 7) (oi := ⟨some 24, _, _, _, _, _⟩) rfl (by kernel_rfl) (fun K0 hK => ?_);go_simp;refine (Wt _ HBO.o 2 (n : Int) _).mono ?_;rw [HF.o];rintro e wn ⟨rfl, hb⟩;have hS2 := hS.carry hb;clear hb hS;unfold KS;dsimp only;refine hK.out _ _ hS2 ?_;clear hK K0;have hS := hS2;clear hS2;refine za (i := 8) 16 (v := .tuple #[.int .i64 (k : Int), .bool true]) rfl rfl hS ?_;simp only [Act.put, pU];refine za (i := 9) 25 (v := .int .i64 (k : Int)) rfl rfl hS ?_;simp only [Act.put, pU];refine za (i := 10) 26 (v := .bool true) rfl rfl hS ?_;simp only [Act.put, pU];refine za (i := 11) 6 (v := .int .i64 (k : Int)) rfl rfl hS ?_;simp only [Act.put, pU];refine za (i := 12) 7 (v := .bool true) rfl rfl hS ?_;simp only [Act.put, pU];refine wpAnyH_done (by kernel_rfl) ?_ _;clear HD HO;have HS := Hi hS;have hc := hS.own.at0;clear hS;go_wp2_with fail;have hkk : zg L w wn := zg.of_below HS.o.below HTL.o;refine (Ys HS.o.disk (HTL.o.kept hkk) HDN.o HKN.o.1 HSL.o 2 t HCL.o (HG.o _ (hkk.less HLK.o)).crc).mono ?_;rintro e w3 ⟨rfl, hd3, hk3⟩;rw [HPL.o] at hd3;have HK3 := Hi (hkk.trans hk3);have HD3 := Hi hd3;have HO3 := Hi (HS.o.own.block (hk3.block P HLP.o));clear hd3 hk3 hkk hc HS;go_wp2_with (with_reducible refine zc (o := ⟨some 45, _, _, _, _, _⟩) ?_);refine yC (by rfl) _ rfl P 33 rfl s.new HNO.o.len HO3.o.fresh ?_;go_wp2_with fail;refine (Vx _ HNO.o k HKN.o.2 w3).mono ?_;rintro e w4 ⟨rfl, hb⟩;have HO4 := Hi (HO3.o.below hb);have HD4 := Hi (HD3.o.carry hb);have HK4 : Hid (zg L w w4) := Hi (HK3.o.trans (zg.of_below hb fun j hj => HTL.o.kept HK3.o j hj));have HTO := Hi (HNO.o.with_ k);have HSA : Hid (s.at_ k = ⟨s.sup, with_ s.new k, s.gone⟩) := Hi rfl;obtain ⟨q, HQ⟩ : ∃ q, Hid (q = with_ s.new k) := Hy;rw [<- HQ.o] at HTO HSA ⊢;clear hb HO3 HD3 HK3;go_wp2_with (with_reducible refine zc (o := ⟨none, _, _, _, _, _⟩) ?_);refine wJ rfl _ _ rfl P 33 q HTO.o.len rfl rfl (yQ HO4.o.fresh (by rw [zI, HNO.o.len]) HO4.o.free) ?_;intro w5 HW5;go_wp2_with fail
 go_ret2
 rw [HSA.o];exact ⟨rfl, ya.ofStore HNK.o HT.o (HL.o ▸ HD4.o) (HL.o ▸ HK4.o) (by rw [HW5.o]; exact HO4.o.putFresh HTO.o) (by rw [HW5.o]; exact wL.setCells (zg.refl _ _) _ _)⟩
end
section
open Go.RowKit
open Bits (Ok has with_ without both minus)
theorem xJ {ops : Array Oper} {rest : List Oper} {op : Oper} {a : Act} {w : World} {Q : Exit -> Act -> World -> Prop} (hgd : op.guard = none) (x y : Operand) (ho : op.op = .store 103 x y)
  (b o : Nat) (s : Sb) (hs : s.Ok) (hx : a.eval x = .pointer (some ⟨b, o, none⟩)) (hy : a.eval y = sbV s) (hb : w.there b o 32)
  (h : ∀ w2, Hid (w2 = w.setCells b o (zP s)) -> wpList Tryz.prog ops Q rest (a.put op.dst undef) w2) : wpList Tryz.prog ops Q (op :: rest) a w :=
 wpList_store_mid hgd _ x y ho b o (zR s) hx hy (by rw [zJ hs]; exact hb) (by rw [zJ hs]; exact Tryz.sbProg.size) (xg s) (h _ (Hi rfl))
section
variable {P : Program} {ops : Array Oper} {md : Region.Mode} {Q : Exit -> Act -> World -> Prop} {S : World -> Prop}
theorem Kj {i j : Nat} {oi oj : Oper} {fuel : Nat} {listed : Array Bool} {a : Act} {w : World} (hi : ops[i]? = some oi) (hj : ops[j]? = some oj) (hr : Region.ready md ops listed = [i, j])
  (h : ∀ K : Act -> World -> Prop, Hid (∀ a w, S w -> wpAnyH P md ops Q S fuel (listed.setIfInBounds i true) a w -> K a w) -> if Region.wanted oi (yielded ops a.tmps) = true then Oper.wp P oi a w K Q else K (a.put oi.dst undef) w)
  (h' : ∀ K : Act -> World -> Prop, Hid (∀ a w, S w -> wpAnyH P md ops Q S fuel (listed.setIfInBounds j true) a w -> K a w) -> if Region.wanted oj (yielded ops a.tmps) = true then Oper.wp P oj a w K Q else K (a.put oj.dst undef) w) : wpAnyH P md ops Q S (fuel + 1) listed a w :=
 wpAnyH_ready hr (by simp) (AllReadyH.cons hi (fun K hK => h K (fun a w h1 h2 => hK.out a w h1 fun _ => h2)) (AllReadyH.cons hj (fun K hK => h' K (fun a w h1 h2 => hK.out a w h1 fun _ => h2)) AllReadyH.nil))
end
structure qT (P D u : Nat) (s : Pst) (q : List Nat) (wr : World) : Prop where
 own : yD wr P D s
 set : yG wr u q
theorem zcG {s : Pst} {r : Int} (h : rootOk s r = false) : r ≠ 0 /\ ZJ s.used r = false := by
 unfold rootOk at h;have := Bool.or_eq_false_iff.1 h;exact ⟨of_decide_eq_false this.1, this.2⟩
theorem zbz {s : Pst} {r : Int} (h : rootOk s r = true) (h0 : ¬ r = 0) : ZJ s.used r = true := by
 unfold rootOk at h;rw [decide_eq_false h0, Bool.false_or] at h;exact h
theorem WV {w : World} {P D : Nat} {s : Pst} (h : yD w P D s) (r : Int) (hr : rootOk s r = false) : Calls Tryz.prog 22 #[ptr P, .int .i64 r] w (yN 1 w.1.size w) := by
 have hz := Tryz.zeroSet;have HO := Hi h;have HUO : Hid (Ok s.used) := Hi ((h.sup.used.both h.new).minus 240);obtain ⟨h0, hh⟩ := zcG hr;have HI := Hi hh;clear h hr hh
 go_enter Tryz.func22, Tryz.ntmps22
 go_wp2_with fail;refine (jX HO.o HO.o.sup.used).mono ?_;obtain ⟨q, HQ⟩ : ∃ q, Hid (q = s.used) := Hy;rw [<- HQ.o] at HUO HI ⊢;rintro e w1 ⟨rfl, hb⟩;have HB1 := Hi hb;clear hb;go_wp2_with (with_reducible refine zc (o := ⟨none, _, _, _, _, _⟩) ?_);refine zu rfl _ _ _ rfl (yt zY) (yt q) _ rfl rfl rfl (by rw [yK, HUO.o.len]; exact Tryz.setSize) (by rw [yK, yK, HUO.o.len]; rfl) (js _) ?_;obtain ⟨u, HUU⟩ : ∃ u, Hid (u = w1.1.size) := Hy;obtain ⟨w2, HW⟩ : ∃ w2, Hid (w2 = w1.alloc (.cells (yt q) 63)) := Hy;rw [<- HW.o, <- HUU.o];have HSU : Hid (yG w2 u q) := Hi (by rw [HW.o, HUU.o]; exact yG.new _);have HB2 : Hid (Below w.1.size w w2) := Hi (by rw [HW.o]; exact HB1.o.alloc HB1.o.size _);clear HW HUU;go_wp2_with (with_reducible refine zc (o := ⟨some 16, _, _, _, _, _⟩) ?_);refine yB (by unfold Region.wanted; simp [yielded, h0]) _ rfl u rfl q HUO.o.len HSU.o.at_ ?_;go_wp2_with fail;refine (qG _ HUO.o r w2).mono ?_;rw [HI.o];rintro e w3 ⟨rfl, hb⟩;have HB3 := Hi (HB2.o.trans (hb.mono HB2.o.size));clear hb;go_wp2_with fail;refine (yT 1 (by decide) w3).mono ?_;rintro e w4 ⟨v, rfl, he, hb⟩;have HE := Hi (he.mono HB3.o.size);have HB4 := Hi (HB3.o.trans (hb.mono HB3.o.size));clear he hb;go_wp2_with fail
 go_ret
 exact ⟨v, rfl, HE.o, HB4.o⟩
theorem X9 {K : Nat -> Prop} {w : World} {P D n : Nat} {d : Dk} {s : Pst} {data firm : Nat -> List UInt8} (hA : ya qU K w P D n d s) (h : yP n d s data firm) (hdn : d.down = false) (hg : ∀ w', zg K w w' -> yO w')
  (r : Int) (hr : rootOk s r = true) (hgl : s.sup.gen + 1 < 4294967296) :
  Calls Tryz.prog 22 #[ptr P, .int .i64 r] w fun e w' => e = .returned .nilIface /\ ya qU K w' P D n (xy d (s.next r)) (s.commit r) /\ zg K w w' := by
 have hz := Tryz.zeroSet;have hz2 := Tryz.sbProg.zero;have HNK := Hi hA.notK;have HT := Hi hA.there;have HO := Hi hA.own;have HD := Hi hA.diskP;have HG := Hi hg;have HDN := Hi hdn;have HN := Hi h.held.three;have HRY := Hi (fun h0 => zbz hr h0);have HR := Hi (h.next_right hr);have HGL := Hi hgl;have HQO := Hi h.usedOk;have HXO := Hi (h.next_ok hgl r);obtain ⟨x, HX⟩ : ∃ x, Hid (x = s.next r) := Hy;have HSC : Hid (s.commit r = (⟨x, s.new, s.gone⟩ : Pst).abort) := Hi (by rw [HX.o]; rfl);rw [<- HX.o] at HXO ⊢;rw [HSC.o];clear hA h hdn hg hr hgl;unfold Pst.next at HR HX;obtain ⟨g, HGG⟩ : ∃ g, Hid (g = s.sup.gen) := Hy;obtain ⟨q, HQ⟩ : ∃ q, Hid (q = s.used) := Hy;rw [<- HGG.o] at HR HX HGL;rw [<- HQ.o] at HR HX HQO HRY
 go_enter Tryz.func22, Tryz.ntmps22
 go_wp2_with fail;refine (jX HO.o HO.o.sup.used).mono ?_;rw [<- HQ.o];rintro e w1 ⟨rfl, hb⟩;have HB1 := Hi hb;clear hb;go_wp2_with (with_reducible refine zc (o := ⟨none, _, _, _, _, _⟩) ?_);refine zu rfl _ _ _ rfl (yt zY) (yt q) _ rfl rfl rfl (by rw [yK, HQO.o.len]; exact Tryz.setSize) (by rw [yK, yK, HQO.o.len]; rfl) (js _) ?_;obtain ⟨u, HUU⟩ : ∃ u, Hid (u = w1.1.size) := Hy;obtain ⟨w2, HW⟩ : ∃ w2, Hid (w2 = w1.alloc (.cells (yt q) 63)) := Hy;rw [<- HW.o, <- HUU.o];have HSU : Hid (yG w2 u q) := Hi (by rw [HW.o, HUU.o]; exact yG.new _);have HB2 : Hid (Below w.1.size w w2) := Hi (by rw [HW.o]; exact HB1.o.alloc HB1.o.size _);have HUL : Hid (w.1.size <= u) := Hi (by rw [HUU.o]; exact HB1.o.size);clear HW HUU;obtain ⟨L, HL⟩ : ∃ L : Nat -> Prop, Hid (L = fun b => K b \/ b = P) := Hy;obtain ⟨L2, HL2⟩ : ∃ L2 : Nat -> Prop, Hid (L2 = fun b => L b \/ b = u) := Hy;have HTL : Hid (yd L w) := Hi fun j hj => by
  rw [HL.o] at hj;rcases hj with hj | rfl
  ·exact HT.o j hj
  ·exact HO.o.lt
 have HKL : Hid (∀ j, K j -> L j) := Hi fun j hj => by rw [HL.o]; exact .inl hj
 have HLP : Hid (L P) := Hi (by rw [HL.o]; exact .inr rfl);have HLL : Hid (∀ j, L j -> L2 j) := Hi fun j hj => by rw [HL2.o]; exact .inl hj
 have HLU : Hid (L2 u) := Hi (by rw [HL2.o]; exact .inr rfl);rw [<- HL.o] at HD;have HDA2 : Hid (zF L2 w2 D n d) := Hi (HD.o.more HB2.o fun k hk => by
  rw [HL2.o] at hk;rcases hk with hk | rfl
  ·exact .inl hk
  ·exact .inr HUL.o)
 have HTA2 : Hid (yd L2 w2) := Hi fun j hj => by
  rw [HL2.o] at hj;rcases hj with hj | rfl
  ·exact zd5 (HTL.o j hj) HB2.o.size
  ·exact HSU.o.lt (by have := HQO.o.len; omega)
 have HGA2 : Hid (∀ w3, Below w2.1.size w2 w3 -> ∀ w', zg L w3 w' -> zO w') := Hi fun w3 hb w' hk => (HG.o w' ((zg.of_below (HB2.o.trans (hb.mono HB2.o.size)) fun k hk => HT.o k hk).trans (hk.less HKL.o))).crc
 have HO2 := Hi (HO.o.below HB2.o);clear HD HL2;by_cases h0 : r = 0
 ·have HRZ : Hid (yy ⟨g + 1, r, q⟩ = true) := HR;have hr0 : (r != 0) = false := by rw [h0]; rfl
  clear h0 HRY;go_upto_region 6 with (fail)
  obtain ⟨w3, HW3⟩ : ∃ w3, Hid (w3 = w2) := Hy;rw [<- HW3.o];have HB3 : Hid (Below w2.1.size w2 w3) := Hi (by rw [HW3.o]; exact Below.refl _ _);clear HW3 hr0 HRZ;refine wp_region_held (S := qT P D u s q) (by kernel_rfl) ?_;change wpAnyH _ _ _ _ _ _ _ _ w3.drew;obtain ⟨wa, HWA⟩ : ∃ wa, Hid (wa = w3.drew) := Hy;rw [<- HWA.o];have hb3 : Below w2.1.size w2 wa := by rw [HWA.o]; exact HB3.o.drew
  have hS : qT P D u s q wa := ⟨HO2.o.below hb3, HSU.o.below hb3 (HSU.o.lt (by have := HQO.o.len; omega))⟩
  have HDA : Hid (zF L2 wa D n d) := Hi (HDA2.o.carry hb3);have HTA : Hid (yd L2 wa) := Hi (HTA2.o.below hb3);have HGA : Hid (∀ w', zg L wa w' -> zO w') := Hi (HGA2.o wa hb3);have HKA : Hid (zg L w wa) := Hi ((zg.of_below HB2.o fun k hk => HTL.o k hk).trans (zg.of_below hb3 fun k hk => zd5 (HTL.o k hk) HB2.o.size));have HWS : Hid (w.1.size <= wa.1.size) := Hi HKA.o.size;clear HWA hb3 HB3 HDA2 HTA2 HGA2;refine za (i := 0) 23 (v := ptr P) rfl rfl hS ?_;simp only [Act.put, pU];refine za (i := 1) 24 (v := .pointer (some ⟨P, 0, none⟩)) rfl rfl hS ?_;simp only [Act.put, pU];refine za (i := 2) 25 (v := .pointer (some ⟨P, 0, none⟩)) rfl rfl hS ?_;simp only [Act.put, pU];refine zy (i := 3) 26 (v := ptr D) rfl rfl (.inl ⟨by rfl, fun _ h => by have c0 := h.own.at0; go_simp⟩) hS ?_;simp only [Act.put, pU];refine za (i := 4) 27 (v := ptr P) rfl rfl hS ?_;simp only [Act.put, pU];refine za (i := 5) 28 (v := .pointer (some ⟨P, 0, none⟩)) rfl rfl hS ?_;simp only [Act.put, pU];refine za (i := 6) 29 (v := .pointer (some ⟨P, 1, none⟩)) rfl rfl hS ?_;simp only [Act.put, pU];refine za (i := 7) 30 (v := .pointer (some ⟨P, 1, none⟩)) rfl rfl hS ?_;simp only [Act.put, pU];refine zy (i := 8) 31 (v := .int .u32 (g : Int)) rfl rfl (.inl ⟨by rfl, fun _ h => by have c0 := h.own.genC; rw [<- HGG.o] at c0; go_simp⟩) hS ?_;simp only [Act.put, pU];refine za (i := 9) 32 (v := .int .i64 r) rfl rfl hS ?_;simp only [Act.put, pU];refine zy (i := 10) 33 (v := stV q) rfl rfl (wQ (by rfl) _ rfl u 0 rfl q HQO.o.len (fun _ h => h.set.at_)) hS ?_;simp only [Act.put, pU];refine Kj (i := 11) (j := 15) (oi := ⟨some 34, _, _, _, _, _⟩) (oj := ⟨some 6, _, _, _, _, _⟩) rfl rfl (by kernel_rfl) (fun K0 hK => ?_) (fun K0 hK => ?_)
  ·go_simp;refine (vd HDA.o HTA.o HDN.o HN.o g r q HQO.o HGL.o HR.o (Hi fun w9 hk9 => HGA.o w9 (hk9.less HLL.o)).out).mono ?_;rintro e wn ⟨rfl, hdn2, hkn⟩;rw [<- HX.o] at hdn2 ⊢;have hS2 : qT P D u s q wn := ⟨hS.own.block (hkn.block P (HLL.o P HLP.o)), hS.set.blockEq (hkn.block u HLU.o)⟩
   have HDN2 := Hi hdn2;have HKN : Hid (zg L w wn) := Hi (HKA.o.trans (hkn.less HLL.o));have HTN : Hid (yd L2 wn) := Hi (HTA.o.kept hkn);clear hdn2 hkn hS;refine hK.out _ _ hS2 ?_;clear hK K0;have hS := hS2;clear hS2
   try simp only [Act.put, pU]
   refine za (i := 12) 22 (v := .tuple #[sbV x, .nilIface]) rfl rfl hS ?_;simp only [Act.put, pU];refine za (i := 13) 35 (v := sbV x) rfl rfl hS ?_;simp only [Act.put, pU];refine za (i := 14) 36 (v := .nilIface) rfl rfl hS ?_;simp only [Act.put, pU];refine zN (i := 15) (oi := ⟨some 6, _, _, _, _, _⟩) rfl (by kernel_rfl) (fun K0 hK => ?_);go_simp;obtain ⟨c, HC⟩ : ∃ c, Hid (c = wn.1.size) := Hy;obtain ⟨wc, HWC⟩ : ∃ wc, Hid (wc = wn.alloc (.cells (zR Sb.zero) 103)) := Hy;rw [<- HC.o, <- HWC.o];have hbc : Below wn.1.size wn wc := by rw [HWC.o]; exact (Below.refl _ _).alloc (zdH _) _
   have HN5 : Hid (zU wc c Sb.zero) := Hi (by rw [HWC.o, HC.o]; exact zU.new _);have hS2 : qT P D u s q wc := ⟨hS.own.below hbc, hS.set.below hbc (hS.set.lt (by have := HQO.o.len; omega))⟩
   have HCP : Hid (c ≠ P) := Hi (by have := hS.own.lt; rw [HC.o]; omega);have HCU : Hid (c ≠ u) := Hi (by have := hS.set.lt (by have := HQO.o.len; omega); rw [HC.o]; omega);have HCL : Hid (w.1.size <= c) := Hi (by rw [HC.o]; exact HKN.o.size);have HD5 : Hid (zF (fun k => L2 k \/ k = c) wc D n (Ki d x)) := Hi (HDN2.o.more hbc fun k hk => by
    rcases hk with hk | rfl
    ·exact .inl hk
    ·exact .inr (by rw [HC.o]; exact zdH _))
   have HK5 : Hid (zg L w wc) := Hi (HKN.o.trans (zg.of_below hbc fun k hk => HTN.o k (HLL.o k hk)));clear HWC HC hbc hS HDN2 HKN HTN HDA HTA HGA HKA;refine hK.out _ _ hS2 ?_;clear hK K0;have hS := hS2;clear hS2
   try simp only [Act.put, pU]
   refine zN (i := 16) rfl (by kernel_rfl) (fun K0 hK => ?_);rw [if_pos (by rfl)];refine wp_store_mid _ _ _ rfl c 0 (zR x) rfl rfl (by rw [zJ HXO.o]; exact yQ HN5.o.at_ (zH Sb.Ok.zero) HN5.o.free) (by rw [zJ HXO.o]; exact Tryz.sbProg.size) (xg x) ?_;obtain ⟨w6, HW6⟩ : ∃ w6, Hid (w6 = wc.setCells c 0 (zP x)) := Hy;rw [show (zR x).toList = zP x from rfl, <- HW6.o];have hk6 : zg (fun k => k < wc.1.size /\ ¬ k = c) wc w6 := by rw [HW6.o]; exact zg.setCells (zg.refl _ _) (fun hh => hh.2 rfl) _ _
   have HN6 : Hid (zU w6 c x) := Hi (by rw [HW6.o]; exact HN5.o.lay Sb.Ok.zero HXO.o);have hS2 : qT P D u s q w6 := ⟨hS.own.block (hk6.block P ⟨hS.own.lt, Ne.symm HCP.o⟩), hS.set.blockEq (hk6.block u ⟨hS.set.lt (by have := HQO.o.len; omega), Ne.symm HCU.o⟩)⟩
   have HD6 : Hid (zF L w6 D n (Ki d x)) := Hi (HD5.o.off (B := fun k => k = c) (fun k hk => .inr hk) hk6 fun k hk => .inl (.inl (HLL.o k hk)));have HK6 : Hid (zg L w w6) := Hi (by
    rw [HW6.o];refine zg.setCells HK5.o (fun hh => ?_) _ _;have := HTL.o c hh;have := HCL.o;omega)
   refine hK.out _ _ hS2 ?_;clear hK K0;have hS := hS2;clear hS2;simp only [Act.put];refine za (i := 17) 7 (v := .nilIface) rfl rfl hS ?_;simp only [Act.put];refine wpAnyH_done (by kernel_rfl) ?_ _;have HO6 := Hi hS.own;clear hS HN5 HD5 HK5 HW6 hk6;go_wp2_with (with_reducible refine zc (o := ⟨some 41, _, _, _, _, _⟩) ?_);refine zW Tryz.sbProg (by rfl) _ rfl c rfl x HXO.o HN6.o.at_ ?_;go_wp2_with (with_reducible refine zc (o := ⟨none, _, _, _, _, _⟩) ?_);refine xJ rfl _ _ rfl P 1 x HXO.o rfl rfl (yQ HO6.o.sb (zH HO6.o.sup) HO6.o.free) ?_;intro w7 HW7;have HO7 : Hid (yD w7 P D ⟨x, s.new, s.gone⟩) := Hi (by rw [HW7.o]; exact HO6.o.putSb HXO.o);have HF7 : Hid (wL P w6 w7) := Hi (by rw [HW7.o]; exact wL.setCells (zg.refl _ _) _ _);go_wp2_with fail;refine (vx HO7.o).mono ?_;rintro e w8 ⟨rfl, ho8, hf8⟩;have HO8 := Hi ho8;have HF8 := Hi (HF7.o.trans hf8);clear ho8 hf8;go_wp2_with fail
   go_ret
   exact ⟨rfl, ya.ofStore HNK.o HT.o (HL.o ▸ HD6.o) (HL.o ▸ HK6.o) HO8.o HF8.o⟩
  ·go_simp;obtain ⟨c, HC⟩ : ∃ c, Hid (c = wa.1.size) := Hy;obtain ⟨wc, HWC⟩ : ∃ wc, Hid (wc = wa.alloc (.cells (zR Sb.zero) 103)) := Hy;rw [<- HC.o, <- HWC.o];have hbc : Below wa.1.size wa wc := by rw [HWC.o]; exact (Below.refl _ _).alloc (zdH _) _
   have HN5 : Hid (zU wc c Sb.zero) := Hi (by rw [HWC.o, HC.o]; exact zU.new _);have hS2 : qT P D u s q wc := ⟨hS.own.below hbc, hS.set.below hbc (hS.set.lt (by have := HQO.o.len; omega))⟩
   have HCP : Hid (c ≠ P) := Hi (by have := hS.own.lt; rw [HC.o]; omega);have HCU : Hid (c ≠ u) := Hi (by have := hS.set.lt (by have := HQO.o.len; omega); rw [HC.o]; omega);have HCL : Hid (w.1.size <= c) := Hi (by rw [HC.o]; exact HWS.o);have HDC : Hid (zF (fun k => L2 k \/ k = c) wc D n d) := Hi (HDA.o.more hbc fun k hk => by
    rcases hk with hk | rfl
    ·exact .inl hk
    ·exact .inr (by rw [HC.o]; exact zdH _))
   have HTC : Hid (yd (fun k => L2 k \/ k = c) wc) := Hi fun k hk => by
    rcases hk with hk | rfl
    ·exact HTA.o.below hbc k hk
    ·exact HN5.o.lt
   have HKC : Hid (zg L w wc) := Hi (HKA.o.trans (zg.of_below hbc fun k hk => HTA.o k (HLL.o k hk)));have HGC : Hid (∀ w', zg L wc w' -> zO w') := Hi fun w' hk => HGA.o w' ((zg.of_below hbc fun k hk => HTA.o k (HLL.o k hk)).trans hk)
   have HNC := HN5;clear HWC HC hbc hS HDA HTA HGA HKA HN5;refine hK.out _ _ hS2 ?_;clear hK K0;have hS := hS2;clear hS2
   try simp only [Act.put, pU]
   refine zN (i := 11) (oi := ⟨some 34, _, _, _, _, _⟩) rfl (by kernel_rfl) (fun K0 hK => ?_);go_simp;refine (vd HDC.o HTC.o HDN.o HN.o g r q HQO.o HGL.o HR.o (Hi fun w9 hk9 => HGC.o w9 (hk9.less fun k hk => .inl (HLL.o k hk))).out).mono ?_;rintro e wn ⟨rfl, hdn2, hkn⟩;rw [<- HX.o] at hdn2 ⊢;have hS2 : qT P D u s q wn := ⟨hS.own.block (hkn.block P (.inl (HLL.o P HLP.o))), hS.set.blockEq (hkn.block u (.inl HLU.o))⟩
   have HD5 := Hi hdn2;have HN5 := Hi (HNC.o.block (hkn.block c (.inr rfl)));have HK5 : Hid (zg L w wn) := Hi (HKC.o.trans (hkn.less fun k hk => .inl (HLL.o k hk)));clear hdn2 hkn hS HDC HTC HKC HGC HNC;refine hK.out _ _ hS2 ?_;clear hK K0;have hS := hS2;clear hS2
   try simp only [Act.put, pU]
   refine za (i := 12) 22 (v := .tuple #[sbV x, .nilIface]) rfl rfl hS ?_;simp only [Act.put, pU];refine za (i := 13) 35 (v := sbV x) rfl rfl hS ?_;simp only [Act.put, pU];refine za (i := 14) 36 (v := .nilIface) rfl rfl hS ?_;simp only [Act.put, pU];refine zN (i := 16) rfl (by kernel_rfl) (fun K0 hK => ?_);rw [if_pos (by rfl)];refine wp_store_mid _ _ _ rfl c 0 (zR x) rfl rfl (by rw [zJ HXO.o]; exact yQ HN5.o.at_ (zH Sb.Ok.zero) HN5.o.free) (by rw [zJ HXO.o]; exact Tryz.sbProg.size) (xg x) ?_;obtain ⟨w6, HW6⟩ : ∃ w6, Hid (w6 = wn.setCells c 0 (zP x)) := Hy;rw [show (zR x).toList = zP x from rfl, <- HW6.o];have hk6 : zg (fun k => k < wn.1.size /\ ¬ k = c) wn w6 := by rw [HW6.o]; exact zg.setCells (zg.refl _ _) (fun hh => hh.2 rfl) _ _
   have HN6 : Hid (zU w6 c x) := Hi (by rw [HW6.o]; exact HN5.o.lay Sb.Ok.zero HXO.o);have hS2 : qT P D u s q w6 := ⟨hS.own.block (hk6.block P ⟨hS.own.lt, Ne.symm HCP.o⟩), hS.set.blockEq (hk6.block u ⟨hS.set.lt (by have := HQO.o.len; omega), Ne.symm HCU.o⟩)⟩
   have HD6 : Hid (zF L w6 D n (Ki d x)) := Hi (HD5.o.off (B := fun k => k = c) (fun k hk => .inr hk) hk6 fun k hk => .inl (.inl (HLL.o k hk)));have HK6 : Hid (zg L w w6) := Hi (by
    rw [HW6.o];refine zg.setCells HK5.o (fun hh => ?_) _ _;have := HTL.o c hh;have := HCL.o;omega)
   refine hK.out _ _ hS2 ?_;clear hK K0;have hS := hS2;clear hS2;simp only [Act.put];refine za (i := 17) 7 (v := .nilIface) rfl rfl hS ?_;simp only [Act.put];refine wpAnyH_done (by kernel_rfl) ?_ _;have HO6 := Hi hS.own;clear hS HN5 HD5 HK5 HW6 hk6;go_wp2_with (with_reducible refine zc (o := ⟨some 41, _, _, _, _, _⟩) ?_);refine zW Tryz.sbProg (by rfl) _ rfl c rfl x HXO.o HN6.o.at_ ?_;go_wp2_with (with_reducible refine zc (o := ⟨none, _, _, _, _, _⟩) ?_);refine xJ rfl _ _ rfl P 1 x HXO.o rfl rfl (yQ HO6.o.sb (zH HO6.o.sup) HO6.o.free) ?_;intro w7 HW7;have HO7 : Hid (yD w7 P D ⟨x, s.new, s.gone⟩) := Hi (by rw [HW7.o]; exact HO6.o.putSb HXO.o);have HF7 : Hid (wL P w6 w7) := Hi (by rw [HW7.o]; exact wL.setCells (zg.refl _ _) _ _);go_wp2_with fail;refine (vx HO7.o).mono ?_;rintro e w8 ⟨rfl, ho8, hf8⟩;have HO8 := Hi ho8;have HF8 := Hi (HF7.o.trans hf8);clear ho8 hf8;go_wp2_with fail
   go_ret
   exact ⟨rfl, ya.ofStore HNK.o HT.o (HL.o ▸ HD6.o) (HL.o ▸ HK6.o) HO8.o HF8.o⟩
 ·have HI := Hi (HRY.o h0);go_wp2_with (with_reducible refine zc (o := ⟨some 16, _, _, _, _, _⟩) ?_);refine yB (by unfold Region.wanted; simp [yielded, h0]) _ rfl u rfl q HQO.o.len HSU.o.at_ ?_;go_wp2_with fail;refine (qG _ HQO.o r w2).mono ?_;rw [HI.o];rintro e w3 ⟨rfl, hb⟩;have HB3 := Hi hb;clear hb;go_upto_region 6 with (fail)
  clear h0 HI HRY;refine wp_region_held (S := qT P D u s q) (by kernel_rfl) ?_;change wpAnyH _ _ _ _ _ _ _ _ w3.drew;obtain ⟨wa, HWA⟩ : ∃ wa, Hid (wa = w3.drew) := Hy;rw [<- HWA.o];have hb3 : Below w2.1.size w2 wa := by rw [HWA.o]; exact HB3.o.drew
  have hS : qT P D u s q wa := ⟨HO2.o.below hb3, HSU.o.below hb3 (HSU.o.lt (by have := HQO.o.len; omega))⟩
  have HDA : Hid (zF L2 wa D n d) := Hi (HDA2.o.carry hb3);have HTA : Hid (yd L2 wa) := Hi (HTA2.o.below hb3);have HGA : Hid (∀ w', zg L wa w' -> zO w') := Hi (HGA2.o wa hb3);have HKA : Hid (zg L w wa) := Hi ((zg.of_below HB2.o fun k hk => HTL.o k hk).trans (zg.of_below hb3 fun k hk => zd5 (HTL.o k hk) HB2.o.size));have HWS : Hid (w.1.size <= wa.1.size) := Hi HKA.o.size;clear HWA hb3 HB3 HDA2 HTA2 HGA2;refine za (i := 0) 23 (v := ptr P) rfl rfl hS ?_;simp only [Act.put, pU];refine za (i := 1) 24 (v := .pointer (some ⟨P, 0, none⟩)) rfl rfl hS ?_;simp only [Act.put, pU];refine za (i := 2) 25 (v := .pointer (some ⟨P, 0, none⟩)) rfl rfl hS ?_;simp only [Act.put, pU];refine zy (i := 3) 26 (v := ptr D) rfl rfl (.inl ⟨by rfl, fun _ h => by have c0 := h.own.at0; go_simp⟩) hS ?_;simp only [Act.put, pU];refine za (i := 4) 27 (v := ptr P) rfl rfl hS ?_;simp only [Act.put, pU];refine za (i := 5) 28 (v := .pointer (some ⟨P, 0, none⟩)) rfl rfl hS ?_;simp only [Act.put, pU];refine za (i := 6) 29 (v := .pointer (some ⟨P, 1, none⟩)) rfl rfl hS ?_;simp only [Act.put, pU];refine za (i := 7) 30 (v := .pointer (some ⟨P, 1, none⟩)) rfl rfl hS ?_;simp only [Act.put, pU];refine zy (i := 8) 31 (v := .int .u32 (g : Int)) rfl rfl (.inl ⟨by rfl, fun _ h => by have c0 := h.own.genC; rw [<- HGG.o] at c0; go_simp⟩) hS ?_;simp only [Act.put, pU];refine za (i := 9) 32 (v := .int .i64 r) rfl rfl hS ?_;simp only [Act.put, pU];refine zy (i := 10) 33 (v := stV q) rfl rfl (wQ (by rfl) _ rfl u 0 rfl q HQO.o.len (fun _ h => h.set.at_)) hS ?_;simp only [Act.put, pU];refine Kj (i := 11) (j := 15) (oi := ⟨some 34, _, _, _, _, _⟩) (oj := ⟨some 6, _, _, _, _, _⟩) rfl rfl (by kernel_rfl) (fun K0 hK => ?_) (fun K0 hK => ?_)
  ·go_simp;refine (vd HDA.o HTA.o HDN.o HN.o g r q HQO.o HGL.o HR.o (Hi fun w9 hk9 => HGA.o w9 (hk9.less HLL.o)).out).mono ?_;rintro e wn ⟨rfl, hdn2, hkn⟩;rw [<- HX.o] at hdn2 ⊢;have hS2 : qT P D u s q wn := ⟨hS.own.block (hkn.block P (HLL.o P HLP.o)), hS.set.blockEq (hkn.block u HLU.o)⟩
   have HDN2 := Hi hdn2;have HKN : Hid (zg L w wn) := Hi (HKA.o.trans (hkn.less HLL.o));have HTN : Hid (yd L2 wn) := Hi (HTA.o.kept hkn);clear hdn2 hkn hS;refine hK.out _ _ hS2 ?_;clear hK K0;have hS := hS2;clear hS2
   try simp only [Act.put, pU]
   refine za (i := 12) 22 (v := .tuple #[sbV x, .nilIface]) rfl rfl hS ?_;simp only [Act.put, pU];refine za (i := 13) 35 (v := sbV x) rfl rfl hS ?_;simp only [Act.put, pU];refine za (i := 14) 36 (v := .nilIface) rfl rfl hS ?_;simp only [Act.put, pU];refine zN (i := 15) (oi := ⟨some 6, _, _, _, _, _⟩) rfl (by kernel_rfl) (fun K0 hK => ?_);go_simp;obtain ⟨c, HC⟩ : ∃ c, Hid (c = wn.1.size) := Hy;obtain ⟨wc, HWC⟩ : ∃ wc, Hid (wc = wn.alloc (.cells (zR Sb.zero) 103)) := Hy;rw [<- HC.o, <- HWC.o];have hbc : Below wn.1.size wn wc := by rw [HWC.o]; exact (Below.refl _ _).alloc (zdH _) _
   have HN5 : Hid (zU wc c Sb.zero) := Hi (by rw [HWC.o, HC.o]; exact zU.new _);have hS2 : qT P D u s q wc := ⟨hS.own.below hbc, hS.set.below hbc (hS.set.lt (by have := HQO.o.len; omega))⟩
   have HCP : Hid (c ≠ P) := Hi (by have := hS.own.lt; rw [HC.o]; omega);have HCU : Hid (c ≠ u) := Hi (by have := hS.set.lt (by have := HQO.o.len; omega); rw [HC.o]; omega);have HCL : Hid (w.1.size <= c) := Hi (by rw [HC.o]; exact HKN.o.size);have HD5 : Hid (zF (fun k => L2 k \/ k = c) wc D n (Ki d x)) := Hi (HDN2.o.more hbc fun k hk => by
    rcases hk with hk | rfl
    ·exact .inl hk
    ·exact .inr (by rw [HC.o]; exact zdH _))
   have HK5 : Hid (zg L w wc) := Hi (HKN.o.trans (zg.of_below hbc fun k hk => HTN.o k (HLL.o k hk)));clear HWC HC hbc hS HDN2 HKN HTN HDA HTA HGA HKA;refine hK.out _ _ hS2 ?_;clear hK K0;have hS := hS2;clear hS2
   try simp only [Act.put, pU]
   refine zN (i := 16) rfl (by kernel_rfl) (fun K0 hK => ?_);rw [if_pos (by rfl)];refine wp_store_mid _ _ _ rfl c 0 (zR x) rfl rfl (by rw [zJ HXO.o]; exact yQ HN5.o.at_ (zH Sb.Ok.zero) HN5.o.free) (by rw [zJ HXO.o]; exact Tryz.sbProg.size) (xg x) ?_;obtain ⟨w6, HW6⟩ : ∃ w6, Hid (w6 = wc.setCells c 0 (zP x)) := Hy;rw [show (zR x).toList = zP x from rfl, <- HW6.o];have hk6 : zg (fun k => k < wc.1.size /\ ¬ k = c) wc w6 := by rw [HW6.o]; exact zg.setCells (zg.refl _ _) (fun hh => hh.2 rfl) _ _
   have HN6 : Hid (zU w6 c x) := Hi (by rw [HW6.o]; exact HN5.o.lay Sb.Ok.zero HXO.o);have hS2 : qT P D u s q w6 := ⟨hS.own.block (hk6.block P ⟨hS.own.lt, Ne.symm HCP.o⟩), hS.set.blockEq (hk6.block u ⟨hS.set.lt (by have := HQO.o.len; omega), Ne.symm HCU.o⟩)⟩
   have HD6 : Hid (zF L w6 D n (Ki d x)) := Hi (HD5.o.off (B := fun k => k = c) (fun k hk => .inr hk) hk6 fun k hk => .inl (.inl (HLL.o k hk)));have HK6 : Hid (zg L w w6) := Hi (by
    rw [HW6.o];refine zg.setCells HK5.o (fun hh => ?_) _ _;have := HTL.o c hh;have := HCL.o;omega)
   refine hK.out _ _ hS2 ?_;clear hK K0;have hS := hS2;clear hS2;simp only [Act.put];refine za (i := 17) 7 (v := .nilIface) rfl rfl hS ?_;simp only [Act.put];refine wpAnyH_done (by kernel_rfl) ?_ _;have HO6 := Hi hS.own;clear hS HN5 HD5 HK5 HW6 hk6;go_wp2_with (with_reducible refine zc (o := ⟨some 41, _, _, _, _, _⟩) ?_);refine zW Tryz.sbProg (by rfl) _ rfl c rfl x HXO.o HN6.o.at_ ?_;go_wp2_with (with_reducible refine zc (o := ⟨none, _, _, _, _, _⟩) ?_);refine xJ rfl _ _ rfl P 1 x HXO.o rfl rfl (yQ HO6.o.sb (zH HO6.o.sup) HO6.o.free) ?_;intro w7 HW7;have HO7 : Hid (yD w7 P D ⟨x, s.new, s.gone⟩) := Hi (by rw [HW7.o]; exact HO6.o.putSb HXO.o);have HF7 : Hid (wL P w6 w7) := Hi (by rw [HW7.o]; exact wL.setCells (zg.refl _ _) _ _);go_wp2_with fail;refine (vx HO7.o).mono ?_;rintro e w8 ⟨rfl, ho8, hf8⟩;have HO8 := Hi ho8;have HF8 := Hi (HF7.o.trans hf8);clear ho8 hf8;go_wp2_with fail
   go_ret
   exact ⟨rfl, ya.ofStore HNK.o HT.o (HL.o ▸ HD6.o) (HL.o ▸ HK6.o) HO8.o HF8.o⟩
  ·go_simp;obtain ⟨c, HC⟩ : ∃ c, Hid (c = wa.1.size) := Hy;obtain ⟨wc, HWC⟩ : ∃ wc, Hid (wc = wa.alloc (.cells (zR Sb.zero) 103)) := Hy;rw [<- HC.o, <- HWC.o];have hbc : Below wa.1.size wa wc := by rw [HWC.o]; exact (Below.refl _ _).alloc (zdH _) _
   have HN5 : Hid (zU wc c Sb.zero) := Hi (by rw [HWC.o, HC.o]; exact zU.new _);have hS2 : qT P D u s q wc := ⟨hS.own.below hbc, hS.set.below hbc (hS.set.lt (by have := HQO.o.len; omega))⟩
   have HCP : Hid (c ≠ P) := Hi (by have := hS.own.lt; rw [HC.o]; omega);have HCU : Hid (c ≠ u) := Hi (by have := hS.set.lt (by have := HQO.o.len; omega); rw [HC.o]; omega);have HCL : Hid (w.1.size <= c) := Hi (by rw [HC.o]; exact HWS.o);have HDC : Hid (zF (fun k => L2 k \/ k = c) wc D n d) := Hi (HDA.o.more hbc fun k hk => by
    rcases hk with hk | rfl
    ·exact .inl hk
    ·exact .inr (by rw [HC.o]; exact zdH _))
   have HTC : Hid (yd (fun k => L2 k \/ k = c) wc) := Hi fun k hk => by
    rcases hk with hk | rfl
    ·exact HTA.o.below hbc k hk
    ·exact HN5.o.lt
   have HKC : Hid (zg L w wc) := Hi (HKA.o.trans (zg.of_below hbc fun k hk => HTA.o k (HLL.o k hk)));have HGC : Hid (∀ w', zg L wc w' -> zO w') := Hi fun w' hk => HGA.o w' ((zg.of_below hbc fun k hk => HTA.o k (HLL.o k hk)).trans hk)
   have HNC := HN5;clear HWC HC hbc hS HDA HTA HGA HKA HN5;refine hK.out _ _ hS2 ?_;clear hK K0;have hS := hS2;clear hS2
   try simp only [Act.put, pU]
   refine zN (i := 11) (oi := ⟨some 34, _, _, _, _, _⟩) rfl (by kernel_rfl) (fun K0 hK => ?_);go_simp;refine (vd HDC.o HTC.o HDN.o HN.o g r q HQO.o HGL.o HR.o (Hi fun w9 hk9 => HGC.o w9 (hk9.less fun k hk => .inl (HLL.o k hk))).out).mono ?_;rintro e wn ⟨rfl, hdn2, hkn⟩;rw [<- HX.o] at hdn2 ⊢;have hS2 : qT P D u s q wn := ⟨hS.own.block (hkn.block P (.inl (HLL.o P HLP.o))), hS.set.blockEq (hkn.block u (.inl HLU.o))⟩
   have HD5 := Hi hdn2;have HN5 := Hi (HNC.o.block (hkn.block c (.inr rfl)));have HK5 : Hid (zg L w wn) := Hi (HKC.o.trans (hkn.less fun k hk => .inl (HLL.o k hk)));clear hdn2 hkn hS HDC HTC HKC HGC HNC;refine hK.out _ _ hS2 ?_;clear hK K0;have hS := hS2;clear hS2
   try simp only [Act.put, pU]
   refine za (i := 12) 22 (v := .tuple #[sbV x, .nilIface]) rfl rfl hS ?_;simp only [Act.put, pU];refine za (i := 13) 35 (v := sbV x) rfl rfl hS ?_;simp only [Act.put, pU];refine za (i := 14) 36 (v := .nilIface) rfl rfl hS ?_;simp only [Act.put, pU];refine zN (i := 16) rfl (by kernel_rfl) (fun K0 hK => ?_);rw [if_pos (by rfl)];refine wp_store_mid _ _ _ rfl c 0 (zR x) rfl rfl (by rw [zJ HXO.o]; exact yQ HN5.o.at_ (zH Sb.Ok.zero) HN5.o.free) (by rw [zJ HXO.o]; exact Tryz.sbProg.size) (xg x) ?_;obtain ⟨w6, HW6⟩ : ∃ w6, Hid (w6 = wn.setCells c 0 (zP x)) := Hy;rw [show (zR x).toList = zP x from rfl, <- HW6.o];have hk6 : zg (fun k => k < wn.1.size /\ ¬ k = c) wn w6 := by rw [HW6.o]; exact zg.setCells (zg.refl _ _) (fun hh => hh.2 rfl) _ _
   have HN6 : Hid (zU w6 c x) := Hi (by rw [HW6.o]; exact HN5.o.lay Sb.Ok.zero HXO.o);have hS2 : qT P D u s q w6 := ⟨hS.own.block (hk6.block P ⟨hS.own.lt, Ne.symm HCP.o⟩), hS.set.blockEq (hk6.block u ⟨hS.set.lt (by have := HQO.o.len; omega), Ne.symm HCU.o⟩)⟩
   have HD6 : Hid (zF L w6 D n (Ki d x)) := Hi (HD5.o.off (B := fun k => k = c) (fun k hk => .inr hk) hk6 fun k hk => .inl (.inl (HLL.o k hk)));have HK6 : Hid (zg L w w6) := Hi (by
    rw [HW6.o];refine zg.setCells HK5.o (fun hh => ?_) _ _;have := HTL.o c hh;have := HCL.o;omega)
   refine hK.out _ _ hS2 ?_;clear hK K0;have hS := hS2;clear hS2;simp only [Act.put];refine za (i := 17) 7 (v := .nilIface) rfl rfl hS ?_;simp only [Act.put];refine wpAnyH_done (by kernel_rfl) ?_ _;have HO6 := Hi hS.own;clear hS HN5 HD5 HK5 HW6 hk6;go_wp2_with (with_reducible refine zc (o := ⟨some 41, _, _, _, _, _⟩) ?_);refine zW Tryz.sbProg (by rfl) _ rfl c rfl x HXO.o HN6.o.at_ ?_;go_wp2_with (with_reducible refine zc (o := ⟨none, _, _, _, _, _⟩) ?_);refine xJ rfl _ _ rfl P 1 x HXO.o rfl rfl (yQ HO6.o.sb (zH HO6.o.sup) HO6.o.free) ?_;intro w7 HW7;have HO7 : Hid (yD w7 P D ⟨x, s.new, s.gone⟩) := Hi (by rw [HW7.o]; exact HO6.o.putSb HXO.o);have HF7 : Hid (wL P w6 w7) := Hi (by rw [HW7.o]; exact wL.setCells (zg.refl _ _) _ _);go_wp2_with fail;refine (vx HO7.o).mono ?_;rintro e w8 ⟨rfl, ho8, hf8⟩;have HO8 := Hi ho8;have HF8 := Hi (HF7.o.trans hf8);clear ho8 hf8;go_wp2_with fail
   go_ret
   exact ⟨rfl, ya.ofStore HNK.o HT.o (HL.o ▸ HD6.o) (HL.o ▸ HK6.o) HO8.o HF8.o⟩
end
section
open Go.RowKit
open Bits (Ok has with_ without both minus)
theorem WW {K : Nat -> Prop} {D n : Nat} {d : Dk} {w : World} (h : zF K w D n d) (hn : n < 3) : Calls Tryz.prog 16 #[ptr D] w (Two (.pointer none) 1 w) := by
 have HD := Hi h;have hn3 : (n : Int) < 3 := by omega
 clear h hn
 go_enter Tryz.func16, Tryz.ntmps16
 go_wp2_with fail;refine (kE HD.o).mono ?_;rintro e w' ⟨rfl, rfl⟩;go_wp2_with fail;refine (yT 1 (by decide) _).mono ?_;rintro e w' ⟨v, rfl, he, hb⟩;have HE := Hi he;have HB := Hi hb;clear he hb;go_wp2_with fail
 go_ret2
 exact ⟨v, rfl, HE.o, HB.o⟩
def Xa (K : Nat -> Prop) (w : World) (D n : Nat) (d : Dk) (g : Nat) (e : Ending) (w' : World) : Prop :=
 ∃ P, e = .returned (.tuple #[ptr P, .nilIface]) /\ ya qU K w' P D n (xy d (Sb.bare g)) (Pst.opened (Sb.bare g)) /\ zg K w w'
theorem Zw {K : Nat -> Prop} {D n : Nat} {d : Dk} {w : World} (h : zF K w D n d) (ht : yd K w) (hd : d.down = false) (hn : 3 <= n) (y : Sb) (hy : y.Ok) (hgl : y.gen + 1 < 4294967296) (c : Int) (hc : c = 0 \/ c = 4)
  (hb : Calls Tryz.prog 52 #[ptr D] w fun e w' => ∃ v, e = .returned (.tuple #[sbV y, v]) /\ zi w' w.1.size c v /\ Below w.1.size w w') (hg : ∀ w', zg K w w' -> yO w') :
  Calls Tryz.prog 16 #[ptr D] w (Xa K w D n d (y.gen + 1)) := by
 obtain ⟨R, HR⟩ : ∃ R, Hid (R = Xa K w D n d (y.gen + 1)) := Hy;rw [<- HR.o];have hz := Tryz.sbProg.zero;have hn3 : ¬ (n : Int) < 3 := by omega
 have HD := Hi h;have HT := Hi ht;have HDN := Hi hd;have HN := Hi hn;have HY := Hi hy;have HBB := Hi hb;have HG := Hi hg;have HC := Hi hc;obtain ⟨g, HGG⟩ : ∃ g, Hid (g = y.gen) := Hy;rw [<- HGG.o] at HR hgl;have HGL := Hi hgl;have HRT : Hid (yy ⟨g + 1, 0, zY⟩ = true) := Hi (Sb.bare_right (Nat.succ_ne_zero g));clear h ht hd hn hy hb hg hgl hc
 go_enter Tryz.func16, Tryz.ntmps16
 go_wp2_with fail;refine (kE HD.o).mono ?_;rintro e w' ⟨rfl, rfl⟩;go_wp2_with fail;refine HBB.o.mono ?_;rintro e w1 ⟨v, rfl, he, hb⟩;have HE1 := Hi he;have HB1 := Hi hb;clear he hb HBB hn3;go_wp2_with (with_reducible refine zc (o := ⟨none, _, _, _, _, _⟩) ?_);refine zu rfl _ _ _ rfl (zR Sb.zero) (zR y) _ rfl rfl rfl (by rw [zJ HY.o]; exact Tryz.sbProg.size) (by rw [zJ HY.o, zJ Sb.Ok.zero]) (xg _) ?_;obtain ⟨b, HB⟩ : ∃ b, Hid (b = w1.1.size) := Hy;obtain ⟨w2, HW⟩ : ∃ w2, Hid (w2 = w1.alloc (.cells (zR y) 103)) := Hy;rw [<- HW.o, <- HB.o];have HY2 : Hid (zU w2 b y) := Hi (by rw [HW.o, HB.o]; exact zU.new _);have hb2 : Below w1.1.size w1 w2 := by rw [HW.o]; exact (Below.refl _ _).alloc (zdH _) _
 have HB2 : Hid (Below w.1.size w w2) := Hi (HB1.o.trans (hb2.mono HB1.o.size));have HE2 := Hi (HE1.o.below hb2);clear hb2 HW HB1 HE1;have HD2 := Hi (HD.o.carry HB2.o);have HT2 : Hid (yd K w2) := Hi (HT.o.below HB2.o);have HK2 : Hid (zg K w w2) := Hi (zg.of_below HB2.o HT.o);have HG2 : Hid (∀ w3, zg K w2 w3 -> zO w3) := Hi fun w3 hk => (HG.o w3 (HK2.o.trans hk)).crc
 rcases HC.o with rfl | rfl
 case' inl => obtain rfl := HE2.o.zero
 case' inr =>
  obtain ⟨t, z, rfl⟩ := HE2.o.some (by decide);obtain ⟨l, hl⟩ : ∃ l, xP w2 4 (.iface t z) l := by
   rcases HE2.o with ⟨h, _⟩ | ⟨_, h⟩
   ·cases h
   ·exact h.chain
  have HCH := Hi hl;clear hl;go_wp2_with fail;refine (KE 4 4 _ l w2 HCH.o true rfl).mono ?_;rintro e w'' ⟨rfl, rfl⟩
 all_goals
  have c0 := HY2.o.gen;rw [<- HGG.o] at c0;clear HE2 HC;go_wp2_with (with_reducible refine zc (o := ⟨some 29, _, _, _, _, _⟩) ?_);refine jw rfl rfl ?_;go_wp2_with fail;refine (vd HD2.o HT2.o HDN.o HN.o g 0 zY wD HGL.o HRT.o HG2.o).mono ?_;rintro e w3 ⟨rfl, hd3, hk3⟩;have HD3 : Hid (zF K w3 D n (xy d (Sb.bare (g + 1)))) := Hi hd3;have HK3 := Hi (HK2.o.trans hk3);have HT3 : Hid (yd K w3) := Hi (HT2.o.kept hk3);have HXO : Hid ((⟨g + 1, 0, zY⟩ : Sb).Ok) := Hi ⟨HGL.o, wD⟩;obtain ⟨x, HX⟩ : ∃ x, Hid (x = Sb.bare (g + 1)) := Hy;rw [show (⟨g + 1, 0, zY⟩ : Sb) = x from HX.o.symm] at HXO ⊢;rw [<- HX.o] at HD3;clear hd3 hk3 c0;go_wp2_with (with_reducible refine zc (o := ⟨none, _, _, _, _, _⟩) ?_);refine zu rfl _ _ _ rfl (zR Sb.zero) (zR x) _ rfl rfl rfl (by rw [zJ HXO.o]; exact Tryz.sbProg.size) (by rw [zJ HXO.o, zJ Sb.Ok.zero]) (xg _) ?_;obtain ⟨b5, HB5⟩ : ∃ b5, Hid (b5 = w3.1.size) := Hy;obtain ⟨w4, HW4⟩ : ∃ w4, Hid (w4 = w3.alloc (.cells (zR x) 103)) := Hy;rw [<- HW4.o, <- HB5.o];have HX4 : Hid (zU w4 b5 x) := Hi (by rw [HW4.o, HB5.o]; exact zU.new _);have HB4 : Hid (Below w3.1.size w3 w4) := Hi (by rw [HW4.o]; exact (Below.refl _ _).alloc (zdH _) _);clear HW4;go_wp2_with (with_reducible refine zc (o := ⟨some 37, _, _, _, _, _⟩) ?_);refine zW Tryz.sbProg (by rfl) _ rfl b5 rfl x HXO.o HX4.o.at_ ?_;refine kO rfl _ _ rfl D x HXO.o rfl rfl ?_;go_wp2_with fail;rw [HR.o];have hbo := HB4.o.alloc HB4.o.size (.cells (kh D (Pst.opened x)).toArray 118);refine ⟨w4.1.size, rfl, ?_, HK3.o.trans (zg.of_below hbo HT3.o)⟩;rw [<- HX.o];exact ya.opened (B := fun k => k = w4.1.size) HD3.o HT3.o ⟨fun _ => Iff.rfl, .newP HXO.o _⟩ (fun k hk => by rw [hk]; exact HB4.o.size) hbo
end
section
open Go.RowKit
open Bits (Ok has with_ without both minus)
theorem Y1 {K : Nat -> Prop} {w : World} {D n : Nat} {d : Dk} {o : Option Sb} (h : zF K w D n d) (hg : zO w) (hd : d.down = false) (hn : 3 <= n) (hb : Wr d o) :
  Calls Tryz.prog 52 #[ptr D] w (vN (if o.isSome = true then 0 else 4) o w) := by
 obtain ⟨p, q, h0, h1, rfl⟩ := hb;exact zaj h hd hn p q h0.2 h1.2 h0.1 h1.1 hg
theorem zcx : yA qU where
 lt := fun h b hb => by
  obtain rfl := (h.1 b).1 hb;exact h.2.lt
 carry := fun h hb => ⟨h.1, h.2.block (hb _ ((h.1 _).2 rfl))⟩
 openNo := fun {K w D n d} h hg c hc => by
  rcases hc with ⟨hd, rfl⟩ | ⟨hd, hn, rfl⟩ | ⟨hd, hn, hb, rfl⟩
  ·exact YY 7 (by decide) (J1 h hd)
  ·exact YY 1 (by decide) (Kp h hd hn)
  ·exact YY 4 (by decide) (Y1 h hg hd hn hb)
 openYes := fun {K w D n d x} h hg hd hn hb hx => (zau hx (Y1 h hg hd hn hb)).mono (by
  rintro e w' ⟨P, rfl, h1, h2, h3⟩;exact ⟨P, fun b => b = P, rfl, ⟨fun _ => Iff.rfl, h1⟩, fun b hb => by rw [hb]; exact h2, h3⟩)
 formatNo := fun h _ _ hn => WW h hn
 formatYes := fun {K w D n d} g h ht hg hd hn hb hgl => by
  have hgc : zO w := (hg w (zg.refl _ _)).crc;rcases hb with ⟨hb, rfl⟩ | ⟨x, hb, hx, rfl⟩
  ·exact Zw h ht hd hn Sb.zero Sb.Ok.zero (by decide) 4 (.inr rfl) (Y1 h hgc hd hn hb) hg
  ·exact Zw h ht hd hn x hx hgl 0 (.inl rfl) (Y1 h hgc hd hn hb) hg
 load := fun hA h hd hg i => zas hA.own hA.disk h hd hg i
 newLong := fun _ _ _ _ t ht => Vt _ _ t ht
 newFull := fun hA h _ _ t ht hf => Vs hA h t ht hf
 newYes := fun hA h hd hg hs t ht k hf => KB hA h hd hg hs t ht k hf
 dropNo := fun hA _ i hi => zbU hA.own i hi
 dropYes := fun hA _ k hk hu => (zan hA.own k hk hu).mono (by
  rintro e w' ⟨rfl, h1, h2⟩;exact ⟨rfl, hA.off h1 h2⟩)
 commitNo := fun hA _ r hr => WV hA.own r hr
 commitYes := fun hA h hd hg r hr hgl => X9 hA h hd hg r hr hgl
 abort := fun {B w P D s} h => (JZ h.2).mono (by
  rintro e w' ⟨rfl, h1, h2⟩;exact ⟨rfl, B, ⟨h.1, h1⟩, fun b hb => .inl hb, h2.less fun k hk => ⟨hk.1, fun hh => hk.2 ((h.1 k).2 hh)⟩⟩)
 root := fun h => zaB h.2
 gen := fun h => zbV h.2
 used := fun hA _ => jX hA.own hA.own.sup.used
 nilLoad := zat
 nilNew := zb3
 nilDrop := zam
 nilCommit := Kr
 nilAbort := J0
 nilRoot := zaC
 nilGen := zbW
 nilUsed := zaF
end
end Go.Proofs.YtafclmbecmgbnaaGreatDoor
