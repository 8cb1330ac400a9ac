/-
 ChkAwake. Conditions: as each theorem says.
-/
import Derived.Test.YtafclmbecmgbnaaGreatDoorTc
import Derived.Test.YtafclmbecmgbnaaGreatDoorTd
import Derived.Test.YtafclmbecmgbnaaGreatDoorChkCalls
import Derived.Test.YtafclmbecmgbnaaGreatDoorChkMath
set_option maxRecDepth 100000
set_option maxHeartbeats 2000000
namespace Go.Proofs.YtafclmbecmgbnaaGreatDoor
open Go.RowKit
abbrev S0 (n : Nat) : TS := ⟨xz (Dk.new n) (Sb.bare 1), Pst.opened (Sb.bare 1), fun _ => []⟩
theorem Jn {n : Nat} (h3 : 3 <= n) (hn : n <= 240) : (S0 n).s.first n = some 2 := (za5.opened_bare 1).first_some (yJ.start h3 hn (fun _ => [])) (by decide) (by omega) rfl fun m h1 h2 => absurd h2 (by omega)
def zcc : ByteArray := ⟨#[49, 50, 51, 52, 53, 54, 55, 56, 57, 48, 49, 50]⟩
theorem zac {l : List Int} (h : l.Nodup) (hb : ∀ q ∈ l, 2 <= q /\ q <= 239) : l.length <= 240 := by
 have h1 : (l.map Int.toNat).Nodup := by
  refine List.pairwise_map.2 (h.imp_of_mem fun {a b} ha hb2 hne e => hne ?_);have := hb a ha;have := hb b hb2;omega
 have h3 : (l.map Int.toNat) ⊆ List.range 240 := fun x hx => by
  obtain ⟨q, hq, rfl⟩ := List.mem_map.1 hx;have := hb q hq;exact List.mem_range.2 (by omega)
 have h4 := h1.length_le_of_subset h3;simpa using h4
theorem WY {n : Nat} {S : TS} {firm : Nat -> List UInt8} (h : OkT n S firm) {q : Int} (hq : usd S q) : 2 <= q /\ q <= 239 := by
 obtain ⟨k, rfl, hk, hh⟩ := vx hq;have := h.in_range hk (h.used_in hk hh);omega
theorem KI {n : Nat} {S : TS} {firm : Nat -> List UInt8} (ho : OkT n S firm) {h : Nat} {root : Int} {ps : List Pr} {qs : List Int} (ht : Tr (Dm S) h 1 0 4294967296 root ps qs) (hu : ∀ q ∈ qs, usd S q) (hn : qs.Nodup) (hh : h + 1 <= 12) : ∃ met, Svd S root ⟨[], met, (h : Int) + 1, []⟩ /\ met.Perm qs := by
 obtain ⟨met, h1, h2⟩ := zca ht hu hn hh;obtain ⟨x, qt, hx, rfl⟩ := ht.head;have hr := WY ho (hu root List.mem_cons_self);refine ⟨met, .inr ⟨by omega, by omega, rfl, by simp, fun _ => h2.nodup_iff.2 hn, _, ?_, h1⟩, h2⟩;have := zac hn fun q hq => WY ho (hu q hq)
 omega
theorem zdR {n : Nat} {S : TS} {firm : Nat -> List UInt8} (ho : OkT n S firm) {root : Int} {ps : List Pr} {qs : List Int} (ht : Rt (Dm S) root ps qs) (hu : ∀ q ∈ qs, usd S q) (hn : qs.Nodup) (hps : ps.length <= 500) : ∃ met dep, Svd S root ⟨[], met, dep, []⟩ /\ met.Perm qs := by
 rcases ht with ⟨rfl, rfl, rfl⟩ | ⟨h, ht⟩
 ·exact ⟨[], 0, .inl ⟨rfl, rfl⟩, List.Perm.refl _⟩
 ·have hh : h <= 8 := by
   rcases Nat.eq_zero_or_pos h with h0 | h0
   ·omega
   ·exact XN (ht.high (.inr h0)) hps
  obtain ⟨met, h1, h2⟩ := KI ho ht hu hn (by omega);exact ⟨met, _, h1, h2⟩
theorem JS (l : List Int) : ∀ k, k < 240 -> Bits.has (vN l) k = decide ((k : Int) ∈ l) := by
 have : ∀ (l : List Int) (s : List Nat), Bits.Ok s -> ∀ k, k < 240 -> Bits.has (l.foldl kP s) k = (Bits.has s k || decide ((k : Int) ∈ l)) := by
  intro l;induction l with
  | nil => intro s _ k _; simp
  | cons z l ih =>
   intro s hs k hk;show Bits.has (l.foldl kP (kP s z)) k = _;rw [ih _ (KO hs z) k hk];unfold kP js;by_cases hz : 0 <= z /\ z < 240
   ·rw [decide_eq_true hz, if_pos rfl, Bits.has_with hs (by omega)];by_cases he : k = z.toNat
    ·simp [he];omega
    ·have e : (k : Int) ≠ z := by omega
     simp [he, e]
   ·rw [decide_eq_false hz, if_neg (by decide)];have e : (k : Int) ≠ z := by omega
    simp [e]
 intro k hk;have h := this l zM xm k hk;rw [show Bits.has zM k = false from xF k, Bool.false_or] at h;exact h
theorem zci {n : Nat} {S : TS} {firm : Nat -> List UInt8} (ho : OkT n S firm) {root : Int} {ps : List Pr} {qs : List Int} (ht : Rt (Dm S) root ps qs) (hu : ∀ q ∈ qs, usd S q) (hn : qs.Nodup) (hps : ps.length <= 500) (hr : root = S.s.sup.root) (hall : ∀ j, usd S j -> j ∈ qs) : ∃ s, Svd S S.s.sup.root s /\ jP S s = 0 := by
 obtain ⟨met, dep, h1, h2⟩ := zdR ho ht hu hn hps;rw [hr] at h1;refine ⟨_, h1, ?_⟩;unfold jP;rw [if_pos rfl];refine if_pos (Bits.ext ho.usedOk (Yv _) fun k hk => ?_);rw [JS _ k hk];have hm : (k : Int) ∈ X8 met ↔ usd S (k : Int) := by
  rw [show X8 met = met.mergeSort _ from rfl, List.mem_mergeSort, h2.mem_iff];exact ⟨hu _, hall _⟩
 cases hb : Bits.has S.s.used k with
 | true => exact (decide_eq_true (hm.2 ((je hk).2 hb))).symm
 | false =>
  refine (decide_eq_false fun h => ?_).symm;have := (je hk).1 (hm.1 h);rw [hb] at this; cases this
section
variable {O : yD} (H : yE O)
include H
theorem qj (w : World) (hg : yH w) : Calls Tryz.prog 14 #[] w fun e w' => e = .returned (.bool true) /\ Below w.1.size w w' := by
 have HG := Hi hg;clear hg
 go_enter Tryz.func14, Tryz.ntmps14
 go_wp2_with fail;refine (Qc 10 (by decide) (by decide) w).mono ?_;rintro e w1 ⟨D, rfl, hd, hb⟩;have HF := Hi (Xl H (n := 10) (by decide) (by decide) (fun _ => []) (Below.refl w.1.size w) hd hb HG.o);clear hd hb;go_wp2_with fail;refine HF.o.mono ?_;rintro e w2 ⟨P, rfl, hl⟩;have HL : Hid (yy O w (· < w.1.size) w2 P D 10 (S0 10) (fun _ => [])) := Hi hl;obtain ⟨S1, hput, ho1, ht1, hu1, -⟩ := QU (n := 10) (S := S0 10) (firm := fun _ => []) (yJ.start (by decide) (by decide) _) (Jn (by decide) (by decide)) (key := 1) (by decide) (val := zcc) rfl;obtain ⟨met, hsv, -⟩ := KI ho1 ht1 (fun q hq => by rw [List.mem_singleton.1 hq]; exact hu1) (by simp) (by decide);have HPU := Hi (Va H HL.o HG.o (Nat.zero_le _) 0 (key := 1) (by decide) (val := zcc) (by unfold maxLen; decide));rw [hput] at HPU;have HSV := Hi hsv;clear hl HF hput ho1 ht1 hu1 hsv;unfold zcc at HPU;go_wp2_with fail;refine HPU.o.mono ?_;rintro e w3 ⟨hl, -, rfl⟩;have HL3 := Hi hl;clear hl HPU;rw [show ((2 : Nat) : Int) = 2 from rfl];rw [show ((2 : Nat) : Int) = 2 from rfl] at HSV;go_wp2_with fail;refine (VW H HL3.o HG.o HSV.o).mono ?_;rintro e w4 ⟨u, rfl, he, hb⟩;obtain rfl : u = .nilIface := zi.zero (show zi w4 w3.1.size 0 u from he);have HB4 : Hid (Below w.1.size w w4) := Hi (HL3.o.below.trans (hb.mono HL3.o.below.size));have HL4 := Hi (HL3.o.carry H hb);rw [show zcO ⟨[], met, ((0 : Nat) : Int) + 1, []⟩ = 1 from rfl];clear hb he;go_wp2_with fail;refine (yV _).mono ?_;rintro e w' ⟨rfl, rfl⟩;go_wp2_with fail;refine (yV _).mono ?_;rintro e w' ⟨rfl, rfl⟩;go_wp2_with fail;refine (yV _).mono ?_;rintro e w' ⟨rfl, rfl⟩;go_wp2_with fail;refine (yV _).mono ?_;rintro e w' ⟨rfl, rfl⟩;go_wp2_with fail;refine (V0 H HL4.o HG.o (root := 0) (s := ⟨[], [], 0, []⟩) (.inl ⟨rfl, rfl⟩)).mono ?_;rintro e w5 ⟨u, rfl, he, hb⟩;obtain rfl : u = .nilIface := zi.zero (show zi w5 w4.1.size 0 u from he);have HB5 : Hid (Below w.1.size w w5) := Hi (HB4.o.trans (hb.mono HB4.o.size));clear hb he;go_wp2_with fail;refine (yV _).mono ?_;rintro e w' ⟨rfl, rfl⟩;go_wp2_with fail
 go_ret
 exact ⟨rfl, HB5.o⟩
end
end Go.Proofs.YtafclmbecmgbnaaGreatDoor
