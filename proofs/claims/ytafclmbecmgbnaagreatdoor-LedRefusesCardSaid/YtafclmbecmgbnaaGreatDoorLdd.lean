/-
  Ldd: several texts in one file. Conditions: as each part says.
-/
import Derived.Test.YtafclmbecmgbnaaGreatDoorLdb
import Derived.Test.YtafclmbecmgbnaaGreatDoorLdc
/-
 LedAwake. Conditions: as each theorem says.
-/
set_option maxRecDepth 100000
set_option maxHeartbeats 2000000
namespace Go.Proofs.YtafclmbecmgbnaaGreatDoor
section
open Go.RowKit
abbrev S0 (n : Nat) : TS := ⟨xy (Dk.new n) (Sb.bare 1), Pst.opened (Sb.bare 1), fun _ => []⟩
theorem KT {n : Nat} (h3 : 3 <= n) (hn : n <= 240) : (S0 n).s.first n = some 2 := (zaD.opened_bare 1).first_some (yP.start h3 hn (fun _ => [])) (by decide) (by omega) rfl fun m h1 h2 => absurd h2 (by omega)
def jP : ByteArray := ⟨#[49, 50, 51, 52, 53, 54, 55, 56, 57, 48, 49, 50]⟩
theorem zdh {n : Nat} {S : TS} {firm : Nat -> List UInt8} (ho : OkT n S firm) {root key : Int} {val : ByteArray} {ps : List Pr} {qs : List Int} (ht : Rt (Dm S) root ps qs) (hps : ps.length <= 500) (hin : (key, val) ∈ ps) : xB S root key = .ok val := by
 rcases ht with ⟨rfl, rfl, rfl⟩ | ⟨h, ht⟩
 ·cases hin
 ·have hh : h <= 8 := by
   rcases Nat.eq_zero_or_pos h with h0 | h0
   ·omega
   ·exact ZK (ht.high (.inr h0)) hps
  obtain ⟨x, qt, hx, rfl⟩ := ht.head;have hr := (vP ho hx).1;unfold xB;rw [if_neg (by omega)];exact KV h ht hin (by omega) (Nat.le_refl _)
theorem Tryz.chgSize : (Tryz.prog.info? 93).map (·.size) = some 2 := by kernel_rfl
theorem Tryz.chgZero : ((Tryz.prog.info? 93).bind (·.zero)).isSome = true := by kernel_rfl
theorem Qh : ∃ r S', vG 20 (S0 20) (S0 20).s.sup.root [(5, jP)] = (.ok r, S') /\ rootOk S'.s r = true /\ S'.s.sup.gen + 1 < 4294967296 /\ S'.d.soft.length <= 99900 /\ xB (S'.commit r) (S'.commit r).s.sup.root 5 = .ok jP := by
 have hw : WhM 20 (S0 20) (fun _ => []) [] [] 0 := WhM.start (by decide) (by decide);obtain ⟨S1, hput, -⟩ := Qw (n := 20) (S := S0 20) (firm := fun _ => []) (yP.start (by decide) (by decide) _) (KT (by decide) (by decide)) (key := 5) (by decide) (val := jP) rfl;rcases WJ hw.ok (key := 5) (val := jP) rfl (by decide) hw.rt hw.used.1 hw.com.nodup (by decide) with ⟨S2, he, -⟩ | ⟨r, S2, qs', he, hp⟩
 ·have h0 : (S0 20).s.sup.root = 0 := rfl;rw [h0, hput] at he;cases he
 ·have hs := YJ (n := 20) (root := (S0 20).s.sup.root) hw.ok (key := 5) (val := jP);rw [he] at hs;have hps : (xt [] 5 jP).length <= 0 + 1 := by decide
  obtain ⟨h1, h2, h3⟩ := hw.commit hs hp hps (by decide);refine ⟨r, S2, ?_, h1, h2, by have h4 : S2.d.soft.length <= (S0 20).d.soft.length + 27 := hs.soft; have h5 : (S0 20).d.soft.length = 0 := rfl; omega, zdh h3.ok h3.rt (by decide) List.mem_cons_self⟩;rw [vG, Ye, if_pos (by decide), he];rfl
section
variable {O : yq} (H : yA O)
include H
theorem XG {w0 w1 w : World} {D n : Nat} (h3 : 3 <= n) (hn : n <= 240) (hb0 : Below w0.1.size w0 w1) (hd : zF (· < w1.1.size) w D n (Dk.new n)) (hb : Below w1.1.size w1 w) (hg : yO w0) :
  Calls Tryz.prog 38 #[ptr D] w fun e w' => ∃ b P K, e = .returned (.tuple #[ptr b, .nilIface]) /\ xp w' b P /\ zX O w0 K w' P D n (S0 n) (fun _ => []) /\ K b /\ (∀ k, k < w1.1.size -> K k) := by
 have HF := Hi (Ku H h3 hn (fun _ => []) hb0 hd hb hg);clear hd hb
 go_enter Tryz.func38, Tryz.ntmps38
 go_wp2_with fail;refine HF.o.mono ?_;rintro e w2 ⟨P, rfl, hl⟩;have HL : Hid (zX O w0 (· < w1.1.size) w2 P D n (S0 n) (fun _ => [])) := Hi hl;clear hl;dsimp only;obtain ⟨w3, HW3⟩ : ∃ w3, Hid (w3 = w2.alloc (.cells #[ptr P] 143)) := Hy;obtain ⟨b, HB⟩ : ∃ b, Hid (b = w2.1.size) := Hy;have HLA : Hid (xp w3 b P) := Hi (by rw [HW3.o, HB.o]; exact heap_alloc_new w2 _);have HB3 : Hid (Below w2.1.size w2 w3) := Hi (by rw [HW3.o]; exact (Below.refl _ _).alloc (Nat.le_refl _) _);have HN : Hid (b < w3.1.size) := Hi (by rw [HW3.o, HB.o]; simp);go_wp2_with fail
 go_ret2
 rw [<- HB.o, <- HW3.o];exact ⟨b, P, _, rfl, HLA.o, HL.o.grow H HB3.o, .inr ⟨by rw [HB.o]; exact Nat.le_refl _, HN.o⟩, fun k hk => .inl hk⟩
variable (HA : AbD O)
include HA
theorem qe (w : World) (hg : yO w) : Calls Tryz.prog 37 #[] w fun e w' => e = .returned (.bool true) /\ Below w.1.size w w' := by
 have HG := Hi hg;clear hg
 go_enter Tryz.func37, Tryz.ntmps37
 go_wp2_with fail;refine (JJ 20 (by decide) (by decide) w).mono ?_;rintro e w1 ⟨D, rfl, hd, hb⟩;have HF := Hi (XG H (n := 20) (by decide) (by decide) (Below.refl w.1.size w) hd hb HG.o);clear hd hb;go_wp2_with fail;refine HF.o.mono ?_;rintro e w2 ⟨b, P, K, rfl, hd, hl, hkb, hlow⟩;have HL := Hi hl;have HD := Hi hd;have HKB := Hi hkb;clear hd hl hkb hlow HF;go_wp2_with (with_reducible refine zc (o := ⟨some 19, _, _, _, _, _⟩) ?_);refine Kn rfl 72 93 2 1 #[(0, .tmp 18)] rfl [[.int .i64 5, .string jP]] Tryz.underlying72 Tryz.chgSize Tryz.chgZero rfl (by decide) (by decide) (by simp) (by rfl) ?_;intro w3 B HBB HRW HBE HBL;obtain ⟨L, HLL⟩ : ∃ L : Nat -> Prop, Hid (L = fun k => K k \/ (w2.1.size <= k /\ k < w3.1.size)) := Hy;have HL3 : Hid (zX O w L w3 P D 20 (S0 20) (fun _ => [])) := Hi (by rw [HLL.o]; exact HL.o.grow H HBE.o);have HD3 := Hi (HD.o.carry HBE.o);have HKL : Hid (L b /\ L B) := Hi (by rw [HLL.o]; exact ⟨.inl HKB.o, .inr ⟨by rw [HBB.o]; exact Nat.le_refl _, HBL.o⟩⟩);have HC3 : Hid (qX w3 L (some ⟨B, 0, none⟩) [(5, jP)]) := Hi (fun _ => ⟨B, 0, rfl, HKL.o.2, HBL.o, fun i c hc => by
  cases i with
  | zero =>
   obtain rfl : (5, jP) = c := by simpa using hc
   exact ⟨by have := HRW.o 0 0 _ _ rfl rfl; simpa [Addr.add] using this, by have := HRW.o 0 1 _ _ rfl rfl; simpa [Addr.add] using this⟩
  | succ i => simp at hc⟩)
 obtain ⟨r, S1, hrun, hro, hge, hsf, hget⟩ := Qh;have HGT := Hi hget;have HAP := Hi (YG H HA HL3.o HG.o HD3.o HKL.o.1 (cs := [(5, jP)]) (m := 1) (cap := 1) HC3.o rfl (by intro c hc; obtain rfl := List.mem_singleton.1 hc; exact ⟨by decide, by decide, .inr rfl⟩) (by
  intro j hj;rcases Nat.eq_zero_or_pos j with rfl | h
  ·exact Nat.zero_le _
  ·obtain rfl : j = 1 := by omega
   show (vG 20 (S0 20) (S0 20).s.sup.root [(5, jP)]).2.d.soft.length <= 99900;rw [hrun];exact hsf) hrun hro hge (by decide))
 clear hrun hro hge hsf hget HRW HBE HL HD HKB;go_wp2_with fail;refine HAP.o.mono ?_;rintro e w4 ⟨rfl, hl, hk⟩;have HD4 := Hi (HD3.o.kept hk HKL.o.1);have HL4 := Hi hl;have HGA := Hi (Jd H HG.o HL4.o HD4.o 5);rw [HGT.o] at HGA;unfold jP at HGA;clear hl hk HAP;go_wp2_with fail;refine HGA.o.mono ?_;rintro e w5 ⟨rfl, hb⟩;have HB5 : Hid (Below w.1.size w w5) := Hi (HL4.o.below.trans (hb.mono HL4.o.below.size));clear hb HGA;go_wp2_with fail;refine (vI _).mono ?_;rintro e w' ⟨rfl, rfl⟩;go_wp2_with fail;refine (vI _).mono ?_;rintro e w' ⟨rfl, rfl⟩;go_wp2_with fail;refine (vI _).mono ?_;rintro e w' ⟨rfl, rfl⟩;go_wp2_with fail;refine (vI _).mono ?_;rintro e w' ⟨rfl, rfl⟩;go_wp2_with fail
 go_ret
 exact ⟨rfl, HB5.o⟩
end
end
section
open Go.RowKit
theorem zba {n : Nat} {S : TS} {firm : Nat -> List UInt8} {ps cs : List Pr} {qs : List Int} {k : Nat} (h : WhM n S firm ps qs k) (hmay : ∀ c ∈ cs, yv c.1 c.2.size) (hn : ps.length + ps.length + cs.length + 29 < n) (h5 : ps.length + cs.length <= 500) (hk : k <= 1000) :
  ∃ r S' qs', vG n S S.s.sup.root cs = (.ok r, S') /\ rootOk S'.s r = true /\ S'.s.sup.gen + 1 < 4294967296 /\ (∀ j, j <= cs.length -> (vG n S S.s.sup.root (cs.take j)).2.d.soft.length <= 99900) /\ WhM n (S'.commit r) S'.data (kR ps cs) qs' (k + cs.length + 1) /\ (S'.commit r).s.sup.gen = S.s.sup.gen + 1 := by
 have hb := h.begin;obtain ⟨r, S', qs', hr, hm⟩ := hb.batch cs hmay hn h5;have hl := qd ps cs;obtain ⟨h1, h2, h3⟩ := hm.commit (k := k + cs.length) (by have := h.few; omega) (by have := h.gen; omega) (by omega);refine ⟨r, S', qs', hr, h1, h2, fun j hj => ?_, h3, ?_⟩
 ·obtain ⟨r1, S1, q1, e1, m1⟩ := hb.batch (cs.take j) (fun c hc => hmay c (List.mem_of_mem_take hc)) (by rw [List.length_take]; omega) (by rw [List.length_take]; omega);rw [e1];have := m1.soft;rw [List.length_take] at this;show S1.d.soft.length <= 99900;omega
 ·show S'.s.sup.gen + 1 = _;rw [hm.sup]
theorem JQ {w : World} {K : Nat -> Prop} {N : Nat} {T : TypeId} {A : Option Addr} {c : Nat} {cs : List Pr} (h : w.ownsRow N T 2 (.slice A cs.length c) cs.length (zh cs)) (hK : ∀ k, N <= k -> k < w.1.size -> K k) : qX w K A cs := fun hp => by
 obtain ⟨g, e, h1, h2⟩ := kg h hp;have hg := h.lt g (by rw [e]; rfl);refine ⟨g, 0, e, hK g hg.1 hg.2, hg.2, fun i x hx => ?_⟩;have hi : i < cs.length := (List.getElem?_eq_some_iff.1 hx).1;obtain ⟨g2, e2, h3, h4⟩ := kg h hi;have hx2 : cs[i] = x := by rw [List.getElem?_eq_getElem hi] at hx; exact Option.some.inj hx
 rw [e] at e2;injection e2 with e2
 injection e2 with e2
 subst e2;rw [hx2] at h3 h4;rw [Nat.zero_add];exact ⟨h3, h4⟩
theorem Ji {K : Nat -> Prop} {w w' : World} {N : Nat} {T : TypeId} {v : Value} {n : Nat} {xs : List Value} (h : w.ownsRow N T 2 v n xs) (hk : zg K w w') (hK : ∀ g, N <= g -> g < w.1.size -> K g) : w'.ownsRow N T 2 v n xs := zD h fun g hg => hk.block g (hK g (h.lt g hg).1 (h.lt g hg).2)
end
end Go.Proofs.YtafclmbecmgbnaaGreatDoor
