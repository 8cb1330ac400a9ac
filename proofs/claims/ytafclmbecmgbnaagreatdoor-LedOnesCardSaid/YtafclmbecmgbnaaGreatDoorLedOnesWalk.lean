/-
  Ldd. Conditions: as said.
-/
import Derived.Test.YtafclmbecmgbnaaGreatDoorLdb
import Derived.Test.YtafclmbecmgbnaaGreatDoorLdc
import Derived.Test.YtafclmbecmgbnaaGreatDoorChkMath
set_option maxRecDepth 100000
set_option maxHeartbeats 2000000
namespace Go.Proofs.YtafclmbecmgbnaaGreatDoor
section
open Go.RowKit
abbrev S0 (n : Nat) : TS := ⟨xB (Dk.new n) (Sb.bare 1), Pst.opened (Sb.bare 1), fun _ => []⟩
theorem JP {n : Nat} (h3 : 3 <= n) (hn : n <= 240) : (S0 n).s.first n = some 2 := (zbK.opened_bare 1).first_some (yO.start h3 hn (fun _ => [])) (by decide) (by omega) rfl fun m h1 h2 => absurd h2 (by omega)
def qj : ByteArray := ⟨#[49, 50, 51, 52, 53, 54, 55, 56, 57, 48, 49, 50]⟩
theorem zeD {n : Nat} {S : TS} {firm : Nat -> List UInt8} (ho : OkT n S firm) {root key : Int} {val : ByteArray} {ps : List Pr} {qs : List Int} (ht : Rt (Dm S) root ps qs) (hps : ps.length <= 500) (hin : (key, val) ∈ ps) : xE S root key = .ok val := by
 rcases ht with ⟨rfl, rfl, rfl⟩ | ⟨h, ht⟩
 ·cases hin
 ·have hh : h <= 8 := by
   rcases Nat.eq_zero_or_pos h with h0 | h0
   ·omega
   ·exact qK (ht.high (.inr h0)) hps
  obtain ⟨x, qt, hx, rfl⟩ := ht.head;have hr := (vZ ho hx).1;unfold xE;rw [if_neg (by omega)];exact JR h ht hin (by omega) (Nat.le_refl _)
theorem Tryz.chgSize : (Tryz.prog.info? 93).map (·.size) = some 2 := by kernel_rfl
theorem Tryz.chgZero : ((Tryz.prog.info? 93).bind (·.zero)).isSome = true := by kernel_rfl
theorem zam : ∃ r S', vS 20 (S0 20) (S0 20).s.sup.root [(5, qj)] = (.ok r, S') /\ rootOk S'.s r = true /\ S'.s.sup.gen + 1 < 4294967296 /\ S'.d.soft.length <= 99900 /\ xE (S'.commit r) (S'.commit r).s.sup.root 5 = .ok qj := by
 have hw : WhM 20 (S0 20) (fun _ => []) [] [] 0 := WhM.start (by decide) (by decide);obtain ⟨S1, hput, -⟩ := zaz (n := 20) (S := S0 20) (firm := fun _ => []) (yO.start (by decide) (by decide) _) (JP (by decide) (by decide)) (key := 5) (by decide) (val := qj) rfl;rcases W8 hw.ok (key := 5) (val := qj) rfl (by decide) hw.rt hw.used.1 hw.com.nodup (by decide) with ⟨S2, he, -⟩ | ⟨r, S2, qs', he, hp⟩
 ·have h0 : (S0 20).s.sup.root = 0 := rfl;rw [h0, hput] at he;cases he
 ·have hs := Xc (n := 20) (root := (S0 20).s.sup.root) hw.ok (key := 5) (val := qj);rw [he] at hs;have hps : (vE [] 5 qj).length <= 0 + 1 := by decide
  obtain ⟨h1, h2, h3⟩ := hw.commit hs hp hps (by decide);refine ⟨r, S2, ?_, h1, h2, by have h4 : S2.d.soft.length <= (S0 20).d.soft.length + 27 := hs.soft; have h5 : (S0 20).d.soft.length = 0 := rfl; omega, zeD h3.ok h3.rt (by decide) List.mem_cons_self⟩;rw [vS, YF, if_pos (by decide), he];rfl
section
variable {O : zV} (H : yl O)
include H
theorem J8 {w0 w1 w : World} {D n : Nat} (h3 : 3 <= n) (hn : n <= 240) (hb0 : Below w0.1.size w0 w1) (hd : zD (· < w1.1.size) w D n (Dk.new n)) (hb : Below w1.1.size w1 w) (hg : yC w0) :
  Calls Tryz.prog 38 #[ptr D] w fun e w' => ∃ b P K, e = .returned (.tuple #[ptr b, .nilIface]) /\ xc w' b P /\ zR O w0 K w' P D n (S0 n) (fun _ => []) /\ K b /\ (∀ k, k < w1.1.size -> K k) := by
 have HF := Hi (Jp H h3 hn (fun _ => []) hb0 hd hb hg);clear hd hb
 go_enter Tryz.func38, Tryz.ntmps38
 go_wp2_with fail;refine HF.o.mono ?_;rintro e w2 ⟨P, rfl, hl⟩;have HL := hI (zR O w0 (· < w1.1.size) w2 P D n (S0 n) (fun _ => [])) hl;clear hl;dsimp only;obtain ⟨w3, HW3⟩ := hY (w2.alloc (.cells #[ptr P] 143));obtain ⟨b, HB⟩ := hY (w2.1.size);have HLA := hI (xc w3 b P) (by rw [HW3.o, HB.o]; exact heap_alloc_new w2 _);have HB3 := hI (Below w2.1.size w2 w3) (by rw [HW3.o]; exact (Below.refl _ _).alloc (Nat.le_refl _) _);have HN := hI (b < w3.1.size) (by rw [HW3.o, HB.o]; simp);go_wp2_with fail
 go_ret2
 rw [<- HB.o, <- HW3.o];exact ⟨b, P, _, rfl, HLA.o, HL.o.grow H HB3.o, .inr ⟨by rw [HB.o]; exact Nat.le_refl _, HN.o⟩, fun k hk => .inl hk⟩
variable (HA : AbD O)
include HA
theorem qG (w : World) (hg : yC w) : Calls Tryz.prog 37 #[] w fun e w' => e = .returned (.bool true) /\ Below w.1.size w w' := by
 have HG := Hi hg;clear hg
 go_enter Tryz.func37, Tryz.ntmps37
 go_wp2_with fail;refine (Vp 20 (by decide) (by decide) w).mono ?_;rintro e w1 ⟨D, rfl, hd, hb⟩;have HF := Hi (J8 H (n := 20) (by decide) (by decide) (Below.refl w.1.size w) hd hb HG.o);clear hd hb;go_wp2_with fail;refine HF.o.mono ?_;rintro e w2 ⟨b, P, K, rfl, hd, hl, hkb, hlow⟩;have HL := Hi hl;have HD := Hi hd;have HKB := Hi hkb;clear hd hl hkb hlow HF;go_wp2_with (with_reducible refine xD9 (some 19) ?_);refine Zb rfl 72 93 2 1 #[(0, .tmp 18)] rfl [[.int .i64 5, .string qj]] Tryz.underlying72 Tryz.chgSize Tryz.chgZero rfl (by decide) (by decide) (by simp) (by rfl) ?_;intro w3 B HBB HRW HBE HBL;obtain ⟨L, HLL⟩ : ∃ L : Nat -> Prop, Hid (L = fun k => K k \/ (w2.1.size <= k /\ k < w3.1.size)) := Hy;have HL3 := hI (zR O w L w3 P D 20 (S0 20) (fun _ => [])) (by rw [HLL.o]; exact HL.o.grow H HBE.o);have HD3 := Hi (HD.o.carry HBE.o);have HKL := hI (L b /\ L B) (by rw [HLL.o]; exact ⟨.inl HKB.o, .inr ⟨by rw [HBB.o]; exact Nat.le_refl _, HBL.o⟩⟩);have HC3 := hI (qz w3 L (some ⟨B, 0, none⟩) [(5, qj)]) (fun _ => ⟨B, 0, rfl, HKL.o.2, HBL.o, fun i c hc => by
  cases i with
  | zero =>
   obtain rfl : (5, qj) = c := by simpa using hc
   exact ⟨by have := HRW.o 0 0 _ _ rfl rfl; simpa [Addr.add] using this, by have := HRW.o 0 1 _ _ rfl rfl; simpa [Addr.add] using this⟩
  | succ i => simp at hc⟩)
 obtain ⟨r, S1, hrun, hro, hge, hsf, hget⟩ := zam;have HGT := Hi hget;have HAP := Hi (Xa H HA HL3.o HG.o HD3.o HKL.o.1 (cs := [(5, qj)]) (m := 1) (cap := 1) HC3.o rfl (by intro c hc; obtain rfl := List.mem_singleton.1 hc; exact ⟨by decide, by decide, .inr rfl⟩) (by
  intro j hj;rcases Nat.eq_zero_or_pos j with rfl | h
  ·exact Nat.zero_le _
  ·obtain rfl : j = 1 := by omega
   show (vS 20 (S0 20) (S0 20).s.sup.root [(5, qj)]).2.d.soft.length <= 99900;rw [hrun];exact hsf) hrun hro hge (by decide))
 clear hrun hro hge hsf hget HRW HBE HL HD HKB;go_wp2_with fail;refine HAP.o.mono ?_;rintro e w4 ⟨rfl, hl, hk⟩;have HD4 := Hi (HD3.o.kept hk HKL.o.1);have HL4 := Hi hl;have HGA := Hi (J7 H HG.o HL4.o HD4.o 5);rw [HGT.o] at HGA;unfold qj at HGA;clear hl hk HAP;go_wp2_with fail;refine HGA.o.mono ?_;rintro e w5 ⟨rfl, hb⟩;have HB5 := hI (Below w.1.size w w5) (HL4.o.below.trans (hb.mono HL4.o.below.size));clear hb HGA;go_wp2_with fail;refine (wT _).mono ?_;rintro e w' ⟨rfl, rfl⟩;go_wp2_with fail;refine (wT _).mono ?_;rintro e w' ⟨rfl, rfl⟩;go_wp2_with fail;refine (wT _).mono ?_;rintro e w' ⟨rfl, rfl⟩;go_wp2_with fail;refine (wT _).mono ?_;rintro e w' ⟨rfl, rfl⟩;go_wp2_with fail
 go_ret
 exact ⟨rfl, HB5.o⟩
end
end
section
open Go.RowKit
theorem zco {n : Nat} {S : TS} {firm : Nat -> List UInt8} {ps cs : List Pr} {qs : List Int} {k : Nat} (h : WhM n S firm ps qs k) (hmay : ∀ c ∈ cs, yP c.1 c.2.size) (hn : ps.length + ps.length + cs.length + 29 < n) (h5 : ps.length + cs.length <= 500) (hk : k <= 1000) :
  ∃ r S' qs', vS n S S.s.sup.root cs = (.ok r, S') /\ rootOk S'.s r = true /\ S'.s.sup.gen + 1 < 4294967296 /\ (∀ j, j <= cs.length -> (vS n S S.s.sup.root (cs.take j)).2.d.soft.length <= 99900) /\ WhM n (S'.commit r) S'.data (jv ps cs) qs' (k + cs.length + 1) /\ (S'.commit r).s.sup.gen = S.s.sup.gen + 1 := by
 have hb := h.begin;obtain ⟨r, S', qs', hr, hm⟩ := hb.batch cs hmay hn h5;have hl := qF ps cs;obtain ⟨h1, h2, h3⟩ := hm.commit (k := k + cs.length) (by have := h.few; omega) (by have := h.gen; omega) (by omega);refine ⟨r, S', qs', hr, h1, h2, fun j hj => ?_, h3, ?_⟩
 ·obtain ⟨r1, S1, q1, e1, m1⟩ := hb.batch (cs.take j) (fun c hc => hmay c (List.mem_of_mem_take hc)) (by rw [List.length_take]; omega) (by rw [List.length_take]; omega);rw [e1];have := m1.soft;rw [List.length_take] at this;show S1.d.soft.length <= 99900;omega
 ·show S'.s.sup.gen + 1 = _;rw [hm.sup]
theorem zbP {ps : List Pr} (h : ∀ p ∈ ps, 0 <= p.1 /\ p.1 < 256) {cs : List Pr} (hc : ∀ c ∈ cs, 0 <= c.1 /\ c.1 < 256) : ∀ p ∈ jv ps cs, 0 <= p.1 /\ p.1 < 256 := by
 induction cs generalizing ps with
 | nil => exact h
 | cons c r ih =>
  refine ih ?_ fun x hx => hc x (List.mem_cons_of_mem _ hx)
  unfold Kk;split
  ·exact zcd h (hc c List.mem_cons_self) _
  ·exact fun p hp => h p (List.mem_filter.1 hp).1
theorem zbR {ks ns : List Nat} (hk : ∀ k ∈ ks, k < 256) : ∀ c ∈ vn ks ns, 0 <= c.1 /\ c.1 < 256 := by
 intro c hc;unfold vn at hc;obtain ⟨x, hx, rfl⟩ := List.mem_map.1 hc;have h1 := hk x.1 (List.of_mem_zip (List.mem_of_mem_take hx)).1;refine ⟨?_, ?_⟩
 ·show (0 : Int) <= (x.1 : Int); omega
 ·show ((x.1 : Nat) : Int) < 256; omega
theorem QU {w : World} {K : Nat -> Prop} {N : Nat} {T : TypeId} {A : Option Addr} {c : Nat} {cs : List Pr} (h : w.ownsRow N T 2 (.slice A cs.length c) cs.length (yv cs)) (hK : ∀ k, N <= k -> k < w.1.size -> K k) : qz w K A cs := fun hp => by
 obtain ⟨g, e, h1, h2⟩ := Ym h hp;have hg := h.lt g (by rw [e]; rfl);refine ⟨g, 0, e, hK g hg.1 hg.2, hg.2, fun i x hx => ?_⟩;have hi : i < cs.length := (List.getElem?_eq_some_iff.1 hx).1;obtain ⟨g2, e2, h3, h4⟩ := Ym h hi;have hx2 : cs[i] = x := by rw [List.getElem?_eq_getElem hi] at hx; exact Option.some.inj hx
 rw [e] at e2;injection e2 with e2
 injection e2 with e2
 subst e2;rw [hx2] at h3 h4;rw [Nat.zero_add];exact ⟨h3, h4⟩
theorem Qg {K : Nat -> Prop} {w w' : World} {N : Nat} {T : TypeId} {v : Value} {n : Nat} {xs : List Value} (h : w.ownsRow N T 2 v n xs) (hk : zh K w w') (hK : ∀ g, N <= g -> g < w.1.size -> K g) : w'.ownsRow N T 2 v n xs := zw h fun g hg => hk.block g (hK g (h.lt g hg).1 (h.lt g hg).2)
end
end Go.Proofs.YtafclmbecmgbnaaGreatDoor
/-
  Ldf: several texts in one file. Conditions: as each part says.
-/
set_option maxRecDepth 100000
namespace Go.Proofs.YtafclmbecmgbnaaGreatDoor
section
open Go.RowKit
theorem zaS {l : List Int} (h : l.Nodup) (hb : ∀ q ∈ l, 2 <= q /\ q <= 239) : l.length <= 240 := by
 have h1 : (l.map Int.toNat).Nodup := by
  refine List.pairwise_map.2 (h.imp_of_mem fun {a b} ha hb2 hne e => hne ?_);have := hb a ha;have := hb b hb2;omega
 have h3 : (l.map Int.toNat) ⊆ List.range 240 := fun x hx => by
  obtain ⟨q, hq, rfl⟩ := List.mem_map.1 hx;have := hb q hq;exact List.mem_range.2 (by omega)
 have h4 := h1.length_le_of_subset h3;simpa using h4
theorem Vh {n : Nat} {S : TS} {firm : Nat -> List UInt8} (h : OkT n S firm) {q : Int} (hq : usd S q) : 2 <= q /\ q <= 239 := by
 obtain ⟨k, rfl, hk, hh⟩ := wV hq;have := h.in_range hk (h.used_in hk hh);omega
theorem zcY {n : Nat} {S : TS} {firm : Nat -> List UInt8} (ho : OkT n S firm) {h : Nat} {root : Int} {ps : List Pr} {qs : List Int} (ht : Tr (Dm S) h 1 0 4294967296 root ps qs) (hu : ∀ q ∈ qs, usd S q) (hn : qs.Nodup) (hh : h + 1 <= 12) : ∃ met, Svd S root ⟨[], met, (h : Int) + 1, []⟩ /\ met.Perm qs := by
 obtain ⟨met, h1, h2⟩ := zcX ht hu hn hh;obtain ⟨x, qt, hx, rfl⟩ := ht.head;have hr := Vh ho (hu root List.mem_cons_self);refine ⟨met, .inr ⟨by omega, by omega, rfl, by simp, fun _ => h2.nodup_iff.2 hn, _, ?_, h1⟩, h2⟩;have := zaS hn fun q hq => Vh ho (hu q hq)
 omega
theorem zeG {n : Nat} {S : TS} {firm : Nat -> List UInt8} (ho : OkT n S firm) {root : Int} {ps : List Pr} {qs : List Int} (ht : Rt (Dm S) root ps qs) (hu : ∀ q ∈ qs, usd S q) (hn : qs.Nodup) (hps : ps.length <= 500) : ∃ met dep, Svd S root ⟨[], met, dep, []⟩ /\ met.Perm qs := by
 rcases ht with ⟨rfl, rfl, rfl⟩ | ⟨h, ht⟩
 ·exact ⟨[], 0, .inl ⟨rfl, rfl⟩, List.Perm.refl _⟩
 ·have hh : h <= 8 := by
   rcases Nat.eq_zero_or_pos h with h0 | h0
   ·omega
   ·exact qK (ht.high (.inr h0)) hps
  obtain ⟨met, h1, h2⟩ := zcY ho ht hu hn (by omega);exact ⟨met, _, h1, h2⟩
theorem Qu (l : List Int) : ∀ k, k < 240 -> Bits.has (vT l) k = decide ((k : Int) ∈ l) := by
 have : ∀ (l : List Int) (s : List Nat), Bits.Ok s -> ∀ k, k < 240 -> Bits.has (l.foldl ja s) k = (Bits.has s k || decide ((k : Int) ∈ l)) := by
  intro l;induction l with
  | nil => intro s _ k _; simp
  | cons z l ih =>
   intro s hs k hk;show Bits.has (l.foldl ja (ja s z)) k = _;rw [ih _ (Jh hs z) k hk];unfold ja jA;by_cases hz : 0 <= z /\ z < 240
   ·rw [decide_eq_true hz, if_pos rfl, Bits.has_with hs (by omega)];by_cases he : k = z.toNat
    ·simp [he];omega
    ·have e : (k : Int) ≠ z := by omega
     simp [he, e]
   ·rw [decide_eq_false hz, if_neg (by decide)];have e : (k : Int) ≠ z := by omega
    simp [e]
 intro k hk;have h := this l zO xK k hk;rw [show Bits.has zO k = false from xO k, Bool.false_or] at h;exact h
theorem zc5 {n : Nat} {S : TS} {firm : Nat -> List UInt8} (ho : OkT n S firm) {root : Int} {ps : List Pr} {qs : List Int} (ht : Rt (Dm S) root ps qs) (hu : ∀ q ∈ qs, usd S q) (hn : qs.Nodup) (hps : ps.length <= 500) (hr : root = S.s.sup.root) (hall : ∀ j, usd S j -> j ∈ qs) : ∃ s, Svd S S.s.sup.root s /\ jr S s = 0 := by
 obtain ⟨met, dep, h1, h2⟩ := zeG ho ht hu hn hps;rw [hr] at h1;refine ⟨_, h1, ?_⟩;unfold jr;rw [if_pos rfl];refine if_pos (Bits.ext ho.usedOk (YR _) fun k hk => ?_);rw [Qu _ k hk];have hm : (k : Int) ∈ Wn met ↔ usd S (k : Int) := by
  rw [show Wn met = met.mergeSort _ from rfl, List.mem_mergeSort, h2.mem_iff];exact ⟨hu _, hall _⟩
 cases hb : Bits.has S.s.used k with
 | true => exact (decide_eq_true (hm.2 ((kJ hk).2 hb))).symm
 | false =>
  refine (decide_eq_false fun h => ?_).symm;have := (kJ hk).1 (hm.1 h);rw [hb] at this; cases this
section
variable {O : zV} (H : yl O)
include H
theorem qQ {w0 : World} {K : Nat -> Prop} {w : World} {b P D n : Nat} {S : TS} {firm : Nat -> List UInt8} (hg : yC w0) (hl : zR O w0 K w P D n S firm) (hd : xc w b P) {ps : List Pr} {qs : List Int} {k : Nat} (h : WhM n S firm ps qs k) (hps : ps.length <= 500) :
  Calls Tryz.prog 46 #[ptr b] w fun e w' => e = .returned .nilIface /\ Below w.1.size w w' := by
 obtain ⟨s, hs, hz⟩ := zc5 h.ok h.rt h.used.1 h.com.nodup hps rfl h.used.2;refine (VM H hl hg hs hd).mono ?_;rw [hz];rintro e w' ⟨v, rfl, he, hb⟩;obtain rfl := he.zero;exact ⟨rfl, hb⟩
end
end
section
open Go.RowKit
def kO (w : World) (K L : Nat -> Prop) : Prop := ∀ b, b < w.1.size -> K b \/ L b
theorem kO.swap {w : World} {K L : Nat -> Prop} (h : kO w K L) : kO w L K := fun b hb => (h b hb).symm
section
variable {O : zV} (H : yl O)
include H
theorem zR.beside {w0 : World} {K L : Nat -> Prop} {w w' : World} {P D n : Nat} {S : TS} {firm : Nat -> List UInt8} (h : zR O w0 K w P D n S firm) (hk : zh L w w') (hlow : ∀ k, k < w0.1.size -> L k) (hb : kO w K L) : zR O w0 (fun b => K b \/ (w.1.size <= b /\ b < w'.1.size)) w' P D n S firm /\ kO w' (fun b => K b \/ (w.1.size <= b /\ b < w'.1.size)) L := by
 have hk2 : zh (fun b => b < w.1.size /\ ¬ (b < w.1.size /\ ¬ L b)) w w' := hk.less8 fun b hb2 => by
  rcases Classical.em (L b) with h1 | h1
  ·exact h1
  ·exact absurd ⟨hb2.1, h1⟩ hb2.2
 have hin : ∀ b, b < w.1.size /\ ¬ L b -> K b := fun b h1 => (hb b h1.1).resolve_right h1.2
 have hth := h.there;obtain ⟨B, h1, h2, h3, h4⟩ := h.pg;refine ⟨⟨⟨B, H.carry h1 fun b hb2 => ?_, h2.off (B := fun b => b < w.1.size /\ ¬ L b) (fun b hb2 => .inl (hin b hb2)) hk2 fun k hk3 => ?_, fun k hk3 => ?_, fun b hb2 hl => ?_⟩, h.inv, h.up, ?_, fun k hk3 => .inl (h.low k hk3)⟩, fun b hb2 => ?_⟩
 ·refine hk.block b ?_;rcases hb b (H.lt h1 b hb2) with h5 | h5
  ·exact absurd h5 (h4 b hb2)
  ·exact h5
 ·rcases hk3 with (hk3 | hk3) | hk3
  ·exact .inl (.inl hk3)
  ·exact .inr hk3.1
  ·exact .inl (.inr hk3)
 ·rcases hk3 with hk3 | hk3
  ·exact Nat.lt_of_lt_of_le (hth k hk3) hk.size
  ·exact hk3.2
 ·rcases hl with hl | hl
  ·exact h4 b hb2 hl
  ·have := H.lt h1 b hb2;omega
 ·exact h.below.trans ((hk.less8 hlow).below fun _ h => h)
 ·rcases Nat.lt_or_ge b w.1.size with h5 | h5
  ·rcases hb b h5 with h6 | h6
   ·exact .inl (.inl h6)
   ·exact .inr h6
  ·exact .inl (.inr ⟨h5, hb2⟩)
end
end
section
open Go.RowKit
structure LgS (O : zV) (w0 : World) (K : Nat -> Prop) (w : World) (b P D n : Nat) (S : TS) (firm : Nat -> List UInt8) (ps : List Pr) (k : Nat) : Prop where
 law : zR O w0 K w P D n S firm
 led : xc w b P
 mine : K b
 whole : ∃ qs, WhM n S firm ps qs k
theorem LgS.more {O : zV} {w0 : World} {K : Nat -> Prop} {w : World} {b P D n : Nat} {S : TS} {firm : Nat -> List UInt8} {ps : List Pr} {k k' : Nat} (h : LgS O w0 K w b P D n S firm ps k) (hk : k <= k') : LgS O w0 K w b P D n S firm ps k' := by
 obtain ⟨h1, h2, h3, qs, h4⟩ := h;exact ⟨h1, h2, h3, qs, h4.more hk⟩
section
variable {O : zV} (H : yl O)
include H
theorem LgS.carry {w0 : World} {K : Nat -> Prop} {w w' : World} {b P D n : Nat} {S : TS} {firm : Nat -> List UInt8} {ps : List Pr} {k : Nat} (h : LgS O w0 K w b P D n S firm ps k) (hb : Below w.1.size w w') : LgS O w0 K w' b P D n S firm ps k := ⟨h.law.carry H hb, h.led.carry hb, h.mine, h.whole⟩
theorem LgS.grow {w0 : World} {K : Nat -> Prop} {w w' : World} {b P D n : Nat} {S : TS} {firm : Nat -> List UInt8} {ps : List Pr} {k : Nat} (h : LgS O w0 K w b P D n S firm ps k) (hb : Below w.1.size w w') : LgS O w0 (fun k => K k \/ (w.1.size <= k /\ k < w'.1.size)) w' b P D n S firm ps k := ⟨h.law.grow H hb, h.led.carry hb, .inl h.mine, h.whole⟩
theorem LgS.beside {w0 : World} {K L : Nat -> Prop} {w w' : World} {b P D n : Nat} {S : TS} {firm : Nat -> List UInt8} {ps : List Pr} {k : Nat} (h : LgS O w0 K w b P D n S firm ps k) (hk : zh L w w') (hlow : ∀ k, k < w0.1.size -> L k) (hb : kO w K L) (hL : L b) :
  LgS O w0 (fun b => K b \/ (w.1.size <= b /\ b < w'.1.size)) w' b P D n S firm ps k /\ kO w' (fun b => K b \/ (w.1.size <= b /\ b < w'.1.size)) L := by
 obtain ⟨h1, h2⟩ := h.law.beside H hk hlow hb;exact ⟨⟨h1, h.led.kept hk hL, .inl h.mine, h.whole⟩, h2⟩
variable (HA : AbD O)
include HA
theorem LgS.apply {w0 : World} {K : Nat -> Prop} {w : World} {b P D n : Nat} {S : TS} {firm : Nat -> List UInt8} {ps : List Pr} {k : Nat} (h : LgS O w0 K w b P D n S firm ps k) (hg : yC w0) {A : Option Addr} {cs : List Pr} {m cap : Nat} (hc : qz w K A cs) (hm : cs.length = m) (hmay : ∀ c ∈ cs, yP c.1 c.2.size) (hn : ps.length + ps.length + m + 29 < n) (h5 : ps.length + m <= 500) (hk : k <= 1000) (hm2 : m <= 1000) :
  Calls Tryz.prog 41 #[ptr b, .slice A m cap] w fun e w' => e = .returned .nilIface /\ zh K w w' /\ ∃ S' firm', LgS O w0 K w' b P D n S' firm' (jv ps cs) (k + m + 1) /\ S'.s.sup.gen = S.s.sup.gen + 1 := by
 obtain ⟨qs, hw⟩ := h.whole;obtain ⟨r, S', qs', hr, h1, h2, h3, h4, h6⟩ := zco hw hmay (by omega) (by omega) hk;rw [hm] at h3 h4;refine (Xa H HA h.law hg h.led h.mine hc hm hmay h3 hr h1 h2 hm2).mono ?_;rintro e w' ⟨rfl, hl, hk2⟩;exact ⟨rfl, hk2, _, _, ⟨hl, h.led.kept hk2 h.mine, h.mine, _, h4⟩, h6⟩
end
end
section
open Go.RowKit
section
variable {O : zV} (H : yl O)
include H
theorem KG {w0 w : World} {K : Nat -> Prop} {D n : Nat} (h3 : 3 <= n) (hn : n <= 240) (hd : zD K w D n (Dk.new n)) (ht : yd K w) (hlow : ∀ k, k < w0.1.size -> K k) (hb : Below w0.1.size w0 w) (hg : yC w0) :
  Calls Tryz.prog 38 #[ptr D] w fun e w' => ∃ b P, e = .returned (.tuple #[ptr b, .nilIface]) /\ zh K w w' /\ LgS O w0 (fun k => K k \/ k = b) w' b P D n (S0 n) (fun _ => []) [] 0 /\ w.1.size <= b /\ b < w'.1.size := by
 have hbk : ∀ w', zh K w w' -> Below w0.1.size w0 w' := fun w' hk => hb.trans ((hk.less8 hlow).below fun _ h => h)
 have HF := Hi (H.formatYes 1 hd ht (fun w' hk => hg.carry (hbk w' hk)) rfl h3 (.inl ⟨WZ h3, rfl⟩) (by decide));have HT := Hi ht;have HLO := Hi hlow;have HBK := Hi hbk;have HN := Hi hn;have H3 := Hi h3;clear hd ht hlow hb hbk hg hn h3
 go_enter Tryz.func38, Tryz.ntmps38
 go_wp2_with fail;refine HF.o.mono ?_;rintro e w2 ⟨P, rfl, hp, hk⟩;have HP := Hi hp;have HK := Hi hk;clear hp hk;dsimp only;obtain ⟨w3, HW3⟩ := hY (w2.alloc (.cells #[ptr P] 143));obtain ⟨b, HB⟩ := hY (w2.1.size);have HLA := hI (xc w3 b P) (by rw [HW3.o, HB.o]; exact heap_alloc_new w2 _);have HB3 := hI (Below w2.1.size w2 w3) (by rw [HW3.o]; exact (Below.refl _ _).alloc (Nat.le_refl _) _);have HNB := hI (b < w3.1.size) (by rw [HW3.o, HB.o]; simp);have HK3 := hI (zh K w w3) (HK.o.trans (zh.of_below HB3.o fun k hk => Nat.lt_of_lt_of_le (HT.o k hk) HK.o.size));go_wp2_with fail
 go_ret2
 rw [<- HB.o, <- HW3.o];refine ⟨b, P, rfl, HK3.o, ⟨⟨H.pgMore HP.o HB3.o (fun k hk => ?_) (fun k hk => ?_), yO.start H3.o HN.o (fun _ => []), rfl, HBK.o _ HK3.o, fun k hk => .inl (HLO.o k hk)⟩, HLA.o, .inr rfl, _, WhM.start H3.o HN.o⟩, by rw [HB.o]; exact HK.o.size, HNB.o⟩
 ·rcases hk with hk | hk
  ·exact .inl hk
  ·exact .inr (by rw [hk, HB.o]; exact Nat.le_refl _)
 ·rcases hk with hk | hk
  ·exact Nat.lt_of_lt_of_le (HT.o k hk) HK3.o.size
  ·rw [hk]; exact HNB.o
end
end
end Go.Proofs.YtafclmbecmgbnaaGreatDoor
set_option maxRecDepth 100000
set_option maxHeartbeats 4000000
open Nat renaming lt_or_ge -> zfp
namespace Go.Proofs.YtafclmbecmgbnaaGreatDoor
open Go.RowKit
structure OnS (O : zV) (w1 : World) (bx Px Dx by_ Py Dy : Nat) (ps ps2 : List Pr) (k1 k2 : Nat) (wr : World) : Prop where
 ex : ∃ (K L : Nat -> Prop) (S T : TS) (f g : Nat -> List UInt8), LgS O w1 K wr bx Px Dx 240 S f ps k1 /\ LgS O w1 L wr by_ Py Dy 240 T g ps2 k2 /\ kO wr K L /\ K by_ /\ L bx
def InS (O : zV) (w1 : World) (bx Px Dx by_ Py Dy : Nat) (S7 : TS) (f7 : Nat -> List UInt8) (ps cs : List Pr) (kx : Nat) (L3 : Nat -> Prop) (A6 : Option Addr) (ky j : Nat) (wr : World) : Prop :=
 ∃ (K : Nat -> Prop) (T : TS) (g : Nat -> List UInt8), LgS O w1 K wr bx Px Dx 240 S7 f7 (jv ps cs) kx /\ LgS O w1 L3 wr by_ Py Dy 240 T g (jv ps (cs.take j)) ky /\ kO wr K L3 /\ K by_ /\ qz wr L3 A6 cs
section
variable {O : zV} (H : yl O) (HA : AbD O)
include H HA
theorem KH {w : World} {A : Option Addr} {l : List Xj} {m c : Nat} (ha : jM w A l) (hm : l.length = m) (hg : yC w) :
  Calls Tryz.prog 10 #[.slice A m c] w fun e w' => e = .returned (.bool true) /\ Below w.1.size w w' := by
 have HG := Hi hg;have HAC := Hi ha;have HM := Hi hm;clear hg ha hm;by_cases hlong : 8 < m
 ·have hd : decide ((8 : Int) < (m : Int)) = true := by simp; omega
  clear hlong
  go_enter Tryz.func10, Tryz.ntmps10
  go_wp2_with fail;refine (qG H HA _ HG.o).mono ?_;rintro e w2 ⟨rfl, hb⟩;have HB2 := Hi hb;have HG2 := Hi (HG.o.carry hb);clear hb;go_wp2_with fail;refine (qG H HA _ HG2.o).mono ?_;rintro e w3 ⟨rfl, hb⟩;have HB3 := Hi (HB2.o.trans (hb.mono HB2.o.size));clear hb;go_wp2_with fail
  go_ret
  exact ⟨rfl, HB3.o⟩
 have hd : decide ((8 : Int) < (m : Int)) = false := by simp; omega
 have HM8 := hI (m <= 8) (by omega);clear hlong
 go_enter Tryz.func10, Tryz.ntmps10
 go_wp2_with fail;refine (qG H HA _ HG.o).mono ?_;rintro e w1 ⟨rfl, hb⟩;have HB1 := Hi hb;have HG1 := Hi (HG.o.carry hb);clear hb;go_wp2_with fail;refine (Vp 240 (by decide) (by decide) w1).mono ?_;rintro e w2 ⟨Dx, rfl, hdx, hb⟩;have HDX := Hi hdx;have HB2 := Hi hb;clear hdx hb hd;go_wp2_with fail;refine (Vp 240 (by decide) (by decide) w2).mono ?_;rintro e w3 ⟨Dy, rfl, hdy, hb⟩;have HDY := Hi hdy;have HB3 := Hi hb;clear hdy hb;obtain ⟨K0, HK0⟩ : ∃ K0 : Nat -> Prop, Hid (K0 = fun k => k < w1.1.size \/ (w2.1.size <= k /\ k < w3.1.size)) := Hy;have HB13 := hI (Below w1.1.size w1 w3) (HB2.o.trans (HB3.o.mono HB2.o.size));have HF := Hi (KG H (w0 := w1) (w := w3) (K := K0) (n := 240) (by decide) (by decide) (HDX.o.more HB3.o fun k hk => by rw [HK0.o] at hk; exact hk.imp id fun h => h.1) (fun k hk => by
  rw [HK0.o] at hk;rcases hk with hk | hk
  ·exact Nat.lt_of_lt_of_le hk HB13.o.size
  ·exact hk.2) (fun k hk => by rw [HK0.o]; exact .inl hk) HB13.o HG1.o)
 go_wp2_with fail;refine HF.o.mono ?_;rintro e w4 ⟨bx, Px, rfl, hk, hx, hbx1, hbx2⟩;have HX := Hi hx;have HK4 := Hi hk;obtain ⟨L1, HL1⟩ : ∃ L1 : Nat -> Prop, Hid (L1 = fun k => k < w2.1.size \/ (w3.1.size <= k /\ k < w4.1.size)) := Hy;have HLX := hI (L1 bx) (by rw [HL1.o]; exact .inr ⟨hbx1, hbx2⟩);have HLW := hI (∀ k, k < w1.1.size -> L1 k) fun k hk => by rw [HL1.o]; exact .inl (Nat.lt_of_lt_of_le hk HB2.o.size)
 have HDY4 := hI (zD L1 w4 Dy 240 (Dk.new 240)) (HDY.o.off (B := fun b => w1.1.size <= b /\ b < w2.1.size) (fun b hb => hb.2) (hk.less8 fun b hb => by
  rw [HK0.o];rcases zfp b w1.1.size with h1 | h1
  ·exact .inl h1
  ·rcases zfp b w2.1.size with h2 | h2
   ·exact absurd ⟨h1, h2⟩ hb.2
   ·exact .inr ⟨h2, hb.1⟩) fun k hk => by rw [HL1.o] at hk; exact hk.imp id fun h => h.1)
 have HBS4 := hI (kO w4 (fun k => K0 k \/ k = bx) L1) fun k hk => by
  rw [HL1.o, HK0.o];rcases zfp k w2.1.size with h2 | h2
  ·exact .inr (.inl h2)
  ·rcases zfp k w3.1.size with h3 | h3
   ·exact .inl (.inl (.inr ⟨h2, h3⟩))
   ·exact .inr (.inr ⟨h3, hk⟩)
 have HF2 := Hi (KG H (w0 := w1) (w := w4) (K := L1) (n := 240) (by decide) (by decide) HDY4.o (fun k hk => by
  rw [HL1.o] at hk;rcases hk with hk | hk
  ·exact Nat.lt_of_lt_of_le hk (Nat.le_trans HB3.o.size HK4.o.size)
  ·exact hk.2) HLW.o hx.law.below HG1.o)
 clear hk hx hbx1 hbx2 HF HDX HDY HDY4;go_wp2_with fail;refine HF2.o.mono ?_;rintro e w5 ⟨by_, Py, rfl, hk, hy, hby1, hby2⟩;have HS5 := hI (OnS O w1 bx Px Dx by_ Py Dy [] [] 0 0 w5) (by
  obtain ⟨h1, h2⟩ := HX.o.beside H hk HLW.o HBS4.o HLX.o;exact ⟨_, _, _, _, _, _, h1, hy, (fun k hk => (h2 k hk).imp id fun h => .inl h), .inr ⟨hby1, hby2⟩, .inl HLX.o⟩)
 clear hk hy hby1 hby2 HF2 HX HK4 HBS4 HLX HLW HL1 HK0 HB13 HB2 HB3;go_wp2_with fail;refine (wT _).mono ?_;rintro e w' ⟨rfl, rfl⟩;go_wp2_with fail;refine (wT _).mono ?_;rintro e w' ⟨rfl, rfl⟩;go_wp2_with fail
 go_loopw [11] (fun i wr => ∃ (k : Nat) (ps : List Pr), k <= m /\ i = .int .i64 (k : Int) /\ ps.length <= 10 * k /\ Hid (∀ p ∈ ps, 0 <= p.1 /\ p.1 < 256) /\ Hid (OnS O w1 bx Px Dx by_ Py Dy ps ps (11 * k) (20 * k) wr)) (fun i _ => m - (intOf i).toNat)
 case atStart => exact ⟨0, [], Nat.zero_le _, rfl, Nat.zero_le _, Hi (fun p hp => by cases hp), HS5⟩
 case round =>
  clear HS5;obtain ⟨k, ps, hk, rfl, hps, HLOW, HS⟩ := hrel;by_cases hlt : k < m
  ·obtain ⟨K, L, S, T, f, g, hx, hy, hbs, hKy, hLx⟩ := HS.o;obtain ⟨a, hak⟩ : ∃ a, l[k]? = some a := ⟨_, List.getElem?_eq_getElem (by rw [HM.o]; exact hlt)⟩
   have HBW := hI (Below w.1.size w wr) (HB1.o.trans (hx.law.below.mono HB1.o.size));have hin := (HAC.o.below HBW.o).each a (List.mem_of_getElem? hak);obtain ⟨ba, oa, hA, hba, hcell⟩ := (HAC.o.below HBW.o).at_ hak;have c0 : wr.cell? ⟨ba, oa + k * 5, none⟩ = some (.slice a.AK a.ks.length a.ck) := hcell 0 _ rfl;have c1 : wr.cell? ⟨ba, oa + k * 5 + 1, none⟩ = some (.slice a.AN a.ns.length a.cn) := hcell 1 _ rfl;have c2 : wr.cell? ⟨ba, oa + k * 5 + 2, none⟩ = some (.bool a.cr) := hcell 2 _ rfl;have c3 : wr.cell? ⟨ba, oa + k * 5 + 3, none⟩ = some (.int .u32 (a.mask : Int)) := hcell 3 _ rfl;have c4 : wr.cell? ⟨ba, oa + k * 5 + 4, none⟩ = some (.int .i64 a.torn) := hcell 4 _ rfl;subst hA;have HIN := Hi hin;have HX := Hi hx;have HY := Hi hy;have HBS := Hi hbs;have HKY := Hi hKy;have HLX := Hi hLx;have HK7 := hI (k <= 7) (by have := HM8.o; omega);have HPS := Hi hps;have hkl : (k : Int) < (m : Int) := by omega
   have HWK := hI (wrap64 ((k : Int) + 1) = ((k + 1 : Nat) : Int)) (by have := HK7.o; unfold wrap64; omega);clear hx hy hbs hKy hLx hin hcell hak hba HS hps;go_wp2_with fail;refine (zan a.cr (a.mask : Int) a.torn HIN.o.keys HIN.o.nums rfl rfl HIN.o.key).mono ?_;rintro e w6 ⟨A6, a6, B6, b6, rfl, hoA, -, hb⟩;have HMAY := hI (∀ x ∈ vn a.ks a.ns, yP x.1 x.2.size) (zbS HIN.o.key);have HLO2 := hI (∀ x ∈ vn a.ks a.ns, 0 <= x.1 /\ x.1 < 256) (zbR HIN.o.key);have HLEN := hI ((vn a.ks a.ns).length <= 10) (by rw [Y0]; omega);obtain ⟨cs, HCS⟩ := hY (vn a.ks a.ns);rw [<- HCS.o] at hoA HMAY HLO2 HLEN ⊢;clear HCS;obtain ⟨mc, HMC⟩ : ∃ mc, Hid (cs.length = mc) := ⟨_, Hi (rfl)⟩
   obtain ⟨K2, HK2⟩ : ∃ K2 : Nat -> Prop, Hid (K2 = fun k => K k \/ (wr.1.size <= k /\ k < w6.1.size)) := Hy;obtain ⟨L2, HL2⟩ : ∃ L2 : Nat -> Prop, Hid (L2 = fun k => L k \/ (wr.1.size <= k /\ k < w6.1.size)) := Hy;have HX6 := hI (LgS O w1 K2 w6 bx Px Dx 240 S f ps (11 * k)) (by rw [HK2.o]; exact HX.o.grow H hb);have HY6 := hI (LgS O w1 L2 w6 by_ Py Dy 240 T g ps (20 * k)) (by rw [HL2.o]; exact HY.o.grow H hb);have HBS6 := hI (kO w6 L2 K2) fun b hb2 => by
    rw [HK2.o, HL2.o];rcases zfp b wr.1.size with h1 | h1
    ·rcases HBS.o b h1 with h2 | h2
     ·exact .inr (.inl h2)
     ·exact .inl (.inl h2)
    ·exact .inl (.inr ⟨h1, hb2⟩)
   have HKY6 := hI (K2 by_) (by rw [HK2.o]; exact .inl HKY.o);have HLX6 := hI (L2 bx) (by rw [HL2.o]; exact .inl HLX.o);have HKN := hI (∀ b, wr.1.size <= b -> b < w6.1.size -> K2 b /\ L2 b) fun b h1 h2 => by rw [HK2.o, HL2.o]; exact ⟨.inr ⟨h1, h2⟩, .inr ⟨h1, h2⟩⟩
   have HOA := Hi hoA;have HCAP := hI (mc <= a6 \/ mc = 0) (by
    rw [HMC.o] at hoA;rcases hoA.2 with ⟨_, h2⟩ | ⟨_, cap, _, h1, _, _, h2, _⟩
    ·exact .inr h2
    ·injection h1 with _ _ h1
     subst h1;exact .inl h2)
   rw [HMC.o];have HXA := Hi (HX6.o.apply H HA HG1.o (A := A6) (cs := cs) (m := mc) (cap := a6) (QU hoA fun b h1 h2 => (HKN.o b h1 h2).1) HMC.o HMAY.o (by have := HLEN.o; have := HMC.o; have := HPS.o; have := HK7.o; omega) (by have := HLEN.o; have := HMC.o; have := HPS.o; have := HK7.o; omega) (by have := HK7.o; omega) (by have := HLEN.o; have := HMC.o; omega));have HXLOW := hI (∀ b, b < w1.1.size -> K2 b) HX6.o.law.low;clear hoA hb HX HY HBS HKY HLX HK2 HL2 c0 c1 c2 c3 c4 HX6;go_wp2_with fail;refine HXA.o.mono ?_;rintro e w7 ⟨rfl, hk, S7, f7, hx, -⟩;obtain ⟨hy, hbs⟩ := HY6.o.beside H hk HXLOW.o HBS6.o HKY6.o;obtain ⟨L3, HL3⟩ : ∃ L3 : Nat -> Prop, Hid (L3 = fun b => L2 b \/ (w6.1.size <= b /\ b < w7.1.size)) := Hy;rw [<- HL3.o] at hy hbs;have HBX := hI (L3 bx) (by rw [HL3.o]; exact .inl HLX6.o);have hcy : qz w7 L3 A6 cs := QU (Qg HOA.o hk fun b h1 h2 => (HKN.o b h1 h2).1) fun b h1 h2 => by
    rw [HL3.o];rcases zfp b w6.1.size with h3 | h3
    ·exact .inl (HKN.o b h1 h3).2
    ·exact .inr ⟨h3, h2⟩
   have HLLOW := hI (∀ b, b < w1.1.size -> L3 b) hy.law.low;obtain ⟨kx, HKX⟩ : ∃ kx, Hid (11 * k + mc + 1 = kx) := ⟨_, Hi (rfl)⟩
   rw [HKX.o] at hx;have HI := hI (InS O w1 bx Px Dx by_ Py Dy S7 f7 ps cs kx L3 A6 (20 * k) 0 w7) ⟨K2, T, g, hx, hy, hbs.swap, HKY6.o, hcy⟩;clear hx hy hbs hcy hk HXA HXLOW HY6 HBS6 HKY6 HLX6 HKN HOA HL3;go_wp2_with fail;refine (wT _).mono ?_;rintro e w' ⟨rfl, rfl⟩;go_wp2_with fail
   go_loopw [14] (fun i wr2 => ∃ j : Nat, j <= mc /\ i = .int .i64 (j : Int) /\ Hid (InS O w1 bx Px Dx by_ Py Dy S7 f7 ps cs kx L3 A6 (20 * k + 2 * j) j wr2)) (fun i _ => mc - (intOf i).toNat)
   case atStart => exact ⟨0, Nat.zero_le _, rfl, HI⟩
   case round =>
    clear HI;obtain ⟨j, hj, rfl, HI⟩ := hrel;by_cases hjm : j < mc
    ·obtain ⟨K, T2, g2, hx, hy, hbs, hKy, hcy⟩ := HI.o;obtain ⟨g0, o0, hA6, hg0, hgl, hcc⟩ := hcy (by rw [HMC.o]; omega);subst hA6;obtain ⟨cj, hcj⟩ : ∃ cj, cs[j]? = some cj := ⟨_, List.getElem?_eq_getElem (by rw [HMC.o]; exact hjm)⟩
     have HTK := hI (jv ps (cs.take (j + 1)) = jv (jv ps (cs.take j)) [cj]) (by rw [zal hcj]; rfl);have HMJ := hI (yP cj.1 cj.2.size) (HMAY.o _ (List.mem_of_getElem? hcj));have hcap : mc <= a6 := by rcases HCAP.o with h | h; exact h; omega
     have hj10 : mc <= 10 := by have := HLEN.o; have := HMC.o; omega
     have hjw : wrap64 ((j : Int) + 1) = (j : Int) + 1 := by unfold wrap64; omega
     have HCH := hI (qz wr L3 (some ⟨g0, o0 + j * 2, none⟩) [cj]) (fun _ => ⟨g0, o0 + j * 2, rfl, hg0, hgl, fun i c hc => by
      cases i with
      | zero =>
       obtain rfl : cj = c := by simpa using hc
       exact ⟨by simpa using (hcc j _ hcj).1, by simpa using (hcc j _ hcj).2⟩
      | succ i => simp at hc⟩)
     have HPJ := hI ((jv ps (cs.take j)).length <= 80) (by have h1 := qF ps (cs.take j); rw [List.length_take] at h1; have := HPS.o; have := HK7.o; omega);have HYA := Hi (hy.apply H HA HG1.o (A := some ⟨g0, o0 + j * 2, none⟩) (cs := [cj]) (m := 1) (cap := a6 - j) HCH.o rfl (fun x hx => by rw [List.mem_singleton.1 hx]; exact HMJ.o) (by have := HPJ.o; omega) (by have := HPJ.o; omega) (by have := HK7.o; omega) (by decide));rw [<- HTK.o] at HYA;have HX := Hi hx;have HBS := Hi hbs;have HKY := Hi hKy;have HCY := Hi hcy;clear hx hy hbs hKy hcy hcc hgl hg0 hcj HI HCH HTK HMJ HPJ;go_wp2_with fail;refine HYA.o.mono ?_;rintro e w8 ⟨rfl, hk8, T3, g3, hy3, -⟩;obtain ⟨hx3, hbs3⟩ := HX.o.beside H hk8 HLLOW.o HBS.o HBX.o;have HI8 := hI (InS O w1 bx Px Dx by_ Py Dy S7 f7 ps cs kx L3 (some ⟨g0, o0, none⟩) (20 * k + 2 * (j + 1)) (j + 1) w8) ⟨_, T3, g3, hx3, hy3.more (by omega), hbs3, .inl HKY.o, HCY.o.kept hk8⟩;clear hk8 hy3 hx3 hbs3 HX HBS HKY HCY HYA;go_wp2_with fail;refine (wT _).mono ?_;rintro e w' ⟨rfl, rfl⟩;go_wp2_with fail
     go_roundw
     case rel => exact ⟨j + 1, hjm, by first | rfl | simp, HI8⟩
     case measure => simp [intOf]; omega
    ·have hje : j = mc := by omega
     have HS8 := hI (OnS O w1 bx Px Dx by_ Py Dy (jv ps cs) (jv ps cs) (11 * (k + 1)) (20 * (k + 1)) wr) (by
      obtain ⟨K, T2, g2, hx, hy, hbs, hKy, _⟩ := HI.o;have htk : cs.take j = cs := List.take_of_length_le (by rw [HMC.o]; omega);rw [htk] at hy;have h1 := HLEN.o;have h2 := HMC.o;have h3 := HKX.o;exact ⟨K, L3, S7, T2, f7, g2, hx.more (by omega), hy.more (by omega), hbs, hKy, HBX.o⟩)
     have HPS2 := hI ((jv ps cs).length <= 10 * (k + 1)) (by have h1 := qF ps cs; have := HPS.o; have := HLEN.o; omega);have HLOW2 := hI (∀ p ∈ jv ps cs, 0 <= p.1 /\ p.1 < 256) (zbP HLOW.o HLO2.o);clear HI;go_wp2_with fail
     go_roundw
     case rel => exact ⟨k + 1, jv ps cs, by omega, by rw [HWK.o], HPS2.o, HLOW2, HS8⟩
     case measure => rw [HWK.o]; simp only [intOf, Int.toNat_natCast]; omega
  ·have hkl : decide ((k : Int) < (m : Int)) = false := by simp; omega
   have hke : k = m := by omega
   subst hke;obtain ⟨K, L, S, T, f, g, hx, hy, hbs, hKy, hLx⟩ := HS.o;have HX := Hi hx;have HY := Hi hy;have HPS := hI (ps.length <= 80) (by have := HM8.o; omega);have HRX := hI (xP S S.s.sup.root 0 256 = .ok ps) (by
    obtain ⟨q, h⟩ := hx.whole;rw [qU h.ok h.rt (by have := HPS.o; omega)];exact congrArg _ (Kt HLOW.o))
   have HRY := hI (xP T T.s.sup.root 0 256 = .ok ps) (by
    obtain ⟨q, h⟩ := hy.whole;rw [qU h.ok h.rt (by have := HPS.o; omega)];exact congrArg _ (Kt HLOW.o))
   clear hx hy hbs hKy hLx HS;have HRA := Hi (Yh H HG1.o HX.o.law HX.o.led 0 256);rw [HRX.o] at HRA;go_wp2_with fail;refine HRA.o.mono ?_;rintro e wa ⟨hb, Aa, ca, rfl, ho⟩;have HOA := Hi ho;have HXA := Hi (HX.o.carry H hb);have HYA := Hi (HY.o.carry H hb);clear hb ho HRA HX HY;have HRB := Hi (Yh H HG1.o HYA.o.law HYA.o.led 0 256);rw [HRY.o] at HRB;go_wp2_with fail;refine HRB.o.mono ?_;rintro e wb ⟨hb, Ab, cb, rfl, ho⟩;have HOB := Hi ho;have HOA2 := Hi (wI HOA.o hb);have HXB := Hi (HXA.o.carry H hb);have HYB := Hi (HYA.o.carry H hb);clear hb ho HRB HXA HYA HOA HRX HRY;go_wp2_with fail
   go_loopw [19] (fun i wr => ∃ j : Nat, j <= ps.length /\ i = .int .i64 (j : Int) /\ Hid (Below wb.1.size wb wr)) (fun i _ => ps.length - (intOf i).toNat)
   case atStart => exact ⟨0, Nat.zero_le _, rfl, Hi (Below.refl _ _)⟩
   case round =>
    obtain ⟨j, hj, rfl, HW⟩ := hrel;by_cases hjm : j < ps.length
    ·obtain ⟨q, HQ⟩ := hY (ps[j]);obtain ⟨ga, hga, a0, a1⟩ := Ym (wI HOA2.o HW.o) hjm;obtain ⟨gb, hgb, b0, b1⟩ := Ym (wI HOB.o HW.o) hjm;rw [<- HQ.o] at a0 a1 b0 b1;obtain ⟨kz, vz⟩ := q;obtain rfl : Aa = some ⟨ga, 0, none⟩ := hga;obtain rfl : Ab = some ⟨gb, 0, none⟩ := hgb;have hjl : (j : Int) < (ps.length : Int) := by omega
     have HWK := hI (wrap64 ((j : Int) + 1) = ((j + 1 : Nat) : Int)) (by have := HPS.o; unfold wrap64; omega);have hlq : (((ps.length : Nat) : Int) != ((ps.length : Nat) : Int)) = false := by simp
     clear hjm HQ;go_upto_region 25 with (fail)
     go_quiet (fail)
     generalize hwd : World.drewN _ _ = wd;have HBD := hI (Below wb.1.size wb wd) (HW.o.trans ((show Below wr.1.size wr wd by rw [<- hwd]; exact Kh _ _).mono HW.o.size));clear hwd a0 a1 b0 b1;go_wp2_with fail
     go_roundw
     case rel => exact ⟨j + 1, by omega, by rw [HWK.o], HBD⟩
     case measure => rw [HWK.o]; simp only [intOf, Int.toNat_natCast]; omega
    ·have HXC := Hi (HXB.o.carry H HW.o);have HYC := Hi (HYB.o.carry H HW.o);obtain ⟨qx, hqx⟩ := HXC.o.whole;have HWX := Hi (qQ H HG1.o HXC.o.law HXC.o.led hqx (by have := HPS.o; omega));have hjl : decide ((j : Int) < (ps.length : Int)) = false := by simp; omega
     clear hqx;go_wp2_with fail;refine (wT _).mono ?_;rintro e w' ⟨rfl, rfl⟩;go_wp2_with fail;refine (wT _).mono ?_;rintro e w' ⟨rfl, rfl⟩;go_wp2_with fail;refine HWX.o.mono ?_;rintro e wd ⟨rfl, hb⟩;have HXD := Hi (HXC.o.carry H hb);have HYD := Hi (HYC.o.carry H hb);obtain ⟨qy, hqy⟩ := HYD.o.whole;have HWY := Hi (qQ H HG1.o HYD.o.law HYD.o.led hqy (by have := HPS.o; omega));clear hb hqy HWX HXC HYC;go_wp2_with fail;refine (wT _).mono ?_;rintro e w' ⟨rfl, rfl⟩;go_wp2_with fail;refine HWY.o.mono ?_;rintro e we ⟨rfl, hb⟩;have HBZ := hI (Below w.1.size w we) (by
      have h1 := HXD.o.law.below.trans (hb.mono HXD.o.law.below.size);exact HB1.o.trans (h1.mono HB1.o.size))
     clear hb HWY;go_wp2_with fail;refine (wT _).mono ?_;rintro e w' ⟨rfl, rfl⟩;go_wp2_with fail
     go_ret
     exact ⟨rfl, HBZ.o⟩
end
