/-
 TrJoin. Conditions: as each theorem says.
-/
import Derived.Test.YtafclmbecmgbnaaGreatDoorTrApp
import Derived.Test.YtafclmbecmgbnaaGreatDoorTrDelModel
set_option maxRecDepth 100000
set_option maxHeartbeats 4000000
open Nat renaming le_trans -> zd6, le_refl -> zdH
open List renaming mem_append -> zee
namespace Go.Proofs.YtafclmbecmgbnaaGreatDoor
open Go.RowKit
structure JoS (w : World) (p q r b b2 : Nat) (l l2 : zd) (x y : Nd) (m : zd) (z : Nd) (wr : World) : Prop where
 bp : zb wr p l x
 bq : zb wr q l2 y
 br : zb wr r zd.none_ Nd.empty
 fr : ∀ j, wr.frozen? ⟨r, j, none⟩ = false
 my : zl wr b2 l2 y
 k : wr.ownsRow b 3 1 (.slice m.A z.keys.length m.ca) z.keys.length (z.keys.map (Value.int .i64))
 v : wr.ownsRow b 9 1 (.slice m.B z.vals.length m.cb) z.vals.length (z.vals.map Value.string)
 c : wr.ownsRow b 3 1 (.slice m.C z.kids.length m.cc) z.kids.length (z.kids.map (Value.int .i64))
 new : ∀ g, m.has g -> l.has g \/ w.1.size + 3 <= g
 akv : ∀ a c, m.A = some a -> m.B = some c -> a.block ≠ c.block
 akc : ∀ a c, m.A = some a -> m.C = some c -> a.block ≠ c.block
 avc : ∀ a c, m.B = some a -> m.C = some c -> a.block ≠ c.block
 turn : zq l.has w wr
 lw : ∀ g, l.has g -> g < w.1.size
 dis : ∀ g, l2.has g -> g < w.1.size /\ ¬ l.has g
 pw : w.1.size <= p /\ p < w.1.size + 3
 qw : w.1.size <= q /\ q < w.1.size + 3
 rw_ : w.1.size <= r /\ r < w.1.size + 3
 hw : w.1.size + 3 <= wr.1.size
section
variable {w : World} {p q r b b2 : Nat} {l l2 : zd} {x y : Nd} {m : zd} {z : Nd} {wr w' : World}
theorem JoS.lt (h : JoS w p q r b b2 l l2 x y m z wr) {g : Nat} (hg : m.has g) : g < wr.1.size := by
 rcases hg with ⟨a, e, rfl⟩ | ⟨a, e, rfl⟩ | ⟨a, e, rfl⟩
 ·exact (h.k.lt _ (by rw [e]; rfl)).2
 ·exact (h.v.lt _ (by rw [e]; rfl)).2
 ·exact (h.c.lt _ (by rw [e]; rfl)).2
theorem JoS.rest (h : JoS w p q r b b2 l l2 x y m z wr) {M : Nat -> Prop} (ht : zq M wr w') (hM : ∀ k, M k -> m.has k) :
  zb w' p l x /\ zb w' q l2 y /\ zb w' r zd.none_ Nd.empty /\ (∀ j, w'.frozen? ⟨r, j, none⟩ = false) /\ zl w' b2 l2 y /\ zq l.has w w' /\ w.1.size + 3 <= w'.1.size := by
 have hm : ∀ k, M k -> l.has k \/ w.1.size + 3 <= k := fun k hk => h.new k (hM k hk)
 have hn : ∀ k, w.1.size <= k -> k < w.1.size + 3 -> ¬ M k := fun k h1 h2 hk => (hm k hk).elim (fun h3 => by have := h.lw k h3; omega) (fun h3 => by omega)
 have hbr := ht.block r ⟨h.br.lt, hn r h.rw_.1 h.rw_.2⟩;refine ⟨h.bp.turn ht (hn p h.pw.1 h.pw.2), h.bq.turn ht (hn q h.qw.1 h.qw.2), h.br.turn ht (hn r h.rw_.1 h.rw_.2), fun j => (World.frozen?_of_block (w := wr) (a := ⟨r, j, none⟩) hbr).trans (h.fr j), ?_, ?_, zd6 h.hw ht.size⟩
 ·exact h.my.keep ht.size fun g hg => ht.block g ⟨(h.my.lt g hg).2, fun hk => (hm g hk).elim (h.dis g hg).2 fun h3 => by have := (h.dis g hg).1; omega⟩
 ·exact h.turn.trans (ht.more fun k _ hk => (hm k hk).imp id fun h3 => by omega)
theorem JoS.below (h : JoS w p q r b b2 l l2 x y m z wr) (hb : Below wr.1.size wr w') : JoS w p q r b b2 l l2 x y m z w' := by
 have ht : zq (fun _ => False) wr w' := zq.of_below hb;obtain ⟨h1, h2, h3, h4, h5, h6, h7⟩ := h.rest ht (fun _ hk => hk.elim);exact ⟨h1, h2, h3, h4, h5, zx h.k ht (fun _ _ h => h), zx h.v ht (fun _ _ h => h), zx h.c ht (fun _ _ h => h), h.new, h.akv, h.akc, h.avc, h6, h.lw, h.dis, h.pw, h.qw, h.rw_, h7⟩
theorem JoS.keys (h : JoS w p q r b b2 l l2 x y m z wr) {A' : Option Addr} {c' : Nat} {ks : List Int} (ho : w'.ownsRow b 3 1 (.slice A' ks.length c') ks.length (ks.map (Value.int .i64))) (ht : zq (fun k => ∃ a, m.A = some a /\ a.block = k) wr w') (hA : ∀ g, A' = some g -> m.A = some g \/ wr.1.size <= g.block) :
  JoS w p q r b b2 l l2 x y ⟨A', m.B, m.C, c', m.cb, m.cc⟩ ⟨ks, z.vals, z.kids⟩ w' := by
 obtain ⟨h1, h2, h3, h4, h5, h6, h7⟩ := h.rest ht (fun _ ⟨a, e1, e2⟩ => .inl ⟨a, e1, e2⟩);have hv := zx h.v ht (fun g hg ⟨c, e1, e2⟩ => by cases hB : m.B with | none => (rw [hB] at hg; cases hg) | some d => (rw [hB] at hg; cases hg; exact h.akv c d e1 hB e2));have hc := zx h.c ht (fun g hg ⟨c, e1, e2⟩ => by cases hB : m.C with | none => (rw [hB] at hg; cases hg) | some d => (rw [hB] at hg; cases hg; exact h.akc c d e1 hB e2));refine ⟨h1, h2, h3, h4, h5, ho, hv, hc, ?_, ?_, ?_, h.avc, h6, h.lw, h.dis, h.pw, h.qw, h.rw_, h7⟩
 ·rintro g (⟨a, e, rfl⟩ | ⟨a, e, rfl⟩ | ⟨a, e, rfl⟩)
  ·exact (hA a e).elim (fun h8 => h.new _ (.inl ⟨a, h8, rfl⟩)) (fun h8 => .inr (zd6 h.hw h8))
  ·exact h.new _ (.inr (.inl ⟨a, e, rfl⟩))
  ·exact h.new _ (.inr (.inr ⟨a, e, rfl⟩))
 ·exact fun a c e1 e2 => (hA a e1).elim (fun h8 => h.akv a c h8 e2) (fun h8 => by have := h.lt (.inr (.inl ⟨c, e2, rfl⟩)); omega)
 ·exact fun a c e1 e2 => (hA a e1).elim (fun h8 => h.akc a c h8 e2) (fun h8 => by have := h.lt (.inr (.inr ⟨c, e2, rfl⟩)); omega)
theorem JoS.vals (h : JoS w p q r b b2 l l2 x y m z wr) {A' : Option Addr} {c' : Nat} {vs : List ByteArray} (ho : w'.ownsRow b 9 1 (.slice A' vs.length c') vs.length (vs.map Value.string)) (ht : zq (fun k => ∃ a, m.B = some a /\ a.block = k) wr w') (hA : ∀ g, A' = some g -> m.B = some g \/ wr.1.size <= g.block) :
  JoS w p q r b b2 l l2 x y ⟨m.A, A', m.C, m.ca, c', m.cc⟩ ⟨z.keys, vs, z.kids⟩ w' := by
 obtain ⟨h1, h2, h3, h4, h5, h6, h7⟩ := h.rest ht (fun _ ⟨a, e1, e2⟩ => .inr (.inl ⟨a, e1, e2⟩));have hk := zx h.k ht (fun g hg ⟨c, e1, e2⟩ => by cases hB : m.A with | none => (rw [hB] at hg; cases hg) | some d => (rw [hB] at hg; cases hg; exact h.akv d c hB e1 e2.symm));have hc := zx h.c ht (fun g hg ⟨c, e1, e2⟩ => by cases hB : m.C with | none => (rw [hB] at hg; cases hg) | some d => (rw [hB] at hg; cases hg; exact h.avc c d e1 hB e2));refine ⟨h1, h2, h3, h4, h5, hk, ho, hc, ?_, ?_, h.akc, ?_, h6, h.lw, h.dis, h.pw, h.qw, h.rw_, h7⟩
 ·rintro g (⟨a, e, rfl⟩ | ⟨a, e, rfl⟩ | ⟨a, e, rfl⟩)
  ·exact h.new _ (.inl ⟨a, e, rfl⟩)
  ·exact (hA a e).elim (fun h8 => h.new _ (.inr (.inl ⟨a, h8, rfl⟩))) (fun h8 => .inr (zd6 h.hw h8))
  ·exact h.new _ (.inr (.inr ⟨a, e, rfl⟩))
 ·exact fun a c e1 e2 => (hA c e2).elim (fun h8 => h.akv a c e1 h8) (fun h8 => by have := h.lt (.inl ⟨a, e1, rfl⟩); omega)
 ·exact fun a c e1 e2 => (hA a e1).elim (fun h8 => h.avc a c h8 e2) (fun h8 => by have := h.lt (.inr (.inr ⟨c, e2, rfl⟩)); omega)
theorem JoS.kids (h : JoS w p q r b b2 l l2 x y m z wr) {A' : Option Addr} {c' : Nat} {cs : List Int} (ho : w'.ownsRow b 3 1 (.slice A' cs.length c') cs.length (cs.map (Value.int .i64))) (ht : zq (fun k => ∃ a, m.C = some a /\ a.block = k) wr w') (hA : ∀ g, A' = some g -> m.C = some g \/ wr.1.size <= g.block) :
  JoS w p q r b b2 l l2 x y ⟨m.A, m.B, A', m.ca, m.cb, c'⟩ ⟨z.keys, z.vals, cs⟩ w' := by
 obtain ⟨h1, h2, h3, h4, h5, h6, h7⟩ := h.rest ht (fun _ ⟨a, e1, e2⟩ => .inr (.inr ⟨a, e1, e2⟩));have hk := zx h.k ht (fun g hg ⟨c, e1, e2⟩ => by cases hB : m.A with | none => (rw [hB] at hg; cases hg) | some d => (rw [hB] at hg; cases hg; exact h.akc d c hB e1 e2.symm));have hv := zx h.v ht (fun g hg ⟨c, e1, e2⟩ => by cases hB : m.B with | none => (rw [hB] at hg; cases hg) | some d => (rw [hB] at hg; cases hg; exact h.avc d c hB e1 e2.symm));refine ⟨h1, h2, h3, h4, h5, hk, hv, ho, ?_, h.akv, ?_, ?_, h6, h.lw, h.dis, h.pw, h.qw, h.rw_, h7⟩
 ·rintro g (⟨a, e, rfl⟩ | ⟨a, e, rfl⟩ | ⟨a, e, rfl⟩)
  ·exact h.new _ (.inl ⟨a, e, rfl⟩)
  ·exact h.new _ (.inr (.inl ⟨a, e, rfl⟩))
  ·exact (hA a e).elim (fun h8 => h.new _ (.inr (.inr ⟨a, h8, rfl⟩))) (fun h8 => .inr (zd6 h.hw h8))
 ·exact fun a c e1 e2 => (hA c e2).elim (fun h8 => h.akc a c e1 h8) (fun h8 => by have := h.lt (.inl ⟨a, e1, rfl⟩); omega)
 ·exact fun a c e1 e2 => (hA c e2).elim (fun h8 => h.avc a c e1 h8) (fun h8 => by have := h.lt (.inr (.inl ⟨a, e1, rfl⟩)); omega)
theorem JoS.done (h : JoS w p q r b b2 l l2 x y m z wr) (kl : z.keys.length <= 100) (vl : z.vals.length <= 100) (cl : z.kids.length <= 101)
  (kw : ∀ i ∈ z.keys, -9223372036854775808 <= i /\ i <= 9223372036854775807) (vw : ∀ v ∈ z.vals, v.size <= maxLen) (cw : ∀ i ∈ z.kids, -9223372036854775808 <= i /\ i <= 9223372036854775807) : Xf w b l z (.returned (ndV m z)) (zC wr r m z) := by
 have ht : zq (fun k => k = r) wr (zC wr r m z) := ⟨rfl, rfl, rfl, by rw [zM]; exact zdH _, fun k hk => zj hk.2⟩
 have hr : ¬ m.has r := fun hk => (h.new r hk).elim (fun h3 => by have := h.lw r h3; have := h.rw_.1; omega) (fun h3 => by have := h.rw_.2; omega)
 refine ⟨m, rfl, ki (zl.of_own h.k h.v h.c h.akv h.akc h.avc kl vl cl kw vw cw) hr, h.turn.trans (ht.more fun k _ hk => .inr (by rw [hk]; exact h.rw_.1)), fun g hg => (h.new g hg).imp id fun h3 => by omega⟩
end
theorem VO {w : World} {b b2 : Nat} {l l2 : zd} {x y : Nd} (hx : zl w b l x) (hy : zl w b2 l2 y) (hdis : ∀ g, l.has g -> ¬ l2.has g) (hb : b <= w.1.size) {k : Int} (hk : -9223372036854775808 <= k /\ k <= 9223372036854775807)
  (hkl : x.keys.length + y.keys.length <= 90) (hvl : x.vals.length + y.vals.length <= 90) (hcl : x.kids.length + y.kids.length <= 90) :
  Calls Tryz.prog 141 #[ndV l x, .int .i64 k, ndV l2 y] w (Xf w b l (vg x k y)) := by
 obtain ⟨ii, hi0, hi1, hi2, hi3⟩ := info_parts Tryz.infoInt9;obtain ⟨is, hs0, hs1, hs2, hs3⟩ := info_parts Tryz.infoStr9;obtain ⟨p, HPP⟩ : ∃ p, Hid (p = w.1.size) := Hy;obtain ⟨q, HQQ⟩ : ∃ q, Hid (q = p + 1) := Hy;obtain ⟨r, HRR⟩ : ∃ r, Hid (r = q + 1) := Hy;obtain ⟨w1, HW1⟩ : ∃ w1, Hid (w1 = ((w.alloc (.cells #[.slice l.A x.keys.length l.ca, .slice l.B x.vals.length l.cb, .slice l.C x.kids.length l.cc] 48)).alloc (.cells #[.slice l2.A y.keys.length l2.ca, .slice l2.B y.vals.length l2.cb, .slice l2.C y.kids.length l2.cc] 48)).alloc (.cells #[.slice none 0 0, .slice none 0 0, .slice none 0 0] 48)) := Hy;have HB1 : Hid (Below w.1.size w w1 /\ w1.1.size = w.1.size + 3) := Hi (by rw [HW1.o]; exact ⟨(((Below.refl _ _).alloc (zdH _) _).alloc (by simp) _).alloc (by simp; omega) _, by simp⟩);have HX1 : Hid (zb w1 p l x /\ zb w1 q l2 y /\ zb w1 r zd.none_ Nd.empty /\ ∀ j, w1.frozen? ⟨r, j, none⟩ = false) := Hi (by
  have e1 := zb.new (w := w) (l := l) (x := x) 48;rw [HW1.o];obtain ⟨wa, hwa⟩ : ∃ wa, wa = w.alloc (.cells #[.slice l.A x.keys.length l.ca, .slice l.B x.vals.length l.cb, .slice l.C x.kids.length l.cc] 48) := ⟨_, rfl⟩
  rw [<- hwa] at e1 ⊢;have hsa : wa.1.size = w.1.size + 1 := by rw [hwa]; simp
  have e2 := zb.new (w := wa) (l := l2) (x := y) 48;obtain ⟨wb, hwb⟩ : ∃ wb, wb = wa.alloc (.cells #[.slice l2.A y.keys.length l2.ca, .slice l2.B y.vals.length l2.cb, .slice l2.C y.kids.length l2.cc] 48) := ⟨_, rfl⟩
  rw [<- hwb] at e2 ⊢;have hsb : wb.1.size = wa.1.size + 1 := by rw [hwb]; simp
  have hab : Below wa.1.size wa wb := by rw [hwb]; exact (Below.refl _ _).alloc (zdH _) _
  have e3 := zb.new (w := wb) (l := zd.none_) (x := Nd.empty) 48;have f3 := zV wb #[.slice none 0 0, .slice none 0 0, .slice none 0 0] 48;have hbc : Below wb.1.size wb (wb.alloc (.cells #[.slice none 0 0, .slice none 0 0, .slice none 0 0] 48)) := (Below.refl _ _).alloc (zdH _) _;rw [hsb, hsa] at e3 f3;rw [hsa] at e2;rw [HRR.o, HQQ.o, HPP.o];exact ⟨(e1.carry hab e1.lt).carry hbc (e1.carry hab e1.lt).lt, e2.carry hbc e2.lt, e3, f3⟩)
 have HJ1 : Hid (JoS w p q r b b2 l l2 x y l x w1) := Hi (by
  have hmx := hx.carry HB1.o.1;refine ⟨HX1.o.1, HX1.o.2.1, HX1.o.2.2.1, HX1.o.2.2.2, hy.carry HB1.o.1, hmx.k, hmx.v, hmx.c, fun g hg => .inl hg, hmx.akv, hmx.akc, hmx.avc, zq.of_below HB1.o.1, fun g hg => (hx.lt g hg).2, fun g hg => ⟨(hy.lt g hg).2, fun h => hdis g h hg⟩, ?_, ?_, ?_, by rw [HB1.o.2]; exact zdH _⟩
  ·rw [HPP.o]; omega
  ·rw [HQQ.o, HPP.o]; omega
  ·rw [HRR.o, HQQ.o, HPP.o]; omega)
 have HKW : Hid ((∀ i ∈ (vg x k y).keys, -9223372036854775808 <= i /\ i <= 9223372036854775807) /\ (∀ v ∈ (vg x k y).vals, v.size <= maxLen) /\ ∀ i ∈ (vg x k y).kids, -9223372036854775808 <= i /\ i <= 9223372036854775807) := Hi (by
  refine ⟨fun i hi => ?_, fun v hv => (zee.1 hv).elim (hx.is.vw v) (hy.is.vw v), fun i hi => (zee.1 hi).elim (hx.is.cw i) (hy.is.cw i)⟩;rcases zee.1 hi with h | h
  ·split at h
   ·exact hx.is.kw i h
   ·rcases zee.1 h with h | h
    ·exact hx.is.kw i h
    ·rw [List.mem_singleton.1 h]; exact hk
  ·exact hy.is.kw i h)
 have HLN : Hid (x.keys.length + y.keys.length <= 90 /\ x.vals.length + y.vals.length <= 90 /\ x.kids.length + y.kids.length <= 90) := Hi ⟨hkl, hvl, hcl⟩;have HBW : Hid (b <= w.1.size) := Hi hb;obtain ⟨R, HRS⟩ : ∃ R, Hid (R = vg x k y) := Hy;rw [<- HRS.o] at HKW ⊢;clear hx hy hdis hb hk hkl hvl hcl HX1;have c0 := HJ1.o.bp.c0
 go_enter Tryz.func141, Tryz.ntmps141
 go_upto_region 1 with (fail)
 rw [<- HW1.o, <- HPP.o, <- HQQ.o, <- HRR.o];clear HW1;go_wp2_with (with_reducible refine zc (o := ⟨some 10, _, _, _, _, _⟩) ?_);refine zf Tryz.ndProg (by rfl) _ rfl p rfl l x HJ1.o.bp ?_;go_wp2_with fail;refine (wZ x).mono ?_;rintro e w2 ⟨rfl, hb⟩;have HJ2 := Hi (HJ1.o.below hb);clear hb HJ1 c0;by_cases hlf : x.kids.length = 0
 case' pos =>
  rw [decide_eq_true hlf];obtain ⟨A1, HA1⟩ : ∃ A1, Hid (A1 = l.A) := Hy;obtain ⟨c1, HC1⟩ : ∃ c1, Hid (c1 = l.ca) := Hy;obtain ⟨ks, HKS⟩ : ∃ ks, Hid (ks = x.keys) := Hy;have HG : Hid (R = ⟨ks ++ y.keys, x.vals ++ y.vals, x.kids ++ y.kids⟩ /\ ks.length <= x.keys.length + 1) := Hi (by rw [HRS.o, HKS.o]; unfold vg; rw [if_pos hlf]; exact ⟨rfl, Nat.le_succ _⟩);obtain ⟨w3, HW3⟩ : ∃ w3, Hid (w3 = w2) := Hy;have HJ3 : Hid (JoS w p q r b b2 l l2 x y ⟨A1, l.B, l.C, c1, l.cb, l.cc⟩ ⟨ks, x.vals, x.kids⟩ w3) := Hi (by rw [HW3.o, HA1.o, HC1.o, HKS.o]; exact HJ2.o);clear HJ2;go_upto_region 4 with (fail)
  rw [<- HW3.o];generalize HWV : Value.slice l.A x.keys.length l.ca = wv;obtain rfl : wv = .slice A1 ks.length c1 := by rw [<- HWV, HA1.o, HC1.o, HKS.o]
  clear HWV HA1 HC1 HKS HW3 hlf
 case' neg =>
  rw [decide_eq_false hlf];go_wp2_with (with_reducible refine zc (o := ⟨some 16, _, _, _, _, _⟩) ?_);obtain ⟨g6, HG6⟩ : ∃ g6, Hid (g6 = w2.1.size) := Hy;obtain ⟨w6, HW6⟩ : ∃ w6, Hid (w6 = w2.alloc (.cells #[.int .i64 k] 3)) := Hy;rw [<- HG6.o, <- HW6.o];have HJ6 := Hi (HJ2.o.below (w' := w6) (by rw [HW6.o]; exact (Below.refl _ _).alloc (zdH _) _));have hsrc : w6.ownsRow 0 3 1 (.slice (some ⟨g6, 0, none⟩) 1 1) 1 [.int .i64 k] := by rw [HW6.o, HG6.o]; exact wE (zZ.made _ _ _) rfl rfl (zdH _) (by decide) (Nat.zero_le _)
  clear HG6 HW6 HJ2;refine wpList_plain rfl fun K0 hK => Y0 _ _ 45 rfl 3 ii _ 8 Tryz.underlying45 hi0 hi1 hi2 hi3 rfl (by decide) rfl rfl HJ6.o.k hsrc (fun u hu => by rw [List.mem_singleton.1 hu]; rfl) (by have := HLN.o.1; omega) (zd6 HBW.o HJ6.o.turn.size) ?_
  intro A1 c1 w3 hown ht hA;obtain ⟨ks, HKS⟩ : ∃ ks, Hid (ks = x.keys ++ [k]) := Hy;have HG : Hid (R = ⟨ks ++ y.keys, x.vals ++ y.vals, x.kids ++ y.kids⟩ /\ ks.length <= x.keys.length + 1) := Hi (by rw [HRS.o, HKS.o]; unfold vg; rw [if_neg hlf]; exact ⟨rfl, by simp⟩);have hkl : x.keys.length + 1 = ks.length := by rw [HKS.o]; simp
  have hkm : x.keys.map (Value.int .i64) ++ [.int .i64 k] = ks.map (Value.int .i64) := by rw [HKS.o]; simp
  rw [hkl, hkm] at hown;rw [hkl];have HJ3 := Hi (HJ6.o.keys hown ht hA);refine hK _ _ ?_;clear hK K0 hown ht hA hsrc HJ6 hkl hkm HKS hlf;go_upto_region 4 with (fail)
 all_goals
  refine wp_region_held (S := fun w9 => zb w9 p l x /\ zb w9 q l2 y) (by kernel_rfl) ?_;change wpAnyH _ _ _ _ _ _ _ _ w3.drew;obtain ⟨wa, HWA⟩ : ∃ wa, Hid (wa = w3.drew) := Hy;rw [<- HWA.o];have HJA := Hi (HJ3.o.below (w' := wa) (by rw [HWA.o]; exact (Below.refl _ _).drew));have hS : zb wa p l x /\ zb wa q l2 y := ⟨HJA.o.bp, HJA.o.bq⟩
  clear HWA HJ3;refine za (i := 0) 17 (v := .slice A1 ks.length c1) rfl rfl hS ?_;simp only [Act.put, pU];refine za (i := 1) 18 (v := .pointer (some ⟨q, 0, none⟩)) rfl rfl hS ?_;simp only [Act.put, pU];refine zy (i := 2) 19 (v := .slice l2.A y.keys.length l2.ca) rfl rfl (.inl ⟨by rfl, fun _ h => by have c0 := h.2.c0; go_simp⟩) hS ?_;simp only [Act.put, pU];refine za (i := 4) 21 (v := .pointer (some ⟨p, 1, none⟩)) rfl rfl hS ?_;simp only [Act.put, pU];refine zy (i := 5) 22 (v := .slice l.B x.vals.length l.cb) rfl rfl (.inl ⟨by rfl, fun _ h => by have c1 := h.1.c1; go_simp⟩) hS ?_;simp only [Act.put, pU];refine za (i := 6) 23 (v := .pointer (some ⟨q, 1, none⟩)) rfl rfl hS ?_;simp only [Act.put, pU];refine zy (i := 7) 24 (v := .slice l2.B y.vals.length l2.cb) rfl rfl (.inl ⟨by rfl, fun _ h => by have c1 := h.2.c1; go_simp⟩) hS ?_;simp only [Act.put, pU];refine za (i := 9) 26 (v := .pointer (some ⟨p, 2, none⟩)) rfl rfl hS ?_;simp only [Act.put, pU];refine zy (i := 10) 27 (v := .slice l.C x.kids.length l.cc) rfl rfl (.inl ⟨by rfl, fun _ h => by have c2 := h.1.c2; go_simp⟩) hS ?_;simp only [Act.put, pU];refine za (i := 11) 28 (v := .pointer (some ⟨q, 2, none⟩)) rfl rfl hS ?_;simp only [Act.put, pU];refine zy (i := 12) 29 (v := .slice l2.C y.kids.length l2.cc) rfl rfl (.inl ⟨by rfl, fun _ h => by have c2 := h.2.c2; go_simp⟩) hS ?_;simp only [Act.put, pU];refine zN (i := 3) (oi := ⟨some 20, _, _, _, _, _⟩) rfl (by kernel_rfl) (fun K0 hK => ?_);rw [if_pos (by rfl)];refine Y0 _ _ 45 rfl 3 ii _ 8 Tryz.underlying45 hi0 hi1 hi2 hi3 rfl (by decide) rfl rfl HJA.o.k HJA.o.my.k (fun u hu => by obtain ⟨j, _, rfl⟩ := List.mem_map.1 hu; rfl) (by have := HLN.o; have := HG.o.2; show ks.length + _ <= _; omega) (zd6 HBW.o HJA.o.turn.size) ?_;intro kA kc wb hown ht hA;obtain ⟨z1, Hz1⟩ : ∃ z1, Hid (z1 = ks ++ y.keys) := Hy;have hkl : ks.length + y.keys.length = z1.length := by rw [Hz1.o]; simp
  have hkm : ks.map (Value.int .i64) ++ y.keys.map (Value.int .i64) = z1.map (Value.int .i64) := by rw [Hz1.o]; simp
  rw [show _ ++ _ = z1.map (Value.int .i64) from hkm, show _ + _ = z1.length from hkl] at hown;rw [show _ + _ = z1.length from hkl];have HJB := Hi (HJA.o.keys hown ht hA);have hS2 : zb wb p l x /\ zb wb q l2 y := ⟨HJB.o.bp, HJB.o.bq⟩
  clear hS hown ht hA hkl hkm HJA;refine hK.out _ _ hS2 ?_;clear hK K0;have hS := hS2;clear hS2;refine zN (i := 8) (oi := ⟨some 25, _, _, _, _, _⟩) rfl (by kernel_rfl) (fun K0 hK => ?_);rw [if_pos (by rfl)];refine Y0 _ _ 46 rfl 9 is _ 16 Tryz.underlying46 hs0 hs1 hs2 hs3 rfl (by decide) rfl rfl HJB.o.v HJB.o.my.v (fun u hu => by obtain ⟨j, _, rfl⟩ := List.mem_map.1 hu; rfl) (by have := HLN.o; have := HG.o.2; show x.vals.length + _ <= _; omega) (zd6 HBW.o HJB.o.turn.size) ?_;intro vA vc wc hown ht hA;obtain ⟨z2, Hz2⟩ : ∃ z2, Hid (z2 = x.vals ++ y.vals) := Hy;have hkl : x.vals.length + y.vals.length = z2.length := by rw [Hz2.o]; simp
  have hkm : x.vals.map Value.string ++ y.vals.map Value.string = z2.map Value.string := by rw [Hz2.o]; simp
  rw [show _ ++ _ = z2.map Value.string from hkm, show _ + _ = z2.length from hkl] at hown;rw [show _ + _ = z2.length from hkl];have HJC := Hi (HJB.o.vals hown ht hA);have hS2 : zb wc p l x /\ zb wc q l2 y := ⟨HJC.o.bp, HJC.o.bq⟩
  clear hS hown ht hA hkl hkm HJB;refine hK.out _ _ hS2 ?_;clear hK K0;have hS := hS2;clear hS2;refine zN (i := 13) (oi := ⟨some 30, _, _, _, _, _⟩) rfl (by kernel_rfl) (fun K0 hK => ?_);rw [if_pos (by rfl)];refine Y0 _ _ 45 rfl 3 ii _ 8 Tryz.underlying45 hi0 hi1 hi2 hi3 rfl (by decide) rfl rfl HJC.o.c HJC.o.my.c (fun u hu => by obtain ⟨j, _, rfl⟩ := List.mem_map.1 hu; rfl) (by have := HLN.o; have := HG.o.2; show x.kids.length + _ <= _; omega) (zd6 HBW.o HJC.o.turn.size) ?_;intro dA dc wd hown ht hA;obtain ⟨z3, Hz3⟩ : ∃ z3, Hid (z3 = x.kids ++ y.kids) := Hy;have hkl : x.kids.length + y.kids.length = z3.length := by rw [Hz3.o]; simp
  have hkm : x.kids.map (Value.int .i64) ++ y.kids.map (Value.int .i64) = z3.map (Value.int .i64) := by rw [Hz3.o]; simp
  rw [show _ ++ _ = z3.map (Value.int .i64) from hkm, show _ + _ = z3.length from hkl] at hown;rw [show _ + _ = z3.length from hkl];have HJD := Hi (HJC.o.kids hown ht hA);have hS2 : zb wd p l x /\ zb wd q l2 y := ⟨HJD.o.bp, HJD.o.bq⟩
  clear hS hown ht hA hkl hkm HJC;refine hK.out _ _ hS2 ?_;clear hK K0;have hS := hS2;clear hS2;refine za (i := 14) 31 (v := .agg #[.slice kA z1.length kc, .slice vA z2.length vc, .slice dA z3.length dc]) rfl rfl hS ?_;simp only [Act.put, pU];refine zN (i := 15) (oi := ⟨none, _, _, _, _, _⟩) rfl (by kernel_rfl) (fun K0 hK => ?_);have HBQ := Hi HJD.o.br;have f0 := HJD.o.fr 0;have f1 := HJD.o.fr 1;have f2 := HJD.o.fr 2;have HR9 : Hid (R = ⟨z1, z2, z3⟩) := Hi (by rw [HG.o.1, Hz1.o, Hz2.o, Hz3.o]);obtain ⟨x2, HX2⟩ : ∃ x2 : Nd, Hid (x2 = ⟨z1, z2, z3⟩) := Hy;have d0 := HBQ.o.c0;have d1 := HBQ.o.c1;have d2 := HBQ.o.c2;obtain ⟨w4, HWw4⟩ : ∃ w4, Hid (w4 = ((wd.setCell ⟨r, 0, none⟩ (.slice kA z1.length kc)).setCell ⟨r, 1, none⟩ (.slice vA z2.length vc)).setCell ⟨r, 2, none⟩ (.slice dA z3.length dc)) := Hy;have HSw4 : Hid (w4 = zC wd r ⟨kA, vA, dA, kc, vc, dc⟩ x2) := Hi (by rw [HX2.o]; exact HWw4.o);have HXw4 : Hid (zb w4 r ⟨kA, vA, dA, kc, vc, dc⟩ x2) := Hi (by rw [HSw4.o]; exact zK HBQ.o);go_simp;rw [<- HWw4.o];have hS4 : zb w4 p l x /\ zb w4 q l2 y := ⟨hS.1.keep (by rw [HSw4.o]; exact zj (by rw [HRR.o, HQQ.o]; omega)), hS.2.keep (by rw [HSw4.o]; exact zj (by rw [HRR.o]; omega))⟩
  clear hS d0 d1 d2 f0 f1 f2;refine hK.out _ _ hS4 ?_;clear hK K0;refine wpAnyH_done (by kernel_rfl) ?_ _;go_wp2_with fail;refine bodyPost_ret (kM Tryz.ndProg rfl _ _ r ⟨kA, vA, dA, kc, vc, dc⟩ x2 rfl HXw4.o) rfl ?_;have hkw := HKW.o;rw [HR9.o, <- HX2.o] at hkw ⊢;rw [HSw4.o];have hj : JoS w p q r b b2 l l2 x y ⟨kA, vA, dA, kc, vc, dc⟩ x2 wd := by rw [HX2.o]; exact HJD.o
  have hl1 : z1.length = ks.length + y.keys.length := by rw [Hz1.o]; simp
  have hl2 : z2.length = x.vals.length + y.vals.length := by rw [Hz2.o]; simp
  have hl3 : z3.length = x.kids.length + y.kids.length := by rw [Hz3.o]; simp
  have hln := HLN.o;have hkk := HG.o.2;exact hj.done (by rw [HX2.o]; show z1.length <= _; omega) (by rw [HX2.o]; show z2.length <= _; omega) (by rw [HX2.o]; show z3.length <= _; omega) hkw.1 hkw.2.1 hkw.2.2
end Go.Proofs.YtafclmbecmgbnaaGreatDoor
