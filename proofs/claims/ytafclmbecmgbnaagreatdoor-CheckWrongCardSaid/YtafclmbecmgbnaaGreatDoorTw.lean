/-
  Tw: several texts in one file. Conditions: as each part says.
-/
import Derived.Test.YtafclmbecmgbnaaGreatDoorTz
import Derived.Test.YtafclmbecmgbnaaGreatDoorTy
import Derived.Test.YtafclmbecmgbnaaGreatDoorTx
import Derived.Test.YtafclmbecmgbnaaGreatDoorTm
import Derived.Test.YtafclmbecmgbnaaGreatDoorSm
/-
 TrReplS. Conditions: as each theorem says.
-/
namespace Go.Proofs.YtafclmbecmgbnaaGreatDoor
open Go.RowKit
theorem nums_mid {w : World} {k : IntKind} {g : Nat} {zs : List Int} (h : Nums w k (some ⟨g, 0, none⟩) zs) (i m : Nat) : Nums w k (some ⟨g, i, none⟩) ((zs.drop i).take m) := (nums_drop h i).take m
theorem repIn_keys {w : World} {b : Nat} {l : Lay3} {x : Nd} {A B : Option Addr} {bc : Nat} {ys : List Int} (hx : NdMine w b l x) (hn : 0 < x.keys.length) (hB : ∀ a, B = some a → ∃ c, l.A = some c ∧ c.block = a.block) (hB0 : ys = [] → B = none ∧ bc = 0) (hy : Nums w .i64 B ys) (hne : ∀ a c, A = some a → l.A = some c → a.block ≠ c.block) (hmid : ∀ a, B = some a → ∃ g o, a = ⟨g, o, none⟩) : RepIn w A B bc ys := by
 refine ⟨fun h => hB0 h, fun h => ?_⟩
 obtain ⟨a, ha, hlt, hc⟩ := hy (List.length_pos_iff.2 h)
 obtain ⟨g, lv, e1, e2, e3⟩ := own_vrow hx.k hn
 obtain ⟨c, e4, e5⟩ := hB a ha
 obtain ⟨vb, o, rfl⟩ := hmid a ha
 have e6 : c = ⟨g, 0, none⟩ := Option.some.inj (e4.symm.trans e1)
 have e7 : g = vb := by rw [e6] at e5; exact e5
 subst e7
 refine ⟨g, o, _, lv, ha, e2, fun k v hv => ?_, fun d hd => ?_⟩
 ·rw [List.getElem?_map] at hv
  cases hz : ys[k]? with
  | none => rw [hz] at hv; cases hv
  | some z =>
   rw [hz] at hv
   cases hv
   have h9 := hc k z hz
   rw [Addr.add_mid] at h9
   rw [← e2.cell]
   exact h9
 ·have := hne d _ hd e1
  exact this
end Go.Proofs.YtafclmbecmgbnaaGreatDoor

/-
 TrReplM. Conditions: as each theorem says.
-/
namespace Go.Proofs.YtafclmbecmgbnaaGreatDoor
open Go.RowKit
theorem addAllM_range {n : Nat} {firm : Nat → List UInt8} (l : List Nd) : ∀ {S S1 : TS} {ks : List Int}, OkT n S firm → addAllM n S l = (.ok ks, S1) → ∀ z ∈ ks, 0 ≤ z ∧ z < 240 := by
 induction l with
 | nil => intro S S1 ks _ h; simp only [addAllM, Prod.mk.injEq, Except.ok.injEq] at h; rw [← h.1]; intro z hz; cases hz
 | cons y l ih =>
  intro S S1 ks ho h
  unfold addAllM at h
  cases ha : addM n S y with
  | mk o S2 =>
   rw [ha] at h
   cases o with
   | error c => simp only [Prod.mk.injEq] at h; cases h.1
   | ok k =>
    obtain ⟨_, ho2, _, hu, _⟩ := addM_ok ho ha
    simp only at h
    cases hb : addAllM n S2 l with
    | mk o2 S3 =>
     rw [hb] at h
     cases o2 with
     | error c => simp only [Prod.mk.injEq] at h; cases h.1
     | ok ks2 =>
      simp only [Prod.mk.injEq, Except.ok.injEq] at h
      rw [← h.1]
      intro z hz
      rcases List.mem_cons.1 hz with rfl | hz
      ·obtain ⟨j, rfl, hj, _⟩ := usd_out hu
       omega
      ·exact ih ho2 hb z hz
theorem changeM_range {n : Nat} {firm : Nat → List UInt8} {S S1 : TS} {x : Nd} {old bk ks : List Int} (ho : OkT n S firm) (h : changeM n S x old = (.ok (bk, ks), S1)) : ∀ z ∈ ks, 0 ≤ z ∧ z < 240 := by
 unfold changeM at h
 cases ha : addAllM n S (partsN x).1 with
 | mk o S2 =>
  rw [ha] at h
  cases o with
  | error c => simp only [Prod.mk.injEq] at h; cases h.1
  | ok ks2 =>
   simp only at h
   cases hb : dropAllM S2 old with
   | mk c S3 =>
    rw [hb] at h
    simp only at h
    split at h
    ·simp only [Prod.mk.injEq, Except.ok.injEq] at h
     obtain ⟨⟨rfl, rfl⟩, _⟩ := h
     exact addAllM_range _ ho ha
    ·simp only [Prod.mk.injEq] at h; cases h.1
theorem partsN_mem {x : Nd} {z : Int} (h : z ∈ (partsN x).2) : z ∈ x.keys := by
 unfold partsN at h
 split at h
 ·cases h
 ·split at h <;> exact List.mem_of_mem_drop (List.mem_of_mem_take h)
theorem replaceM_eq (n : Nat) (S : TS) (x : Nd) (a m : Nat) (kid : Nd) {R : Except Int (List Int × List Int) × TS} (h : R = changeM n S kid ((x.kids.drop a).take m)) : replaceM n S x a m kid = match (generalizing := false) R with
  | (.error c, S1) => (.error c, S1)
  | (.ok (bk, ks), S1) => (.ok ⟨x.keys.take a ++ bk ++ x.keys.drop (a + m - 1), [], x.kids.take a ++ ks ++ x.kids.drop (a + m)⟩, S1) := by
 subst h; rfl
end Go.Proofs.YtafclmbecmgbnaaGreatDoor

/-
 TrRepl. Conditions: as each theorem says.
-/
namespace Go.Proofs.YtafclmbecmgbnaaGreatDoor
open Go.RowKit
theorem right_pos {x : Nd} (h : rightN x = true) (hk : x.kids.length ≠ 0) : 0 < x.keys.length := by
 rcases (right_parts h).2.2 with ⟨h1, _⟩ | h1
 ·rw [h1] at hk; exact absurd rfl hk
 ·exact h1.2.2.2.1
def ReplPost (O : PgOwn) (w0 : World) (K : Nat → Prop) (w : World) (P D n : Nat) (firm : Nat → List UInt8) (b : Nat) (l : Lay3) (R : Except Int Nd × TS) (e : Ending) (w' : World) : Prop :=
 Kept (fun g => K g ∧ ¬ l.has g) w w' ∧ match R.1 with
 | .error c => LawT O w0 K w' P D n R.2 firm ∧ c ≠ 0 ∧ ∃ v, e = .returned (.tuple #[ndV Lay3.none_ Nd.empty, v]) ∧ ErrFrom w' w.heap.size c v
 | .ok x => ∃ l', LawT O w0 (fun g => K g ∨ l'.has g) w' P D n R.2 firm ∧ e = .returned (.tuple #[ndV l' x, .nilIface]) ∧ NdMine w' b l' x ∧ ∀ g, l'.has g → l.has g ∨ w.heap.size ≤ g
def ReOut (O : PgOwn) (w0 : World) (L : Nat → Prop) (lo : Nat) (P D n : Nat) (firm : Nat → List UInt8) (l2 : Lay3) (R : Except Int (List Int × List Int) × TS) (lr : Lay3) (xr : Nd) (v : Value) (wr : World) : Prop :=
 LawT O w0 (fun g => L g ∨ lr.has g) wr P D n R.2 firm ∧ ((∃ cd, R.1 = .error cd ∧ cd ≠ 0 ∧ lr = Lay3.none_ ∧ xr = Nd.empty ∧ ErrFrom wr lo cd v) ∨
  (∃ bk ks, R.1 = .ok (bk, ks) ∧ v = .nilIface ∧ xr = ⟨bk, [], ks⟩ ∧ Nums wr .i64 lr.A bk ∧ lr.B = none ∧ wr.ownsRow lo 3 1 (.slice lr.C ks.length lr.cc) ks.length (ks.map (Value.int .i64)) ∧ (∀ a, lr.A = some a → (∃ c, l2.A = some c ∧ c.block = a.block) ∧ ∃ g o, a = ⟨g, o, none⟩) ∧ (bk = [] → lr.A = none ∧ lr.ca = 0)))
structure ReS (O : PgOwn) (w0 : World) (K : Nat → Prop) (w : World) (P D n : Nat) (firm : Nat → List UInt8) (p r c b : Nat) (l l2 : Lay3) (x : Nd) (R : Except Int (List Int × List Int) × TS) (lr : Lay3) (xr : Nd) (v : Value) (wr : World) : Prop where
 bp : NdBox wr p l x
 bc : NdBox wr c lr xr
 br : NdBox wr r Lay3.none_ Nd.empty
 fr : ∀ j, wr.frozen? ⟨r, j, none⟩ = false
 mi : NdMine wr b l x
 kept : Kept K w wr
 out : ∃ lo, r < lo ∧ w.heap.size ≤ lo ∧ ReOut O w0 (fun g => K g ∨ g = p ∨ g = r ∨ g = c) lo P D n firm l2 R lr xr v wr
 wp : w.heap.size ≤ p
 wr_ : w.heap.size ≤ r
 wc : w.heap.size ≤ c
 pr : p ≠ r
 cr : c ≠ r
 pc : p ≠ c
 hK : There K w
structure ReT (p c : Nat) (l : Lay3) (x : Nd) (lr : Lay3) (xr : Nd) (wr : World) : Prop where
 bp : NdBox wr p l x
 bc : NdBox wr c lr xr
section
variable {O : PgOwn} (H : PgSpec O)
include H
theorem change_out {w0 : World} {L : Nat → Prop} {w1 w2 : World} {P D n : Nat} {firm : Nat → List UInt8} {l2 : Lay3} {R : Except Int (List Int × List Int) × TS} {e : Ending} (h : ChangePost O w0 L w1 P D n firm l2 R e w2) (hlow : ∀ k, k < w0.heap.size → L k) :
  ∃ lr xr v, e = .returned (.tuple #[ndV lr xr, v]) ∧ Kept L w1 w2 ∧ ReOut O w0 L w1.heap.size P D n firm l2 R lr xr v w2 := by
 obtain ⟨R1, R2⟩ := R
 obtain ⟨h1, h2⟩ := h
 cases R1 with
 | error cd =>
  obtain ⟨h3, h4, v, h5, h6⟩ := h2
  exact ⟨_, _, _, h5, h1, h3.less H (fun k hk => hk.elim id fun h => absurd h (Lay3.has_none k)) (fun k hk => .inl (hlow k hk)), .inl ⟨cd, rfl, h4, rfl, rfl, h6⟩⟩
 | ok r =>
  obtain ⟨bk, ks⟩ := r
  obtain ⟨l', h3, h4, h5, h6, h7, h8, h9⟩ := h2
  exact ⟨_, _, _, h4, h1, h3, .inr ⟨bk, ks, rfl, rfl, rfl, h5, h6, h7, h8, h9⟩⟩
theorem ReOut.turn {w0 : World} {L : Nat → Prop} {lo : Nat} {P D n : Nat} {firm : Nat → List UInt8} {l2 : Lay3} {R : Except Int (List Int × List Int) × TS} {lr : Lay3} {xr : Nd} {v : Value} {wr w' : World} {M L' : Nat → Prop} (h : ReOut O w0 L lo P D n firm l2 R lr xr v wr) (ht : Turn M wr w')
  (hM : ∀ k, M k → k < wr.heap.size → L k ∧ w0.heap.size ≤ k ∧ ¬ l2.has k ∧ k < lo) (hL : ∀ k, L' k → L k ∨ wr.heap.size ≤ k) (hLt : There L' w') (hlow : ∀ k, k < w0.heap.size → L' k) {lo' : Nat} (hlo : lo' ≤ lo) : ReOut O w0 L' lo' P D n firm l2 R lr xr v w' := by
 obtain ⟨h1, h2⟩ := h
 have hth := h1.there
 have ht2 : Turn (fun k => M k ∧ k < wr.heap.size) wr w' := ⟨ht.os, ht.tape, ht.output, ht.size, fun k hk => ht.block k ⟨hk.1, fun hm => hk.2 ⟨hm, hk.1⟩⟩⟩
 refine ⟨h1.off H ht2 (fun k hk => ⟨.inl (hM k hk.1 hk.2).1, (hM k hk.1 hk.2).2.1⟩) (fun k hk => ?_) (fun k hk => ?_) (fun k hk => .inl (hlow k hk)), ?_⟩
 ·rcases hk with hk | hk
  ·exact (hL k hk).imp .inl id
  ·exact .inl (.inr hk)
 ·rcases hk with hk | hk
  ·exact hLt k hk
  ·exact Nat.lt_of_lt_of_le (hth k (.inr hk)) ht.size
 ·rcases h2 with ⟨cd, e1, e2, e3, e4, e5⟩ | ⟨bk, ks, e1, e2, e3, e4, e5, e6, e7, e8⟩
  ·exact .inl ⟨cd, e1, e2, e3, e4, (e5.carry ht.size fun i h3 h4 => ht.block i ⟨h4, fun hm => by have := (hM i hm h4).2.2.2; omega⟩).mono hlo⟩
  ·refine .inr ⟨bk, ks, e1, e2, e3, nums_keep e4 ht.size fun a ha => ht.block _ ⟨hth _ (.inr (.inl ⟨a, ha, rfl⟩)), fun hm => ?_⟩, e5, ownsRow_mono (ownsRow_block e6 fun g hg => ht.block g ⟨(e6.lt g hg).2, fun hm => ?_⟩) hlo, e7, e8⟩
   ·obtain ⟨⟨c, h3, h4⟩, _⟩ := e7 a ha
    exact (hM _ hm (hth _ (.inr (.inl ⟨a, ha, rfl⟩)))).2.2.1 (.inl ⟨c, h3, h4⟩)
   ·have := (hM g hm (e6.lt g hg).2).2.2.2
    have := (e6.lt g hg).1
    omega
theorem ReS.make {w0 : World} {K L : Nat → Prop} {w wn wz : World} {P D n : Nat} {firm : Nat → List UInt8} {p r c b lo : Nat} {l l2 : Lay3} {x : Nd} {R : Except Int (List Int × List Int) × TS} {lr : Lay3} {xr : Nd} {v : Value} (hbp : NdBox wn p l x) (hbr : NdBox wn r Lay3.none_ Nd.empty) (hfr : ∀ j, wn.frozen? ⟨r, j, none⟩ = false)
  (hmi : NdMine wn b l x) (hkn : Kept K w wn) (ho : ReOut O w0 L lo P D n firm l2 R lr xr v wn) (ht : Turn (fun k => k = c) wn wz) (hbc : NdBox wz c lr xr) (hc : c < wn.heap.size → L c ∧ c < lo) (hL : ∀ k, K k ∨ k = p ∨ k = r → L k) (hpc : p ≠ c) (hrc : r ≠ c) (hpr : p ≠ r)
  (hwp : w.heap.size ≤ p) (hwr : w.heap.size ≤ r) (hwc : w.heap.size ≤ c) (hlo : w.heap.size ≤ lo) (hrl : r < lo) (hK : There K w) (hl2 : ∀ g, l2.has g → K g) (hlK : ∀ g, l.has g → K g) (hw0 : w0.heap.size ≤ w.heap.size) (hlow : ∀ k, k < w0.heap.size → K k) :
  ReS O w0 K w P D n firm p r c b l l2 x R lr xr v wz := by
 have bp := ht.block p ⟨hbp.lt, hpc⟩
 have br := ht.block r ⟨hbr.lt, hrc⟩
 have hkz : Kept K wn wz := ⟨ht.os, ht.tape, ht.output, ht.size, fun k hk => ht.block k ⟨Nat.lt_of_lt_of_le (hK k hk) hkn.size, fun e => by have := hK k hk; omega⟩⟩
 refine ⟨hbp.keep bp, hbc, hbr.keep br, fun j => (World.frozen?_of_block (w := wn) (a := ⟨r, j, none⟩) br).trans (hfr j), hmi.keep ht.size fun g hg => hkz.block g (hlK g hg), hkn.trans hkz, ⟨lo, hrl, hlo, ?_⟩, hwp, hwr, hwc, hpr, Ne.symm hrc, hpc, hK⟩
 refine ho.turn H ht (fun k hk hlt => ?_) (fun k hk => ?_) (fun k hk => ?_) (fun k hk => .inl (hlow k hk)) (Nat.le_refl _)
 ·have hk' : k = c := hk
  subst hk'
  exact ⟨(hc hlt).1, by omega, fun h => by have := hK k (hl2 k h); omega, (hc hlt).2⟩
 ·rcases hk with hk | hk | hk | hk
  ·exact .inl (hL k (.inl hk))
  ·exact .inl (hL k (.inr (.inl hk)))
  ·exact .inl (hL k (.inr (.inr hk)))
  ·rcases Nat.lt_or_ge k wn.heap.size with h | h
   ·rw [hk] at h ⊢; exact .inl (hc h).1
   ·exact .inr h
 ·rcases hk with hk | hk | hk | hk
  ·exact Nat.lt_of_lt_of_le (hK k hk) (Nat.le_trans hkn.size ht.size)
  ·rw [hk]; exact Nat.lt_of_lt_of_le hbp.lt ht.size
  ·rw [hk]; exact Nat.lt_of_lt_of_le hbr.lt ht.size
  ·rw [hk]; exact hbc.lt
structure ReU (O : PgOwn) (w0 : World) (K : Nat → Prop) (P D n : Nat) (firm : Nat → List UInt8) (p r c : Nat) (l : Lay3) (x : Nd) (S2 : TS) (lr : Lay3) (xr : Nd) (wz : World) (E : Nat → Prop) (wr : World) : Prop where
 t : ReT p c l x lr xr wr
 br : NdBox wr r Lay3.none_ Nd.empty
 fr : ∀ j, wr.frozen? ⟨r, j, none⟩ = false
 law : LawT O w0 (fun g => K g ∨ g = p ∨ g = r ∨ g = c ∨ lr.has g ∨ E g) wr P D n S2 firm
 turn : Turn l.has wz wr
 np : ¬ l.has p
 nr : ¬ l.has r
 nc : ¬ l.has c
 lK : ∀ g, l.has g → K g ∧ w0.heap.size ≤ g
 klow : ∀ k, k < w0.heap.size → K k
theorem ReU.step {w0 : World} {K : Nat → Prop} {P D n : Nat} {firm : Nat → List UInt8} {p r c : Nat} {l : Lay3} {x : Nd} {S2 : TS} {lr : Lay3} {xr : Nd} {wz wr w' : World} {E E' M : Nat → Prop} (h : ReU O w0 K P D n firm p r c l x S2 lr xr wz E wr) (ht : Turn M wr w') (hM : ∀ k, M k → l.has k) (hE : ∀ k, E' k → E k ∨ l.has k ∨ wr.heap.size ≤ k) (hE2 : There E' w') : ReU O w0 K P D n firm p r c l x S2 lr xr wz E' w' := by
 have hp := ht.block p ⟨h.t.bp.lt, fun e => h.np (hM p e)⟩
 have hr := ht.block r ⟨h.br.lt, fun e => h.nr (hM r e)⟩
 have hc := ht.block c ⟨h.t.bc.lt, fun e => h.nc (hM c e)⟩
 have hth := h.law.there
 refine ⟨⟨h.t.bp.keep hp, h.t.bc.keep hc⟩, h.br.keep hr, fun j => (World.frozen?_of_block (w := wr) (a := ⟨r, j, none⟩) hr).trans (h.fr j), ?_, h.turn.trans (ht.more fun k _ hk => .inl (hM k hk)), h.np, h.nr, h.nc, h.lK, h.klow⟩
 refine h.law.off H ht (fun k hk => ⟨.inl (h.lK k (hM k hk)).1, (h.lK k (hM k hk)).2⟩) (fun k hk => ?_) (fun k hk => ?_) fun k hk => ?_
 ·rcases hk with hk | hk | hk | hk | hk | hk
  ·exact .inl (.inl hk)
  ·exact .inl (.inr (.inl hk))
  ·exact .inl (.inr (.inr (.inl hk)))
  ·exact .inl (.inr (.inr (.inr (.inl hk))))
  ·exact .inl (.inr (.inr (.inr (.inr (.inl hk)))))
  ·rcases hE k hk with h2 | h2 | h2
   ·exact .inl (.inr (.inr (.inr (.inr (.inr h2)))))
   ·exact .inl (.inl (h.lK k h2).1)
   ·exact .inr h2
 ·have hs := ht.size
  rcases hk with hk | hk | hk | hk | hk | hk
  ·exact Nat.lt_of_lt_of_le (hth k (.inl hk)) hs
  ·exact Nat.lt_of_lt_of_le (hth k (.inr (.inl hk))) hs
  ·exact Nat.lt_of_lt_of_le (hth k (.inr (.inr (.inl hk)))) hs
  ·exact Nat.lt_of_lt_of_le (hth k (.inr (.inr (.inr (.inl hk))))) hs
  ·exact Nat.lt_of_lt_of_le (hth k (.inr (.inr (.inr (.inr (.inl hk)))))) hs
  ·exact hE2 k hk
 ·exact .inl (h.klow k hk)
set_option maxRecDepth 100000 in
set_option maxHeartbeats 4000000 in
theorem replace_any {w0 : World} {K : Nat → Prop} {w : World} {P D n : Nat} {S : TS} {firm : Nat → List UInt8} (hl : LawT O w0 K w P D n S firm) (hg : Laid2 w0) (hs : S.d.soft.length ≤ 99990) {b b2 : Nat} {l l2 : Lay3} {x y : Nd}
  (hx : NdMine w b l x) (hxK : ∀ g, l.has g → K g) (hr : rightN x = true) (hki : x.kids.length ≠ 0) (hy : NdMine w b2 l2 y) (hyK : ∀ g, l2.has g → K g) (hys : NdShape y) (hdis : ∀ g, l.has g → ¬ l2.has g) (hbw : b ≤ w.heap.size) (hw0 : w0.heap.size ≤ b)
  {at_ many : Nat} (hm1 : 1 ≤ many) (hm2 : many ≤ 2) (hat : at_ + many ≤ x.kids.length) :
  Calls Tryz.prog 104 #[ptr P, ndV l x, .int .i64 (at_ : Int), .int .i64 (many : Int), ndV l2 y] w (ReplPost O w0 K w P D n firm b l (replaceM n S x at_ many y)) := by
 have hbn := Tryz.nodeNone
 have hz := Tryz.zeroNode
 obtain ⟨R, HRS⟩ : ∃ R, Hid (R = changeM n S y ((x.kids.drop at_).take many)) := Hy
 have HRE := Hi (replaceM_eq n S x at_ many y HRS.out)
 obtain ⟨hi, HHI⟩ : ∃ hi, Hid (hi = at_ + many) := Hy
 obtain ⟨j, HJ⟩ : ∃ j, Hid (j = at_ + many - 1) := Hy
 have h7 := (right_parts hr).2.1
 have hin := (right_shape hr).inner hki
 have HSZ : Hid (x.keys.length ≤ 7 ∧ x.kids.length = x.keys.length + 1 ∧ x.vals.length = 0 ∧ 0 < x.keys.length) := Hi ⟨h7, hin.2, hin.1, right_pos hr hki⟩
 have HMANY : Hid (1 ≤ many ∧ many ≤ 2 ∧ at_ + many ≤ x.kids.length) := Hi ⟨hm1, hm2, hat⟩
 obtain ⟨gC, HC0, hcc, hcm, _, _⟩ := ownsRow_form hx.c (by omega)
 have HCC := Hi HC0
 obtain ⟨vO, HVO⟩ : ∃ v, Hid (v = sliced (some ⟨gC, 0, none⟩) at_ hi l.cc 1) := Hy
 have HVV : Hid (vO = .slice (some ⟨gC, at_, none⟩) ((x.kids.drop at_).take many).length (l.cc - at_)) := Hi (by
  rw [HVO.out, HHI.out]
  unfold sliced
  rw [if_neg (by omega)]
  simp only [Option.map_some, Addr.add_mid, Nat.mul_one, Nat.zero_add, Value.slice.injEq, and_true, true_and]
  rw [List.length_take, List.length_drop]; omega)
 have HW8 : Hid (IntKind.i64.wrap ((at_ : Int) + (many : Int)) = (hi : Int)) := Hi (by rw [IntKind.wrap_i64, HHI.out]; omega)
 have HW9 : Hid (IntKind.i64.wrap ((hi : Int) - 1) = (j : Int)) := Hi (by rw [IntKind.wrap_i64, HHI.out, HJ.out]; omega)
 have HIC : Hid (at_ ≤ hi ∧ hi ≤ l.cc) := Hi (by rw [HHI.out]; omega)
 obtain ⟨p, HPP⟩ : ∃ p, Hid (p = w.heap.size) := Hy
 obtain ⟨q, HQQ⟩ : ∃ q, Hid (q = p + 1) := Hy
 obtain ⟨r, HRR⟩ : ∃ r, Hid (r = q + 1) := Hy
 obtain ⟨w1, HW1⟩ : ∃ w1, Hid (w1 = ((w.alloc (.cells #[.slice l.A x.keys.length l.ca, .slice l.B x.vals.length l.cb, .slice l.C x.kids.length l.cc] 48)).alloc (.cells #[.slice l2.A y.keys.length l2.ca, .slice l2.B y.vals.length l2.cb, .slice l2.C y.kids.length l2.cc] 48)).alloc (.cells #[.slice none 0 0, .slice none 0 0, .slice none 0 0] 48)) := Hy
 have HB1 : Hid (Below w.heap.size w w1 ∧ w1.heap.size = w.heap.size + 3) := Hi (by rw [HW1.out]; exact ⟨(((Below.refl _ _).alloc (Nat.le_refl _) _).alloc (by simp) _).alloc (by simp; omega) _, by simp⟩)
 have HX1 : Hid (NdBox w1 p l x ∧ NdBox w1 q l2 y ∧ NdBox w1 r Lay3.none_ Nd.empty ∧ ∀ j, w1.frozen? ⟨r, j, none⟩ = false) := Hi (by
  have e1 := NdBox.new (w := w) (l := l) (x := x) 48
  rw [HW1.out]
  obtain ⟨wa, hwa⟩ : ∃ wa, wa = w.alloc (.cells #[.slice l.A x.keys.length l.ca, .slice l.B x.vals.length l.cb, .slice l.C x.kids.length l.cc] 48) := ⟨_, rfl⟩
  rw [← hwa] at e1 ⊢
  have hsa : wa.heap.size = w.heap.size + 1 := by rw [hwa]; simp
  have e2 := NdBox.new (w := wa) (l := l2) (x := y) 48
  obtain ⟨wb, hwb⟩ : ∃ wb, wb = wa.alloc (.cells #[.slice l2.A y.keys.length l2.ca, .slice l2.B y.vals.length l2.cb, .slice l2.C y.kids.length l2.cc] 48) := ⟨_, rfl⟩
  rw [← hwb] at e2 ⊢
  have hsb : wb.heap.size = wa.heap.size + 1 := by rw [hwb]; simp
  have hab : Below wa.heap.size wa wb := by rw [hwb]; exact (Below.refl _ _).alloc (Nat.le_refl _) _
  have e3 := NdBox.new (w := wb) (l := Lay3.none_) (x := Nd.empty) 48
  have f3 := frozen_new1 wb #[.slice none 0 0, .slice none 0 0, .slice none 0 0] 48
  have hbc : Below wb.heap.size wb (wb.alloc (.cells #[.slice none 0 0, .slice none 0 0, .slice none 0 0] 48)) := (Below.refl _ _).alloc (Nat.le_refl _) _
  rw [hsb, hsa] at e3 f3
  rw [hsa] at e2
  rw [HRR.out, HQQ.out, HPP.out]
  exact ⟨(e1.carry hab e1.lt).carry hbc (e1.carry hab e1.lt).lt, e2.carry hbc e2.lt, e3, f3⟩)
 have HL := Hi hl
 have HM := Hi hx
 have HY := Hi hy
 have HXK := Hi hxK
 have HYK := Hi hyK
 have HDIS := Hi hdis
 have HBW := Hi (And.intro hw0 hbw)
 have HTH : Hid (There K w) := Hi hl.there
 have HCH : Hid (∀ wr, Below w.heap.size w wr → Calls Tryz.prog 64 #[ptr P, ndV l2 y, vO] wr fun e w2 => ∃ lr xr v, e = .returned (.tuple #[ndV lr xr, v]) ∧ Kept (fun k => K k ∨ (w.heap.size ≤ k ∧ k < wr.heap.size)) wr w2 ∧ ReOut O w0 (fun k => K k ∨ (w.heap.size ≤ k ∧ k < wr.heap.size)) wr.heap.size P D n firm l2 R lr xr v w2) := Hi fun wr hb => by
  have h1 := HL.out.grow H hb
  have hnum : Nums wr .i64 (some ⟨gC, at_, none⟩) ((x.kids.drop at_).take many) := by
   have h2 := (HM.out.carry hb).is.kids
   rw [HCC.out] at h2
   exact nums_mid h2 at_ many
  have := change_any H h1 hg hs (HY.out.carry hb) (fun g hg => .inl (HYK.out g hg)) hys hnum (oc := l.cc - at_) (fun a ha _ => .inl (by cases ha; exact HXK.out _ (.inr (.inr ⟨_, HCC.out, rfl⟩)))) (by rw [List.length_take]; have := HMANY.out; omega)
  rw [← HVV.out, ← HRS.out] at this
  exact this.mono fun e w2 h => change_out H h h1.low
 have HCV : Hid (∀ bk ks S1, R = (.ok (bk, ks), S1) → ∀ z ∈ ks, 0 ≤ z ∧ z < 240) := Hi (fun bk ks S1 h => changeM_range hl.inv (HRS.out.symm.trans h))
 have hw8 := HW8.out
 have hw9 := HW9.out
 have hic := HIC.out
 clear hl hx hxK hr hki hy hyK hys hdis hbw hw0 hm1 hm2 hat h7 hin HC0 hcc hcm hs
 go_enter Tryz.func104, Tryz.ntmps104
 go_upto_region 1 with (fail)
 rw [← HW1.out, ← HPP.out, ← HQQ.out, ← HRR.out]
 clear HW1
 refine wp_region_held (S := fun w9 => NdBox w9 p l x ∧ NdBox w9 q l2 y) (by kernel_rfl) ?_
 change wpAnyH _ _ _ _ _ _ _ _ w1.drew
 obtain ⟨wa, HWA⟩ : ∃ wa, Hid (wa = w1.drew) := Hy
 rw [← HWA.out]
 have hdr : Below w1.heap.size w1 wa := by rw [HWA.out]; exact (Below.refl _ _).drew
 have HBA : Hid (Below w.heap.size w wa ∧ wa.heap.size = w.heap.size + 3) := Hi ⟨HB1.out.1.trans (hdr.mono HB1.out.1.size), by rw [HWA.out]; exact HB1.out.2⟩
 have HXA : Hid (NdBox wa p l x ∧ NdBox wa q l2 y ∧ NdBox wa r Lay3.none_ Nd.empty ∧ ∀ j, wa.frozen? ⟨r, j, none⟩ = false) := Hi ⟨HX1.out.1.carry hdr HX1.out.1.lt, HX1.out.2.1.carry hdr HX1.out.2.1.lt, HX1.out.2.2.1.carry hdr HX1.out.2.2.1.lt, frozen_below hdr HX1.out.2.2.1.lt HX1.out.2.2.2⟩
 have hS : NdBox wa p l x ∧ NdBox wa q l2 y := ⟨HXA.out.1, HXA.out.2.1⟩
 clear HWA hdr HB1 HX1
 refine takeK (i := 0) 15 (v := ptr P) rfl rfl hS ?_
 simp only [Act.put, pU]
 refine takeJ (i := 1) 16 (v := ndV l2 y) rfl rfl (yieldsIf_nd Tryz.ndProg (by rfl) _ rfl q rfl l2 y (fun _ h => h.2)) hS ?_
 simp only [Act.put, pU]
 refine takeK (i := 2) 17 (v := .pointer (some ⟨p, 2, none⟩)) rfl rfl hS ?_
 simp only [Act.put, pU]
 refine takeJ (i := 3) 18 (v := .slice (some ⟨gC, 0, none⟩) x.kids.length l.cc) rfl rfl (.inl ⟨by rfl, fun _ h => by have c2 := h.1.c2; rw [HCC.out] at c2; go_simp⟩) hS ?_
 simp only [Act.put, pU]
 refine takeK (i := 4) 19 (v := .int .i64 (at_ : Int)) rfl rfl hS ?_
 simp only [Act.put, pU]
 refine takeK (i := 5) 20 (v := .int .i64 (at_ : Int)) rfl rfl hS ?_
 simp only [Act.put, pU]
 refine takeK (i := 6) 21 (v := .int .i64 (many : Int)) rfl rfl hS ?_
 simp only [Act.put, pU]
 refine takeK (i := 7) 22 (v := .int .i64 (hi : Int)) rfl rfl hS ?_
 simp only [Act.put, pU]
 refine takeJ (i := 8) 23 (v := vO) rfl rfl (.inl ⟨by rfl, fun _ _ => by rw [HVO.out]; go_simp⟩) hS ?_
 simp only [Act.put, pU]
 refine twoH (i := 9) (j := 13) (oi := ⟨some 24, _, _, _, _, _⟩) (oj := ⟨some 12, _, _, _, _, _⟩) rfl rfl (by kernel_rfl) (fun K0 hK => ?_) (fun K0 hK => ?_)
 case' refine_1 =>
  go_simp
  refine (HCH.out wa HBA.out.1).mono ?_
  rintro e wn ⟨lr, xr, v, rfl, hk, ho⟩
  have hpl : w.heap.size ≤ p ∧ p < wa.heap.size ∧ w.heap.size ≤ q ∧ q < wa.heap.size ∧ w.heap.size ≤ r ∧ r < wa.heap.size ∧ p ≠ r := by rw [HRR.out, HQQ.out, HPP.out, HBA.out.2]; omega
  have hbp := hk.block p (.inr ⟨hpl.1, hpl.2.1⟩)
  have hbq := hk.block q (.inr ⟨hpl.2.2.1, hpl.2.2.2.1⟩)
  have hbr := hk.block r (.inr ⟨hpl.2.2.2.2.1, hpl.2.2.2.2.2.1⟩)
  have HKN := Hi hk
  have HON := Hi ho
  have HXN : Hid (NdBox wn p l x ∧ NdBox wn r Lay3.none_ Nd.empty ∧ ∀ j, wn.frozen? ⟨r, j, none⟩ = false) := Hi ⟨HXA.out.1.keep hbp, HXA.out.2.2.1.keep hbr, fun j => (World.frozen?_of_block (w := wa) (a := ⟨r, j, none⟩) hbr).trans (HXA.out.2.2.2 j)⟩
  have hS2 : NdBox wn p l x ∧ NdBox wn q l2 y := ⟨hS.1.keep hbp, hS.2.keep hbq⟩
  clear hk ho hbp hbq hbr hpl hS
  refine hK.out _ _ hS2 ?_
  clear hK K0
  have hS := hS2
  clear hS2
  refine takeK (i := 10) 14 (v := .tuple #[ndV lr xr, v]) rfl rfl hS ?_
  simp only [Act.put, pU]
  refine takeK (i := 11) 25 (v := ndV lr xr) rfl rfl hS ?_
  simp only [Act.put, pU]
  refine takeK (i := 12) 26 (v := v) rfl rfl hS ?_
  simp only [Act.put, pU]
  refine oneH (i := 13) (oi := ⟨some 12, _, _, _, _, _⟩) rfl (by kernel_rfl) (fun K0 hK => ?_)
  go_simp
  obtain ⟨c, HCB⟩ : ∃ c, Hid (c = wn.heap.size) := Hy
  obtain ⟨wc, HWwc⟩ : ∃ wc, Hid (wc = wn.alloc (.cells #[.slice none 0 0, .slice none 0 0, .slice none 0 0] 48)) := Hy
  rw [← HWwc.out, ← HCB.out]
  have HBB : Hid (Below wn.heap.size wn wc ∧ wc.heap.size = wn.heap.size + 1) := Hi (by rw [HWwc.out]; exact ⟨(Below.refl _ _).alloc (Nat.le_refl _) _, by simp⟩)
  have HXC : Hid (NdBox wc c Lay3.none_ Nd.empty ∧ ∀ j, wc.frozen? ⟨c, j, none⟩ = false) := Hi (by rw [HWwc.out, HCB.out]; exact ⟨NdBox.new (l := Lay3.none_) (x := Nd.empty) _, frozen_new1 _ _ _⟩)
  clear HWwc
  have hS2 : NdBox wc p l x ∧ NdBox wc q l2 y := ⟨hS.1.carry HBB.out.1 hS.1.lt, hS.2.carry HBB.out.1 hS.2.lt⟩
  clear hS
  refine hK.out _ _ hS2 ?_
  clear hK K0
  have hS := hS2
  clear hS2
  refine oneH (i := 14) (oi := ⟨none, _, _, _, _, _⟩) rfl (by kernel_rfl) (fun K0 hK => ?_)
  have HBC := Hi HXC.out.1
  have f0 := HXC.out.2 0
  have f1 := HXC.out.2 1
  have f2 := HXC.out.2 2
  have d0 := HBC.out.c0
  have d1 := HBC.out.c1
  have d2 := HBC.out.c2
  obtain ⟨wz, HWY⟩ : ∃ wz, Hid (wz = ((wc.setCell ⟨c, 0, none⟩ (.slice lr.A xr.keys.length lr.ca)).setCell ⟨c, 1, none⟩ (.slice lr.B xr.vals.length lr.cb)).setCell ⟨c, 2, none⟩ (.slice lr.C xr.kids.length lr.cc)) := Hy
  have HWZ : Hid (wz = store3 wc c lr xr) := Hi HWY.out
  go_simp
  rw [← HWY.out]
  clear d0 d1 d2 f0 f1 f2
  have HSC : Hid (ReS O w0 K w P D n firm p r c b l l2 x R lr xr v wz) := Hi (by
   have hpl : w.heap.size ≤ p ∧ p < wa.heap.size ∧ w.heap.size ≤ q ∧ q < wa.heap.size ∧ w.heap.size ≤ r ∧ r < wa.heap.size ∧ p ≠ r := by rw [HRR.out, HQQ.out, HPP.out, HBA.out.2]; omega
   have hsz := HKN.out.size
   have hsb := HBB.out.2
   have hcb := HCB.out
   have hba := HBA.out.1.size
   have hmn : NdMine wn b l x := (HM.out.carry HBA.out.1).keep HKN.out.size fun g hg => HKN.out.block g (.inl (HXK.out g hg))
   have hkn : Kept K w wn := (Kept.of_below HBA.out.1 HTH.out).trans (HKN.out.less8 fun k hk => .inl hk)
   refine ReS.make H HXN.out.1 HXN.out.2.1 HXN.out.2.2 hmn hkn HON.out ⟨by rw [HWZ.out]; exact HBB.out.1.os, by rw [HWZ.out]; exact HBB.out.1.tape, by rw [HWZ.out]; exact HBB.out.1.output, by rw [HWZ.out, store3_size]; exact HBB.out.1.size, fun k hk => by rw [HWZ.out, store3_far hk.2]; exact HBB.out.1.block k hk.1⟩ (by rw [HWZ.out]; exact store3_box HXC.out.1) (fun h => by omega) (fun k hk => ?_) (by omega) (by omega) hpl.2.2.2.2.2.2 hpl.1 hpl.2.2.2.2.1 (by omega) (by omega) (by omega) HTH.out HYK.out HXK.out (Nat.le_trans HBW.out.1 HBW.out.2) HL.out.low
   rcases hk with hk | hk | hk
   ·exact .inl hk
   ·exact .inr ⟨by omega, by omega⟩
   ·exact .inr ⟨by omega, by omega⟩)
  have hS2 : NdBox wz p l x ∧ NdBox wz q l2 y := ⟨HSC.out.bp, hS.2.keep (by rw [HWZ.out]; exact store3_far (by have := hS.2.lt; have := HBB.out.2; have := HKN.out.size; have := HCB.out; have := HQQ.out; have := HPP.out; have := HBA.out.2; omega))⟩
  clear hS
  refine hK.out _ _ hS2 ?_
  clear hK K0
  have hS := hS2
  clear hS2
  refine takeK (i := 15) 13 (v := v) rfl rfl hS ?_
  simp only [Act.put, pU]
  refine wpAnyH_done (by kernel_rfl) ?_ _
 case' refine_2 =>
  go_simp
  obtain ⟨c, HCB⟩ : ∃ c, Hid (c = wa.heap.size) := Hy
  obtain ⟨wb, HWwb⟩ : ∃ wb, Hid (wb = wa.alloc (.cells #[.slice none 0 0, .slice none 0 0, .slice none 0 0] 48)) := Hy
  rw [← HWwb.out, ← HCB.out]
  have HBB : Hid (Below wa.heap.size wa wb ∧ wb.heap.size = wa.heap.size + 1) := Hi (by rw [HWwb.out]; exact ⟨(Below.refl _ _).alloc (Nat.le_refl _) _, by simp⟩)
  have HXC : Hid (NdBox wb c Lay3.none_ Nd.empty ∧ ∀ j, wb.frozen? ⟨c, j, none⟩ = false) := Hi (by rw [HWwb.out, HCB.out]; exact ⟨NdBox.new (l := Lay3.none_) (x := Nd.empty) _, frozen_new1 _ _ _⟩)
  clear HWwb
  have HBB2 : Hid (Below w.heap.size w wb) := Hi (HBA.out.1.trans (HBB.out.1.mono HBA.out.1.size))
  have HXB : Hid (NdBox wb p l x ∧ NdBox wb r Lay3.none_ Nd.empty ∧ ∀ j, wb.frozen? ⟨r, j, none⟩ = false) := Hi ⟨HXA.out.1.carry HBB.out.1 HXA.out.1.lt, HXA.out.2.2.1.carry HBB.out.1 HXA.out.2.2.1.lt, frozen_below HBB.out.1 HXA.out.2.2.1.lt HXA.out.2.2.2⟩
  have hS2 : NdBox wb p l x ∧ NdBox wb q l2 y := ⟨hS.1.carry HBB.out.1 hS.1.lt, hS.2.carry HBB.out.1 hS.2.lt⟩
  clear hS
  refine hK.out _ _ hS2 ?_
  clear hK K0
  have hS := hS2
  clear hS2
  refine oneH (i := 9) (oi := ⟨some 24, _, _, _, _, _⟩) rfl (by kernel_rfl) (fun K0 hK => ?_)
  go_simp
  refine (HCH.out wb HBB2.out).mono ?_
  rintro e wn ⟨lr, xr, v, rfl, hk, ho⟩
  have hpl : w.heap.size ≤ p ∧ p < wa.heap.size ∧ w.heap.size ≤ q ∧ q < wa.heap.size ∧ w.heap.size ≤ r ∧ r < wa.heap.size ∧ p ≠ r := by rw [HRR.out, HQQ.out, HPP.out, HBA.out.2]; omega
  have hsb := HBB.out.2
  have hcb := HCB.out
  have hba := HBA.out.1.size
  have hbp := hk.block p (.inr ⟨hpl.1, by omega⟩)
  have hbq := hk.block q (.inr ⟨hpl.2.2.1, by omega⟩)
  have hbr := hk.block r (.inr ⟨hpl.2.2.2.2.1, by omega⟩)
  have hbc := hk.block c (.inr ⟨by omega, by omega⟩)
  have HKN := Hi hk
  have HON := Hi ho
  have HXN : Hid (NdBox wn p l x ∧ NdBox wn r Lay3.none_ Nd.empty ∧ ∀ j, wn.frozen? ⟨r, j, none⟩ = false) := Hi ⟨HXB.out.1.keep hbp, HXB.out.2.1.keep hbr, fun j => (World.frozen?_of_block (w := wb) (a := ⟨r, j, none⟩) hbr).trans (HXB.out.2.2 j)⟩
  have HXC : Hid (NdBox wn c Lay3.none_ Nd.empty ∧ ∀ j, wn.frozen? ⟨c, j, none⟩ = false) := Hi ⟨HXC.out.1.keep hbc, fun j => (World.frozen?_of_block (w := wb) (a := ⟨c, j, none⟩) hbc).trans (HXC.out.2 j)⟩
  have hS2 : NdBox wn p l x ∧ NdBox wn q l2 y := ⟨hS.1.keep hbp, hS.2.keep hbq⟩
  clear hk ho hbp hbq hbr hbc hpl hS hsb hcb hba
  refine hK.out _ _ hS2 ?_
  clear hK K0
  have hS := hS2
  clear hS2
  refine takeK (i := 10) 14 (v := .tuple #[ndV lr xr, v]) rfl rfl hS ?_
  simp only [Act.put, pU]
  refine takeK (i := 11) 25 (v := ndV lr xr) rfl rfl hS ?_
  simp only [Act.put, pU]
  refine takeK (i := 12) 26 (v := v) rfl rfl hS ?_
  simp only [Act.put, pU]
  refine oneH (i := 14) (oi := ⟨none, _, _, _, _, _⟩) rfl (by kernel_rfl) (fun K0 hK => ?_)
  have HBC := Hi HXC.out.1
  have f0 := HXC.out.2 0
  have f1 := HXC.out.2 1
  have f2 := HXC.out.2 2
  have d0 := HBC.out.c0
  have d1 := HBC.out.c1
  have d2 := HBC.out.c2
  obtain ⟨wz, HWY⟩ : ∃ wz, Hid (wz = ((wn.setCell ⟨c, 0, none⟩ (.slice lr.A xr.keys.length lr.ca)).setCell ⟨c, 1, none⟩ (.slice lr.B xr.vals.length lr.cb)).setCell ⟨c, 2, none⟩ (.slice lr.C xr.kids.length lr.cc)) := Hy
  have HWZ : Hid (wz = store3 wn c lr xr) := Hi HWY.out
  go_simp
  rw [← HWY.out]
  clear d0 d1 d2 f0 f1 f2
  have HSC : Hid (ReS O w0 K w P D n firm p r c b l l2 x R lr xr v wz) := Hi (by
   have hpl : w.heap.size ≤ p ∧ p < wa.heap.size ∧ w.heap.size ≤ q ∧ q < wa.heap.size ∧ w.heap.size ≤ r ∧ r < wa.heap.size ∧ p ≠ r := by rw [HRR.out, HQQ.out, HPP.out, HBA.out.2]; omega
   have hsz := HKN.out.size
   have hsb := HBB.out.2
   have hcb := HCB.out
   have hba := HBA.out.1.size
   have hmn : NdMine wn b l x := (HM.out.carry HBB2.out).keep HKN.out.size fun g hg => HKN.out.block g (.inl (HXK.out g hg))
   have hkn : Kept K w wn := (Kept.of_below HBB2.out HTH.out).trans (HKN.out.less8 fun k hk => .inl hk)
   refine ReS.make H HXN.out.1 HXN.out.2.1 HXN.out.2.2 hmn hkn HON.out ⟨by rw [HWZ.out]; rfl, by rw [HWZ.out]; rfl, by rw [HWZ.out]; rfl, by rw [HWZ.out, store3_size]; exact Nat.le_refl _, fun k hk => by rw [HWZ.out]; exact store3_far hk.2⟩ (by rw [HWZ.out]; exact store3_box HXC.out.1) (fun h => ⟨.inr ⟨by omega, by omega⟩, by omega⟩) (fun k hk => ?_) (by omega) (by omega) hpl.2.2.2.2.2.2 hpl.1 hpl.2.2.2.2.1 (by omega) (by omega) (by omega) HTH.out HYK.out HXK.out (Nat.le_trans HBW.out.1 HBW.out.2) HL.out.low
   rcases hk with hk | hk | hk
   ·exact .inl hk
   ·exact .inr ⟨by omega, by omega⟩
   ·exact .inr ⟨by omega, by omega⟩)
  have hS2 : NdBox wz p l x ∧ NdBox wz q l2 y := ⟨HSC.out.bp, hS.2.keep (by rw [HWZ.out]; exact store3_far (by have := hS.2.lt; have := HBB.out.2; have := HKN.out.size; have := HCB.out; have := HQQ.out; have := HPP.out; have := HBA.out.2; omega))⟩
  clear hS
  refine hK.out _ _ hS2 ?_
  clear hK K0
  have hS := hS2
  clear hS2
  refine takeK (i := 15) 13 (v := v) rfl rfl hS ?_
  simp only [Act.put, pU]
  refine wpAnyH_done (by kernel_rfl) ?_ _
 all_goals
  clear HXN HKN HON HXC HCB HBB HXA HBA HCH HWZ HWY
  obtain ⟨lo, hrl, hwl, hlaw, hcase⟩ := HSC.out.out
  have HLO := Hi (And.intro hrl hwl)
  obtain ⟨R1, S2⟩ := R
  have HLW := Hi hlaw
  rcases hcase with ⟨cd, e1, e2, rfl, rfl, e5⟩ | ⟨bk, ks, e1, rfl, rfl, e4, e5, e6, e7, e8⟩
  ·obtain rfl : R1 = .error cd := e1
   obtain ⟨tt, xx, rfl⟩ := e5.some e2
   have HE := Hi e5
   have HC0 := Hi e2
   clear e2 e5 hrl hwl hlaw hS
   have f0 := HSC.out.fr 0
   have f1 := HSC.out.fr 1
   have f2 := HSC.out.fr 2
   have d0 := HSC.out.br.c0
   have d1 := HSC.out.br.c1
   have d2 := HSC.out.br.c2
   obtain ⟨w6, HW6⟩ : ∃ w6, Hid (w6 = ((wz.setCell ⟨r, 0, none⟩ (.slice none 0 0)).setCell ⟨r, 1, none⟩ (.slice none 0 0)).setCell ⟨r, 2, none⟩ (.slice none 0 0)) := Hy
   have HS6 : Hid (w6 = store3 wz r Lay3.none_ Nd.empty) := Hi HW6.out
   have HX6 : Hid (NdBox w6 r Lay3.none_ Nd.empty) := Hi (by rw [HS6.out]; exact store3_box HSC.out.br)
   have HT6 : Hid (Turn (fun k => k = r) wz w6) := Hi ⟨by rw [HS6.out]; rfl, by rw [HS6.out]; rfl, by rw [HS6.out]; rfl, by rw [HS6.out, store3_size]; exact Nat.le_refl _, fun k hk => by rw [HS6.out]; exact store3_far hk.2⟩
   go_wp2_with fail
   rw [← HW6.out, HRE.out]
   refine bodyPost_ret (results_nd2 Tryz.ndProg rfl _ _ r Lay3.none_ Nd.empty (.iface tt xx) rfl rfl HX6.out) rfl ?_
   have hwr := HSC.out.wr_
   have hbw := HBW.out
   refine ⟨?_, ?_, HC0.out, _, rfl, ?_⟩
   ·exact (HSC.out.kept.less8 fun k hk => hk.1).trans ⟨HT6.out.os, HT6.out.tape, HT6.out.output, HT6.out.size, fun k hk => HT6.out.block k ⟨by have := HTH.out k hk.1; have := HSC.out.kept.size; omega, fun e => by have := HTH.out k hk.1; omega⟩⟩
   ·refine HLW.out.off H HT6.out (fun k hk => ⟨.inl (.inr (.inr (.inl hk))), by have hk' : k = r := hk; omega⟩) (fun k hk => .inl (.inl (.inl hk))) (fun k hk => ?_) HL.out.low
    have := HTH.out k hk
    have := HSC.out.kept.size
    have := HT6.out.size
    omega
   ·rw [HS6.out]
    exact (store3_err HE.out HLO.out.1).mono HLO.out.2
  ·obtain rfl : R1 = .ok (bk, ks) := e1
   have HE4 := Hi e4
   have HE5 := Hi e5
   have HE6 := Hi e6
   have HE7 := Hi e7
   have HE8 := Hi e8
   have HKS := Hi (HCV.out bk ks S2 rfl)
   obtain ⟨HBK, HKL⟩ : Hid (bk = (partsN y).2) ∧ Hid (ks.length = bk.length + 1) := ⟨Hi (changeM_row HRS.out.symm).1, Hi (changeM_row HRS.out.symm).2⟩
   have HBL : Hid (bk.length ≤ 1) := Hi (by rw [HBK.out]; exact partsN_keys_few y)
   clear e4 e5 e6 e7 e8 hrl hwl hlaw hS HCV
   have HNH : Hid (∀ g, w.heap.size ≤ g → ¬ l.has g) := Hi fun g hg h => by have := HTH.out g (HXK.out g h); omega
   obtain ⟨ko, HKO⟩ : ∃ ko, Hid (ko = x.keys.take at_ ++ bk ++ x.keys.drop j) := Hy
   obtain ⟨co, HCO⟩ : ∃ co, Hid (co = x.kids.take at_ ++ ks ++ x.kids.drop hi) := Hy
   go_upto_region 4 with (fail)
   refine wp_region_held (S := fun w9 => ReT p c l x lr ⟨bk, [], ks⟩ w9) (by kernel_rfl) ?_
   change wpAnyH _ _ _ _ _ _ _ _ wz.drew
   obtain ⟨wd, HWD⟩ : ∃ wd, Hid (wd = wz.drew) := Hy
   rw [← HWD.out]
   have hdr : Below wz.heap.size wz wd := by rw [HWD.out]; exact (Below.refl _ _).drew
   have HU : Hid (ReU O w0 K P D n firm p r c l x S2 lr ⟨bk, [], ks⟩ wz (fun _ => False) wd) := Hi (by
    have h1 := HSC.out.bp.lt
    have h2 := HSC.out.br.lt
    have h3 := HSC.out.bc.lt
    refine ⟨⟨HSC.out.bp.carry hdr h1, HSC.out.bc.carry hdr h3⟩, HSC.out.br.carry hdr h2, frozen_below hdr h2 HSC.out.fr, ?_, Turn.of_below hdr, HNH.out p HSC.out.wp, HNH.out r HSC.out.wr_, HNH.out c HSC.out.wc, fun g hg => ⟨HXK.out g hg, ?_⟩, HL.out.low⟩
    ·refine (HLW.out.carry H hdr).less H (fun k hk => ?_) fun k hk => .inl (HL.out.low k hk)
     rcases hk with hk | hk | hk | hk | hk | hk
     ·exact .inl (.inl hk)
     ·exact .inl (.inr (.inl hk))
     ·exact .inl (.inr (.inr (.inl hk)))
     ·exact .inl (.inr (.inr (.inr hk)))
     ·exact .inr hk
     ·exact hk.elim
    ·have := HSC.out.mi.lt g hg
     have := HBW.out
     omega)
   have HMX : Hid (NdMine wd b l x) := Hi (HSC.out.mi.carry hdr)
   have HMY : Hid (NdMine wd b2 l2 y) := Hi ((HY.out.keep HSC.out.kept.size fun g hg => HSC.out.kept.block g (HYK.out g hg)).carry hdr)
   have HRN : Hid (Nums wd .i64 lr.A bk) := Hi (HE4.out.carry hdr)
   have HRK : Hid (wd.ownsRow lo 3 1 (.slice lr.C ks.length lr.cc) ks.length (ks.map (Value.int .i64))) := Hi (own_turn HE6.out (Turn.of_below (M := fun _ => False) hdr) fun _ _ h => h)
   have HSZE : Hid (wz.heap.size ≤ wd.heap.size) := Hi hdr.size
   have HSZD : Hid (w.heap.size ≤ wd.heap.size) := Hi (Nat.le_trans HSC.out.kept.size hdr.size)
   have hS := HU.out.t
   clear HWD hdr HE4 HE6 HLW
   refine takeK (i := 0) 31 (v := .pointer (some ⟨p, 0, none⟩)) rfl rfl hS ?_
   simp only [Act.put, pU]
   refine takeJ (i := 1) 32 (v := .slice l.A x.keys.length l.ca) rfl rfl (.inl ⟨by rfl, fun _ h => by have c0 : _ = some (Value.slice l.A x.keys.length l.ca) := h.bp.c0; go_simp⟩) hS ?_
   simp only [Act.put, pU]
   refine takeK (i := 2) 33 (v := .int .i64 (at_ : Int)) rfl rfl hS ?_
   simp only [Act.put, pU]
   refine takeK (i := 3) 34 (v := .int .i64 (at_ : Int)) rfl rfl hS ?_
   simp only [Act.put, pU]
   refine takeK (i := 4) 35 (v := .int .i64 (many : Int)) rfl rfl hS ?_
   simp only [Act.put, pU]
   refine takeK (i := 5) 36 (v := .int .i64 (hi : Int)) rfl rfl hS ?_
   simp only [Act.put, pU]
   refine takeK (i := 6) 37 (v := .int .i64 (j : Int)) rfl rfl hS ?_
   simp only [Act.put, pU]
   refine takeK (i := 7) 38 (v := .pointer (some ⟨c, 0, none⟩)) rfl rfl hS ?_
   simp only [Act.put, pU]
   refine takeJ (i := 8) 39 (v := .slice lr.A bk.length lr.ca) rfl rfl (.inl ⟨by rfl, fun _ h => by have c0 : _ = some (Value.slice lr.A bk.length lr.ca) := h.bc.c0; go_simp⟩) hS ?_
   simp only [Act.put, pU]
   refine takeK (i := 10) 41 (v := .pointer (some ⟨p, 2, none⟩)) rfl rfl hS ?_
   simp only [Act.put, pU]
   refine takeJ (i := 11) 42 (v := .slice l.C x.kids.length l.cc) rfl rfl (.inl ⟨by rfl, fun _ h => by have c0 : _ = some (Value.slice l.C x.kids.length l.cc) := h.bp.c2; go_simp⟩) hS ?_
   simp only [Act.put, pU]
   refine takeK (i := 12) 43 (v := .int .i64 (at_ : Int)) rfl rfl hS ?_
   simp only [Act.put, pU]
   refine takeK (i := 13) 44 (v := .int .i64 (at_ : Int)) rfl rfl hS ?_
   simp only [Act.put, pU]
   refine takeK (i := 14) 45 (v := .int .i64 (many : Int)) rfl rfl hS ?_
   simp only [Act.put, pU]
   refine takeK (i := 15) 46 (v := .int .i64 (hi : Int)) rfl rfl hS ?_
   simp only [Act.put, pU]
   refine takeK (i := 16) 47 (v := .pointer (some ⟨c, 2, none⟩)) rfl rfl hS ?_
   simp only [Act.put, pU]
   refine takeJ (i := 17) 48 (v := .slice lr.C ks.length lr.cc) rfl rfl (.inl ⟨by rfl, fun _ h => by have c0 : _ = some (Value.slice lr.C ks.length lr.cc) := h.bc.c2; go_simp⟩) hS ?_
   simp only [Act.put, pU]
   refine oneH (i := 9) (oi := ⟨some 40, _, _, _, _, _⟩) rfl (by kernel_rfl) (fun K0 hK => ?_)
   go_simp
   have hrk : RepIn wd l.A lr.A lr.ca bk := by
    by_cases hbk : bk = []
    ·exact ⟨fun _ => HE8.out hbk, fun h => absurd hbk h⟩
    ·refine repIn_keys HMY.out ?_ (fun a ha => (HE7.out a ha).1) HE8.out HRN.out (fun a cc ha hc e => HDIS.out a.block (.inl ⟨a, ha, rfl⟩) (.inl ⟨cc, hc, e.symm⟩)) (fun a ha => (HE7.out a ha).2)
     rcases Nat.eq_zero_or_pos y.keys.length with h | h
     ·refine absurd ?_ hbk
      rw [HBK.out]
      unfold partsN
      rw [if_pos (by omega)]
     ·exact h
   have hsz := HSZ.out
   have hmn := HMANY.out
   refine (rep_ints HMX.out.k hsz.2.2.2 (i := at_) (j := j) (by rw [HJ.out]; omega) (by rw [HJ.out]; omega) hrk (by have := HBL.out; omega) (Nat.le_trans HBW.out.2 HSZD.out)).mono ?_
   rw [← HKO.out]
   rintro e w5 ⟨A2, cA, rfl, hown, hbl, ht⟩
   have hAl : ∀ k, (∃ a, l.A = some a ∧ a.block = k) → l.has k := fun k h => .inl h
   have HU5 : Hid (ReU O w0 K P D n firm p r c l x S2 lr ⟨bk, [], ks⟩ wz (fun k => ∃ a, A2 = some a ∧ a.block = k) w5) := Hi (HU.out.step H ht hAl (fun k ⟨a, ha, hk⟩ => by
     rcases hbl a ha with h | h
     ·exact .inr (.inl (.inl ⟨a, h, hk⟩))
     ·exact .inr (.inr (by omega))) fun k ⟨a, ha, hk⟩ => by
     have := (hown.lt a.block (by rw [ha]; rfl)).2
     omega)
   have HK5 := Hi hown
   have HC5 : Hid (w5.ownsRow b 3 1 (.slice l.C x.kids.length l.cc) x.kids.length (x.kids.map (Value.int .i64))) := Hi (own_turn HMX.out.c ht fun g hg ⟨a, e1, e2⟩ => by
    cases hC : l.C with
    | none => rw [hC] at hg; cases hg
    | some cc => rw [hC] at hg; cases hg; exact HMX.out.akc a cc e1 hC e2)
   have HR5 : Hid (w5.ownsRow lo 3 1 (.slice lr.C ks.length lr.cc) ks.length (ks.map (Value.int .i64))) := Hi (own_turn HRK.out ht fun g hg ⟨a, e1, e2⟩ => by
    have h1 := (HRK.out.lt g hg).1
    have h2 := HTH.out _ (HXK.out _ (hAl _ ⟨a, e1, e2⟩))
    have h3 := HLO.out
    omega)
   have HA5 : Hid (∀ a, A2 = some a → (l.A = some a ∨ wd.heap.size ≤ a.block) ∧ a.block < w5.heap.size) := Hi fun a ha => ⟨hbl a ha, (hown.lt a.block (by rw [ha]; rfl)).2⟩
   have HSZ5 : Hid (wd.heap.size ≤ w5.heap.size) := Hi ht.size
   refine hK.out _ _ HU5.out.t ?_
   clear hK K0 hS hown hbl ht hrk HU hsz hmn HRK HRN HMY
   have hS := HU5.out.t
   refine oneH (i := 18) (oi := ⟨some 49, _, _, _, _, _⟩) rfl (by kernel_rfl) (fun K0 hK => ?_)
   go_simp
   have hrk : RepIn w5 l.C lr.C lr.cc ks := by
    have hkp : 0 < ks.length := by have := HKL.out; omega
    refine ⟨fun h => by rw [h] at hkp; exact absurd hkp (by decide), fun _ => ?_⟩
    obtain ⟨g, lv, e1, e2, e3⟩ := own_vrow HR5.out hkp
    refine ⟨g, 0, _, lv, e1, e2, fun k v hv => ?_, fun a ha e => ?_⟩
    ·rw [← e3, List.getElem?_take] at hv
     rw [Nat.zero_add]
     split at hv
     ·exact hv
     ·cases hv
    ·have h1 := (HR5.out.lt g (by rw [e1]; rfl)).1
     have h2 := HTH.out _ (HXK.out _ (.inr (.inr ⟨a, ha, rfl⟩)))
     have h3 := HLO.out
     omega
   have hsz := HSZ.out
   have hmn := HMANY.out
   refine (rep_ints HC5.out (by omega) (i := at_) (j := hi) (by rw [HHI.out]; omega) (by rw [HHI.out]; omega) hrk (by have := HBL.out; have := HKL.out; omega) (Nat.le_trans HBW.out.2 (Nat.le_trans HSZD.out HSZ5.out))).mono ?_
   rw [← HCO.out]
   rintro e w6 ⟨C2, cC, rfl, hown, hbl, ht⟩
   have hCl : ∀ k, (∃ a, l.C = some a ∧ a.block = k) → l.has k := fun k h => .inr (.inr h)
   have HU6 : Hid (ReU O w0 K P D n firm p r c l x S2 lr ⟨bk, [], ks⟩ wz (fun k => (∃ a, A2 = some a ∧ a.block = k) ∨ ∃ a, C2 = some a ∧ a.block = k) w6) := Hi (HU5.out.step H ht hCl (fun k hk => by
     rcases hk with hk | ⟨a, ha, hk⟩
     ·exact .inl hk
     ·rcases hbl a ha with h | h
      ·exact .inr (.inl (.inr (.inr ⟨a, h, hk⟩)))
      ·exact .inr (.inr (by omega))) fun k hk => by
     rcases hk with ⟨a, ha, hk⟩ | ⟨a, ha, hk⟩
     ·have := (HA5.out a ha).2
      have := ht.size
      omega
     ·have := (hown.lt a.block (by rw [ha]; rfl)).2
      omega)
   have HC6 := Hi hown
   have HAC : Hid (∀ a cc, A2 = some a → C2 = some cc → a.block ≠ cc.block) := Hi fun a cc ha hc e => by
    rcases hbl cc hc with h1 | h1
    ·rcases (HA5.out a ha).1 with h2 | h2
     ·exact HMX.out.akc a cc h2 h1 e
     ·have h3 := HTH.out _ (HXK.out _ (hCl _ ⟨cc, h1, rfl⟩))
      have := HSZD.out
      omega
    ·have := (HA5.out a ha).2
     omega
   have HK6 : Hid (w6.ownsRow b 3 1 (.slice A2 ko.length cA) ko.length (ko.map (Value.int .i64))) := Hi (own_turn HK5.out ht fun g hg ⟨cc, e1, e2⟩ => by
    cases hA : A2 with
    | none => rw [hA] at hg; cases hg
    | some a =>
     rw [hA] at hg; cases hg
     rcases (HA5.out a hA).1 with h2 | h2
     ·exact HMX.out.akc a cc h2 e1 e2.symm
     ·have h3 := HTH.out _ (HXK.out _ (hCl _ ⟨cc, e1, rfl⟩))
      have := HSZD.out
      omega)
   have HCB6 : Hid (∀ a, C2 = some a → l.C = some a ∨ wd.heap.size ≤ a.block) := Hi fun a ha => (hbl a ha).imp id fun h => Nat.le_trans HSZ5.out h
   refine hK.out _ _ HU6.out.t ?_
   clear hK K0 hS hown hbl ht hrk HU5 hsz hmn HC5 HR5 HK5
   have hS := HU6.out.t
   refine takeK (i := 19) 50 (v := .agg #[.slice A2 ko.length cA, .slice none 0 0, .slice C2 co.length cC]) rfl rfl hS ?_
   simp only [Act.put, pU]
   refine oneH (i := 20) (oi := ⟨none, _, _, _, _, _⟩) rfl (by kernel_rfl) (fun K0 hK => ?_)
   have f0 := HU6.out.fr 0
   have f1 := HU6.out.fr 1
   have f2 := HU6.out.fr 2
   have d0 := HU6.out.br.c0
   have d1 := HU6.out.br.c1
   have d2 := HU6.out.br.c2
   obtain ⟨xo, HXO⟩ : ∃ xo : Nd, Hid (xo = ⟨ko, [], co⟩) := Hy
   obtain ⟨w7, HW7⟩ : ∃ w7, Hid (w7 = ((w6.setCell ⟨r, 0, none⟩ (.slice A2 ko.length cA)).setCell ⟨r, 1, none⟩ (.slice none 0 0)).setCell ⟨r, 2, none⟩ (.slice C2 co.length cC)) := Hy
   have HS7 : Hid (w7 = store3 w6 r ⟨A2, none, C2, cA, 0, cC⟩ xo) := Hi (by rw [HXO.out]; exact HW7.out)
   have HX7 : Hid (NdBox w7 r ⟨A2, none, C2, cA, 0, cC⟩ xo) := Hi (by rw [HS7.out]; exact store3_box HU6.out.br)
   have HT7 : Hid (Turn (fun k => k = r) w6 w7) := Hi ⟨by rw [HS7.out]; rfl, by rw [HS7.out]; rfl, by rw [HS7.out]; rfl, by rw [HS7.out, store3_size]; exact Nat.le_refl _, fun k hk => by rw [HS7.out]; exact store3_far hk.2⟩
   go_simp
   rw [← HW7.out]
   have hS2 : ReT p c l x lr ⟨bk, [], ks⟩ w7 := ⟨hS.bp.keep (HT7.out.block p ⟨hS.bp.lt, HSC.out.pr⟩), hS.bc.keep (HT7.out.block c ⟨hS.bc.lt, HSC.out.cr⟩)⟩
   refine hK.out _ _ hS2 ?_
   clear hK K0 hS d0 d1 d2 f0 f1 f2
   have hS := hS2
   clear hS2
   refine takeK (i := 21) 11 (v := .nilIface) rfl rfl hS ?_
   simp only [Act.put, pU]
   refine wpAnyH_done (by kernel_rfl) ?_ _
   go_wp2_with fail
   rw [HRE.out]
   refine bodyPost_ret (results_nd2 Tryz.ndProg rfl _ _ r ⟨A2, none, C2, cA, 0, cC⟩ xo .nilIface rfl rfl HX7.out) rfl ?_
   have hwr := HSC.out.wr_
   have hbw := HBW.out
   have hnA : ∀ a, A2 = some a → a.block ≠ r := fun a ha e => by
    rcases (HA5.out a ha).1 with h | h
    ·have := HTH.out _ (HXK.out _ (.inl ⟨a, h, rfl⟩)); omega
    ·have := HSC.out.br.lt; have := HSZE.out; omega
   have hnC : ∀ a, C2 = some a → a.block ≠ r := fun a ha e => by
    rcases HCB6.out a ha with h | h
    ·have := HTH.out _ (HXK.out _ (.inr (.inr ⟨a, h, rfl⟩))); omega
    ·have := HSC.out.br.lt; have := HSZE.out; omega
   have hxo : xo = ⟨x.keys.take at_ ++ bk ++ x.keys.drop (at_ + many - 1), [], x.kids.take at_ ++ ks ++ x.kids.drop (at_ + many)⟩ := by rw [HXO.out, HKO.out, HCO.out, HJ.out, HHI.out]
   rw [← hxo]
   refine ⟨?_, ⟨A2, none, C2, cA, 0, cC⟩, ?_, rfl, ?_, ?_⟩
   ·have h1 := HSC.out.kept.less8 (K := fun g => K g ∧ ¬ l.has g) fun k hk => hk.1
    have h2 := HU6.out.turn
    have h3 := HT7.out
    refine h1.trans ⟨h3.os.trans h2.os, h3.tape.trans h2.tape, h3.output.trans h2.output, Nat.le_trans h2.size h3.size, fun k hk => ?_⟩
    have h4 := HTH.out k hk.1
    have h5 := HSC.out.kept.size
    exact (h3.block k ⟨by have := h2.size; omega, fun e => by have e' : k = r := e; omega⟩).trans (h2.block k ⟨by omega, hk.2⟩)
   ·refine HU6.out.law.off H HT7.out (fun k hk => ⟨.inr (.inr (.inl hk)), by have hk' : k = r := hk; omega⟩) (fun k hk => ?_) (fun k hk => ?_) fun k hk => .inl (HL.out.low k hk)
    ·rcases hk with hk | ⟨a, ha, hk⟩ | ⟨a, ha, hk⟩ | ⟨a, ha, hk⟩
     ·exact .inl (.inl hk)
     ·exact .inl (.inr (.inr (.inr (.inr (.inr (.inl ⟨a, ha, hk⟩))))))
     ·cases ha
     ·exact .inl (.inr (.inr (.inr (.inr (.inr (.inr ⟨a, ha, hk⟩))))))
    ·have h7 := HT7.out.size
     have h8 := HU6.out.law.there
     rcases hk with hk | ⟨a, ha, hk⟩ | ⟨a, ha, hk⟩ | ⟨a, ha, hk⟩
     ·exact Nat.lt_of_lt_of_le (h8 k (.inl hk)) h7
     ·exact Nat.lt_of_lt_of_le (h8 k (.inr (.inr (.inr (.inr (.inr (.inl ⟨a, ha, hk⟩))))))) h7
     ·cases ha
     ·exact Nat.lt_of_lt_of_le (h8 k (.inr (.inr (.inr (.inr (.inr (.inr ⟨a, ha, hk⟩))))))) h7
   ·rw [HXO.out]
    refine NdMine.of_own (own_turn HK6.out HT7.out ?_) (World.ownsRow_nil _ _ _ _) (own_turn HC6.out HT7.out ?_) (fun _ _ _ h => (by cases h)) HAC.out (fun _ _ h _ => (by cases h)) ?_ (Nat.zero_le _) ?_ ?_ (fun z hz => (by cases hz)) ?_
    ·intro g hg e
     cases hA : A2 with
     | none => rw [hA] at hg; cases hg
     | some a => rw [hA] at hg; cases hg; exact hnA a hA e
    ·intro g hg e
     cases hA : C2 with
     | none => rw [hA] at hg; cases hg
     | some a => rw [hA] at hg; cases hg; exact hnC a hA e
    ·show ko.length ≤ 100
     rw [HKO.out]; have := HSZ.out; have := HBL.out; simp; omega
    ·show co.length ≤ 101
     rw [HCO.out]; have := HSZ.out; have := HBL.out; have := HKL.out; simp; omega
    ·intro z hz
     have hz2 : z ∈ x.keys.take at_ ++ bk ++ x.keys.drop j := by rw [← HKO.out]; exact hz
     rcases List.mem_append.1 hz2 with h | h
     ·rcases List.mem_append.1 h with h | h
      ·exact HMX.out.is.kw z (List.mem_of_mem_take h)
      ·rw [HBK.out] at h
       exact HY.out.is.kw z (partsN_mem h)
     ·exact HMX.out.is.kw z (List.mem_of_mem_drop h)
    ·intro z hz
     have hz2 : z ∈ x.kids.take at_ ++ ks ++ x.kids.drop hi := by rw [← HCO.out]; exact hz
     rcases List.mem_append.1 hz2 with h | h
     ·rcases List.mem_append.1 h with h | h
      ·exact HMX.out.is.cw z (List.mem_of_mem_take h)
      ·have := HKS.out z h
       omega
     ·exact HMX.out.is.cw z (List.mem_of_mem_drop h)
   ·rintro g (⟨a, e, rfl⟩ | ⟨a, e, rfl⟩ | ⟨a, e, rfl⟩)
    ·exact (HA5.out a e).1.imp (fun h => .inl ⟨a, h, rfl⟩) fun h => Nat.le_trans HSZD.out h
    ·cases e
    ·exact (HCB6.out a e).imp (fun h => .inr (.inr ⟨a, h, rfl⟩)) fun h => Nat.le_trans HSZD.out h
end
end Go.Proofs.YtafclmbecmgbnaaGreatDoor
