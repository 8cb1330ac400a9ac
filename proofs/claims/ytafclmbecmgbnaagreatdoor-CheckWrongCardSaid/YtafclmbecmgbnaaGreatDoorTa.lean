/-
  Ta: several texts in one file. Conditions: as each part says.
-/
import Derived.Test.YtafclmbecmgbnaaGreatDoorNds
import Derived.Test.YtafclmbecmgbnaaGreatDoorPgLaw
import Derived.Test.YtafclmbecmgbnaaGreatDoorDisks
import Derived.Test.YtafclmbecmgbnaaGreatDoorSm
import Derived.Test.YtafclmbecmgbnaaGreatDoorTrModel
/-
 TrBox. Conditions: as each theorem says.
-/
namespace Go.Proofs.YtafclmbecmgbnaaGreatDoor
open Go.RowKit
theorem frozen_new1 (w : World) (cs : Array Value) (t : TypeId) (j : Nat) : (w.alloc (.cells cs t)).frozen? ⟨w.heap.size, j, none⟩ = false := by
 unfold World.frozen? World.alloc
 simp
theorem frozen_below {B : Nat} {w w' : World} (hb : Below B w w') {p : Nat} (hp : p < B) (h : ∀ j, w.frozen? ⟨p, j, none⟩ = false) (j : Nat) : w'.frozen? ⟨p, j, none⟩ = false :=
 (World.frozen?_of_block (w := w) (a := ⟨p, j, none⟩) (hb.block p hp)).trans (h j)
section
variable {P : Program} {ops : Array Oper} {md : Region.Mode} {Q : Exit → Act → World → Prop} {S : World → Prop}
theorem twoH {i j : Nat} {oi oj : Oper} {fuel : Nat} {listed : Array Bool} {a : Act} {w : World} (hi : ops[i]? = some oi) (hj : ops[j]? = some oj) (hr : Region.ready md ops listed = [i, j])
  (h : ∀ K : Act → World → Prop, Hid (∀ a w, S w → wpAnyH P md ops Q S fuel (listed.setIfInBounds i true) a w → K a w) → if Region.wanted oi (yielded ops a.tmps) = true then Oper.wp P oi a w K Q else K (a.put oi.dst undef) w)
  (h2 : ∀ K : Act → World → Prop, Hid (∀ a w, S w → wpAnyH P md ops Q S fuel (listed.setIfInBounds j true) a w → K a w) → if Region.wanted oj (yielded ops a.tmps) = true then Oper.wp P oj a w K Q else K (a.put oj.dst undef) w) : wpAnyH P md ops Q S (fuel + 1) listed a w :=
 wpAnyH_ready hr (by simp) (AllReadyH.cons hi (fun K hK => h K (fun a w h1 h2 => hK.out a w h1 fun _ => h2)) (AllReadyH.cons hj (fun K hK => h2 K (fun a w h1 h2 => hK.out a w h1 fun _ => h2)) AllReadyH.nil))
end
def store3 (w : World) (p : Nat) (l : Lay3) (x : Nd) : World := ((w.setCell ⟨p, 0, none⟩ (.slice l.A x.keys.length l.ca)).setCell ⟨p, 1, none⟩ (.slice l.B x.vals.length l.cb)).setCell ⟨p, 2, none⟩ (.slice l.C x.kids.length l.cc)
theorem store3_far {w : World} {p : Nat} {l : Lay3} {x : Nd} {i : Nat} (hi : i ≠ p) : (store3 w p l x).heap[i]? = w.heap[i]? := by
 unfold store3
 rw [World.heap_setCell_far9 _ _ _ hi, World.heap_setCell_far9 _ _ _ hi, World.heap_setCell_far9 _ _ _ hi]
theorem store3_size (w : World) (p : Nat) (l : Lay3) (x : Nd) : (store3 w p l x).heap.size = w.heap.size := by unfold store3; simp
theorem store3_box {w : World} {p : Nat} {l : Lay3} {x : Nd} {l0 : Lay3} {x0 : Nd} (h : NdBox w p l0 x0) : NdBox (store3 w p l x) p l x := NdBox.set3 h.c0 h.c1 h.c2
theorem store3_below {w0 w : World} {B p : Nat} {l : Lay3} {x : Nd} (h : Below B w0 w) (hp : B ≤ p) : Below B w0 (store3 w p l x) := ((h.setCell hp _).setCell hp _).setCell hp _
theorem store3_err {w : World} {p lo : Nat} {l : Lay3} {x : Nd} {c : Int} {v : Value} (h : ErrFrom w lo c v) (hp : p < lo) : ErrFrom (store3 w p l x) lo c v :=
 h.carry (by rw [store3_size]; exact Nat.le_refl _) fun i h1 _ => store3_far (by omega)
theorem store3_mine {w : World} {p b : Nat} {l m : Lay3} {x y : Nd} (h : NdMine w b m y) (hp : ¬ m.has p) : NdMine (store3 w p l x) b m y :=
 h.keep (by rw [store3_size]; exact Nat.le_refl _) fun g hg => store3_far (by rintro rfl; exact hp hg)
theorem NdBox.keep {w w' : World} {b : Nat} {l : Lay3} {x : Nd} (h : NdBox w b l x) (hb : w'.heap[b]? = w.heap[b]?) : NdBox w' b l x :=
 ⟨(World.cell?_of_block (w := w) (a := ⟨b, 0, none⟩) hb).trans h.c0, (World.cell?_of_block (w := w) (a := ⟨b, 1, none⟩) hb).trans h.c1, (World.cell?_of_block (w := w) (a := ⟨b, 2, none⟩) hb).trans h.c2⟩
theorem Lay3.has_none (g : Nat) : ¬ Lay3.none_.has g := by
 rintro (⟨a, h, _⟩ | ⟨a, h, _⟩ | ⟨a, h, _⟩) <;> cases h
abbrev Turn (M : Nat → Prop) (w w' : World) : Prop := Kept (fun k => k < w.heap.size ∧ ¬ M k) w w'
theorem Turn.of_below {M : Nat → Prop} {w w' : World} (h : Below w.heap.size w w') : Turn M w w' := ⟨h.os, h.tape, h.output, h.size, fun k hk => h.block k hk.1⟩
theorem Turn.more {M N : Nat → Prop} {w w' : World} (h : Turn M w w') (hM : ∀ k, k < w.heap.size → M k → N k) : Turn N w w' := ⟨h.os, h.tape, h.output, h.size, fun k hk => h.block k ⟨hk.1, fun h2 => hk.2 (hM k hk.1 h2)⟩⟩
theorem Turn.trans {M : Nat → Prop} {a b c : World} (h : Turn M a b) (k : Turn (fun i => M i ∨ a.heap.size ≤ i) b c) : Turn M a c :=
 ⟨k.os.trans h.os, k.tape.trans h.tape, k.output.trans h.output, Nat.le_trans h.size k.size, fun i hi => (k.block i ⟨Nat.lt_of_lt_of_le hi.1 h.size, fun h2 => h2.elim hi.2 (fun h3 => absurd hi.1 (by omega))⟩).trans (h.block i hi)⟩
theorem Turn.below {M : Nat → Prop} {B : Nat} {w w' : World} (h : Turn M w w') (hB : B ≤ w.heap.size) (hM : ∀ k, M k → B ≤ k) : Below B w w' := ⟨h.os, h.tape, h.output, h.size, fun k hk => h.block k ⟨Nat.lt_of_lt_of_le hk hB, fun h2 => absurd (hM k h2) (by omega)⟩⟩
section
variable {O : PgOwn} {w0 : World} {K : Nat → Prop} {w w' : World} {P D n : Nat} {d : Dk} {s : Pst} {data firm : Nat → List UInt8}
variable (H : PgSpec O)
include H
theorem LawP.off {M L : Nat → Prop} (h : LawP O w0 K w P D n d s data firm) (ht : Turn M w w') (hM : ∀ k, M k → K k ∧ w0.heap.size ≤ k) (hL : ∀ k, L k → K k ∨ w.heap.size ≤ k) (hLt : There L w') (hlow : ∀ k, k < w0.heap.size → L k) : LawP O w0 L w' P D n d s data firm := by
 obtain ⟨B, h1, h2, h3, h4⟩ := h.pg
 have hBlt := H.lt h1
 refine ⟨⟨B, H.carry h1 fun b hb => ht.block b ⟨hBlt b hb, fun hm => h4 b hb (hM b hm).1⟩, ?_, hLt, fun b hb hl => ?_⟩, h.inv, h.up, ?_, hlow⟩
 ·refine DiskAt.off (B := M) h2 (fun b hb => .inl (hM b hb).1) ht fun k hk => ?_
  rcases hk with hk | hk
  ·exact (hL k hk).imp .inl id
  ·exact .inl (.inr hk)
 ·rcases hL b hl with h5 | h5
  ·exact h4 b hb h5
  ·have := hBlt b hb
   omega
 ·exact h.below.trans (ht.below h.below.size fun k hk => (hM k hk).2)
theorem LawP.less {L : Nat → Prop} (h : LawP O w0 K w P D n d s data firm) (hL : ∀ k, L k → K k) (hlow : ∀ k, k < w0.heap.size → L k) : LawP O w0 L w P D n d s data firm :=
 h.off H (M := fun _ => False) ⟨rfl, rfl, rfl, Nat.le_refl _, fun _ _ => rfl⟩ (fun _ h => h.elim) (fun k hk => .inl (hL k hk)) (fun k hk => h.there k (hL k hk)) hlow
end
end Go.Proofs.YtafclmbecmgbnaaGreatDoor

/-
 TrCalls. Conditions: as each theorem says.
-/
namespace Go.Proofs.YtafclmbecmgbnaaGreatDoor
open Go.RowKit
theorem trFault_any (n : Int) (hn : n ≠ 0) (w : World) : Calls Tryz.prog 62 #[.int .i64 n] w (FromPost n w.heap.size w) := by
 go_enter Tryz.func62, Tryz.ntmps62
 go_wp2_with fail
 refine (Tag_from _ w.heap.size n _ w (.inr ⟨hn, .base⟩) (Nat.le_refl _)).mono ?_
 rintro e w' ⟨v, rfl, he, hb⟩
 have HE := Hi he
 have HB := Hi hb
 clear he hb
 go_wp2_with fail
 go_ret
 exact ⟨_, rfl, HE.out, HB.out⟩
abbrev LawT (O : PgOwn) (w0 : World) (K : Nat → Prop) (w : World) (P D n : Nat) (S : TS) (firm : Nat → List UInt8) : Prop := LawP O w0 K w P D n S.d S.s S.data firm
theorem hasI_yes {s : List Nat} {i : Int} (h : hasI s i = true) : ∃ k : Nat, i = (k : Int) ∧ k < 240 ∧ Bits.has s k = true := by
 unfold hasI at h
 simp only [Bool.and_eq_true, decide_eq_true_eq] at h
 exact ⟨i.toNat, by omega, by omega, h.2⟩
section
variable {O : PgOwn} (H : PgSpec O)
include H
theorem drop_any {w0 : World} {K : Nat → Prop} {w : World} {P D n : Nat} {S : TS} {firm : Nat → List UInt8} (hl : LawT O w0 K w P D n S firm) (i : Int) :
  Calls Tryz.prog 66 #[ptr P, .int .i64 i] w fun e w' => ∃ v, e = .returned v ∧ ErrFrom w' w.heap.size (dropM S i).1 v ∧ LawT O w0 K w' P D n (dropM S i).2 firm ∧ Kept K w w' := by
 cases hu : hasI S.s.used i with
 | false =>
  have HM : Hid (dropM S i = (4, S)) := Hi (by unfold dropM; rw [if_neg (by rw [hu]; decide)])
  have HL := Hi hl
  go_enter Tryz.func66, Tryz.ntmps66
  go_wp2_with fail
  refine (H.dropNo hl.pg hl.inv i hu).mono ?_
  rintro e w1 ⟨v, rfl, he, hb⟩
  have HE := Hi he
  have HB := Hi hb
  clear he hb hl
  go_wp2_with fail
  refine (Tag_from _ w.heap.size 4 v w1 HE.out HB.out.size).mono ?_
  rintro e w2 ⟨u, rfl, he, hb⟩
  have HE2 := Hi he
  have HB2 := Hi (HB.out.trans (hb.mono HB.out.size))
  clear he hb HE HB
  go_wp2_with fail
  go_ret
  rw [HM.out]
  exact ⟨_, rfl, HE2.out, HL.out.carry H HB2.out, Kept.of_below HB2.out HL.out.there⟩
 | true =>
  obtain ⟨k, rfl, hk, hh⟩ := hasI_yes hu
  have HM : Hid (dropM S (k : Int) = (0, ⟨S.d, S.s.drop k, S.data⟩)) := Hi (by unfold dropM; rw [if_pos hu]; rfl)
  have HL := Hi hl
  go_enter Tryz.func66, Tryz.ntmps66
  go_wp2_with fail
  refine (H.dropYes hl.pg hl.inv k hk hh).mono ?_
  rintro e w1 ⟨rfl, hp, hkk⟩
  have HL1 : Hid (LawT O w0 K w1 P D n ⟨S.d, S.s.drop k, S.data⟩ firm) := Hi (HL.out.turned hp hkk (HL.out.inv.dropped hk hh) HL.out.up)
  have HK := Hi hkk
  clear hp hkk hl
  go_wp2_with fail
  refine (Tag_nil _ _).mono ?_
  rintro e w' ⟨rfl, rfl⟩
  go_wp2_with fail
  go_ret
  rw [HM.out]
  exact ⟨_, rfl, .nil _ _, HL1.out, HK.out⟩
def LoadPost (w : World) (o : Except Int Nd) (e : Ending) (w' : World) : Prop :=
 match o with
 | .error c => c ≠ 0 ∧ ∃ v, e = .returned (.tuple #[ndV Lay3.none_ Nd.empty, v]) ∧ ErrFrom w' w.heap.size c v ∧ Below w.heap.size w w'
 | .ok x => rightN x = true ∧ ∃ l, e = .returned (.tuple #[ndV l x, .nilIface]) ∧ NdMine w' w.heap.size l x ∧ Below w.heap.size w w'
structure LdS (w : World) (p q : Nat) (l : Lay3) (x : Nd) (wr : World) : Prop where
 a : NdBox wr p Lay3.none_ Nd.empty
 b : NdBox wr q l x
 fz : ∀ j, wr.frozen? ⟨p, j, none⟩ = false
 pq : p < q
 below : Below w.heap.size w wr
 lo : w.heap.size ≤ p
omit H in
theorem LdS.carry {w wr w' : World} {p q : Nat} {l : Lay3} {x : Nd} (h : LdS w p q l x wr) (hb : Below wr.heap.size wr w') : LdS w p q l x w' :=
 ⟨h.a.carry hb h.a.lt, h.b.carry hb h.b.lt, fun j => frozen_below hb h.a.lt h.fz j, h.pq, h.below.trans (hb.mono h.below.size), h.lo⟩
set_option maxRecDepth 100000 in
theorem load_any {w0 : World} {K : Nat → Prop} {w : World} {P D n : Nat} {S : TS} {firm : Nat → List UInt8} (hl : LawT O w0 K w P D n S firm) (hg : Laid2 w0) (i level : Int) :
  Calls Tryz.prog 82 #[ptr P, .int .i64 i, .int .i64 level] w (LoadPost w (loadM S i level)) := by
 have hbn := Tryz.nodeNone
 have hz := Tryz.zeroNode
 obtain ⟨p, HPP⟩ : ∃ p, Hid (p = w.heap.size) := Hy
 obtain ⟨w1, HW1⟩ : ∃ w1, Hid (w1 = w.alloc (.cells #[.slice none 0 0, .slice none 0 0, .slice none 0 0] 48)) := Hy
 have HB1 : Hid (Below w.heap.size w w1) := Hi (by rw [HW1.out]; exact (Below.refl _ _).alloc (Nat.le_refl _) _)
 have HX1 : Hid (NdBox w1 p Lay3.none_ Nd.empty) := Hi (by rw [HW1.out, HPP.out]; exact NdBox.new (l := Lay3.none_) (x := Nd.empty) _)
 have HFZ : Hid (∀ j, w1.frozen? ⟨p, j, none⟩ = false) := Hi (by rw [HW1.out, HPP.out]; exact frozen_new1 _ _ _)
 have HPL : Hid (p < w1.heap.size) := Hi (by rw [HW1.out, HPP.out]; simp)
 have HLP : Hid (w.heap.size ≤ p) := Hi (by rw [HPP.out]; exact Nat.le_refl _)
 have HL1 := Hi (hl.carry H HB1.out)
 have HLA := Hi (HL1.out.laid hg)
 clear hl
 by_cases h12 : 12 < level
 ·have HM : Hid (loadM S i level = .error 2) := Hi (by unfold loadM; rw [if_pos h12])
  rw [HM.out]
  go_enter Tryz.func82, Tryz.ntmps82
  go_wp2_with fail
  rw [← HW1.out, ← HPP.out]
  clear HW1 HPP
  refine (trFault_any 2 (by decide) _).mono ?_
  rintro e w2 ⟨v, rfl, he, hb⟩
  have HE := Hi he
  have HB2 := Hi (HB1.out.trans (hb.mono HB1.out.size))
  have HX2 := Hi (HX1.out.carry hb HPL.out)
  have f0 := frozen_below hb HPL.out HFZ.out 0
  have f1 := frozen_below hb HPL.out HFZ.out 1
  have f2 := frozen_below hb HPL.out HFZ.out 2
  have d0 := HX2.out.c0
  have d1 := HX2.out.c1
  have d2 := HX2.out.c2
  obtain ⟨w3, HWw3⟩ : ∃ w3, Hid (w3 = ((w2.setCell ⟨p, 0, none⟩ (.slice none 0 0)).setCell ⟨p, 1, none⟩ (.slice none 0 0)).setCell ⟨p, 2, none⟩ (.slice none 0 0)) := Hy
  have HSw3 : Hid (w3 = store3 w2 p Lay3.none_ Nd.empty) := Hi HWw3.out
  have HXw3 : Hid (NdBox w3 p Lay3.none_ Nd.empty) := Hi (by rw [HSw3.out]; exact store3_box HX2.out)
  have HB3 : Hid (Below w.heap.size w w3) := Hi (by rw [HSw3.out]; exact store3_below HB2.out HLP.out)
  have HE3 : Hid (ErrFrom w3 w.heap.size 2 v) := Hi (by rw [HSw3.out]; exact (store3_err HE.out HPL.out).mono HB1.out.size)
  clear he hb HE HB2 HX2
  go_wp2_with fail
  rw [← HWw3.out]
  exact bodyPost_ret (results_nd2 Tryz.ndProg rfl _ _ p Lay3.none_ Nd.empty v rfl rfl HXw3.out) rfl ⟨by decide, v, rfl, HE3.out, HB3.out⟩
 ·cases hin : isInZ S.s i with
  | false =>
   have HM : Hid (loadM S i level = .error 4) := Hi (by unfold loadM; rw [if_neg h12, show inZ S.s i = isInZ S.s i from rfl, hin, if_neg (by decide)])
   rw [HM.out]
   have HLD := Hi (H.load HL1.out.pg HL1.out.inv HL1.out.up HLA.out.crc i)
   rw [hin] at HLD
   go_enter Tryz.func82, Tryz.ntmps82
   go_wp2_with fail
   rw [← HW1.out, ← HPP.out]
   clear HW1 HPP
   refine HLD.out.mono ?_
   rintro e w2 ⟨v, rfl, he, hb⟩
   rw [if_neg (by decide)] at he
   obtain ⟨tt, xx, rfl⟩ := he.some (by decide)
   rw [if_neg (by decide)]
   obtain ⟨v1, HV1⟩ : ∃ v1, Hid (v1 = Value.iface tt xx) := Hy
   have HE1 : Hid (ErrFrom w2 w1.heap.size 4 v1) := Hi (by rw [HV1.out]; exact he)
   have HBA := Hi hb
   clear he hb HLD
   go_wp2_with fail
   rw [← HV1.out]
   refine (Tag_from _ w1.heap.size 4 v1 w2 HE1.out HBA.out.size).mono ?_
   rintro e w4 ⟨v, rfl, he, hb4⟩
   have hb := HBA.out.trans (hb4.mono HBA.out.size)
   clear hb4 HBA HE1 HV1
   have HE := Hi he
   have HB2 := Hi (HB1.out.trans (hb.mono HB1.out.size))
   have HX2 := Hi (HX1.out.carry hb HPL.out)
   have f0 := frozen_below hb HPL.out HFZ.out 0
   have f1 := frozen_below hb HPL.out HFZ.out 1
   have f2 := frozen_below hb HPL.out HFZ.out 2
   have d0 := HX2.out.c0
   have d1 := HX2.out.c1
   have d2 := HX2.out.c2
   obtain ⟨w3, HWw3⟩ : ∃ w3, Hid (w3 = ((w4.setCell ⟨p, 0, none⟩ (.slice none 0 0)).setCell ⟨p, 1, none⟩ (.slice none 0 0)).setCell ⟨p, 2, none⟩ (.slice none 0 0)) := Hy
   have HSw3 : Hid (w3 = store3 w4 p Lay3.none_ Nd.empty) := Hi HWw3.out
   have HXw3 : Hid (NdBox w3 p Lay3.none_ Nd.empty) := Hi (by rw [HSw3.out]; exact store3_box HX2.out)
   have HB3 : Hid (Below w.heap.size w w3) := Hi (by rw [HSw3.out]; exact store3_below HB2.out HLP.out)
   have HE3 : Hid (ErrFrom w3 w.heap.size 4 v) := Hi (by rw [HSw3.out]; exact (store3_err HE.out HPL.out).mono HB1.out.size)
   clear he hb HE HB2 HX2
   go_wp2_with fail
   rw [← HWw3.out]
   exact bodyPost_ret (results_nd2 Tryz.ndProg rfl _ _ p Lay3.none_ Nd.empty v rfl rfl HXw3.out) rfl ⟨by decide, v, rfl, HE3.out, HB3.out⟩
  | true =>
   obtain ⟨dt, HDT⟩ : ∃ dt, Hid (dt = S.data i.toNat) := Hy
   have HM : Hid (loadM S i level = match readN dt with | some x => .ok x | none => .error 2) := Hi (by unfold loadM; rw [if_neg h12, show inZ S.s i = isInZ S.s i from rfl, hin, if_pos rfl, HDT.out]; cases readN (S.data i.toNat) <;> rfl)
   have HLD := Hi (H.load HL1.out.pg HL1.out.inv HL1.out.up HLA.out.crc i)
   rw [hin, if_pos rfl, if_pos rfl, ← HDT.out] at HLD
   go_enter Tryz.func82, Tryz.ntmps82
   go_wp2_with fail
   rw [← HW1.out, ← HPP.out]
   clear HW1 HPP
   refine HLD.out.mono ?_
   rintro e w2 ⟨v, rfl, he, hb⟩
   obtain rfl := he.zero
   have HB2 := Hi (HB1.out.trans (hb.mono HB1.out.size))
   have HX2 := Hi (HX1.out.carry hb HPL.out)
   have HF2 : Hid (∀ j, w2.frozen? ⟨p, j, none⟩ = false) := Hi (frozen_below hb HPL.out HFZ.out)
   clear he hb HLD HX1 HFZ HB1
   obtain ⟨ss, HSS⟩ : ∃ ss : ByteArray, Hid (ss = ⟨dt.toArray⟩) := Hy
   rw [show txt dt = Value.string ss by rw [HSS.out]; rfl]
   have HRD := Hi (NdRead_any w2 ss)
   rw [show ss.data.toList = dt by rw [HSS.out]] at HRD
   go_wp2_with fail
   refine HRD.out.mono ?_
   rintro e w4 hrp
   obtain ⟨l, x, v1, c, rfl, he, hwh, hb⟩ : ∃ l x v1 c, e = .returned (.tuple #[ndV l x, v1]) ∧ ErrFrom w4 w2.heap.size c v1 ∧ ((c = 2 ∧ readN dt = none ∧ l = Lay3.none_ ∧ x = Nd.empty) ∨ (c = 0 ∧ readN dt = some x ∧ NdMine w4 w2.heap.size l x)) ∧ Below w2.heap.size w2 w4 := by
    rcases hrp with ⟨hr, v, rfl, he, hb⟩ | ⟨x, l, hr, rfl, hn, hb⟩
    ·exact ⟨_, _, v, 2, rfl, he, .inl ⟨rfl, hr, rfl, rfl⟩, hb⟩
    ·exact ⟨l, x, _, 0, rfl, .nil _ _, .inr ⟨rfl, hr, hn⟩, hb⟩
   have HWH := Hi hwh
   have HNP : Hid (¬ l.has p) := Hi (by
    rcases hwh with ⟨_, _, rfl, _⟩ | ⟨_, _, hn⟩
    ·exact Lay3.has_none p
    ·intro h
     have := (hn.lt p h).1
     have := HX2.out.lt
     omega)
   obtain ⟨q, HQQ⟩ : ∃ q, Hid (q = w4.heap.size) := Hy
   obtain ⟨w5, HW5⟩ : ∃ w5, Hid (w5 = w4.alloc (.cells #[.slice l.A x.keys.length l.ca, .slice l.B x.vals.length l.cb, .slice l.C x.kids.length l.cc] 48)) := Hy
   have HB45 : Hid (Below w4.heap.size w4 w5) := Hi (by rw [HW5.out]; exact (Below.refl _ _).alloc (Nat.le_refl _) _)
   have HE5 : Hid (ErrFrom w5 w2.heap.size c v1) := Hi (he.below HB45.out)
   have HS5 : Hid (LdS w p q l x w5) := Hi (by
    have hb5 := hb.trans (HB45.out.mono hb.size)
    refine ⟨HX2.out.carry hb5 HX2.out.lt, ?_, fun j => frozen_below hb5 HX2.out.lt HF2.out j, ?_, HB2.out.trans (hb5.mono HB2.out.size), HLP.out⟩
    ·rw [HW5.out, HQQ.out]; exact NdBox.new (l := l) (x := x) _
    ·rw [HQQ.out]; exact Nat.lt_of_lt_of_le HX2.out.lt hb.size)
   have HP2 : Hid (p < w2.heap.size ∧ w.heap.size ≤ w2.heap.size ∧ w2.heap.size ≤ w5.heap.size) := Hi ⟨HX2.out.lt, HB2.out.size, Nat.le_trans hb.size HB45.out.size⟩
   have HN5 : Hid (∀ w', Below w5.heap.size w5 w' → (c = 2 ∧ readN dt = none ∧ l = Lay3.none_ ∧ x = Nd.empty) ∨ (c = 0 ∧ readN dt = some x ∧ NdMine w' w2.heap.size l x)) := Hi (fun w' hb' => hwh.imp id fun h => ⟨h.1, h.2.1, (h.2.2.carry HB45.out).carry hb'⟩)
   clear he hb HRD HX2 HF2 HB2 HB45 hwh HWH hrp
   go_upto_region 7 with (fail)
   rw [← HW5.out, ← HQQ.out]
   clear HW5 HQQ
   refine wp_region_held (S := fun w9 => NdBox w9 q l x) (by kernel_rfl) ?_
   change wpAnyH _ _ _ _ _ _ _ _ w5.drew
   obtain ⟨wa, HWA⟩ : ∃ wa, Hid (wa = w5.drew) := Hy
   rw [← HWA.out]
   have hS : NdBox wa q l x := by rw [HWA.out]; exact HS5.out.b.carry (Below.refl _ _).drew HS5.out.b.lt
   have HBA : Hid (Below w5.heap.size w5 wa) := Hi (by rw [HWA.out]; exact (Below.refl _ _).drew)
   clear HWA
   refine takeJ (i := 0) 31 (v := ndV l x) rfl rfl (yieldsIf_nd Tryz.ndProg (by rfl) _ rfl q rfl l x (fun _ h => h)) hS ?_
   simp only [Act.put, pU]
   refine takeK (i := 1) 32 (v := v1) rfl rfl hS ?_
   simp only [Act.put, pU]
   refine oneH (i := 2) (oi := ⟨some 33, _, _, _, _, _⟩) rfl (by kernel_rfl) (fun K hK => ?_)
   go_simp
   refine (Tag_from _ w2.heap.size c v1 wa (HE5.out.below HBA.out) (Nat.le_trans HP2.out.2.2 HBA.out.size)).mono ?_
   rintro e wn ⟨vv, rfl, he, hb⟩
   have hS2 := hS.carry hb hS.lt
   have HEE := Hi he
   have HBN := Hi (HBA.out.trans (hb.mono HBA.out.size))
   clear he hb hS
   refine hK.out _ _ hS2 ?_
   clear hK K
   have hS := hS2
   clear hS2
   refine oneH (i := 3) (oi := ⟨none, _, _, _, _, _⟩) rfl (by kernel_rfl) (fun K hK => ?_)
   have HSS := Hi (HS5.out.carry HBN.out)
   have HAA := Hi HSS.out.a
   have f0 := HSS.out.fz 0
   have f1 := HSS.out.fz 1
   have f2 := HSS.out.fz 2
   have d0 := HAA.out.c0
   have d1 := HAA.out.c1
   have d2 := HAA.out.c2
   obtain ⟨w6, HWw6⟩ : ∃ w6, Hid (w6 = ((wn.setCell ⟨p, 0, none⟩ (.slice l.A x.keys.length l.ca)).setCell ⟨p, 1, none⟩ (.slice l.B x.vals.length l.cb)).setCell ⟨p, 2, none⟩ (.slice l.C x.kids.length l.cc)) := Hy
   have HSw6 : Hid (w6 = store3 wn p l x) := Hi HWw6.out
   have HXw6 : Hid (NdBox w6 p l x) := Hi (by rw [HSw6.out]; exact store3_box HAA.out)
   go_simp
   rw [← HWw6.out]
   have hS2 : NdBox w6 q l x := by
    rw [HSw6.out]
    exact hS.keep (store3_far (by have := HSS.out.pq; omega))
   refine hK.out _ _ hS2 ?_
   clear hK K hS
   have hS := hS2
   clear hS2
   refine takeK (i := 4) 7 (v := vv) rfl rfl hS ?_
   simp only [Act.put, pU]
   refine wpAnyH_done (by kernel_rfl) ?_ _
   have HB6 : Hid (Below w.heap.size w w6) := Hi (by rw [HSw6.out]; exact store3_below HSS.out.below HLP.out)
   have HE6 : Hid (ErrFrom w6 w.heap.size c vv) := Hi (by rw [HSw6.out]; exact (store3_err HEE.out HP2.out.1).mono HP2.out.2.1)
   go_wp2_with fail
   rw [HM.out]
   refine bodyPost_ret (results_nd2 Tryz.ndProg rfl _ _ p l x vv rfl rfl HXw6.out) rfl ?_
   rcases HN5.out _ HBN.out with ⟨rfl, hr, rfl, rfl⟩ | ⟨rfl, hr, hn⟩
   ·rw [hr]
    exact ⟨by decide, vv, rfl, HE6.out, HB6.out⟩
   ·obtain rfl := HE6.out.zero
    rw [hr]
    exact ⟨readN_right hr, l, rfl, by rw [HSw6.out]; exact (store3_mine hn HNP.out).mono HP2.out.2.1, HB6.out⟩
end
end Go.Proofs.YtafclmbecmgbnaaGreatDoor

/-
 TrSmall. Conditions: as each theorem says.
-/
namespace Go.Proofs.YtafclmbecmgbnaaGreatDoor
open Go.RowKit
structure CopyS (w : World) (p : Nat) (l : Lay3) (x : Nd) (wr : World) : Prop where
 b : NdBox wr p l x
 is : NdIs wr l x
 below : Below w.heap.size w wr
 lo : w.heap.size ≤ p
theorem CopyS.carry {w wr w' : World} {p : Nat} {l : Lay3} {x : Nd} (h : CopyS w p l x wr) (hb : Below wr.heap.size wr w') : CopyS w p l x w' :=
 ⟨h.b.carry hb h.b.lt, h.is.carry hb, h.below.trans (hb.mono h.below.size), h.lo⟩
theorem CopyS.new {w : World} {l : Lay3} {x : Nd} (h : NdIs w l x) : CopyS w w.heap.size l x (w.alloc (.cells #[.slice l.A x.keys.length l.ca, .slice l.B x.vals.length l.cb, .slice l.C x.kids.length l.cc] 48)) := by
 have hb : Below w.heap.size w (w.alloc (.cells #[.slice l.A x.keys.length l.ca, .slice l.B x.vals.length l.cb, .slice l.C x.kids.length l.cc] 48)) := (Below.refl _ _).alloc (Nat.le_refl _) _
 exact ⟨NdBox.new _, h.carry hb, hb, Nat.le_refl _⟩
theorem seekN_le (x : Nd) (key : Int) : (seekN x key).1 ≤ 7 := by
 unfold seekN
 split
 ·rename_i h
  exact Nat.le_trans (less_le _ _) (right_parts h).2.1
 ·exact Nat.zero_le _
theorem firstKid_any {w : World} {l : Lay3} {x : Nd} (h : NdIs w l x) : Calls Tryz.prog 65 #[ndV l x] w fun e w' => e = .returned (.int .i64 (x.kids.getD 0 0)) ∧ Below w.heap.size w w' := by
 obtain ⟨p, HPP⟩ : ∃ p, Hid (p = w.heap.size) := Hy
 obtain ⟨w1, HW1⟩ : ∃ w1, Hid (w1 = w.alloc (.cells #[.slice l.A x.keys.length l.ca, .slice l.B x.vals.length l.cb, .slice l.C x.kids.length l.cc] 48)) := Hy
 have HS1 : Hid (CopyS w p l x w1) := Hi (by rw [HW1.out, HPP.out]; exact CopyS.new h)
 have c2 := HS1.out.b.c2
 by_cases h0 : x.kids.length = 0
 ·have HR : Hid (x.kids.getD 0 0 = 0) := Hi (by rw [List.length_eq_zero_iff.1 h0]; rfl)
  clear h
  rw [HR.out]
  have hz : ((x.kids.length : Int) == 0) = true := by rw [h0]; rfl
  clear h0
  go_enter Tryz.func65, Tryz.ntmps65
  go_upto_region 1 with (fail)
  rw [← HW1.out, ← HPP.out]
  clear HW1 HPP
  go_wp2_with fail
  go_ret
  exact ⟨rfl, HS1.out.below⟩
 ·obtain ⟨a, HA, hc⟩ := nums_cell HS1.out.is.kids (i := 0) (by omega)
  have HR : Hid (x.kids.getD 0 0 = x.kids[0]'(by omega)) := Hi (by rw [List.getD_eq_getElem?_getD, List.getElem?_eq_getElem (by omega)]; rfl)
  rw [HR.out]
  obtain ⟨z, HZ⟩ : ∃ z, Hid (z = x.kids[0]'(by omega)) := Hy
  rw [← HZ.out] at hc ⊢
  clear h HR
  rw [HA] at c2
  clear HA
  have hn : (0 : Int) < (x.kids.length : Int) := by omega
  have hz : ((x.kids.length : Int) == 0) = false := by rw [beq_eq_false_iff_ne]; omega
  clear h0 HZ
  go_enter Tryz.func65, Tryz.ntmps65
  go_upto_region 1 with (fail)
  rw [← HW1.out, ← HPP.out]
  clear HW1 HPP
  have hc0 : w1.cell? a = some (.int .i64 z) := by have := hc; unfold Addr.add at this; simpa using this
  clear hc
  go_wp2_with fail
  go_ret
  exact ⟨rfl, HS1.out.below⟩
theorem kidAt_any {w : World} {l : Lay3} {x : Nd} (h : NdIs w l x) (key : Int) : Calls Tryz.prog 102 #[ndV l x, .int .i64 key] w fun e w' => e = .returned (.int .i64 (kidAtN x key : Int)) ∧ Below w.heap.size w w' := by
 obtain ⟨p, HPP⟩ : ∃ p, Hid (p = w.heap.size) := Hy
 obtain ⟨w1, HW1⟩ : ∃ w1, Hid (w1 = w.alloc (.cells #[.slice l.A x.keys.length l.ca, .slice l.B x.vals.length l.cb, .slice l.C x.kids.length l.cc] 48)) := Hy
 have HS1 : Hid (CopyS w p l x w1) := Hi (by rw [HW1.out, HPP.out]; exact CopyS.new h)
 have HLE := Hi (seekN_le x key)
 obtain ⟨k, HKK⟩ : ∃ k, Hid (k = (seekN x key).1) := Hy
 obtain ⟨b, HBB⟩ : ∃ b, Hid (b = (seekN x key).2) := Hy
 have HR : Hid (kidAtN x key = if b = true then k + 1 else k) := Hi (by rw [HKK.out, HBB.out]; rfl)
 have HSK := Hi (Seek_any HS1.out.is key)
 rw [← HKK.out, ← HBB.out] at HSK
 rw [← HKK.out] at HLE
 rw [HR.out]
 clear h HR HKK HBB
 go_enter Tryz.func102, Tryz.ntmps102
 go_upto_region 1 with (fail)
 rw [← HW1.out, ← HPP.out]
 clear HW1 HPP
 go_wp2_with (with_reducible refine stop_at (o := ⟨some 8, _, _, _, _, _⟩) ?_)
 refine wpList_load_nd Tryz.ndProg (by rfl) _ rfl p rfl l x HS1.out.b ?_
 go_wp2_with fail
 refine HSK.out.mono ?_
 rintro e w2 ⟨rfl, hb⟩
 have HB := Hi (HS1.out.below.trans (hb.mono HS1.out.below.size))
 clear hb HSK
 cases b with
 | true =>
  have hw : wrap64 ((k : Int) + 1) = ((k + 1 : Nat) : Int) := by have := HLE.out; unfold wrap64; omega
  go_wp2_with fail
  go_ret
  exact ⟨rfl, HB.out⟩
 | false =>
  go_wp2_with fail
  go_ret
  exact ⟨rfl, HB.out⟩
end Go.Proofs.YtafclmbecmgbnaaGreatDoor

/-
 TrParts. Conditions: as each theorem says.
-/
namespace Go.Proofs.YtafclmbecmgbnaaGreatDoor
open Go.RowKit
structure NdShape (x : Nd) : Prop where
 leaf : x.kids.length = 0 → x.vals.length = x.keys.length
 inner : x.kids.length ≠ 0 → x.vals.length = 0 ∧ x.kids.length = x.keys.length + 1
 few : x.keys.length ≤ 100
theorem Strs.take {w : World} {A : Option Addr} {n : Nat} {ss : List ByteArray} (h : Strs w A n ss) {m : Nat} (hm : m ≤ n) : Strs w A m (ss.take m) := by
 refine ⟨by rw [List.length_take, h.1]; omega, fun hp => ?_⟩
 obtain ⟨a, e, hlt, hc⟩ := h.2 (by omega)
 exact ⟨a, e, hlt, fun i s hs => hc i s (by rw [List.getElem?_take] at hs; split at hs <;> simp_all)⟩
theorem Strs.drop {w : World} {g : Nat} {n : Nat} {ss : List ByteArray} (h : Strs w (some ⟨g, 0, none⟩) n ss) {m : Nat} (hm : m ≤ n) : Strs w (some ⟨g, m, none⟩) (n - m) (ss.drop m) := by
 refine ⟨by rw [List.length_drop, h.1], fun hp => ?_⟩
 obtain ⟨a, e, hlt, hc⟩ := h.2 (by omega)
 obtain rfl := Option.some.inj e
 refine ⟨_, rfl, hlt, fun i s hs => ?_⟩
 have := hc (m + i) s (by rw [← hs, List.getElem?_drop])
 rw [Addr.add_mid] at this ⊢
 simpa using this
theorem nums_drop {w : World} {k : IntKind} {g : Nat} {zs : List Int} (h : Nums w k (some ⟨g, 0, none⟩) zs) (m : Nat) : Nums w k (some ⟨g, m, none⟩) (zs.drop m) := fun hp => by
 rw [List.length_drop] at hp
 obtain ⟨a, e, hlt, hc⟩ := h (by omega)
 obtain rfl := Option.some.inj e
 refine ⟨_, rfl, hlt, fun i s hs => ?_⟩
 have := hc (m + i) s (by rw [← hs, List.getElem?_drop])
 rw [Addr.add_mid] at this ⊢
 simpa using this
theorem ownsRow_form {w : World} {b : Nat} {e : TypeId} {A : Option Addr} {n c : Nat} {xs : List Value} (h : w.ownsRow b e 1 (.slice A n c) n xs) (hn : 0 < n) : ∃ g, A = some ⟨g, 0, none⟩ ∧ n ≤ c ∧ c ≤ maxLen ∧ b ≤ g ∧ g < w.heap.size := by
 rcases h.2 with ⟨_, h2⟩ | ⟨g, cap, cur, e1, e2, e3, e4, e5, _⟩
 ·omega
 ·simp only [Value.slice.injEq] at e1
  obtain ⟨rfl, _, rfl⟩ := e1
  exact ⟨g, rfl, e4, e5, e2, (Array.getElem?_eq_some_iff.1 e3).1⟩
def NdRow (w : World) (q : Nat) (ns : List Nd) (M : Nat → Prop) : Prop := ∀ i (h : i < ns.length), ∃ l, NdIs w l ns[i] ∧ w.rangeAt q (3 * i) (ndCells l ns[i]) ∧ ∀ g, l.has g → M g
structure PS (w : World) (p q1 q2 b : Nat) (l : Lay3) (x : Nd) (u0 u1 u2 v0 v1 v2 : Value) (wr : World) : Prop where
 cp : CopyS w p l x wr
 mi : NdMine wr b l x
 lw : ∀ g, l.has g → g < w.heap.size
 p1 : p < q1
 p2 : p < q2
 ne : q1 ≠ q2
 a0 : wr.cell? ⟨q1, 0, none⟩ = some u0
 a1 : wr.cell? ⟨q1, 1, none⟩ = some u1
 a2 : wr.cell? ⟨q1, 2, none⟩ = some u2
 b0 : wr.cell? ⟨q2, 0, none⟩ = some v0
 b1 : wr.cell? ⟨q2, 1, none⟩ = some v1
 b2 : wr.cell? ⟨q2, 2, none⟩ = some v2
 f1 : ∀ j, wr.frozen? ⟨q1, j, none⟩ = false
 f2 : ∀ j, wr.frozen? ⟨q2, j, none⟩ = false
section
variable {w wr w' : World} {p q1 q2 b : Nat} {l : Lay3} {x : Nd} {u0 u1 u2 v0 v1 v2 : Value}
theorem PS.carry (h : PS w p q1 q2 b l x u0 u1 u2 v0 v1 v2 wr) (hb : Below wr.heap.size wr w') : PS w p q1 q2 b l x u0 u1 u2 v0 v1 v2 w' := by
 have h1 := below_block h.a0
 have h2 := below_block h.b0
 exact ⟨h.cp.carry hb, h.mi.carry hb, h.lw, h.p1, h.p2, h.ne, (hb.cell (p := ⟨q1, 0, none⟩) h1).trans h.a0, (hb.cell (p := ⟨q1, 1, none⟩) h1).trans h.a1, (hb.cell (p := ⟨q1, 2, none⟩) h1).trans h.a2, (hb.cell (p := ⟨q2, 0, none⟩) h2).trans h.b0, (hb.cell (p := ⟨q2, 1, none⟩) h2).trans h.b1, (hb.cell (p := ⟨q2, 2, none⟩) h2).trans h.b2, frozen_below hb h1 h.f1, frozen_below hb h2 h.f2⟩
theorem PS.far (h : PS w p q1 q2 b l x u0 u1 u2 v0 v1 v2 wr) {q : Nat} (hq : p < q) (j : Nat) (u : Value) : CopyS w p l x (wr.setCell ⟨q, j, none⟩ u) ∧ NdMine (wr.setCell ⟨q, j, none⟩ u) b l x := by
 have hn : ¬ l.has q := fun hh => by have := h.lw q hh; have := h.cp.lo; omega
 have hm := h.mi.setCell (p := q) hn j u
 exact ⟨⟨h.cp.b.keep (World.heap_setCell_far9 _ _ _ (by show p ≠ q; omega)), hm.is, h.cp.below.setCell (p := ⟨q, j, none⟩) (by have := h.cp.lo; show w.heap.size ≤ q; omega) _, h.cp.lo⟩, hm⟩
theorem cell_far9 (wr : World) {q r : Nat} (h : q ≠ r) (i j : Nat) (u : Value) : (wr.setCell ⟨q, j, none⟩ u).cell? ⟨r, i, none⟩ = wr.cell? ⟨r, i, none⟩ := World.cell?_of_block (World.heap_setCell_far9 _ _ _ (Ne.symm h))
theorem cell_near9 (wr : World) {q i j : Nat} {u v : Value} (hi : wr.cell? ⟨q, i, none⟩ = some v) : (wr.setCell ⟨q, j, none⟩ u).cell? ⟨q, i, none⟩ = some (if i = j then u else v) := by
 by_cases e : i = j
 ·subst e
  rw [if_pos rfl]
  exact World.cell?_setCell_same _ _ _ hi
 ·rw [if_neg e, World.cell?_setCell_other _ _ _ _ (by rintro h; cases h; exact e rfl)]
  exact hi
theorem frozen_set9 (wr : World) (q j : Nat) (u : Value) (r i : Nat) : (wr.setCell ⟨q, j, none⟩ u).frozen? ⟨r, i, none⟩ = wr.frozen? ⟨r, i, none⟩ := by simp
theorem PS.put1 (h : PS w p q1 q2 b l x u0 u1 u2 v0 v1 v2 wr) (j : Nat) (u : Value) : PS w p q1 q2 b l x (if 0 = j then u else u0) (if 1 = j then u else u1) (if 2 = j then u else u2) v0 v1 v2 (wr.setCell ⟨q1, j, none⟩ u) := by
 obtain ⟨hc, hm⟩ := h.far h.p1 j u
 exact ⟨hc, hm, h.lw, h.p1, h.p2, h.ne, cell_near9 _ h.a0, cell_near9 _ h.a1, cell_near9 _ h.a2, (cell_far9 _ h.ne _ _ _).trans h.b0, (cell_far9 _ h.ne _ _ _).trans h.b1, (cell_far9 _ h.ne _ _ _).trans h.b2, fun i => (frozen_set9 _ _ _ _ _ _).trans (h.f1 i), fun i => (frozen_set9 _ _ _ _ _ _).trans (h.f2 i)⟩
theorem PS.put2 (h : PS w p q1 q2 b l x u0 u1 u2 v0 v1 v2 wr) (j : Nat) (u : Value) : PS w p q1 q2 b l x u0 u1 u2 (if 0 = j then u else v0) (if 1 = j then u else v1) (if 2 = j then u else v2) (wr.setCell ⟨q2, j, none⟩ u) := by
 obtain ⟨hc, hm⟩ := h.far h.p2 j u
 exact ⟨hc, hm, h.lw, h.p1, h.p2, h.ne, (cell_far9 _ (Ne.symm h.ne) _ _ _).trans h.a0, (cell_far9 _ (Ne.symm h.ne) _ _ _).trans h.a1, (cell_far9 _ (Ne.symm h.ne) _ _ _).trans h.a2, cell_near9 _ h.b0, cell_near9 _ h.b1, cell_near9 _ h.b2, fun i => (frozen_set9 _ _ _ _ _ _).trans (h.f1 i), fun i => (frozen_set9 _ _ _ _ _ _).trans (h.f2 i)⟩
theorem PS.new (hc : CopyS w p l x wr) (hm : NdMine wr b l x) (hl : ∀ g, l.has g → g < w.heap.size) (hq : (q1 = wr.heap.size ∧ q2 = wr.heap.size + 1) ∨ (q2 = wr.heap.size ∧ q1 = wr.heap.size + 1)) (T : TypeId) :
  PS w p q1 q2 b l x (.slice none 0 0) (.slice none 0 0) (.slice none 0 0) (.slice none 0 0) (.slice none 0 0) (.slice none 0 0) ((wr.alloc (.cells #[.slice none 0 0, .slice none 0 0, .slice none 0 0] T)).alloc (.cells #[.slice none 0 0, .slice none 0 0, .slice none 0 0] T)) := by
 have hb1 := (Below.refl wr.heap.size wr).alloc (Nat.le_refl _) (.cells #[.slice none 0 0, .slice none 0 0, .slice none 0 0] T)
 have hb2 := hb1.alloc (by simp) (.cells #[.slice none 0 0, .slice none 0 0, .slice none 0 0] T)
 have hp := hc.b.lt
 have e1 := NdBox.new (w := wr) (l := Lay3.none_) (x := Nd.empty) T
 have e1' := e1.carry ((Below.refl (wr.alloc (.cells #[.slice none 0 0, .slice none 0 0, .slice none 0 0] T)).heap.size _).alloc (Nat.le_refl _) (.cells #[.slice none 0 0, .slice none 0 0, .slice none 0 0] T)) e1.lt
 have e2 := NdBox.new (w := wr.alloc (.cells #[.slice none 0 0, .slice none 0 0, .slice none 0 0] T)) (l := Lay3.none_) (x := Nd.empty) T
 have f1 : ∀ j, ((wr.alloc (.cells #[.slice none 0 0, .slice none 0 0, .slice none 0 0] T)).alloc (.cells #[.slice none 0 0, .slice none 0 0, .slice none 0 0] T)).frozen? ⟨wr.heap.size, j, none⟩ = false :=
  frozen_below ((Below.refl (wr.alloc (.cells #[.slice none 0 0, .slice none 0 0, .slice none 0 0] T)).heap.size _).alloc (Nat.le_refl _) _) e1.lt (frozen_new1 wr _ T)
 have f2 := frozen_new1 (wr.alloc (.cells #[.slice none 0 0, .slice none 0 0, .slice none 0 0] T)) #[.slice none 0 0, .slice none 0 0, .slice none 0 0] T
 rw [show (wr.alloc (.cells #[.slice none 0 0, .slice none 0 0, .slice none 0 0] T)).heap.size = wr.heap.size + 1 by simp] at e2 f2
 rcases hq with ⟨rfl, rfl⟩ | ⟨rfl, rfl⟩
 ·exact ⟨hc.carry hb2, hm.carry hb2, hl, hp, by omega, by omega, e1'.c0, e1'.c1, e1'.c2, e2.c0, e2.c1, e2.c2, f1, f2⟩
 ·exact ⟨hc.carry hb2, hm.carry hb2, hl, by omega, hp, by omega, e2.c0, e2.c1, e2.c2, e1'.c0, e1'.c1, e1'.c2, f2, f1⟩
end
def PartsPost (w : World) (l : Lay3) (x : Nd) (e : Ending) (w' : World) : Prop :=
 ∃ q B bc, e = .returned (.tuple #[.slice (some ⟨q, 0, none⟩) (partsN x).1.length (partsN x).1.length, .slice B (partsN x).2.length bc]) ∧ NdRow w' q (partsN x).1 l.has ∧ Nums w' .i64 B (partsN x).2 ∧ w.heap.size ≤ q ∧ q < w'.heap.size ∧ Below w.heap.size w w' ∧ (∀ a, B = some a → (∃ c, l.A = some c ∧ c.block = a.block) ∧ ∃ g o, a = ⟨g, o, none⟩) ∧ ((partsN x).2 = [] → B = none ∧ bc = 0)
set_option maxRecDepth 100000 in
set_option maxHeartbeats 4000000 in
theorem parts_any {w : World} {b : Nat} {l : Lay3} {x : Nd} (h : NdMine w b l x) (hs : NdShape x) : Calls Tryz.prog 105 #[ndV l x] w (PartsPost w l x) := by
 obtain ⟨p, HPP⟩ : ∃ p, Hid (p = w.heap.size) := Hy
 obtain ⟨w1, HW1⟩ : ∃ w1, Hid (w1 = w.alloc (.cells #[.slice l.A x.keys.length l.ca, .slice l.B x.vals.length l.cb, .slice l.C x.kids.length l.cc] 48)) := Hy
 have HS1 : Hid (CopyS w p l x w1) := Hi (by rw [HW1.out, HPP.out]; exact CopyS.new h.is)
 have HMI : Hid (NdMine w1 b l x) := Hi (h.carry HS1.out.below)
 have HSH := Hi hs
 have HLW : Hid (∀ g, l.has g → g < w.heap.size) := Hi fun g hg => (h.lt g hg).2
 have c0 := HS1.out.b.c0
 have c1 := HS1.out.b.c1
 have c2 := HS1.out.b.c2
 clear h hs
 by_cases h7 : x.keys.length ≤ 7
 ·have HM : Hid (partsN x = ([x], [])) := Hi (by unfold partsN; rw [if_pos h7])
  unfold PartsPost
  rw [HM.out]
  have h7' : (x.keys.length : Int) ≤ 7 := by omega
  clear h7
  go_enter Tryz.func105, Tryz.ntmps105
  go_upto_region 1 with (fail)
  rw [← HW1.out, ← HPP.out]
  clear HW1 HPP
  go_wp2_with (with_reducible refine stop_at (o := ⟨some 11, _, _, _, _, _⟩) ?_)
  refine wpList_load_nd Tryz.ndProg (by rfl) _ rfl p rfl l x HS1.out.b ?_
  go_wp2_with fail
  go_ret2
  have hbb := (Below.refl w1.heap.size w1).alloc (Nat.le_refl _) (.cells #[.slice l.A x.keys.length l.ca, .slice l.B x.vals.length l.cb, .slice l.C x.kids.length l.cc] 48)
  refine ⟨w1.heap.size, none, 0, rfl, fun i hi => ?_, Nums.none_ _ _ _, HS1.out.below.size, by simp, HS1.out.below.trans (hbb.mono HS1.out.below.size), fun _ h => (by cases h), fun _ => ⟨rfl, rfl⟩⟩
  obtain rfl : i = 0 := by simpa using hi
  refine ⟨l, HMI.out.is.carry hbb, ?_, fun _ h => h⟩
  exact NdBox.range (NdBox.new (w := w1) (l := l) (x := x) _)
 ·have HK7 := Hi h7
  have HN100 := Hi HSH.out.few
  obtain ⟨g, HG, hkc, hkm, _, _⟩ := ownsRow_form HMI.out.k (by omega)
  obtain ⟨k, HKK⟩ : ∃ k, Hid (k = x.keys.length) := Hy
  obtain ⟨h, HHH⟩ : ∃ h, Hid (h = k / 2) := Hy
  have HR : Hid (7 < k ∧ k ≤ 100 ∧ k ≤ l.ca ∧ l.ca ≤ maxLen ∧ 2 * h ≤ k ∧ k ≤ 2 * h + 1) := Hi (by have := HHH.out; have := HKK.out; have := HN100.out; have := HK7.out; omega)
  rw [HG] at c0
  rw [← HKK.out] at c0
  have hquo : (k : Int).tdiv 2 = (h : Int) := by rw [HHH.out, Int.tdiv_eq_ediv_of_nonneg (by omega)]; omega
  have hwh : wrap64 (h : Int) = (h : Int) := by have := HR.out; unfold wrap64; omega
  have h7' : ¬ (k : Int) ≤ 7 := by have := HR.out; omega
  have HGG := Hi HG
  clear h7 hkc hkm HG
  have hr1 : (h : Int) ≤ (l.ca : Int) := by have := HR.out; omega
  have hr2 : (h : Int) ≤ (k : Int) := by have := HR.out; omega
  have hr3 : (0 : Int) ≤ (h : Int) := by omega
  have hca : ¬ l.ca = h := by have := HR.out; omega
  obtain ⟨i, HII⟩ : ∃ i, Hid (i = h + 1) := Hy
  have hwi : wrap64 ((h : Int) + 1) = (i : Int) := by have := HR.out; have := HII.out; unfold wrap64; omega
  have hwi2 : IntKind.i64.wrap ((h : Int) + 1) = (i : Int) := by have := HR.out; have := HII.out; rw [IntKind.wrap_i64]; omega
  have hr4 : (0 : Int) ≤ (i : Int) := by omega
  have hr5 : (i : Int) ≤ (k : Int) := by have := HR.out; have := HII.out; omega
  have hr8 : (i : Int) ≤ (l.ca : Int) := by have := HR.out; have := HII.out; omega
  have hr9 : (h : Int) ≤ (i : Int) := by have := HII.out; omega
  have hca2 : ¬ l.ca = i := by have := HR.out; have := HII.out; omega
  go_enter Tryz.func105, Tryz.ntmps105
  go_upto_region 1 with (fail)
  rw [← HW1.out, ← HPP.out]
  clear HW1 HPP
  go_upto_region 4 with (fail)
  refine wp_region_held (S := fun w9 => w9.cell? ⟨p, 0, none⟩ = some (.slice (some ⟨g, 0, none⟩) k l.ca)) (by kernel_rfl) ?_
  change wpAnyH _ _ _ _ _ _ _ _ w1.drew
  obtain ⟨wa, HWA⟩ : ∃ wa, Hid (wa = w1.drew) := Hy
  rw [← HWA.out]
  have hS : wa.cell? ⟨p, 0, none⟩ = some (.slice (some ⟨g, 0, none⟩) k l.ca) := by rw [HWA.out]; exact c0
  have HSA : Hid (CopyS w p l x wa) := Hi (by rw [HWA.out]; exact HS1.out.carry (Below.refl _ _).drew)
  have HMA : Hid (NdMine wa b l x) := Hi (by rw [HWA.out]; exact HMI.out.carry (Below.refl _ _).drew)
  clear HWA HS1 HMI c0 c1 c2
  refine takeK (i := 0) 17 (v := .pointer (some ⟨p, 0, none⟩)) rfl rfl hS ?_
  simp only [Act.put, pU]
  refine takeJ (i := 1) 18 (v := .slice (some ⟨g, 0, none⟩) k l.ca) rfl rfl (.inl ⟨by rfl, fun _ h => by have c0 := h; go_simp⟩) hS ?_
  simp only [Act.put, pU]
  refine takeK (i := 2) 19 (v := .int .i64 (h : Int)) rfl rfl hS ?_
  simp only [Act.put, pU]
  refine takeK (i := 3) 20 (v := .slice (some ⟨g, 0, none⟩) h l.ca) rfl rfl hS ?_
  simp only [Act.put, pU]
  refine takeK (i := 4) 21 (v := .agg #[.slice (some ⟨g, 0, none⟩) h l.ca, .slice none 0 0, .slice none 0 0]) rfl rfl hS ?_
  simp only [Act.put, pU]
  refine takeK (i := 5) 22 (v := .pointer (some ⟨p, 0, none⟩)) rfl rfl hS ?_
  simp only [Act.put, pU]
  refine takeJ (i := 6) 23 (v := .slice (some ⟨g, 0, none⟩) k l.ca) rfl rfl (.inl ⟨by rfl, fun _ h => by have c0 := h; go_simp⟩) hS ?_
  simp only [Act.put, pU]
  refine takeK (i := 7) 24 (v := .int .i64 (h : Int)) rfl rfl hS ?_
  simp only [Act.put, pU]
  refine takeK (i := 8) 25 (v := .slice (some ⟨g, h, none⟩) (k - h) (l.ca - h)) rfl rfl hS ?_
  simp only [Act.put, pU]
  refine takeK (i := 9) 26 (v := .agg #[.slice (some ⟨g, h, none⟩) (k - h) (l.ca - h), .slice none 0 0, .slice none 0 0]) rfl rfl hS ?_
  simp only [Act.put, pU]
  refine twoH (i := 10) (j := 11) (oi := ⟨some 5, _, _, _, _, _⟩) (oj := ⟨some 6, _, _, _, _, _⟩) rfl rfl (by kernel_rfl) (fun K hK => ?_) (fun K hK => ?_)
  case' refine_1 =>
   go_simp
   refine hK.out _ _ (by have h9 := (Below.refl wa.heap.size wa).alloc (Nat.le_refl _) (.cells #[.slice none 0 0, .slice none 0 0, .slice none 0 0] 48); exact (h9.cell (p := ⟨p, 0, none⟩) HSA.out.b.lt).trans hS) ?_
   clear hK K
   refine oneH (i := 11) (oi := ⟨some 6, _, _, _, _, _⟩) rfl (by kernel_rfl) (fun K hK => ?_)
   go_simp
   obtain ⟨q1, HQ1⟩ : ∃ q1, Hid (q1 = wa.heap.size) := Hy
   obtain ⟨q2, HQ2⟩ : ∃ q2, Hid (q2 = wa.heap.size + 1) := Hy
   have HQQ : Hid ((q1 = wa.heap.size ∧ q2 = wa.heap.size + 1) ∨ (q2 = wa.heap.size ∧ q1 = wa.heap.size + 1)) := Hi (.inl ⟨HQ1.out, HQ2.out⟩)
   rw [← HQ2.out, ← HQ1.out]
  case' refine_2 =>
   go_simp
   refine hK.out _ _ (by have h9 := (Below.refl wa.heap.size wa).alloc (Nat.le_refl _) (.cells #[.slice none 0 0, .slice none 0 0, .slice none 0 0] 48); exact (h9.cell (p := ⟨p, 0, none⟩) HSA.out.b.lt).trans hS) ?_
   clear hK K
   refine oneH (i := 10) (oi := ⟨some 5, _, _, _, _, _⟩) rfl (by kernel_rfl) (fun K hK => ?_)
   go_simp
   obtain ⟨q1, HQ1⟩ : ∃ q1, Hid (q1 = wa.heap.size + 1) := Hy
   obtain ⟨q2, HQ2⟩ : ∃ q2, Hid (q2 = wa.heap.size) := Hy
   have HQQ : Hid ((q1 = wa.heap.size ∧ q2 = wa.heap.size + 1) ∨ (q2 = wa.heap.size ∧ q1 = wa.heap.size + 1)) := Hi (.inr ⟨HQ2.out, HQ1.out⟩)
   rw [← HQ1.out, ← HQ2.out]
  all_goals
   obtain ⟨wb, HWB⟩ : ∃ wb, Hid (wb = (wa.alloc (.cells #[.slice none 0 0, .slice none 0 0, .slice none 0 0] 48)).alloc (.cells #[.slice none 0 0, .slice none 0 0, .slice none 0 0] 48)) := Hy
   have HPB : Hid (PS w p q1 q2 b l x (.slice none 0 0) (.slice none 0 0) (.slice none 0 0) (.slice none 0 0) (.slice none 0 0) (.slice none 0 0) wb) := Hi (by rw [HWB.out]; exact PS.new HSA.out HMA.out HLW.out HQQ.out _)
   rw [← HWB.out]
   clear HWB HQQ HQ1 HQ2 hS
   have hS : wb.cell? ⟨p, 0, none⟩ = some (.slice (some ⟨g, 0, none⟩) k l.ca) := by have := HPB.out.cp.b.c0; rw [HGG.out, ← HKK.out] at this; exact this
   refine hK.out _ _ hS ?_
   clear hK K
   refine oneH (i := 12) (oi := ⟨none, _, _, _, _, _⟩) rfl (by kernel_rfl) (fun K hK => ?_)
   have d0 := HPB.out.a0
   have d1 := HPB.out.a1
   have d2 := HPB.out.a2
   have f0 := HPB.out.f1 0
   have f1 := HPB.out.f1 1
   have f2 := HPB.out.f1 2
   go_simp
   obtain ⟨wc, HWC⟩ : ∃ wc, Hid (wc = ((wb.setCell ⟨q1, 0, none⟩ (.slice (some ⟨g, 0, none⟩) h l.ca)).setCell ⟨q1, 1, none⟩ (.slice none 0 0)).setCell ⟨q1, 2, none⟩ (.slice none 0 0)) := Hy
   have HPC : Hid (PS w p q1 q2 b l x (.slice (some ⟨g, 0, none⟩) h l.ca) (.slice none 0 0) (.slice none 0 0) (.slice none 0 0) (.slice none 0 0) (.slice none 0 0) wc) := Hi (by rw [HWC.out]; exact ((HPB.out.put1 0 _).put1 1 _).put1 2 _)
   rw [← HWC.out]
   clear HWC HPB hS d0 d1 d2 f0 f1 f2
   have hS : wc.cell? ⟨p, 0, none⟩ = some (.slice (some ⟨g, 0, none⟩) k l.ca) := by have := HPC.out.cp.b.c0; rw [HGG.out, ← HKK.out] at this; exact this
   refine hK.out _ _ hS ?_
   clear hK K
   refine oneH (i := 13) (oi := ⟨none, _, _, _, _, _⟩) rfl (by kernel_rfl) (fun K hK => ?_)
   have d0 := HPC.out.b0
   have d1 := HPC.out.b1
   have d2 := HPC.out.b2
   have f0 := HPC.out.f2 0
   have f1 := HPC.out.f2 1
   have f2 := HPC.out.f2 2
   go_simp
   obtain ⟨wd, HWD⟩ : ∃ wd, Hid (wd = ((wc.setCell ⟨q2, 0, none⟩ (.slice (some ⟨g, h, none⟩) (k - h) (l.ca - h))).setCell ⟨q2, 1, none⟩ (.slice none 0 0)).setCell ⟨q2, 2, none⟩ (.slice none 0 0)) := Hy
   have HPD : Hid (PS w p q1 q2 b l x (.slice (some ⟨g, 0, none⟩) h l.ca) (.slice none 0 0) (.slice none 0 0) (.slice (some ⟨g, h, none⟩) (k - h) (l.ca - h)) (.slice none 0 0) (.slice none 0 0) wd) := Hi (by rw [HWD.out]; exact ((HPC.out.put2 0 _).put2 1 _).put2 2 _)
   rw [← HWD.out]
   clear HWD HPC hS d0 d1 d2 f0 f1 f2
   have hS : wd.cell? ⟨p, 0, none⟩ = some (.slice (some ⟨g, 0, none⟩) k l.ca) := by have := HPD.out.cp.b.c0; rw [HGG.out, ← HKK.out] at this; exact this
   refine hK.out _ _ hS ?_
   clear hK K hS
   refine wpAnyH_done (by kernel_rfl) ?_ _
   go_wp2_with (with_reducible refine stop_at (o := ⟨some 27, _, _, _, _, _⟩) ?_)
   refine wpList_load_nd Tryz.ndProg (by rfl) _ rfl p rfl l x HPD.out.cp.b ?_
   go_wp2_with fail
   refine (Leaf_any x).mono ?_
   rintro e we ⟨rfl, hb⟩
   have HPE := Hi (HPD.out.carry hb)
   clear hb HPD
   by_cases hlf : x.kids.length = 0
   case' pos =>
    rw [decide_eq_true hlf]
    have HLF := Hi hlf
    obtain ⟨gv, HGV, hvc, hvm, _, _⟩ := ownsRow_form HPE.out.mi.v (by have := HSH.out.leaf hlf; have := HR.out; have := HKK.out; omega)
    have HVL : Hid (x.vals.length = k) := Hi (by rw [HSH.out.leaf hlf, HKK.out])
    have hr1 : (h : Int) ≤ (l.cb : Int) := by have := HR.out; have := HVL.out; omega
    have hr2 : (h : Int) ≤ (k : Int) := by have := HR.out; omega
    have hcb : ¬ l.cb = h := by have := HR.out; have := HVL.out; omega
    have HCB : Hid (k ≤ l.cb) := Hi (by rw [← HVL.out]; exact hvc)
    have HGVV := Hi HGV
    clear hlf hvc hvm HGV
    go_upto_region 6 with (fail)
    refine wp_region_held (S := fun w9 => w9.cell? ⟨p, 1, none⟩ = some (.slice (some ⟨gv, 0, none⟩) k l.cb)) (by kernel_rfl) ?_
    change wpAnyH _ _ _ _ _ _ _ _ we.drew
    obtain ⟨wf, HWF⟩ : ∃ wf, Hid (wf = we.drew) := Hy
    rw [← HWF.out]
    have HPF := Hi (HPE.out.carry (w' := wf) (by rw [HWF.out]; exact (Below.refl _ _).drew))
    have hS : wf.cell? ⟨p, 1, none⟩ = some (.slice (some ⟨gv, 0, none⟩) k l.cb) := by have := HPF.out.cp.b.c1; rw [HGVV.out, HVL.out] at this; exact this
    clear HWF HPE
    refine takeK (i := 0) 29 (v := .pointer (some ⟨p, 1, none⟩)) rfl rfl hS ?_
    simp only [Act.put, pU]
    refine takeJ (i := 1) 30 (v := .slice (some ⟨gv, 0, none⟩) k l.cb) rfl rfl (.inl ⟨by rfl, fun _ h => by have c0 := h; go_simp⟩) hS ?_
    simp only [Act.put, pU]
    refine takeK (i := 2) 31 (v := .int .i64 (h : Int)) rfl rfl hS ?_
    simp only [Act.put, pU]
    refine takeK (i := 3) 32 (v := .slice (some ⟨gv, 0, none⟩) h l.cb) rfl rfl hS ?_
    simp only [Act.put, pU]
    refine takeK (i := 4) 33 (v := .pointer (some ⟨p, 1, none⟩)) rfl rfl hS ?_
    simp only [Act.put, pU]
    refine takeJ (i := 5) 34 (v := .slice (some ⟨gv, 0, none⟩) k l.cb) rfl rfl (.inl ⟨by rfl, fun _ h => by have c0 := h; go_simp⟩) hS ?_
    simp only [Act.put, pU]
    refine takeK (i := 6) 35 (v := .int .i64 (h : Int)) rfl rfl hS ?_
    simp only [Act.put, pU]
    refine takeK (i := 7) 36 (v := .slice (some ⟨gv, h, none⟩) (k - h) (l.cb - h)) rfl rfl hS ?_
    simp only [Act.put, pU]
    refine takeK (i := 8) 37 (v := .pointer (some ⟨q1, 1, none⟩)) rfl rfl hS ?_
    simp only [Act.put, pU]
    refine oneH (i := 9) (oi := ⟨none, _, _, _, _, _⟩) rfl (by kernel_rfl) (fun K hK => ?_)
    have d0 := HPF.out.a1
    have f0 := HPF.out.f1 1
    go_simp
    obtain ⟨wg, HWwg⟩ : ∃ wg, Hid (wg = wf.setCell ⟨q1, 1, none⟩ (.slice (some ⟨gv, 0, none⟩) h l.cb)) := Hy
    have HPG : Hid (PS w p q1 q2 b l x (.slice (some ⟨g, 0, none⟩) h l.ca) (.slice (some ⟨gv, 0, none⟩) h l.cb) (.slice none 0 0) (.slice (some ⟨g, h, none⟩) (k - h) (l.ca - h)) (.slice none 0 0) (.slice none 0 0) wg) := Hi (by rw [HWwg.out]; exact HPF.out.put1 1 _)
    rw [← HWwg.out]
    clear HWwg HPF hS d0 f0
    have hS : wg.cell? ⟨p, 1, none⟩ = some (.slice (some ⟨gv, 0, none⟩) k l.cb) := by have := HPG.out.cp.b.c1; rw [HGVV.out, HVL.out] at this; exact this
    refine hK.out _ _ hS ?_
    clear hK K
    refine takeK (i := 10) 38 (v := .pointer (some ⟨q2, 1, none⟩)) rfl rfl hS ?_
    simp only [Act.put, pU]
    refine oneH (i := 11) (oi := ⟨none, _, _, _, _, _⟩) rfl (by kernel_rfl) (fun K hK => ?_)
    have d0 := HPG.out.b1
    have f0 := HPG.out.f2 1
    go_simp
    obtain ⟨wh, HWwh⟩ : ∃ wh, Hid (wh = wg.setCell ⟨q2, 1, none⟩ (.slice (some ⟨gv, h, none⟩) (k - h) (l.cb - h))) := Hy
    have HPH : Hid (PS w p q1 q2 b l x (.slice (some ⟨g, 0, none⟩) h l.ca) (.slice (some ⟨gv, 0, none⟩) h l.cb) (.slice none 0 0) (.slice (some ⟨g, h, none⟩) (k - h) (l.ca - h)) (.slice (some ⟨gv, h, none⟩) (k - h) (l.cb - h)) (.slice none 0 0) wh) := Hi (by rw [HWwh.out]; exact HPG.out.put2 1 _)
    rw [← HWwh.out]
    clear HWwh HPG hS d0 f0
    have hS : wh.cell? ⟨p, 1, none⟩ = some (.slice (some ⟨gv, 0, none⟩) k l.cb) := by have := HPH.out.cp.b.c1; rw [HGVV.out, HVL.out] at this; exact this
    refine hK.out _ _ hS ?_
    clear hK K
    refine wpAnyH_done (by kernel_rfl) ?_ _
    clear hS
    obtain ⟨L1, HL1⟩ : ∃ L1 : Lay3, Hid (L1 = ⟨some ⟨g, 0, none⟩, some ⟨gv, 0, none⟩, none, l.ca, l.cb, 0⟩) := Hy
    obtain ⟨L2, HL2⟩ : ∃ L2 : Lay3, Hid (L2 = ⟨some ⟨g, h, none⟩, some ⟨gv, h, none⟩, none, l.ca - h, l.cb - h, 0⟩) := Hy
    obtain ⟨x1, HX1⟩ : ∃ x1 : Nd, Hid (x1 = ⟨x.keys.take h, x.vals.take h, []⟩) := Hy
    obtain ⟨x2, HX2⟩ : ∃ x2 : Nd, Hid (x2 = ⟨x.keys.drop h, x.vals.drop h, []⟩) := Hy
    have HB1 : Hid (NdBox wh q1 L1 x1) := Hi (by
     rw [HL1.out, HX1.out]
     refine ⟨?_, ?_, HPH.out.a2⟩
     ·show wh.cell? ⟨q1, 0, none⟩ = some (.slice (some ⟨g, 0, none⟩) (x.keys.take h).length l.ca)
      rw [List.length_take, ← HKK.out, show min h k = h by have := HR.out; omega]; exact HPH.out.a0
     ·show wh.cell? ⟨q1, 1, none⟩ = some (.slice (some ⟨gv, 0, none⟩) (x.vals.take h).length l.cb)
      rw [List.length_take, HVL.out, show min h k = h by have := HR.out; omega]; exact HPH.out.a1)
    have HB2 : Hid (NdBox wh q2 L2 x2) := Hi (by
     rw [HL2.out, HX2.out]
     refine ⟨?_, ?_, HPH.out.b2⟩
     ·show wh.cell? ⟨q2, 0, none⟩ = some (.slice (some ⟨g, h, none⟩) (x.keys.drop h).length (l.ca - h))
      rw [List.length_drop, ← HKK.out]; exact HPH.out.b0
     ·show wh.cell? ⟨q2, 1, none⟩ = some (.slice (some ⟨gv, h, none⟩) (x.vals.drop h).length (l.cb - h))
      rw [List.length_drop, HVL.out]; exact HPH.out.b1)
    have HN1 : Hid (NdIs wh L1 x1) := Hi (by
     have hi := HPH.out.mi.is
     have hkk := hi.keys
     have hvv := hi.vals
     rw [HGG.out] at hkk
     rw [HGVV.out] at hvv
     rw [HL1.out, HX1.out]
     refine ⟨hkk.take h, ?_, Nums.none_ _ _ _, Nat.le_trans (List.length_take_le' _ _) hi.kl, Nat.le_trans (List.length_take_le' _ _) hi.vl, Nat.zero_le _, fun z hz => hi.kw z (List.mem_of_mem_take hz), fun z hz => hi.vw z (List.mem_of_mem_take hz), fun z hz => (by cases hz)⟩
     show Strs wh (some ⟨gv, 0, none⟩) (x.vals.take h).length (x.vals.take h)
     rw [List.length_take, HVL.out, show min h k = h by have := HR.out; omega]
     exact hvv.take (by rw [HVL.out]; have := HR.out; omega))
    have HN2 : Hid (NdIs wh L2 x2) := Hi (by
     have hi := HPH.out.mi.is
     have hkk := hi.keys
     have hvv := hi.vals
     rw [HGG.out] at hkk
     rw [HGVV.out] at hvv
     rw [HL2.out, HX2.out]
     refine ⟨nums_drop hkk h, ?_, Nums.none_ _ _ _, ?_, ?_, Nat.zero_le _, fun z hz => hi.kw z (List.mem_of_mem_drop hz), fun z hz => hi.vw z (List.mem_of_mem_drop hz), fun z hz => (by cases hz)⟩
     ·show Strs wh (some ⟨gv, h, none⟩) (x.vals.drop h).length (x.vals.drop h)
      rw [List.length_drop]
      exact hvv.drop (by rw [HVL.out]; have := HR.out; omega)
     ·show (x.keys.drop h).length ≤ maxLen
      rw [List.length_drop]; have := hi.kl; omega
     ·show (x.vals.drop h).length ≤ maxLen
      rw [List.length_drop]; have := hi.vl; omega)
    have HMP : Hid (partsN x = ([x1, x2], (x.keys.drop h).take 1)) := Hi (by
     unfold partsN
     rw [if_neg HK7.out, if_pos HLF.out, HX1.out, HX2.out, ← HKK.out, ← HHH.out])
    have HLL : Hid ((∀ u, L1.has u → l.has u) ∧ ∀ u, L2.has u → l.has u) := Hi (by
     rw [HL1.out, HL2.out]
     refine ⟨fun u hu => ?_, fun u hu => ?_⟩ <;> rcases hu with ⟨a, ha, rfl⟩ | ⟨a, ha, rfl⟩ | ⟨a, ha, rfl⟩ <;> cases ha
     ·exact .inl ⟨_, HGG.out, rfl⟩
     ·exact .inr (.inl ⟨_, HGVV.out, rfl⟩)
     ·exact .inl ⟨_, HGG.out, rfl⟩
     ·exact .inr (.inl ⟨_, HGVV.out, rfl⟩))
   case' neg =>
    rw [decide_eq_false hlf]
    have HLF := Hi hlf
    obtain ⟨gc, HGC, hcc, hcm, _, _⟩ := ownsRow_form HPE.out.mi.c (by have := HSH.out.inner hlf; omega)
    have HCL : Hid (x.kids.length = k + 1) := Hi (by rw [(HSH.out.inner hlf).2, HKK.out])
    have HV0 : Hid (x.vals = []) := Hi (List.length_eq_zero_iff.1 (HSH.out.inner hlf).1)
    have hr6 : (i : Int) ≤ (l.cc : Int) := by have := HR.out; have := HCL.out; have := HII.out; omega
    have hr7 : (i : Int) ≤ (k : Int) + 1 := by have := HR.out; have := HII.out; omega
    have hcc2 : ¬ l.cc = i := by have := HR.out; have := HCL.out; have := HII.out; omega
    have HCC : Hid (k + 1 ≤ l.cc) := Hi (by rw [← HCL.out]; exact hcc)
    have HGCC := Hi HGC
    clear hlf hcc hcm HGC
    have c0 := HPE.out.cp.b.c0
    rw [HGG.out, ← HKK.out] at c0
    have d0 := HPE.out.b0
    have f0 := HPE.out.f2 0
    go_upto_region 8 with (fail)
    obtain ⟨wm, HWM⟩ : ∃ wm, Hid (wm = we.setCell ⟨q2, 0, none⟩ (.slice (some ⟨g, i, none⟩) (k - i) (l.ca - i))) := Hy
    have HPM : Hid (PS w p q1 q2 b l x (.slice (some ⟨g, 0, none⟩) h l.ca) (.slice none 0 0) (.slice none 0 0) (.slice (some ⟨g, i, none⟩) (k - i) (l.ca - i)) (.slice none 0 0) (.slice none 0 0) wm) := Hi (by rw [HWM.out]; exact HPE.out.put2 0 _)
    rw [← HWM.out]
    clear HWM c0 d0 f0 HPE
    refine wp_region_held (S := fun w9 => w9.cell? ⟨p, 2, none⟩ = some (.slice (some ⟨gc, 0, none⟩) (k + 1) l.cc)) (by kernel_rfl) ?_
    change wpAnyH _ _ _ _ _ _ _ _ wm.drew
    obtain ⟨wf, HWF⟩ : ∃ wf, Hid (wf = wm.drew) := Hy
    rw [← HWF.out]
    have HPF := Hi (HPM.out.carry (w' := wf) (by rw [HWF.out]; exact (Below.refl _ _).drew))
    have hS : wf.cell? ⟨p, 2, none⟩ = some (.slice (some ⟨gc, 0, none⟩) (k + 1) l.cc) := by have := HPF.out.cp.b.c2; rw [HGCC.out, HCL.out] at this; exact this
    clear HWF HPM
    refine takeK (i := 0) 45 (v := .pointer (some ⟨p, 2, none⟩)) rfl rfl hS ?_
    simp only [Act.put, pU]
    refine takeJ (i := 1) 46 (v := .slice (some ⟨gc, 0, none⟩) (k + 1) l.cc) rfl rfl (.inl ⟨by rfl, fun _ h => by have c0 := h; go_simp⟩) hS ?_
    simp only [Act.put, pU]
    refine takeK (i := 2) 47 (v := .int .i64 (h : Int)) rfl rfl hS ?_
    simp only [Act.put, pU]
    refine takeK (i := 3) 48 (v := .int .i64 (i : Int)) rfl rfl hS ?_
    simp only [Act.put, pU]
    refine takeK (i := 4) 49 (v := .slice (some ⟨gc, 0, none⟩) i l.cc) rfl rfl hS ?_
    simp only [Act.put, pU]
    refine takeK (i := 5) 50 (v := .pointer (some ⟨p, 2, none⟩)) rfl rfl hS ?_
    simp only [Act.put, pU]
    refine takeJ (i := 6) 51 (v := .slice (some ⟨gc, 0, none⟩) (k + 1) l.cc) rfl rfl (.inl ⟨by rfl, fun _ h => by have c0 := h; go_simp⟩) hS ?_
    simp only [Act.put, pU]
    refine takeK (i := 7) 52 (v := .int .i64 (h : Int)) rfl rfl hS ?_
    simp only [Act.put, pU]
    refine takeK (i := 8) 53 (v := .int .i64 (i : Int)) rfl rfl hS ?_
    simp only [Act.put, pU]
    refine takeK (i := 9) 54 (v := .slice (some ⟨gc, i, none⟩) (k + 1 - i) (l.cc - i)) rfl rfl hS ?_
    simp only [Act.put, pU]
    refine takeK (i := 10) 55 (v := .pointer (some ⟨q1, 2, none⟩)) rfl rfl hS ?_
    simp only [Act.put, pU]
    refine oneH (i := 11) (oi := ⟨none, _, _, _, _, _⟩) rfl (by kernel_rfl) (fun K hK => ?_)
    have d0 := HPF.out.a2
    have f0 := HPF.out.f1 2
    go_simp
    obtain ⟨wg, HWwg⟩ : ∃ wg, Hid (wg = wf.setCell ⟨q1, 2, none⟩ (.slice (some ⟨gc, 0, none⟩) i l.cc)) := Hy
    have HPG : Hid (PS w p q1 q2 b l x (.slice (some ⟨g, 0, none⟩) h l.ca) (.slice none 0 0) (.slice (some ⟨gc, 0, none⟩) i l.cc) (.slice (some ⟨g, i, none⟩) (k - i) (l.ca - i)) (.slice none 0 0) (.slice none 0 0) wg) := Hi (by rw [HWwg.out]; exact HPF.out.put1 2 _)
    rw [← HWwg.out]
    clear HWwg HPF hS d0 f0
    have hS : wg.cell? ⟨p, 2, none⟩ = some (.slice (some ⟨gc, 0, none⟩) (k + 1) l.cc) := by have := HPG.out.cp.b.c2; rw [HGCC.out, HCL.out] at this; exact this
    refine hK.out _ _ hS ?_
    clear hK K
    refine takeK (i := 12) 56 (v := .pointer (some ⟨q2, 2, none⟩)) rfl rfl hS ?_
    simp only [Act.put, pU]
    refine oneH (i := 13) (oi := ⟨none, _, _, _, _, _⟩) rfl (by kernel_rfl) (fun K hK => ?_)
    have d0 := HPG.out.b2
    have f0 := HPG.out.f2 2
    go_simp
    obtain ⟨wh, HWwh⟩ : ∃ wh, Hid (wh = wg.setCell ⟨q2, 2, none⟩ (.slice (some ⟨gc, i, none⟩) (k + 1 - i) (l.cc - i))) := Hy
    have HPH : Hid (PS w p q1 q2 b l x (.slice (some ⟨g, 0, none⟩) h l.ca) (.slice none 0 0) (.slice (some ⟨gc, 0, none⟩) i l.cc) (.slice (some ⟨g, i, none⟩) (k - i) (l.ca - i)) (.slice none 0 0) (.slice (some ⟨gc, i, none⟩) (k + 1 - i) (l.cc - i)) wh) := Hi (by rw [HWwh.out]; exact HPG.out.put2 2 _)
    rw [← HWwh.out]
    clear HWwh HPG hS d0 f0
    have hS : wh.cell? ⟨p, 2, none⟩ = some (.slice (some ⟨gc, 0, none⟩) (k + 1) l.cc) := by have := HPH.out.cp.b.c2; rw [HGCC.out, HCL.out] at this; exact this
    refine hK.out _ _ hS ?_
    clear hK K
    refine wpAnyH_done (by kernel_rfl) ?_ _
    clear hS
    obtain ⟨L1, HL1⟩ : ∃ L1 : Lay3, Hid (L1 = ⟨some ⟨g, 0, none⟩, none, some ⟨gc, 0, none⟩, l.ca, 0, l.cc⟩) := Hy
    obtain ⟨L2, HL2⟩ : ∃ L2 : Lay3, Hid (L2 = ⟨some ⟨g, i, none⟩, none, some ⟨gc, i, none⟩, l.ca - i, 0, l.cc - i⟩) := Hy
    obtain ⟨x1, HX1⟩ : ∃ x1 : Nd, Hid (x1 = ⟨x.keys.take h, [], x.kids.take i⟩) := Hy
    obtain ⟨x2, HX2⟩ : ∃ x2 : Nd, Hid (x2 = ⟨x.keys.drop i, [], x.kids.drop i⟩) := Hy
    have HB1 : Hid (NdBox wh q1 L1 x1) := Hi (by
     rw [HL1.out, HX1.out]
     refine ⟨?_, HPH.out.a1, ?_⟩
     ·show wh.cell? ⟨q1, 0, none⟩ = some (.slice (some ⟨g, 0, none⟩) (x.keys.take h).length l.ca)
      rw [List.length_take, ← HKK.out, show min h k = h by have := HR.out; omega]; exact HPH.out.a0
     ·show wh.cell? ⟨q1, 2, none⟩ = some (.slice (some ⟨gc, 0, none⟩) (x.kids.take i).length l.cc)
      rw [List.length_take, HCL.out, show min i (k + 1) = i by have := HR.out; have := HII.out; omega]; exact HPH.out.a2)
    have HB2 : Hid (NdBox wh q2 L2 x2) := Hi (by
     rw [HL2.out, HX2.out]
     refine ⟨?_, HPH.out.b1, ?_⟩
     ·show wh.cell? ⟨q2, 0, none⟩ = some (.slice (some ⟨g, i, none⟩) (x.keys.drop i).length (l.ca - i))
      rw [List.length_drop, ← HKK.out]; exact HPH.out.b0
     ·show wh.cell? ⟨q2, 2, none⟩ = some (.slice (some ⟨gc, i, none⟩) (x.kids.drop i).length (l.cc - i))
      rw [List.length_drop, HCL.out]; exact HPH.out.b2)
    have HN1 : Hid (NdIs wh L1 x1) := Hi (by
     have hi := HPH.out.mi.is
     have hkk := hi.keys
     have hcc := hi.kids
     rw [HGG.out] at hkk
     rw [HGCC.out] at hcc
     rw [HL1.out, HX1.out]
     exact ⟨hkk.take h, Strs.none_ _ _, hcc.take i, Nat.le_trans (List.length_take_le' _ _) hi.kl, Nat.zero_le _, Nat.le_trans (List.length_take_le' _ _) hi.cl, fun z hz => hi.kw z (List.mem_of_mem_take hz), fun z hz => (by cases hz), fun z hz => hi.cw z (List.mem_of_mem_take hz)⟩)
    have HN2 : Hid (NdIs wh L2 x2) := Hi (by
     have hi := HPH.out.mi.is
     have hkk := hi.keys
     have hcc := hi.kids
     rw [HGG.out] at hkk
     rw [HGCC.out] at hcc
     rw [HL2.out, HX2.out]
     refine ⟨nums_drop hkk i, Strs.none_ _ _, nums_drop hcc i, ?_, Nat.zero_le _, ?_, fun z hz => hi.kw z (List.mem_of_mem_drop hz), fun z hz => (by cases hz), fun z hz => hi.cw z (List.mem_of_mem_drop hz)⟩
     ·show (x.keys.drop i).length ≤ maxLen
      rw [List.length_drop]; have := hi.kl; omega
     ·show (x.kids.drop i).length ≤ maxLen
      rw [List.length_drop]; have := hi.cl; omega)
    have HMP : Hid (partsN x = ([x1, x2], (x.keys.drop h).take 1)) := Hi (by
     unfold partsN
     rw [if_neg HK7.out, if_neg HLF.out, HX1.out, HX2.out, ← HKK.out, ← HHH.out, ← HII.out])
    have HLL : Hid ((∀ u, L1.has u → l.has u) ∧ ∀ u, L2.has u → l.has u) := Hi (by
     rw [HL1.out, HL2.out]
     refine ⟨fun u hu => ?_, fun u hu => ?_⟩ <;> rcases hu with ⟨a, ha, rfl⟩ | ⟨a, ha, rfl⟩ | ⟨a, ha, rfl⟩ <;> cases ha
     ·exact .inl ⟨_, HGG.out, rfl⟩
     ·exact .inr (.inr ⟨_, HGCC.out, rfl⟩)
     ·exact .inl ⟨_, HGG.out, rfl⟩
     ·exact .inr (.inr ⟨_, HGCC.out, rfl⟩))
   all_goals
    clear HL1 HL2 HX1 HX2
    have HCP := Hi HPH.out.cp
    have c0 := HCP.out.b.c0
    rw [HGG.out, ← HKK.out] at c0
    go_upto_region 9 with (fail)
    refine wp_region_held (S := fun w9 => w9.cell? ⟨p, 0, none⟩ = some (.slice (some ⟨g, 0, none⟩) k l.ca) ∧ NdBox w9 q1 L1 x1 ∧ NdBox w9 q2 L2 x2) (by kernel_rfl) ?_
    change wpAnyH _ _ _ _ _ _ _ _ wh.drew
    obtain ⟨wi, HWI⟩ : ∃ wi, Hid (wi = wh.drew) := Hy
    rw [← HWI.out]
    have hdr : Below wh.heap.size wh wi := by rw [HWI.out]; exact (Below.refl _ _).drew
    have hS : wi.cell? ⟨p, 0, none⟩ = some (.slice (some ⟨g, 0, none⟩) k l.ca) ∧ NdBox wi q1 L1 x1 ∧ NdBox wi q2 L2 x2 := ⟨(hdr.cell (p := ⟨p, 0, none⟩) HCP.out.b.lt).trans c0, HB1.out.carry hdr HB1.out.lt, HB2.out.carry hdr HB2.out.lt⟩
    have HNI : Hid (NdIs wi L1 x1 ∧ NdIs wi L2 x2 ∧ CopyS w p l x wi) := Hi ⟨HN1.out.carry hdr, HN2.out.carry hdr, HCP.out.carry hdr⟩
    clear hdr HWI HB1 HB2 HN1 HN2 HCP HPH c0
    refine takeJ (i := 0) 57 (v := ndV L1 x1) rfl rfl (yieldsIf_nd Tryz.ndProg (by rfl) _ rfl q1 rfl L1 x1 (fun _ h => h.2.1)) hS ?_
    simp only [Act.put, pU]
    refine takeJ (i := 1) 58 (v := ndV L2 x2) rfl rfl (yieldsIf_nd Tryz.ndProg (by rfl) _ rfl q2 rfl L2 x2 (fun _ h => h.2.2)) hS ?_
    simp only [Act.put, pU]
    refine takeK (i := 3) 60 (v := .pointer (some ⟨p, 0, none⟩)) rfl rfl hS ?_
    simp only [Act.put, pU]
    refine takeJ (i := 4) 61 (v := .slice (some ⟨g, 0, none⟩) k l.ca) rfl rfl (.inl ⟨by rfl, fun _ h => by have c0 := h.1; go_simp⟩) hS ?_
    simp only [Act.put, pU]
    refine takeK (i := 5) 62 (v := .int .i64 (h : Int)) rfl rfl hS ?_
    simp only [Act.put, pU]
    refine takeK (i := 6) 63 (v := .int .i64 (h : Int)) rfl rfl hS ?_
    simp only [Act.put, pU]
    refine takeK (i := 7) 64 (v := .int .i64 (i : Int)) rfl rfl hS ?_
    simp only [Act.put, pU]
    refine takeK (i := 8) 65 (v := .slice (some ⟨g, h, none⟩) (i - h) (l.ca - h)) rfl rfl hS ?_
    simp only [Act.put, pU]
    refine oneH (i := 2) (oi := ⟨some 59, _, _, _, _, _⟩) rfl (by kernel_rfl) (fun K hK => ?_)
    go_simp
    obtain ⟨q3, HQ3⟩ : ∃ q3, Hid (q3 = wi.heap.size) := Hy
    obtain ⟨wj, HWJ⟩ : ∃ wj, Hid (wj = wi.alloc (.cells #[.slice L1.A x1.keys.length L1.ca, .slice L1.B x1.vals.length L1.cb, .slice L1.C x1.kids.length L1.cc, .slice L2.A x2.keys.length L2.ca, .slice L2.B x2.vals.length L2.cb, .slice L2.C x2.kids.length L2.cc] 48)) := Hy
    rw [← HWJ.out, ← HQ3.out]
    have HBJ : Hid (Below wi.heap.size wi wj) := Hi (by rw [HWJ.out]; exact (Below.refl _ _).alloc (Nat.le_refl _) _)
    have hS2 : wj.cell? ⟨p, 0, none⟩ = some (.slice (some ⟨g, 0, none⟩) k l.ca) ∧ NdBox wj q1 L1 x1 ∧ NdBox wj q2 L2 x2 := ⟨(HBJ.out.cell (p := ⟨p, 0, none⟩) HNI.out.2.2.b.lt).trans hS.1, hS.2.1.carry HBJ.out hS.2.1.lt, hS.2.2.carry HBJ.out hS.2.2.lt⟩
    refine hK.out _ _ hS2 ?_
    clear hK K hS
    have hS := hS2
    clear hS2
    refine takeK (i := 9) 2 (v := .slice (some ⟨q3, 0, none⟩) 2 2) rfl rfl hS ?_
    simp only [Act.put, pU]
    refine takeK (i := 10) 3 (v := .slice (some ⟨g, h, none⟩) (i - h) (l.ca - h)) rfl rfl hS ?_
    simp only [Act.put, pU]
    refine wpAnyH_done (by kernel_rfl) ?_ _
    go_wp2_with fail
    go_ret2
    have hrow : wj.rangeAt q3 0 [.slice L1.A x1.keys.length L1.ca, .slice L1.B x1.vals.length L1.cb, .slice L1.C x1.kids.length L1.cc, .slice L2.A x2.keys.length L2.ca, .slice L2.B x2.vals.length L2.cb, .slice L2.C x2.kids.length L2.cc] := by
     rw [HWJ.out, HQ3.out]
     intro j v hv
     simp only [Nat.zero_add]
     match j, hv with
     | 0, hv => cases hv; simp
     | 1, hv => cases hv; simp
     | 2, hv => cases hv; simp
     | 3, hv => cases hv; simp
     | 4, hv => cases hv; simp
     | 5, hv => cases hv; simp
    unfold PartsPost
    rw [HMP.out]
    refine ⟨q3, some ⟨g, h, none⟩, l.ca - h, ?_, ?_, ?_, ?_, ?_, ?_, fun a ha => ⟨⟨⟨g, 0, none⟩, HGG.out, by cases ha; rfl⟩, g, h, by cases ha; rfl⟩, fun h9 => ?_⟩
    ·have : ((x.keys.drop h).take 1).length = i - h := by rw [List.length_take, List.length_drop, ← HKK.out]; have := HR.out; have := HII.out; omega
     rw [this]; rfl
    ·intro m hm
     match m, hm with
     | 0, _ => exact ⟨L1, HNI.out.1.carry HBJ.out, fun j v hv => by
       have := hrow j v (by
        match j, hv with
        | 0, hv => exact hv
        | 1, hv => exact hv
        | 2, hv => exact hv)
       simpa using this, HLL.out.1⟩
     | 1, _ => exact ⟨L2, HNI.out.2.1.carry HBJ.out, fun j v hv => by
       have := hrow (3 + j) v (by
        match j, hv with
        | 0, hv => exact hv
        | 1, hv => exact hv
        | 2, hv => exact hv)
       simpa using this, HLL.out.2⟩
    ·have hkk := (HNI.out.2.2.carry HBJ.out).is.keys
     rw [HGG.out] at hkk
     exact (nums_drop hkk h).take 1
    ·rw [HQ3.out]; exact HNI.out.2.2.below.size
    ·rw [HQ3.out, HWJ.out]; simp
    ·exact HNI.out.2.2.below.trans (HBJ.out.mono HNI.out.2.2.below.size)
    ·have h8 := congrArg List.length h9
     rw [List.length_take, List.length_drop, ← HKK.out, List.length_nil] at h8
     have := HR.out
     omega
end Go.Proofs.YtafclmbecmgbnaaGreatDoor

/-
 TrGet. Conditions: as each theorem says.
-/
namespace Go.Proofs.YtafclmbecmgbnaaGreatDoor
open Go.RowKit
theorem loadM_right {S : TS} {i level : Int} {x : Nd} (h : loadM S i level = .ok x) : rightN x = true := by
 unfold loadM at h
 split at h
 ·cases h
 ·split at h
  ·split at h
   ·rename_i y hy
    cases h
    exact readN_right hy
   ·cases h
  ·cases h
theorem right_shape {x : Nd} (h : rightN x = true) : NdShape x := by
 obtain ⟨_, h2, h3⟩ := right_parts h
 refine ⟨fun hk => ?_, fun hk => ?_, by omega⟩
 ·rcases h3 with ⟨_, _, h6⟩ | ⟨_, _, _, _, h8⟩
  ·exact h6
  ·omega
 ·rcases h3 with ⟨h4, _⟩ | ⟨_, _, h6, _, h8⟩
  ·rw [h4] at hk; exact absurd rfl hk
  ·exact ⟨by rw [h6]; rfl, h8⟩
theorem kidAtN_lt {x : Nd} (h : rightN x = true) (hk : x.kids.length ≠ 0) (key : Int) : kidAtN x key < x.kids.length := by
 have h1 := (right_shape h).inner hk
 unfold kidAtN seekN
 rw [if_pos h]
 have h2 := less_le x.keys key
 simp only
 split
 ·rename_i h3
  have h4 := (List.getElem?_eq_some_iff.1 (of_decide_eq_true h3)).1
  omega
 ·omega
def GetPost (w : World) (o : Except Int ByteArray) (e : Ending) (w' : World) : Prop :=
 match o with
 | .error c => c ≠ 0 ∧ ∃ v, e = .returned (.tuple #[.string ⟨#[]⟩, v]) ∧ ErrFrom w' w.heap.size c v ∧ Below w.heap.size w w'
 | .ok s => e = .returned (.tuple #[.string s, .nilIface]) ∧ Below w.heap.size w w'
theorem GetPost.from_ {w w1 w2 : World} {o : Except Int ByteArray} {e : Ending} (h : GetPost w1 o e w2) (hb : Below w.heap.size w w1) : GetPost w o e w2 := by
 unfold GetPost at *
 cases o with
 | error c =>
  obtain ⟨h1, v, h2, h3, h4⟩ := h
  exact ⟨h1, v, h2, h3.mono hb.size, hb.trans (h4.mono hb.size)⟩
 | ok s => exact ⟨h.1, hb.trans (h.2.mono hb.size)⟩
section
variable {O : PgOwn} (H : PgSpec O)
include H
set_option maxRecDepth 100000 in
set_option maxHeartbeats 4000000 in
theorem get_any {w0 : World} {P D n : Nat} {S : TS} {firm : Nat → List UInt8} (hg : Laid2 w0) (f : Nat) (hf : f ≤ 12) {K : Nat → Prop} {w : World} (hl : LawT O w0 K w P D n S firm) (i key : Int) :
  Calls Tryz.prog 108 #[ptr P, .int .i64 i, .int .i64 (13 - (f : Int)), .int .i64 key] w (GetPost w (getM f S i key)) := by
 induction f generalizing w K i with
 | zero =>
  have HLD := Hi (load_any H hl hg i 13)
  have HM : Hid (loadM S i 13 = .error 2) := Hi (by unfold loadM; rw [if_pos (by decide)])
  have HG0 : Hid (getM 0 S i key = .error 2) := Hi rfl
  rw [HM.out] at HLD
  rw [show (13 : Int) - ((0 : Nat) : Int) = 13 from rfl]
  clear hl
  go_enter Tryz.func108, Tryz.ntmps108
  go_wp2_with fail
  refine HLD.out.mono ?_
  rintro e w1 ⟨hc, v, rfl, he, hb⟩
  obtain ⟨tt, xx, rfl⟩ := he.some hc
  have HE := Hi he
  have HB := Hi hb
  have HC := Hi hc
  clear he hb HLD hc
  go_wp2_with fail
  go_ret2
  have hb2 := (Below.refl w1.heap.size w1).alloc (Nat.le_refl _) (.cells #[.slice Lay3.none_.A Nd.empty.keys.length Lay3.none_.ca, .slice Lay3.none_.B Nd.empty.vals.length Lay3.none_.cb, .slice Lay3.none_.C Nd.empty.kids.length Lay3.none_.cc] 48)
  rw [HG0.out]
  exact ⟨HC.out, _, rfl, HE.out.below hb2, HB.out.trans (hb2.mono HB.out.size)⟩
 | succ f ih =>
  obtain ⟨lv, HLV⟩ : ∃ lv : Int, Hid (lv = 12 - (f : Int)) := Hy
  have HLW : Hid (wrap64 (lv + 1) = 13 - (f : Int)) := Hi (by rw [HLV.out]; unfold wrap64; omega)
  have HLW2 : Hid (IntKind.i64.wrap (lv + 1) = 13 - (f : Int)) := Hi (by rw [IntKind.wrap_i64, HLV.out]; omega)
  rw [show (13 : Int) - ((f + 1 : Nat) : Int) = lv by rw [HLV.out]; omega]
  have HLD := Hi (load_any H hl hg i lv)
  have HL := Hi hl
  have HIH : Hid (∀ {K : Nat → Prop} {w : World}, LawT O w0 K w P D n S firm → ∀ i : Int, Calls Tryz.prog 108 #[ptr P, .int .i64 i, .int .i64 (13 - (f : Int)), .int .i64 key] w (GetPost w (getM f S i key))) := Hi fun h i => ih (by omega) h i
  clear hl ih hf
  cases hlm : loadM S i lv with
  | error c =>
   have HG0 : Hid (getM (f + 1) S i key = .error c) := Hi (by unfold getM; rw [← HLV.out, hlm])
   rw [hlm] at HLD
   clear hlm
   go_enter Tryz.func108, Tryz.ntmps108
   go_wp2_with fail
   refine HLD.out.mono ?_
   rintro e w1 ⟨hc, v, rfl, he, hb⟩
   obtain ⟨tt, xx, rfl⟩ := he.some hc
   have HE := Hi he
   have HB := Hi hb
   have HC := Hi hc
   clear he hb HLD hc
   go_wp2_with fail
   go_ret2
   have hb2 := (Below.refl w1.heap.size w1).alloc (Nat.le_refl _) (.cells #[.slice Lay3.none_.A Nd.empty.keys.length Lay3.none_.ca, .slice Lay3.none_.B Nd.empty.vals.length Lay3.none_.cb, .slice Lay3.none_.C Nd.empty.kids.length Lay3.none_.cc] 48)
   rw [HG0.out]
   exact ⟨HC.out, _, rfl, HE.out.below hb2, HB.out.trans (hb2.mono HB.out.size)⟩
  | ok x =>
   have HR := Hi (loadM_right hlm)
   have HG0 : Hid (getM (f + 1) S i key = if x.kids.length = 0 then (if (seekN x key).2 = true then .ok (x.vals.getD (seekN x key).1 ⟨#[]⟩) else .error 4) else getM f S (x.kids.getD (kidAtN x key) 0) key) := Hi (by
    show (match loadM S i (12 - f : Int) with | .error c => Except.error c | .ok x => _) = _
    rw [← HLV.out, hlm])
   rw [hlm] at HLD
   clear hlm
   go_enter Tryz.func108, Tryz.ntmps108
   go_wp2_with fail
   refine HLD.out.mono ?_
   rintro e w1 ⟨_, l, rfl, hn, hb⟩
   obtain ⟨q, HQ⟩ : ∃ q, Hid (q = w1.heap.size) := Hy
   obtain ⟨w2, HW2⟩ : ∃ w2, Hid (w2 = w1.alloc (.cells #[.slice l.A x.keys.length l.ca, .slice l.B x.vals.length l.cb, .slice l.C x.kids.length l.cc] 48)) := Hy
   have HS2 : Hid (CopyS w q l x w2) := Hi (by
    have h := CopyS.new hn.is
    rw [← HW2.out, ← HQ.out] at h
    exact ⟨h.b, h.is, hb.trans (h.below.mono hb.size), by rw [HQ.out]; exact hb.size⟩)
   clear hn hb HLD
   go_upto_region 4 with (fail)
   rw [← HW2.out, ← HQ.out]
   clear HW2 HQ
   go_wp2_with (with_reducible refine stop_at (o := ⟨some 24, _, _, _, _, _⟩) ?_)
   refine wpList_load_nd Tryz.ndProg (by rfl) _ rfl q rfl l x HS2.out.b ?_
   go_wp2_with fail
   refine (Leaf_any x).mono ?_
   rintro e w3 ⟨rfl, hb⟩
   have HS3 := Hi (HS2.out.carry hb)
   clear hb HS2
   by_cases hlf : x.kids.length = 0
   ·rw [decide_eq_true hlf]
    have HLF := Hi hlf
    have HG1 : Hid (getM (f + 1) S i key = if (seekN x key).2 = true then .ok (x.vals.getD (seekN x key).1 ⟨#[]⟩) else .error 4) := Hi (by rw [HG0.out, if_pos hlf])
    have HSK := Hi (Seek_any HS3.out.is key)
    obtain ⟨a, HAA⟩ : ∃ a, Hid (a = (seekN x key).1) := Hy
    obtain ⟨fd, HFD⟩ : ∃ fd, Hid (fd = (seekN x key).2) := Hy
    rw [← HAA.out, ← HFD.out] at HSK HG1
    clear hlf HG0
    go_wp2_with (with_reducible refine stop_at (o := ⟨some 42, _, _, _, _, _⟩) ?_)
    refine wpList_load_nd Tryz.ndProg (by rfl) _ rfl q rfl l x HS3.out.b ?_
    go_wp2_with fail
    refine HSK.out.mono ?_
    rintro e w4 ⟨rfl, hb⟩
    have HS4 := Hi (HS3.out.carry hb)
    clear hb HS3 HSK
    cases fd with
    | false =>
     go_wp2_with fail
     refine (trFault_any 4 (by decide) _).mono ?_
     rintro e w5 ⟨v, rfl, he, hb⟩
     have HE := Hi (he.mono HS4.out.below.size)
     have HB := Hi (HS4.out.below.trans (hb.mono HS4.out.below.size))
     clear he hb
     go_wp2_with fail
     go_ret2
     rw [HG1.out]
     exact ⟨by decide, v, rfl, HE.out, HB.out⟩
    | true =>
     have HAV : Hid (a < x.vals.length) := Hi (by
      have h := HFD.out
      rw [(right_shape HR.out).leaf HLF.out, HAA.out]
      unfold seekN at h ⊢
      rw [if_pos HR.out] at h ⊢
      exact (List.getElem?_eq_some_iff.1 (of_decide_eq_true h.symm)).1)
     obtain ⟨B, HB0, hc⟩ := strs_cell HS4.out.is.vals (i := a) HAV.out
     have c1 := HS4.out.b.c1
     rw [HB0] at c1
     have hal : (a : Int) < (x.vals.length : Int) := by have := HAV.out; omega
     obtain ⟨s, HSS⟩ : ∃ s, Hid (s = x.vals[a]'HAV.out) := Hy
     rw [← HSS.out] at hc
     have HG2 : Hid (getM (f + 1) S i key = .ok s) := Hi (by rw [HG1.out, if_pos rfl, HSS.out, List.getD_eq_getElem?_getD, List.getElem?_eq_getElem HAV.out]; rfl)
     clear HB0 HG1
     go_wp2_with fail
     go_ret2
     rw [HG2.out]
     exact ⟨rfl, HS4.out.below⟩
   ·rw [decide_eq_false hlf]
    have HNE := Hi hlf
    have HG1 : Hid (getM (f + 1) S i key = getM f S (x.kids.getD (kidAtN x key) 0) key) := Hi (by rw [HG0.out, if_neg hlf])
    have HKL := Hi (kidAtN_lt HR.out hlf key)
    obtain ⟨k, HK⟩ : ∃ k, Hid (k = kidAtN x key) := Hy
    have HKA : Hid (∀ w', NdIs w' l x → Calls Tryz.prog 102 #[ndV l x, .int .i64 key] w' fun e w'' => e = .returned (.int .i64 (k : Int)) ∧ Below w'.heap.size w' w'') := Hi fun w' h => by rw [HK.out]; exact kidAt_any h key
    rw [← HK.out] at HG1 HKL
    obtain ⟨C, HC0, hc⟩ := nums_cell HS3.out.is.kids (i := k) HKL.out
    obtain ⟨z, HZ⟩ : ∃ z, Hid (z = x.kids.getD k 0) := Hy
    rw [show x.kids[k]'HKL.out = z by rw [HZ.out, List.getD_eq_getElem?_getD, List.getElem?_eq_getElem HKL.out]; rfl] at hc
    rw [← HZ.out] at HG1
    have hkl : (k : Int) < (x.kids.length : Int) := by have := HKL.out; omega
    have HCC := Hi HC0
    have HCL := Hi hc
    have hlw := HLW2.out
    have hlw2 := HLW.out
    clear hlf HG0 HC0 hc
    go_upto_region 5 with (fail)
    refine wp_region_held (S := fun w9 => CopyS w q l x w9) (by kernel_rfl) ?_
    change wpAnyH _ _ _ _ _ _ _ _ w3.drew
    obtain ⟨wa, HWA⟩ : ∃ wa, Hid (wa = w3.drew) := Hy
    rw [← HWA.out]
    have hS : CopyS w q l x wa := by rw [HWA.out]; exact HS3.out.carry (Below.refl _ _).drew
    have HCW : Hid (∀ w', CopyS w q l x w' → w'.cell? ⟨q, 2, none⟩ = some (.slice (some C) x.kids.length l.cc) ∧ w'.cell? (C.add k) = some (.int .i64 z)) := Hi fun w' h => by
     refine ⟨by have := h.b.c2; rw [HCC.out] at this; exact this, ?_⟩
     obtain ⟨C', h1, h2⟩ := nums_cell h.is.kids (i := k) HKL.out
     rw [HCC.out] at h1
     obtain rfl := Option.some.inj h1
     rw [h2, HZ.out, List.getD_eq_getElem?_getD, List.getElem?_eq_getElem HKL.out]
     rfl
    clear HWA HS3 HCL
    refine takeK (i := 0) 27 (v := ptr P) rfl rfl hS ?_
    simp only [Act.put, pU]
    refine takeK (i := 1) 28 (v := .pointer (some ⟨q, 2, none⟩)) rfl rfl hS ?_
    simp only [Act.put, pU]
    refine takeJ (i := 2) 29 (v := .slice (some C) x.kids.length l.cc) rfl rfl (.inl ⟨by rfl, fun _ h => by have c0 := (HCW.out _ h).1; go_simp⟩) hS ?_
    simp only [Act.put, pU]
    refine takeJ (i := 3) 30 (v := ndV l x) rfl rfl (yieldsIf_nd Tryz.ndProg (by rfl) _ rfl q rfl l x (fun _ h => h.b)) hS ?_
    simp only [Act.put, pU]
    refine takeK (i := 4) 31 (v := .int .i64 key) rfl rfl hS ?_
    simp only [Act.put, pU]
    refine takeK (i := 8) 35 (v := .int .i64 lv) rfl rfl hS ?_
    simp only [Act.put, pU]
    refine takeK (i := 9) 36 (v := .int .i64 (13 - (f : Int))) rfl rfl hS ?_
    simp only [Act.put, pU]
    refine takeK (i := 10) 37 (v := .int .i64 key) rfl rfl hS ?_
    simp only [Act.put, pU]
    refine oneH (i := 5) (oi := ⟨some 32, _, _, _, _, _⟩) rfl (by kernel_rfl) (fun K hK => ?_)
    go_simp
    refine (HKA.out _ hS.is).mono ?_
    rintro e wa2 ⟨rfl, hb⟩
    have hS2 := hS.carry hb
    clear hb hS
    refine hK.out _ _ hS2 ?_
    clear hK K
    have hS := hS2
    clear hS2
    refine takeK (i := 6) 33 (v := .pointer (some (C.add k))) rfl rfl hS ?_
    simp only [Act.put, pU]
    refine takeJ (i := 7) 34 (v := .int .i64 z) rfl rfl (.inl ⟨by rfl, fun _ h => by have c0 := (HCW.out _ h).2; go_simp⟩) hS ?_
    simp only [Act.put, pU]
    refine oneH (i := 11) (oi := ⟨some 38, _, _, _, _, _⟩) rfl (by kernel_rfl) (fun K hK => ?_)
    go_simp
    refine (HIH.out (HL.out.carry H hS.below) z).mono ?_
    rintro e wn hgp
    obtain ⟨s, v, rfl, hb⟩ : ∃ s v, e = .returned (.tuple #[.string s, v]) ∧ Below wa2.heap.size wa2 wn := by
     unfold GetPost at hgp
     cases hgg : getM f S z key with
     | error c => rw [hgg] at hgp; obtain ⟨_, v, h1, _, h2⟩ := hgp; exact ⟨_, v, h1, h2⟩
     | ok s => rw [hgg] at hgp; exact ⟨s, _, hgp.1, hgp.2⟩
    have HGP := Hi (hgp.from_ hS.below)
    have hS2 := hS.carry hb
    clear hb hS hgp
    refine hK.out _ _ hS2 ?_
    clear hK K
    have hS := hS2
    clear hS2
    refine takeK (i := 12) 39 (v := .string s) rfl rfl hS ?_
    simp only [Act.put, pU]
    refine takeK (i := 13) 40 (v := v) rfl rfl hS ?_
    simp only [Act.put, pU]
    refine takeK (i := 14) 8 (v := .string s) rfl rfl hS ?_
    simp only [Act.put, pU]
    refine takeK (i := 15) 9 (v := v) rfl rfl hS ?_
    simp only [Act.put, pU]
    refine wpAnyH_done (by kernel_rfl) ?_ _
    go_wp2_with fail
    go_ret2
    rw [HG1.out]
    exact HGP.out
theorem Get_any {w0 : World} {P D n : Nat} {S : TS} {firm : Nat → List UInt8} (hg : Laid2 w0) {K : Nat → Prop} {w : World} (hl : LawT O w0 K w P D n S firm) (root key : Int) :
  Calls Tryz.prog 69 #[ptr P, .int .i64 root, .int .i64 key] w (GetPost w (getTop S root key)) := by
 by_cases h0 : root = 0
 ·subst h0
  have HM : Hid (getTop S 0 key = .error 4) := Hi rfl
  clear hl
  go_enter Tryz.func69, Tryz.ntmps69
  go_wp2_with fail
  refine (trFault_any 4 (by decide) _).mono ?_
  rintro e w5 ⟨v, rfl, he, hb⟩
  have HE := Hi he
  have HB := Hi hb
  clear he hb
  go_wp2_with fail
  go_ret2
  rw [HM.out]
  exact ⟨by decide, v, rfl, HE.out, HB.out⟩
 ·have HG := Hi (get_any H hg 12 (Nat.le_refl _) hl root key)
  have HM : Hid (getTop S root key = getM 12 S root key) := Hi (by unfold getTop; rw [if_neg h0])
  rw [show (13 : Int) - ((12 : Nat) : Int) = 1 from rfl] at HG
  clear hl
  go_enter Tryz.func69, Tryz.ntmps69
  go_wp2_with fail
  refine HG.out.mono ?_
  rintro e w2 hgp
  obtain ⟨s, v, rfl⟩ : ∃ s v, e = .returned (.tuple #[.string s, v]) := by
   unfold GetPost at hgp
   cases hgg : getM 12 S root key with
   | error c => rw [hgg] at hgp; obtain ⟨_, v, h1, _⟩ := hgp; exact ⟨_, v, h1⟩
   | ok s => rw [hgg] at hgp; exact ⟨s, _, hgp.1⟩
  have HGP := Hi hgp
  clear hgp HG
  go_wp2_with fail
  go_ret2
  rw [HM.out]
  exact HGP.out
end
end Go.Proofs.YtafclmbecmgbnaaGreatDoor

/-
 TrAdd. Conditions: as each theorem says.
-/
namespace Go.Proofs.YtafclmbecmgbnaaGreatDoor
open Go.RowKit
theorem layN_fits {x : Nd} (h : rightN x = true) : (layN x).length ≤ 120 := by
 have h1 := layN_length h
 have h2 := (right_parts h).2.1
 unfold sizeN at h1
 split at h1 <;> omega
def AddPost (O : PgOwn) (w0 : World) (K : Nat → Prop) (w : World) (P D n : Nat) (firm : Nat → List UInt8) (r : Except Int Int × TS) (e : Ending) (w' : World) : Prop :=
 LawT O w0 K w' P D n r.2 firm ∧ Kept K w w' ∧ match r.1 with
 | .error c => c ≠ 0 ∧ ∃ v, e = .returned (.tuple #[.int .i64 0, v]) ∧ ErrFrom w' w.heap.size c v
 | .ok k => e = .returned (.tuple #[.int .i64 k, .nilIface])
section
variable {O : PgOwn} (H : PgSpec O)
include H
set_option maxRecDepth 100000 in
theorem add_any {w0 : World} {K : Nat → Prop} {w : World} {P D n : Nat} {S : TS} {firm : Nat → List UInt8} (hl : LawT O w0 K w P D n S firm) (hg : Laid2 w0) (hs : S.d.soft.length ≤ 100000) {l : Lay3} {x : Nd} (hx : NdIs w l x) :
  Calls Tryz.prog 67 #[ptr P, ndV l x] w (AddPost O w0 K w P D n firm (addM n S x)) := by
 obtain ⟨p, HPP⟩ : ∃ p, Hid (p = w.heap.size) := Hy
 obtain ⟨w1, HW1⟩ : ∃ w1, Hid (w1 = w.alloc (.cells #[.slice l.A x.keys.length l.ca, .slice l.B x.vals.length l.cb, .slice l.C x.kids.length l.cc] 48)) := Hy
 have HS1 : Hid (CopyS w p l x w1) := Hi (by rw [HW1.out, HPP.out]; exact CopyS.new hx)
 have HL := Hi hl
 cases hr : rightN x with
 | false =>
  have HM : Hid (addM n S x = (.error 2, S)) := Hi (by unfold addM; rw [if_pos hr])
  have HLY := Hi (Lay_no HS1.out.is hr)
  rw [HM.out]
  clear hl hx hr
  go_enter Tryz.func67, Tryz.ntmps67
  go_upto_region 1 with (fail)
  rw [← HW1.out, ← HPP.out]
  clear HW1 HPP
  go_wp2_with (with_reducible refine stop_at (o := ⟨some 10, _, _, _, _, _⟩) ?_)
  refine wpList_load_nd Tryz.ndProg (by rfl) _ rfl p rfl l x HS1.out.b ?_
  go_wp2_with fail
  refine HLY.out.mono ?_
  rintro e w2 ⟨v, rfl, he, hb⟩
  obtain ⟨tt, xx, rfl⟩ := he.some (by decide)
  have HB := Hi (HS1.out.below.trans (hb.mono HS1.out.below.size))
  clear he hb HLY
  go_wp2_with fail
  refine (trFault_any 2 (by decide) _).mono ?_
  rintro e w3 ⟨v, rfl, he, hb⟩
  have HB3 := Hi (HB.out.trans (hb.mono HB.out.size))
  have HE3 := Hi (he.mono HB.out.size)
  clear he hb
  go_wp2_with fail
  go_ret2
  exact ⟨HL.out.carry H HB3.out, Kept.of_below HB3.out HL.out.there, by decide, _, rfl, HE3.out⟩
 | true =>
  have HLY := Hi (Lay_yes HS1.out.is hr)
  obtain ⟨t, HT⟩ : ∃ t : ByteArray, Hid (t = ⟨(layN x).toArray⟩) := Hy
  have HTL : Hid (t.data.toList = layN x) := Hi (by rw [HT.out])
  have HTS : Hid (t.size ≤ 120) := Hi (by rw [HT.out]; show (layN x).toArray.size ≤ 120; simpa using layN_fits hr)
  rw [← HT.out] at HLY
  cases hf : S.s.first n with
  | none =>
   have HM : Hid (addM n S x = (.error 6, S)) := Hi (by unfold addM; rw [if_neg (by rw [hr]; decide), hf])
   rw [HM.out]
   have HF := Hi hf
   clear hl hx hr hf
   go_enter Tryz.func67, Tryz.ntmps67
   go_upto_region 1 with (fail)
   rw [← HW1.out, ← HPP.out]
   clear HW1 HPP
   go_wp2_with (with_reducible refine stop_at (o := ⟨some 10, _, _, _, _, _⟩) ?_)
   refine wpList_load_nd Tryz.ndProg (by rfl) _ rfl p rfl l x HS1.out.b ?_
   go_wp2_with fail
   refine HLY.out.mono ?_
   rintro e w2 ⟨rfl, hb⟩
   have HB := Hi (HS1.out.below.trans (hb.mono HS1.out.below.size))
   have HL2 := Hi (HL.out.carry H HB.out)
   clear hb HLY
   go_wp2_with fail
   refine (H.newFull HL2.out.pg HL2.out.inv HL2.out.up (HL2.out.laid hg).crc t HTS.out HF.out).mono ?_
   rintro e w3 ⟨v, rfl, he, hb⟩
   have HE3 := Hi he
   have HB3 := Hi hb
   clear he hb
   go_wp2_with fail
   refine (Tag_from _ w2.heap.size 6 v w3 HE3.out HB3.out.size).mono ?_
   rintro e w4 ⟨u, rfl, he, hb⟩
   have HB4 := Hi (HB.out.trans ((HB3.out.trans (hb.mono HB3.out.size)).mono HB.out.size))
   have HE4 := Hi (he.mono HB.out.size)
   clear he hb HE3 HB3
   go_wp2_with fail
   go_ret2
   exact ⟨HL.out.carry H HB4.out, Kept.of_below HB4.out HL.out.there, by decide, _, rfl, HE4.out⟩
  | some k =>
   have HM : Hid (addM n S x = (.ok (k : Int), ⟨S.d.write k (pgB (pageP (layN x))), S.s.at_ k, upd S.data k (layN x)⟩)) := Hi (by unfold addM; rw [if_neg (by rw [hr]; decide), hf])
   rw [HM.out]
   have HF := Hi hf
   have HIN : Hid (PInv n (S.d.write k (pgB (pageP (layN x)))) (S.s.at_ k) (upd S.data k (layN x)) firm) := Hi (hl.inv.laid hf (layN_fits hr))
   clear hl hx hr hf
   go_enter Tryz.func67, Tryz.ntmps67
   go_upto_region 1 with (fail)
   rw [← HW1.out, ← HPP.out]
   clear HW1 HPP
   go_wp2_with (with_reducible refine stop_at (o := ⟨some 10, _, _, _, _, _⟩) ?_)
   refine wpList_load_nd Tryz.ndProg (by rfl) _ rfl p rfl l x HS1.out.b ?_
   go_wp2_with fail
   refine HLY.out.mono ?_
   rintro e w2 ⟨rfl, hb⟩
   have HB := Hi (HS1.out.below.trans (hb.mono HS1.out.below.size))
   have HL2 := Hi (HL.out.carry H HB.out)
   clear hb HLY
   go_wp2_with fail
   refine (H.newYes HL2.out.pg HL2.out.inv HL2.out.up (HL2.out.laidK hg) hs t HTS.out k HF.out).mono ?_
   rw [HTL.out]
   rintro e w3 ⟨rfl, hp, hk⟩
   have HL3 : Hid (LawT O w0 K w3 P D n ⟨S.d.write k (pgB (pageP (layN x))), S.s.at_ k, upd S.data k (layN x)⟩ firm) := Hi (HL2.out.turned hp hk HIN.out HL2.out.up)
   have HK3 := Hi ((Kept.of_below HB.out HL.out.there).trans hk)
   clear hp hk
   go_wp2_with fail
   refine (Tag_nil _ _).mono ?_
   rintro e w' ⟨rfl, rfl⟩
   go_wp2_with fail
   go_ret2
   exact ⟨HL3.out, HK3.out, rfl⟩
end
end Go.Proofs.YtafclmbecmgbnaaGreatDoor
