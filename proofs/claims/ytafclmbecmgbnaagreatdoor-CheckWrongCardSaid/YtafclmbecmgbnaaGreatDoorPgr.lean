/-
  Pgr: several texts in one file. Conditions: as each part says.
-/
import Derived.Test.YtafclmbecmgbnaaGreatDoorSm
import Derived.Test.YtafclmbecmgbnaaGreatDoorPgSpec
import Derived.Test.YtafclmbecmgbnaaGreatDoorSets
import Derived.Test.YtafclmbecmgbnaaGreatDoorSb
import Derived.Test.YtafclmbecmgbnaaGreatDoorTagSame
import Derived.Lib.SliceRun
/-
 PgrAt. Conditions: as each theorem says.
-/
namespace Go.Proofs.YtafclmbecmgbnaaGreatDoor
open Go.RowKit
open Bits (Ok has with_ without both minus)
def pgrCells (D : Nat) (s : Pst) : List Value := [ptr D] ++ sbCells s.sup ++ stCells s.new ++ stCells s.gone
structure POwn (w : World) (P D : Nat) (s : Pst) : Prop where
 sup : s.sup.Ok
 new : Ok s.new
 gone : Ok s.gone
 disk : w.rangeAt P 0 [ptr D]
 sb : w.rangeAt P 1 (sbCells s.sup)
 fresh : w.rangeAt P 33 (stCells s.new)
 going : w.rangeAt P 63 (stCells s.gone)
 free : ∀ j, w.frozen? ⟨P, j, none⟩ = false
theorem range_split {w : World} {b o : Nat} {xs ys : List Value} (h : w.rangeAt b o (xs ++ ys)) : w.rangeAt b o xs ∧ w.rangeAt b (o + xs.length) ys :=
 ⟨fun j v hv => h j v (by rw [List.getElem?_append_left (List.getElem?_eq_some_iff.1 hv).1]; exact hv), fun j v hv => by
  have := h (xs.length + j) v (by rw [List.getElem?_append_right (Nat.le_add_right _ _), Nat.add_sub_cancel_left]; exact hv)
  rwa [← Nat.add_assoc] at this⟩
theorem POwn.of_cells {w : World} {P D : Nat} {s : Pst} (h1 : s.sup.Ok) (h2 : Ok s.new) (h3 : Ok s.gone) (h : w.rangeAt P 0 (pgrCells D s)) (hf : ∀ j, w.frozen? ⟨P, j, none⟩ = false) : POwn w P D s := by
 obtain ⟨h, g⟩ := range_split h
 obtain ⟨h, f⟩ := range_split h
 obtain ⟨h, b⟩ := range_split h
 have e1 : (sbCells s.sup).length = 32 := sbCells_length h1
 have e2 : (stCells s.new).length = 30 := by rw [stCells_length, h2.len]
 simp only [List.length_append, List.length_singleton, e1, e2] at g f b
 exact ⟨h1, h2, h3, h, b, f, g, hf⟩
theorem POwn.lt {w : World} {P D : Nat} {s : Pst} (h : POwn w P D s) : P < w.heap.size := below_block (h.disk 0 _ rfl)
theorem POwn.block {w w' : World} {P D : Nat} {s : Pst} (h : POwn w P D s) (hb : w'.heap[P]? = w.heap[P]?) : POwn w' P D s :=
 ⟨h.sup, h.new, h.gone, fun j v hv => (World.cell?_of_block (w := w) (a := ⟨P, 0 + j, none⟩) hb).trans (h.disk j v hv), fun j v hv => (World.cell?_of_block (w := w) (a := ⟨P, 1 + j, none⟩) hb).trans (h.sb j v hv),
  fun j v hv => (World.cell?_of_block (w := w) (a := ⟨P, 33 + j, none⟩) hb).trans (h.fresh j v hv), fun j v hv => (World.cell?_of_block (w := w) (a := ⟨P, 63 + j, none⟩) hb).trans (h.going j v hv),
  fun j => (World.frozen?_of_block (w := w) (a := ⟨P, j, none⟩) hb).trans (h.free j)⟩
theorem POwn.below {w w' : World} {P D : Nat} {s : Pst} (h : POwn w P D s) (hb : Below w.heap.size w w') : POwn w' P D s := h.block (hb.block P h.lt)
theorem POwn.at0 {w : World} {P D : Nat} {s : Pst} (h : POwn w P D s) : w.cell? ⟨P, 0, none⟩ = some (ptr D) := h.disk 0 _ rfl
theorem POwn.genC {w : World} {P D : Nat} {s : Pst} (h : POwn w P D s) : w.cell? ⟨P, 1, none⟩ = some (.int .u32 (s.sup.gen : Int)) := h.sb 0 _ rfl
theorem POwn.rootC {w : World} {P D : Nat} {s : Pst} (h : POwn w P D s) : w.cell? ⟨P, 2, none⟩ = some (.int .i64 s.sup.root) := h.sb 1 _ rfl
theorem POwn.usedC {w : World} {P D : Nat} {s : Pst} (h : POwn w P D s) : w.rangeAt P 3 (stCells s.sup.used) := fun j v hv => by
 have := h.sb (2 + j) v (by rw [Nat.add_comm]; exact hv)
 rwa [← Nat.add_assoc] at this
theorem pgr_there {w : World} {b o n : Nat} {cs : List Value} (h : w.rangeAt b o cs) (hl : cs.length = n) (hf : ∀ j, w.frozen? ⟨b, j, none⟩ = false) : w.there b o n :=
 fun j hj => ⟨by rw [h j _ (List.getElem?_eq_getElem (by omega))]; rfl, hf _⟩
theorem POwn.putFresh {w : World} {P D : Nat} {s : Pst} (h : POwn w P D s) {t : List Nat} (ht : Ok t) : POwn (w.setCells P 33 (stCells t)) P D ⟨s.sup, t, s.gone⟩ := by
 have e1 : (sbCells s.sup).length = 32 := sbCells_length h.sup
 have e2 : (stCells t).length = 30 := by rw [stCells_length, ht.len]
 have e3 : (stCells s.new).length = 30 := by rw [stCells_length, h.new.len]
 exact ⟨h.sup, ht, h.gone, World.rangeAt_setCells_apart h.disk _ _ _ (.inr (.inl (by simp))), World.rangeAt_setCells_apart h.sb _ _ _ (.inr (.inl (by rw [e1]; decide))),
  World.rangeAt_setCells_same _ _ _ _ (pgr_there h.fresh (by rw [e2, e3]) h.free), World.rangeAt_setCells_apart h.going _ _ _ (.inr (.inr (by rw [e2]; decide))), fun j => by rw [World.frozen?_setCells]; exact h.free j⟩
theorem POwn.putGoing {w : World} {P D : Nat} {s : Pst} (h : POwn w P D s) {t : List Nat} (ht : Ok t) : POwn (w.setCells P 63 (stCells t)) P D ⟨s.sup, s.new, t⟩ := by
 have e1 : (sbCells s.sup).length = 32 := sbCells_length h.sup
 have e2 : (stCells t).length = 30 := by rw [stCells_length, ht.len]
 have e3 : (stCells s.new).length = 30 := by rw [stCells_length, h.new.len]
 have e4 : (stCells s.gone).length = 30 := by rw [stCells_length, h.gone.len]
 exact ⟨h.sup, h.new, ht, World.rangeAt_setCells_apart h.disk _ _ _ (.inr (.inl (by simp))), World.rangeAt_setCells_apart h.sb _ _ _ (.inr (.inl (by rw [e1]; decide))),
  World.rangeAt_setCells_apart h.fresh _ _ _ (.inr (.inl (by rw [e3]; decide))), World.rangeAt_setCells_same _ _ _ _ (pgr_there h.going (by rw [e2, e4]) h.free), fun j => by rw [World.frozen?_setCells]; exact h.free j⟩
theorem POwn.putSb {w : World} {P D : Nat} {s : Pst} (h : POwn w P D s) {x : Sb} (hx : x.Ok) : POwn (w.setCells P 1 (sbCells x)) P D ⟨x, s.new, s.gone⟩ := by
 have e1 : (sbCells s.sup).length = 32 := sbCells_length h.sup
 have e2 : (sbCells x).length = 32 := sbCells_length hx
 exact ⟨hx, h.new, h.gone, World.rangeAt_setCells_apart h.disk _ _ _ (.inr (.inl (by simp))), World.rangeAt_setCells_same _ _ _ _ (pgr_there h.sb (by rw [e1, e2]) h.free),
  World.rangeAt_setCells_apart h.fresh _ _ _ (.inr (.inr (by rw [e2]; decide))), World.rangeAt_setCells_apart h.going _ _ _ (.inr (.inr (by rw [e2]; decide))), fun j => by rw [World.frozen?_setCells]; exact h.free j⟩
abbrev OffP (P : Nat) (w w' : World) : Prop := Kept (fun b => b < w.heap.size ∧ b ≠ P) w w'
theorem OffP.of_below {P : Nat} {w w' : World} (hb : Below w.heap.size w w') : OffP P w w' := Kept.of_below hb fun _ h => h.1
theorem OffP.setCells {P : Nat} {w0 w : World} (h : OffP P w0 w) (o : Nat) (vs : List Value) : OffP P w0 (w.setCells P o vs) := by
 exact Kept.setCells h (fun hk => hk.2 rfl) o vs
theorem OffP.trans {P : Nat} {w w1 w2 : World} (h : OffP P w w1) (h2 : OffP P w1 w2) : OffP P w w2 := Kept.trans h (h2.less fun _ hk => ⟨Nat.lt_of_lt_of_le hk.1 h.size, hk.2⟩)
theorem wpList_store_set_at {ops : Array Oper} {rest : List Oper} {op : Oper} {a : Act} {w : World} {Q : Exit → Act → World → Prop} (hgd : op.guard = none) (x y : Operand) (ho : op.op = .store 63 x y)
  (b o : Nat) (s : List Nat) (hl : s.length = 30) (hx : a.eval x = .pointer (some ⟨b, o, none⟩)) (hy : a.eval y = stV s) (hb : w.there b o 30)
  (h : ∀ w2, Hid (w2 = w.setCells b o (stCells s)) → wpList Tryz.prog ops Q rest (a.put op.dst undef) w2) : wpList Tryz.prog ops Q (op :: rest) a w :=
 wpList_store_mid hgd _ x y ho b o (stArr s) hx hy (by rw [stArr_size, hl]; exact hb) (by rw [stArr_size, hl]; exact Tryz.setSize) (stArr_all s) (h _ (Hi rfl))
def PgrO : PgOwn := fun B w P D s => (∀ b, B b ↔ b = P) ∧ POwn w P D s
end Go.Proofs.YtafclmbecmgbnaaGreatDoor

/-
 PgrHeld. Conditions: as each theorem says.
-/
namespace Go.Proofs.YtafclmbecmgbnaaGreatDoor
open Go.RowKit
open Bits (Ok has with_ without both minus)
theorem PgrFault_any (c : Int) (hc : c ≠ 0) (w : World) : Calls Tryz.prog 57 #[.int .i64 c] w (FromPost c w.heap.size w) := by
 have H := Hi hc
 clear hc
 go_enter Tryz.func57, Tryz.ntmps57
 go_wp2_with fail
 refine (Tag_from _ w.heap.size c _ w (.inr ⟨H.out, .base⟩) (Nat.le_refl _)).mono ?_
 rintro e w' ⟨v, rfl, h1, h4⟩
 have H1 := Hi h1
 have H4 := Hi h4
 clear h1 h4
 go_wp2_with fail
 go_ret
 exact ⟨v, rfl, H1.out, H4.out⟩
theorem yieldsIf_set_at {ops : Array Oper} {S : World → Prop} {op : Oper} {a : Act} (hw : Region.wanted op (yielded ops a.tmps) = true) (x : Operand) (ho : op.op = .load 63 x)
  (b o : Nat) (hx : a.eval x = .pointer (some ⟨b, o, none⟩)) (s : List Nat) (hl : s.length = 30) (hS : ∀ w, S w → w.rangeAt b o (stCells s)) : YieldsIf Tryz.prog ops S op (stV s) a :=
 yieldsIf_load_mid hw _ x ho b o hx (stCells s) _ hS Tryz.underlying63 rfl (by rw [stCells_length, hl]; exact Tryz.setSize)
structure HeldS (w : World) (P D b : Nat) (s : Pst) (wr : World) : Prop where
 own : POwn wr P D s
 res : SOwn wr b zeroSt
 below : Below w.heap.size w wr
theorem HeldS.carry {w wr w' : World} {P D b : Nat} {s : Pst} (h : HeldS w P D b s wr) (hb : Below wr.heap.size wr w') : HeldS w P D b s w' :=
 ⟨h.own.below hb, h.res.below hb (h.res.lt (by decide)), h.below.trans (hb.mono h.below.size)⟩
theorem HeldS.new {w : World} {P D : Nat} {s : Pst} (h : POwn w P D s) : HeldS w P D w.heap.size s (w.alloc (.cells (stArr zeroSt) 63)) := by
 have hb : Below w.heap.size w (w.alloc (.cells (stArr zeroSt) 63)) := (Below.refl _ _).alloc (Nat.le_refl _) _
 exact ⟨h.below hb, SOwn.new _, hb⟩
set_option maxRecDepth 100000 in
theorem Held_any {w : World} {P D : Nat} {s : Pst} (h : POwn w P D s) (hu : Ok s.sup.used) : Calls Tryz.prog 78 #[ptr P] w fun e w' => e = .returned (stV (both s.sup.used s.new)) ∧ Below w.heap.size w w' := by
 have hz := Tryz.zeroSet
 have HU := Hi hu
 have HN := Hi h.new
 obtain ⟨w1, HW⟩ : ∃ w1, Hid (w1 = w.alloc (.cells (stArr zeroSt) 63)) := Hy
 obtain ⟨b, HBB⟩ : ∃ b, Hid (b = w.heap.size) := Hy
 have HS : Hid (HeldS w P D b s w1) := Hi (by rw [HW.out, HBB.out]; exact .new h)
 have hbb : w.heap.size ≤ b := by rw [HBB.out]; exact Nat.le_refl _
 have HLE := Hi hbb
 clear h hu hbb
 go_enter Tryz.func78, Tryz.ntmps78
 go_upto_region 1 with (fail)
 rw [← HW.out, ← HBB.out]
 clear HW HBB
 refine wp_region_head (HeldS w P D b s) 10 (by kernel_rfl) (by kernel_rfl) (fun wa HWA => ?_)
 have hS : HeldS w P D b s wa := by rw [HWA.out]; exact HS.out.carry (Below.refl _ _).drew
 clear HWA HS
 refine takeK (i := 0) 3 (v := ptr P) rfl rfl hS ?_
 simp only [Act.put, pU]
 refine takeK (i := 1) 4 (v := .pointer (some ⟨P, 0, none⟩)) rfl rfl hS ?_
 simp only [Act.put, pU]
 refine takeK (i := 2) 5 (v := .pointer (some ⟨P, 1, none⟩)) rfl rfl hS ?_
 simp only [Act.put, pU]
 refine takeK (i := 3) 6 (v := .pointer (some ⟨P, 3, none⟩)) rfl rfl hS ?_
 simp only [Act.put, pU]
 refine takeJ (i := 4) 7 (v := stV s.sup.used) rfl rfl (yieldsIf_set_at (by rfl) _ rfl P 3 rfl s.sup.used HU.out.len (fun _ h => h.own.usedC)) hS ?_
 simp only [Act.put, pU]
 refine takeK (i := 5) 8 (v := ptr P) rfl rfl hS ?_
 simp only [Act.put, pU]
 refine takeK (i := 6) 9 (v := .pointer (some ⟨P, 0, none⟩)) rfl rfl hS ?_
 simp only [Act.put, pU]
 refine takeK (i := 7) 10 (v := .pointer (some ⟨P, 33, none⟩)) rfl rfl hS ?_
 simp only [Act.put, pU]
 refine takeJ (i := 8) 11 (v := stV s.new) rfl rfl (yieldsIf_set_at (by rfl) _ rfl P 33 rfl s.new HN.out.len (fun _ h => h.own.fresh)) hS ?_
 simp only [Act.put, pU]
 refine oneH (i := 9) (oi := ⟨some 12, _, _, _, _, _⟩) rfl (by kernel_rfl) (fun K hK => ?_)
 go_simp
 refine (Both_any _ _ HU.out HN.out _).mono ?_
 rintro e wn ⟨rfl, hb⟩
 have hS2 := hS.carry hb
 clear hb hS
 refine hK.out _ _ hS2 ?_
 clear hK K
 have hS := hS2
 clear hS2
 try simp only [Act.put, pU]
 refine wpAnyH_done (by kernel_rfl) ?_ _
 unfold HeadPost
 simp only [List.drop_succ_cons, List.drop_zero]
 have hl := (HU.out.both HN.out).len
 refine wpList_store_set rfl _ _ rfl b (both s.sup.used s.new) zeroSt hl zeroSt_length rfl rfl hS.res ?_
 intro w4 HW4 HO4
 go_wp2_with fail
 exact bodyPost_ret (results_set rfl _ _ b _ rfl HO4.out.at_ hl) rfl ⟨rfl, below_cells_of hS.below HW4.out HLE.out⟩
theorem SOwn.blockEq {w w' : World} {b : Nat} {s : List Nat} (h : SOwn w b s) (hb : w'.heap[b]? = w.heap[b]?) : SOwn w' b s :=
 ⟨fun j v hv => (World.cell?_of_block (w := w) (a := ⟨b, 0 + j, none⟩) hb).trans (h.at_ j v hv), fun j => (World.frozen?_of_block (w := w) (a := ⟨b, j, none⟩) hb).trans (h.free j)⟩
structure UsedS (w : World) (P D b u : Nat) (s : Pst) (k : Nat) (wr : World) : Prop where
 own : POwn wr P D s
 res : SOwn wr b zeroSt
 set : SOwn wr u (minus (both s.sup.used s.new) s.gone k)
 below : Below w.heap.size w wr
 lo : w.heap.size ≤ b
 lo2 : w.heap.size ≤ u
 ne : b ≠ u
 was : P < w.heap.size
theorem UsedS.carry {w wr w' : World} {P D b u k : Nat} {s : Pst} (hl : (minus (both s.sup.used s.new) s.gone k).length = 30) (h : UsedS w P D b u s k wr) (hb : Below wr.heap.size wr w') : UsedS w P D b u s k w' :=
 ⟨h.own.below hb, h.res.below hb (h.res.lt (by decide)), h.set.below hb (h.set.lt (by omega)), h.below.trans (hb.mono h.below.size), h.lo, h.lo2, h.ne, h.was⟩
def UsedRel (w : World) (P D b u : Nat) (s : Pst) (i : Value) (wr : World) : Prop := ∃ k : Nat, k ≤ 240 ∧ i = .int .i64 (k : Int) ∧ UsedS w P D b u s k wr
set_option maxRecDepth 100000 in
set_option maxHeartbeats 1000000 in
theorem Used_any {w : World} {P D : Nat} {s : Pst} (h : POwn w P D s) (hu : Ok s.sup.used) : Calls Tryz.prog 36 #[ptr P] w fun e w' => e = .returned (stV s.used) ∧ Below w.heap.size w w' := by
 have hz := Tryz.zeroSet
 have HU := Hi (hu.both h.new)
 have HU0 := Hi hu
 have HG := Hi h.gone
 obtain ⟨w1, HW⟩ : ∃ w1, Hid (w1 = w.alloc (.cells (stArr zeroSt) 63)) := Hy
 obtain ⟨b, HBB⟩ : ∃ b, Hid (b = w.heap.size) := Hy
 have HS : Hid (HeldS w P D b s w1) := Hi (by rw [HW.out, HBB.out]; exact .new h)
 have hbb : w.heap.size ≤ b := by rw [HBB.out]; exact Nat.le_refl _
 have HLE := Hi hbb
 have HP := Hi h.lt
 clear h hu hbb
 go_enter Tryz.func36, Tryz.ntmps36
 go_upto_region 1 with (fail)
 rw [← HW.out, ← HBB.out]
 clear HW HBB
 go_wp2_with fail
 refine (Held_any HS.out.own HU0.out).mono ?_
 rintro e w2 ⟨rfl, hb⟩
 have HS2 := Hi (HS.out.carry hb)
 obtain ⟨t, HT⟩ : ∃ t, Hid (t = both s.sup.used s.new) := Hy
 have HTL : Hid (t.length = 30) := Hi (by rw [HT.out]; exact HU.out.len)
 rw [← HT.out]
 clear hb HS
 go_wp2_with (with_reducible refine stop_at (o := ⟨none, _, _, _, _, _⟩) ?_)
 refine wpList_store_last rfl _ _ _ rfl (stArr zeroSt) (stArr t) _ rfl rfl rfl (by rw [stArr_size, HTL.out]; exact Tryz.setSize) (by rw [stArr_size, stArr_size, HTL.out]; rfl) (stArr_all _) ?_
 obtain ⟨u, HUU⟩ : ∃ u, Hid (u = w2.heap.size) := Hy
 obtain ⟨w3, HW⟩ : ∃ w3, Hid (w3 = w2.alloc (.cells (stArr t) 63)) := Hy
 rw [← HW.out, ← HUU.out]
 have HS3 : Hid (UsedS w P D b u s 0 w3) := Hi (by
  have hb : Below w2.heap.size w2 w3 := by rw [HW.out]; exact (Below.refl _ _).alloc (Nat.le_refl _) _
  have hl := HS2.out.res.lt (by decide)
  have h3 := HS2.out.carry hb
  refine ⟨h3.own, h3.res, ?_, h3.below, HLE.out, by rw [HUU.out]; exact HS2.out.below.size, by rw [HUU.out]; omega, HP.out⟩
  show SOwn w3 u (both s.sup.used s.new)
  rw [← HT.out, HW.out, HUU.out]
  exact SOwn.new _)
 clear HW HUU HS2 HT HTL
 go_wp2_with fail
 go_loopw [10] (fun i wr => UsedRel w P D b u s i wr) (fun i _ => 240 - (intOf i).toNat)
 case atStart => exact ⟨0, by decide, rfl, HS3.out⟩
 case round =>
  obtain ⟨k, hk, rfl, hst⟩ := hrel
  have HML := Hi (HU.out.minus (t := s.gone) k).len
  have HS := Hi hst
  clear hst HS3
  by_cases hlt : k < 240
  ·go_wp2_with (with_reducible refine stop_at (o := ⟨some 16, _, _, _, _, _⟩) ?_)
   refine wpList_load_set_at (by rfl) _ rfl P 63 rfl s.gone HG.out.len HS.out.own.going ?_
   go_wp2_with fail
   refine (Has_yes s.gone HG.out k hlt _).mono ?_
   have HM : Hid (minus (both s.sup.used s.new) s.gone (k + 1) = if has s.gone k then without (minus (both s.sup.used s.new) s.gone k) k else minus (both s.sup.used s.new) s.gone k) := Hi rfl
   have HMO := Hi (HU.out.minus (t := s.gone) k)
   obtain ⟨v, HV⟩ : ∃ v, Hid (v = has s.gone k) := Hy
   rw [← HV.out]
   rintro e w4 ⟨rfl, hb⟩
   have HS4 := Hi (HS.out.carry HML.out hb)
   clear hb HS
   cases v with
   | true =>
    rw [← HV.out, if_pos rfl] at HM
    obtain ⟨m, HMM⟩ : ∃ m, Hid (m = minus (both s.sup.used s.new) s.gone k) := Hy
    rw [← HMM.out] at HM HMO HML
    have HSET : Hid (SOwn w4 u m) := Hi (by rw [HMM.out]; exact HS4.out.set)
    go_wp2_with (with_reducible refine stop_at (o := ⟨some 19, _, _, _, _, _⟩) ?_)
    refine wpList_load_set (by rfl) _ rfl u rfl m HML.out HSET.out.at_ ?_
    go_wp2_with fail
    refine (Without_yes m HMO.out k hlt _).mono ?_
    rintro e w5 ⟨rfl, hb⟩
    have HS5 : Hid (UsedS w P D b u s k w5) := Hi (HS4.out.carry (by rw [← HMM.out]; exact HML.out) hb)
    have HSET5 := Hi (HSET.out.below hb (HSET.out.lt (by have := HML.out; omega)))
    have HWL : Hid ((without m k).length = 30) := Hi (HMO.out.without k).len
    obtain ⟨q, HQ⟩ : ∃ q, Hid (q = without m k) := Hy
    rw [← HQ.out] at HWL ⊢
    clear hb HS4 HSET
    go_wp2_with (with_reducible refine stop_at (o := ⟨none, _, _, _, _, _⟩) ?_)
    refine wpList_store_set rfl _ _ rfl u q m HWL.out HML.out rfl rfl HSET5.out ?_
    intro w6 HW6 HO6
    go_wp2_with fail
    go_roundw
    case rel =>
     refine ⟨k + 1, hlt, by go_num, ?_⟩
     have h5 := HS5.out
     have hk6 : Kept (fun j => j ≠ u) w5 w6 := by rw [HW6.out]; exact Kept.setCells (Kept.refl _ _) (fun hh => hh rfl) _ _
     have hne : P ≠ u := by
      have := h5.was
      have := h5.lo2
      omega
     exact ⟨h5.own.block (hk6.block P hne), h5.res.blockEq (hk6.block b h5.ne), by rw [HM.out, ← HQ.out]; exact HO6.out, below_cells_of h5.below HW6.out h5.lo2, h5.lo, h5.lo2, h5.ne, h5.was⟩
    case measure => simp [intOf]; omega
   | false =>
    rw [← HV.out, if_neg (by decide)] at HM
    go_wp2_with fail
    go_roundw
    case rel => exact ⟨k + 1, hlt, by go_num, HS4.out.own, HS4.out.res, by rw [HM.out]; exact HS4.out.set, HS4.out.below, HS4.out.lo, HS4.out.lo2, HS4.out.ne, HS4.out.was⟩
    case measure => simp [intOf]; omega
  ·obtain rfl : k = 240 := by omega
   have HSU : Hid (SOwn wr u s.used) := Hi HS.out.set
   have HUL : Hid (s.used.length = 30) := HML
   go_wp2_with (with_reducible refine stop_at (o := ⟨some 23, _, _, _, _, _⟩) ?_)
   refine wpList_load_set (by rfl) _ rfl u rfl s.used HUL.out HSU.out.at_ ?_
   refine wpList_store_set rfl _ _ rfl b s.used zeroSt HUL.out zeroSt_length rfl rfl HS.out.res ?_
   intro w6 HW6 HO6
   go_wp2_with fail
   exact bodyPost_ret (results_set rfl _ _ b _ rfl HO6.out.at_ HUL.out) rfl ⟨rfl, below_cells_of HS.out.below HW6.out HS.out.lo⟩
theorem Used_nil (w : World) : Calls Tryz.prog 36 #[.pointer none] w fun e w' => e = .returned (stV zeroSt) ∧ Below w.heap.size w w' := by
 have hz := Tryz.zeroSet
 obtain ⟨w1, HW⟩ : ∃ w1, Hid (w1 = w.alloc (.cells (stArr zeroSt) 63)) := Hy
 obtain ⟨b, HBB⟩ : ∃ b, Hid (b = w.heap.size) := Hy
 have HO : Hid (SOwn w1 b zeroSt) := Hi (by rw [HW.out, HBB.out]; exact SOwn.new _)
 have HB : Hid (Below w.heap.size w w1) := Hi (by rw [HW.out]; exact (Below.refl _ _).alloc (Nat.le_refl _) _)
 go_enter Tryz.func36, Tryz.ntmps36
 go_upto_region 1 with (fail)
 rw [← HW.out, ← HBB.out]
 clear HW
 go_wp2_with (with_reducible refine stop_at (o := ⟨some 7, _, _, _, _, _⟩) ?_)
 refine wpList_build_set rfl rfl ?_
 refine wpList_store_set rfl _ _ rfl b zeroSt zeroSt zeroSt_length zeroSt_length rfl rfl HO.out ?_
 intro w6 HW6 HO6
 go_wp2_with fail
 exact bodyPost_ret (results_set rfl _ _ b _ rfl HO6.out.at_ zeroSt_length) rfl ⟨rfl, below_cells_of HB.out HW6.out (by rw [HBB.out]; exact Nat.le_refl _)⟩
end Go.Proofs.YtafclmbecmgbnaaGreatDoor

/-
 PgrBasic. Conditions: as each theorem says.
-/
namespace Go.Proofs.YtafclmbecmgbnaaGreatDoor
open Go.RowKit
open Bits (Ok has with_ without both minus)
theorem Root_any {w : World} {P D : Nat} {s : Pst} (h : POwn w P D s) : Calls Tryz.prog 19 #[ptr P] w fun e w' => e = .returned (.int .i64 s.sup.root) ∧ Below w.heap.size w w' := by
 have hc := h.rootC
 clear h
 go_enter Tryz.func19, Tryz.ntmps19
 go_wp2_with fail
 go_ret
 exact ⟨rfl, Below.refl _ _⟩
theorem Gen_any {w : World} {P D : Nat} {s : Pst} (h : POwn w P D s) : Calls Tryz.prog 53 #[ptr P] w fun e w' => e = .returned (.int .u32 (s.sup.gen : Int)) ∧ Below w.heap.size w w' := by
 have hc := h.genC
 clear h
 go_enter Tryz.func53, Tryz.ntmps53
 go_wp2_with fail
 go_ret
 exact ⟨rfl, Below.refl _ _⟩
theorem Root_nil (w : World) : Calls Tryz.prog 19 #[.pointer none] w fun e w' => e = .returned (.int .i64 0) ∧ Below w.heap.size w w' := by
 go_enter Tryz.func19, Tryz.ntmps19
 go_wp2_with fail
 go_ret
 exact ⟨rfl, Below.refl _ _⟩
theorem Gen_nil (w : World) : Calls Tryz.prog 53 #[.pointer none] w fun e w' => e = .returned (.int .u32 0) ∧ Below w.heap.size w w' := by
 go_enter Tryz.func53, Tryz.ntmps53
 go_wp2_with fail
 go_ret
 exact ⟨rfl, Below.refl _ _⟩
theorem Abort_nil (w : World) : Calls Tryz.prog 23 #[.pointer none] w fun e w' => e = .returned (.tuple #[]) ∧ Below w.heap.size w w' := by
 go_enter Tryz.func23, Tryz.ntmps23
 go_wp2_with fail
 exact bodyPost_ret (results_none rfl _ _ _) rfl ⟨rfl, Below.refl _ _⟩
theorem Load_nil (w : World) (i : Int) : Calls Tryz.prog 123 #[.pointer none, .int .i64 i] w (Two (txt []) 9 w) := by
 go_enter Tryz.func123, Tryz.ntmps123
 go_wp2_with fail
 refine (PgrFault_any 9 (by decide) w).mono ?_
 rintro e w' ⟨v, rfl, he, hb⟩
 have HE := Hi he
 have HB := Hi hb
 clear he hb
 go_wp2_with fail
 go_ret2
 exact ⟨v, rfl, HE.out, HB.out⟩
theorem New_nil (w : World) (t : ByteArray) : Calls Tryz.prog 30 #[.pointer none, .string t] w (Two (.int .i64 0) 9 w) := by
 go_enter Tryz.func30, Tryz.ntmps30
 go_wp2_with fail
 refine (PgrFault_any 9 (by decide) w).mono ?_
 rintro e w' ⟨v, rfl, he, hb⟩
 have HE := Hi he
 have HB := Hi hb
 clear he hb
 go_wp2_with fail
 go_ret2
 exact ⟨v, rfl, HE.out, HB.out⟩
theorem Drop_nil (w : World) (i : Int) : Calls Tryz.prog 106 #[.pointer none, .int .i64 i] w (FromPost 9 w.heap.size w) := by
 go_enter Tryz.func106, Tryz.ntmps106
 go_wp2_with fail
 refine (PgrFault_any 9 (by decide) w).mono ?_
 rintro e w' ⟨v, rfl, he, hb⟩
 have HE := Hi he
 have HB := Hi hb
 clear he hb
 go_wp2_with fail
 go_ret
 exact ⟨v, rfl, HE.out, HB.out⟩
theorem Commit_nil (w : World) (i : Int) : Calls Tryz.prog 22 #[.pointer none, .int .i64 i] w (FromPost 9 w.heap.size w) := by
 go_enter Tryz.func22, Tryz.ntmps22
 go_wp2_with fail
 refine (PgrFault_any 9 (by decide) w).mono ?_
 rintro e w' ⟨v, rfl, he, hb⟩
 have HE := Hi he
 have HB := Hi hb
 clear he hb
 go_wp2_with fail
 go_ret
 exact ⟨v, rfl, HE.out, HB.out⟩
theorem zeroByte (w : World) : (zeroValue 5).run Tryz.prog w = .ok (.int .u8 0) w := by kernel_rfl
theorem clear_set {w : World} {P o : Nat} {s : List Nat} (h : w.rangeAt P o (stCells s)) (hl : s.length = 30) (hf : ∀ j, w.frozen? ⟨P, j, none⟩ = false) (ty : TypeId) :
  (Builtin.clear_ #[75] ty #[.slice (some ⟨P, o, none⟩) 30 30]).run Tryz.prog w = .ok (.tuple #[]) (w.setCells P o (stCells noSt)) :=
 Lib.run_clear_slice w _ _ ty (.int .u8 0) Tryz.underlying75 zeroByte rfl rfl P o 30 30 (by decide) (fun j hj => (pgr_there h (by rw [stCells_length, hl]) hf j hj).1) (fun j _ => hf _)
theorem Forget_any {w : World} {P D : Nat} {s : Pst} (h : POwn w P D s) : Calls Tryz.prog 70 #[ptr P] w fun e w' => e = .returned (.tuple #[]) ∧ POwn w' P D s.abort ∧ OffP P w w' := by
 have hc1 := clear_set h.fresh h.new.len h.free
 obtain ⟨w1, HW⟩ : ∃ w1, Hid (w1 = w.setCells P 33 (stCells noSt)) := Hy
 have h1 : POwn w1 P D ⟨s.sup, noSt, s.gone⟩ := by rw [HW.out]; exact h.putFresh noSt_ok
 have HK : Hid (OffP P w w1) := Hi (by rw [HW.out]; exact OffP.setCells (Kept.refl _ _) _ _)
 rw [← HW.out] at hc1
 have hc2 := clear_set h1.going h1.gone.len h1.free
 obtain ⟨w2, HW2⟩ : ∃ w2, Hid (w2 = w1.setCells P 63 (stCells noSt)) := Hy
 have H2 : Hid (POwn w2 P D s.abort) := Hi (by rw [HW2.out]; exact h1.putGoing noSt_ok)
 have HK2 : Hid (OffP P w w2) := Hi (by rw [HW2.out]; exact OffP.setCells HK.out _ _)
 rw [← HW2.out] at hc2
 clear h h1 HW HW2 HK
 go_enter Tryz.func70, Tryz.ntmps70
 go_wp2_with fail
 exact bodyPost_end (results_none rfl _ _ _) rfl ⟨rfl, H2.out, HK2.out⟩
theorem Abort_any {w : World} {P D : Nat} {s : Pst} (h : POwn w P D s) : Calls Tryz.prog 23 #[ptr P] w fun e w' => e = .returned (.tuple #[]) ∧ POwn w' P D s.abort ∧ OffP P w w' := by
 have HF := Hi (Forget_any h)
 clear h
 go_enter Tryz.func23, Tryz.ntmps23
 go_wp2_with fail
 refine HF.out.mono ?_
 rintro e w' ⟨rfl, h1, h2⟩
 have H1 := Hi h1
 have H2 := Hi h2
 clear h1 h2 HF
 go_wp2_with fail
 exact bodyPost_end (results_none rfl _ _ _) rfl ⟨rfl, H1.out, H2.out⟩
theorem hasZ_in {s : Pst} (h1 : Ok s.sup.used) (h2 : Ok s.new) (i : Int) : hasZ (both s.sup.used s.new) i = isInZ s i := by
 unfold hasZ isInZ isNum
 by_cases hi : 0 ≤ i ∧ i < 240
 ·rw [Bits.has_both h1 h2 (by omega)]; rfl
 ·rw [decide_eq_false hi]; rfl
set_option maxRecDepth 100000 in
theorem Load_any {K : Nat → Prop} {w : World} {P D n : Nat} {d : Dk} {s : Pst} {data firm : Nat → List UInt8} (ho : POwn w P D s) (hd : DiskAt K w D n d) (h : PInv n d s data firm) (hdn : d.down = false) (hg : LaidCrc w) (i : Int) :
  Calls Tryz.prog 123 #[ptr P, .int .i64 i] w (Two (if isInZ s i = true then txt (data i.toNat) else txt []) (if isInZ s i = true then 0 else 4) w) := by
 have HO := Hi ho
 have HU := Hi h.held.good.used
 have HD := Hi hd
 have HG := Hi hg
 have HBO := Hi (h.held.good.used.both h.newOk)
 have HZ := Hi (hasZ_in h.held.good.used h.newOk i)
 cases hi : isInZ s i with
 | false =>
  rw [hi] at HZ
  clear h ho hd hg hdn hi
  rw [if_neg (by decide), if_neg (by decide)]
  go_enter Tryz.func123, Tryz.ntmps123
  go_wp2_with fail
  refine (Held_any HO.out HU.out).mono ?_
  rintro e w1 ⟨rfl, hb⟩
  have HB1 := Hi hb
  clear hb
  go_wp2_with fail
  refine (Has_any _ HBO.out i w1).mono ?_
  rw [HZ.out]
  rintro e w2 ⟨rfl, hb⟩
  have HB2 := Hi (HB1.out.trans (hb.mono HB1.out.size))
  clear hb
  go_wp2_with fail
  refine (PgrFault_any 4 (by decide) w2).mono ?_
  rintro e w3 ⟨v, rfl, he, hb⟩
  have HE := Hi (he.mono HB2.out.size)
  have HB3 := Hi (HB2.out.trans (hb.mono HB2.out.size))
  clear he hb
  go_wp2_with fail
  go_ret2
  exact ⟨v, rfl, HE.out, HB3.out⟩
 | true =>
  rw [hi] at HZ
  rw [if_pos rfl, if_pos rfl]
  have hi2 : (0 ≤ i ∧ i < 240) ∧ s.isIn i.toNat = true := by
   unfold isInZ at hi
   rw [Bool.and_eq_true, decide_eq_true_eq] at hi
   exact hi
  obtain ⟨k, rfl⟩ : ∃ k : Nat, i = (k : Int) := ⟨i.toNat, by omega⟩
  have hk : k < 240 := by omega
  have hin : s.isIn k = true := hi2.2
  obtain ⟨hsec, hlen⟩ := h.page hk hin
  have hkn := (h.in_range hk hin).2
  have hc0 : codeZ d.down n (k : Int) = 0 := by rw [hdn]; exact codeZ_in hkn
  have hcl : codeLd 0 2 (pageP (data k)) = 0 := by
   unfold codeLd pageP
   rw [if_neg (by decide), if_neg (by rw [codeB_lay (by decide) hlen]; decide), if_pos (by rw [kB_lay]; rfl)]
  have HL : Hid (∀ w2, Below w.heap.size w w2 → Calls Tryz.prog 127 #[ptr D, .int .i64 (k : Int), .int .i64 2] w2 (LoadAns 0 (pageP (data k)) w2)) := Hi fun w2 hb => by
   have := FrLoad_any (hd.carry hb) (k : Int) 2 (pageP (data k)) hsec.2 (fun _ => hsec.1) (hg.carry hb)
   rw [hc0, hcl] at this
   exact this
  have HT : Hid (Value.string ⟨(dB (pageP (data k))).toArray⟩ = txt (data k)) := Hi (by
   unfold pageP txt
   rw [dB_lay hlen])
  obtain ⟨x, HX⟩ : ∃ x, Hid (x = data k) := Hy
  rw [Int.toNat_natCast, ← HX.out]
  rw [← HX.out] at HT HL
  clear h ho hd hg hdn hi hi2 hin hsec hlen hkn hc0 hcl HX
  go_enter Tryz.func123, Tryz.ntmps123
  go_wp2_with fail
  refine (Held_any HO.out HU.out).mono ?_
  rintro e w1 ⟨rfl, hb⟩
  have HB1 := Hi hb
  clear hb
  go_wp2_with fail
  refine (Has_any _ HBO.out (k : Int) w1).mono ?_
  rw [HZ.out]
  rintro e w2 ⟨rfl, hb⟩
  have HB2 := Hi (HB1.out.trans (hb.mono HB1.out.size))
  have hc := (HO.out.below HB2.out).at0
  clear hb
  go_wp2_with fail
  refine (HL.out w2 HB2.out).mono ?_
  rintro e w3 ⟨v, rfl, he, hb⟩
  obtain rfl := he.zero
  rw [if_pos rfl, HT.out]
  have HB3 := Hi (HB2.out.trans (hb.mono HB2.out.size))
  clear he hb hc
  unfold txt
  go_wp2_with fail
  refine (Tag_from _ w3.heap.size 0 _ w3 (.nil _ _) (Nat.le_refl _)).mono ?_
  rintro e w4 ⟨v, rfl, he, hb⟩
  obtain rfl := he.zero
  have HB4 := Hi (HB3.out.trans (hb.mono HB3.out.size))
  clear he hb
  go_wp2_with fail
  go_ret2
  exact ⟨.nilIface, rfl, .nil _ _, HB4.out⟩
end Go.Proofs.YtafclmbecmgbnaaGreatDoor

/-
 PgrDrop. Conditions: as each theorem says.
-/
namespace Go.Proofs.YtafclmbecmgbnaaGreatDoor
open Go.RowKit
open Bits (Ok has with_ without both minus)
theorem PgrAt.own {K : Nat → Prop} {w : World} {P D n : Nat} {d : Dk} {s : Pst} (h : PgrAt PgrO K w P D n d s) : POwn w P D s := by
 obtain ⟨B, h1, _⟩ := h
 exact h1.2
theorem PgrAt.notK {K : Nat → Prop} {w : World} {P D n : Nat} {d : Dk} {s : Pst} (h : PgrAt PgrO K w P D n d s) : ¬ K P := by
 obtain ⟨B, h1, h2, h3, h4⟩ := h
 exact h4 P ((h1.1 P).2 rfl)
theorem PgrAt.there {K : Nat → Prop} {w : World} {P D n : Nat} {d : Dk} {s : Pst} (h : PgrAt PgrO K w P D n d s) : There K w := by
 obtain ⟨B, h1, h2, h3, h4⟩ := h
 exact h3
theorem PgrAt.diskP {K : Nat → Prop} {w : World} {P D n : Nat} {d : Dk} {s : Pst} (h : PgrAt PgrO K w P D n d s) : DiskAt (fun b => K b ∨ b = P) w D n d := by
 obtain ⟨B, h1, h2, h3, h4⟩ := h
 refine h2.more (Below.refl _ _) fun k hk => ?_
 rcases hk with hk | hk
 ·exact .inl (.inl hk)
 ·exact .inl (.inr ((h1.1 k).2 hk))
theorem PgrAt.mk {K : Nat → Prop} {w : World} {P D n : Nat} {d : Dk} {s : Pst} (h1 : POwn w P D s) (h2 : DiskAt (fun b => K b ∨ b = P) w D n d) (h3 : There K w) (h4 : ¬ K P) : PgrAt PgrO K w P D n d s :=
 ⟨fun b => b = P, ⟨fun _ => Iff.rfl, h1⟩, h2, h3, fun b hb => by rw [hb]; exact h4⟩
theorem PgrAt.off {K : Nat → Prop} {w w' : World} {P D n : Nat} {d : Dk} {s s' : Pst} (h : PgrAt PgrO K w P D n d s) (ho : POwn w' P D s') (hk : OffP P w w') : PgrAt PgrO K w' P D n d s' ∧ Kept K w w' := by
 have hK : ∀ k, K k → k < w.heap.size ∧ k ≠ P := fun k hk => ⟨h.there k hk, fun e => h.notK (e ▸ hk)⟩
 refine ⟨PgrAt.mk ho (h.diskP.off (B := fun b => b = P) (fun b hb => .inr hb) hk fun k hk => .inl hk) (fun k hk2 => Nat.lt_of_lt_of_le (h.there k hk2) hk.size) h.notK, hk.less hK⟩
set_option maxRecDepth 100000 in
theorem Drop_no {w : World} {P D : Nat} {s : Pst} (h : POwn w P D s) (i : Int) (hi : hasI s.used i = false) : Calls Tryz.prog 106 #[ptr P, .int .i64 i] w (FromPost 4 w.heap.size w) := by
 have HO := Hi h
 have HUO : Hid (Ok s.used) := Hi ((h.sup.used.both h.new).minus 240)
 have HI : Hid (hasZ s.used i = false) := Hi hi
 clear h hi
 go_enter Tryz.func106, Tryz.ntmps106
 go_wp2_with fail
 refine (Used_any HO.out HO.out.sup.used).mono ?_
 rintro e w1 ⟨rfl, hb⟩
 have HB1 := Hi hb
 clear hb
 go_wp2_with fail
 refine (Has_any _ HUO.out i w1).mono ?_
 rw [HI.out]
 rintro e w2 ⟨rfl, hb⟩
 have HB2 := Hi (HB1.out.trans (hb.mono HB1.out.size))
 clear hb
 go_wp2_with fail
 refine (PgrFault_any 4 (by decide) w2).mono ?_
 rintro e w3 ⟨v, rfl, he, hb⟩
 have HE := Hi (he.mono HB2.out.size)
 have HB3 := Hi (HB2.out.trans (hb.mono HB2.out.size))
 clear he hb
 go_wp2_with fail
 go_ret
 exact ⟨v, rfl, HE.out, HB3.out⟩
set_option maxRecDepth 100000 in
theorem Drop_yes {w : World} {P D : Nat} {s : Pst} (h : POwn w P D s) (k : Nat) (hk : k < 240) (hu : has s.used k = true) :
  Calls Tryz.prog 106 #[ptr P, .int .i64 (k : Int)] w fun e w' => e = .returned .nilIface ∧ POwn w' P D (s.drop k) ∧ OffP P w w' := by
 have HO := Hi h
 have HUO : Hid (Ok s.used) := Hi ((h.sup.used.both h.new).minus 240)
 have HI := Hi hu
 have HNO := Hi h.new
 have HGO := Hi h.gone
 clear h hu
 go_enter Tryz.func106, Tryz.ntmps106
 go_wp2_with fail
 refine (Used_any HO.out HO.out.sup.used).mono ?_
 rintro e w1 ⟨rfl, hb⟩
 have HB1 := Hi hb
 clear hb
 go_wp2_with fail
 refine (Has_yes _ HUO.out k hk w1).mono ?_
 rw [HI.out]
 rintro e w2 ⟨rfl, hb⟩
 have HB2 := Hi (HB1.out.trans (hb.mono HB1.out.size))
 have HO2 := Hi (HO.out.below HB2.out)
 clear hb
 go_wp2_with (with_reducible refine stop_at (o := ⟨some 17, _, _, _, _, _⟩) ?_)
 refine wpList_load_set_at (by rfl) _ rfl P 33 rfl s.new HNO.out.len HO2.out.fresh ?_
 go_wp2_with fail
 refine (Has_yes _ HNO.out k hk w2).mono ?_
 obtain ⟨v, HV⟩ : ∃ v, Hid (v = has s.new k) := Hy
 rw [← HV.out]
 rintro e w3 ⟨rfl, hb⟩
 have HB3 := Hi (HB2.out.trans (hb.mono HB2.out.size))
 have HO3 := Hi (HO.out.below HB3.out)
 clear hb HO2 HB2
 cases v with
 | true =>
  go_wp2_with (with_reducible refine stop_at (o := ⟨some 24, _, _, _, _, _⟩) ?_)
  refine wpList_load_set_at (by rfl) _ rfl P 33 rfl s.new HNO.out.len HO3.out.fresh ?_
  go_wp2_with fail
  refine (Without_yes _ HNO.out k hk w3).mono ?_
  rintro e w4 ⟨rfl, hb⟩
  have HB4 := Hi (HB3.out.trans (hb.mono HB3.out.size))
  have HO4 := Hi (HO.out.below HB4.out)
  have HSL : Hid (s.drop k = ⟨s.sup, without s.new k, s.gone⟩) := Hi (by unfold Pst.drop; rw [if_pos (by rw [← HV.out])])
  have HTO := Hi (HNO.out.without k)
  obtain ⟨t, HT⟩ : ∃ t, Hid (t = without s.new k) := Hy
  rw [← HT.out] at HSL HTO ⊢
  clear hb HB3 HO3
  go_wp2_with (with_reducible refine stop_at (o := ⟨none, _, _, _, _, _⟩) ?_)
  refine wpList_store_set_at rfl _ _ rfl P 33 t HTO.out.len rfl rfl (pgr_there HO4.out.fresh (by rw [stCells_length, HNO.out.len]) HO4.out.free) ?_
  intro w5 HW5
  go_wp2_with fail
  go_ret
  refine ⟨rfl, by rw [HSL.out, HW5.out]; exact HO4.out.putFresh HTO.out, by rw [HW5.out]; exact OffP.setCells (OffP.of_below HB4.out) _ _⟩
 | false =>
  go_wp2_with (with_reducible refine stop_at (o := ⟨some 33, _, _, _, _, _⟩) ?_)
  refine wpList_load_set_at (by rfl) _ rfl P 63 rfl s.gone HGO.out.len HO3.out.going ?_
  go_wp2_with fail
  refine (With_yes _ HGO.out k hk w3).mono ?_
  rintro e w4 ⟨rfl, hb⟩
  have HB4 := Hi (HB3.out.trans (hb.mono HB3.out.size))
  have HO4 := Hi (HO.out.below HB4.out)
  have HSL : Hid (s.drop k = ⟨s.sup, s.new, with_ s.gone k⟩) := Hi (by unfold Pst.drop; rw [if_neg (by rw [← HV.out]; decide)])
  have HTO := Hi (HGO.out.with_ k)
  obtain ⟨t, HT⟩ : ∃ t, Hid (t = with_ s.gone k) := Hy
  rw [← HT.out] at HSL HTO ⊢
  clear hb HB3 HO3
  go_wp2_with (with_reducible refine stop_at (o := ⟨none, _, _, _, _, _⟩) ?_)
  refine wpList_store_set_at rfl _ _ rfl P 63 t HTO.out.len rfl rfl (pgr_there HO4.out.going (by rw [stCells_length, HGO.out.len]) HO4.out.free) ?_
  intro w5 HW5
  go_wp2_with fail
  go_ret
  refine ⟨rfl, by rw [HSL.out, HW5.out]; exact HO4.out.putGoing HTO.out, by rw [HW5.out]; exact OffP.setCells (OffP.of_below HB4.out) _ _⟩
end Go.Proofs.YtafclmbecmgbnaaGreatDoor

/-
 PgrSwitch. Conditions: as each theorem says.
-/
namespace Go.Proofs.YtafclmbecmgbnaaGreatDoor
open Go.RowKit
open Bits (Ok has with_ without both minus)
set_option maxRecDepth 100000 in
set_option maxHeartbeats 1000000 in
theorem SwitchTo_yes {L : Nat → Prop} {D n : Nat} {d : Dk} {w : World} (h : DiskAt L w D n d) (ht : There L w) (hd : d.down = false) (hn : 3 ≤ n) (g : Nat) (r : Int) (u : List Nat) (hu : Ok u) (hgl : g + 1 < 4294967296) (hr : rightB ⟨g + 1, r, u⟩ = true)
  (hg : ∀ w', Kept L w w' → LaidCrc w') :
  Calls Tryz.prog 60 #[ptr D, .int .u32 (g : Int), .int .i64 r, stV u] w fun e w' => e = .returned (.tuple #[sbV ⟨g + 1, r, u⟩, .nilIface]) ∧ DiskAt L w' D n (swDk d ⟨g + 1, r, u⟩) ∧ Kept L w w' := by
 have hz := Tryz.sbProg.zero
 obtain ⟨m, HM⟩ : ∃ m, Hid (m = g + 1) := Hy
 rw [← HM.out] at hr hgl ⊢
 have hwr : IntKind.u32.wrap ((g : Int) + 1) = (m : Int) := by
  have := HM.out
  rw [IntKind.wrap_u32]
  omega
 have hne : ((g : Int) == 4294967295) = false := by
  have := HM.out
  simp
  omega
 have HXO : Hid ((⟨m, r, u⟩ : Sb).Ok) := Hi ⟨hgl, hu⟩
 have HR := Hi hr
 have HT := Hi ht
 have HG := Hi hg
 have HUO := Hi hu
 obtain ⟨b, HB⟩ : ∃ b, Hid (b = w.heap.size) := Hy
 obtain ⟨w1, HW⟩ : ∃ w1, Hid (w1 = (w.alloc (.cells (stArr u) 63)).alloc (.cells (sbArr Sb.zero) 103)) := Hy
 have HST : Hid (SOwn w1 b u ∧ BOwn w1 (b + 1) Sb.zero ∧ Below w.heap.size w w1) := Hi (by
  rw [HW.out, HB.out]
  refine ⟨(SOwn.new (w := w) 63).below ((Below.refl _ _).alloc (Nat.le_refl _) _) (by simp), ?_, ((Below.refl _ _).alloc (Nat.le_refl _) _).alloc (by simp) _⟩
  have := BOwn.new (w := w.alloc (.cells (stArr u) 63)) (x := Sb.zero) 103
  simpa using this)
 have HD := Hi h
 have HDN := Hi hd
 have HN := Hi hn
 clear h ht hd hn hr hg hu hgl
 go_enter Tryz.func60, Tryz.ntmps60
 go_upto_region 1 with (fail)
 rw [← HW.out, ← HB.out]
 clear HW
 go_wp2_with (with_reducible refine stop_at (o := ⟨some 19, _, _, _, _, _⟩) ?_)
 refine wpList_load_set (by rfl) _ rfl b rfl u HUO.out.len HST.out.1.at_ ?_
 refine wpList_build_sb3 Tryz.sbProg rfl _ _ _ rfl ⟨m, r, u⟩ HXO.out rfl rfl rfl ?_
 obtain ⟨x, HX⟩ : ∃ x : Sb, Hid (x = ⟨m, r, u⟩) := Hy
 rw [← HX.out] at HXO HR ⊢
 go_wp2_with (with_reducible refine stop_at (o := ⟨none, _, _, _, _, _⟩) ?_)
 refine wpList_store_last rfl _ _ _ rfl (sbArr Sb.zero) (sbArr x) _ rfl rfl rfl (by rw [sbArr_size HXO.out]; exact Tryz.sbProg.size) (by rw [sbArr_size HXO.out, sbArr_size Sb.Ok.zero]) (sbArr_all _) ?_
 obtain ⟨c, HC⟩ : ∃ c, Hid (c = w1.heap.size) := Hy
 obtain ⟨w2, HW⟩ : ∃ w2, Hid (w2 = w1.alloc (.cells (sbArr x) 103)) := Hy
 rw [← HW.out, ← HC.out]
 have hb2 : Below w1.heap.size w1 w2 := by rw [HW.out]; exact (Below.refl _ _).alloc (Nat.le_refl _) _
 have HB2 : Hid (Below w.heap.size w w2) := Hi (HST.out.2.2.trans (hb2.mono HST.out.2.2.size))
 have HO2 : Hid (BOwn w2 (b + 1) Sb.zero) := Hi (HST.out.2.1.below hb2 HST.out.2.1.lt)
 have HN2 : Hid (BOwn w2 c x) := Hi (by rw [HW.out, HC.out]; exact BOwn.new _)
 have HCL : Hid (w.heap.size ≤ c) := Hi (by rw [HC.out]; exact HST.out.2.2.size)
 have HBL : Hid (w.heap.size ≤ b + 1) := Hi (by rw [HB.out]; omega)
 have HNE : Hid (c ≠ b + 1) := Hi (by have := HST.out.2.1.lt; rw [HC.out]; omega)
 obtain ⟨L2, HL2⟩ : ∃ L2 : Nat → Prop, Hid (L2 = fun k => L k ∨ k = b + 1 ∨ k = c) := Hy
 have HD2 : Hid (DiskAt L2 w2 D n d) := Hi (HD.out.more HB2.out fun k hk => by
  rw [HL2.out] at hk
  rcases hk with hk | rfl | rfl
  ·exact .inl hk
  ·exact .inr HBL.out
  ·exact .inr HCL.out)
 have HT2 : Hid (There L2 w2) := Hi fun k hk => by
  rw [HL2.out] at hk
  rcases hk with hk | rfl | rfl
  ·exact Nat.lt_of_lt_of_le (HT.out k hk) HB2.out.size
  ·exact HO2.out.lt
  ·exact HN2.out.lt
 have HLL : Hid (∀ k, L k → L2 k) := Hi fun k hk => by rw [HL2.out]; exact .inl hk
 have HL21 : Hid (L2 (b + 1)) := Hi (by rw [HL2.out]; exact .inr (.inl rfl))
 have HL22 : Hid (L2 c) := Hi (by rw [HL2.out]; exact .inr (.inr rfl))
 have HG2 : Hid (∀ w', Kept L2 w2 w' → LaidCrc w') := Hi fun w' hk => HG.out w' ((Kept.of_below HB2.out fun k hk => HT.out k hk).trans (hk.less HLL.out))
 clear hb2 HW HST HD HC HL2
 go_wp2_with (with_reducible refine stop_at (o := ⟨some 22, _, _, _, _, _⟩) ?_)
 refine wpList_load_sb Tryz.sbProg (by rfl) _ rfl c rfl x HXO.out HN2.out.at_ ?_
 go_wp2_with fail
 refine (Switch_yes HD2.out HT2.out HDN.out HN.out x HXO.out HR.out HG2.out).mono ?_
 rintro e w3 ⟨rfl, hd3, hk3⟩
 have HD3 := Hi hd3
 have HO3 := Hi (HO2.out.block (hk3.block _ HL21.out))
 have HN3 := Hi (HN2.out.block (hk3.block _ HL22.out))
 have HK3 : Hid (Kept L w w3) := Hi ((Kept.of_below HB2.out fun k hk => HT.out k hk).trans (hk3.less HLL.out))
 clear hd3 hk3 HD2 HO2 HN2
 go_wp2_with (with_reducible refine stop_at (o := ⟨some 29, _, _, _, _, _⟩) ?_)
 refine wpList_load_sb Tryz.sbProg (by rfl) _ rfl c rfl x HXO.out HN3.out.at_ ?_
 refine wpList_store_sb Tryz.sbProg rfl _ _ rfl (b + 1) x Sb.zero HXO.out Sb.Ok.zero rfl rfl HO3.out ?_
 intro w5 HW5 HO5
 go_wp2_with fail
 have hk5 : Kept (fun k => k < w3.heap.size ∧ ¬ k = b + 1) w3 w5 := by rw [HW5.out]; exact Kept.setCells (Kept.refl _ _) (fun hh => hh.2 rfl) _ _
 refine bodyPost_ret (results_sb2 Tryz.sbProg rfl _ _ (b + 1) x .nilIface rfl rfl HO5.out.at_ HXO.out) rfl ⟨by rw [HX.out], ?_, ?_⟩
 ·rw [← HX.out]
  exact HD3.out.off (B := fun k => k = b + 1) (fun k hk => by rw [hk]; exact HL21.out) hk5 fun k hk => .inl (HLL.out k hk)
 ·rw [HW5.out]
  refine Kept.setCells HK3.out (fun hh => ?_) _ _
  have := HT.out _ hh
  have := HBL.out
  omega
def pgrZero : Array Value := ([Value.pointer none] ++ sbCells Sb.zero ++ stCells noSt ++ stCells noSt).toArray
theorem Tryz.pagerTwo (x y : Value) : Tryz.prog.built 118 [(0, x), (1, y)] = Instr.fill ((#[(0, 1), (1, 32), (33, 30), (63, 30)] : Array (Nat × Nat))[·]?) pgrZero [(0, x), (1, y)] := by kernel_rfl
theorem built_pager (D : Nat) {x : Sb} (hx : x.Ok) : Tryz.prog.built 118 [(0, ptr D), (1, sbV x)] = some (pgrCells D (Pst.opened x)).toArray := by
 rw [Tryz.pagerTwo]
 have hl : (sbCells Sb.zero).length = 32 := sbCells_length Sb.Ok.zero
 have hn : (stCells noSt).length = 30 := by rw [stCells_length]; exact noSt_ok.len
 have hx2 : (sbArr x).size = 32 := sbArr_size hx
 have hz : pgrZero.size = 93 := by simp [pgrZero, hl, hn]
 rw [fill_step _ _ 0 _ _ 0 1 rfl rfl (by rw [hz]; decide)]
 have e0 : pgrZero.toList = .pointer none :: (sbCells Sb.zero ++ stCells noSt ++ stCells noSt) := by simp [pgrZero]
 rw [e0]
 rw [fill_step _ _ 1 (sbV x) _ 1 32 rfl hx2 (by simp [Value.cells, hl, hn])]
 rw [Instr.fill]
 congr 1
 simp [Value.cells, pgrCells, sbArr, Pst.opened, hl]
theorem wpList_build_pager {ops : Array Oper} {rest : List Oper} {o : Oper} {a : Act} {w : World} {Q : Exit → Act → World → Prop} (hgd : o.guard = none) (x y : Operand) (ho : o.op = .build 118 #[(0, x), (1, y)]) (D : Nat) (s : Sb) (hs : s.Ok)
  (hx : a.eval x = ptr D) (hy : a.eval y = sbV s)
  (h : wpList Tryz.prog ops Q rest (a.put o.dst (.agg (pgrCells D (Pst.opened s)).toArray)) w) : wpList Tryz.prog ops Q (o :: rest) a w :=
 wpList_plain hgd fun _ hK => by
  have e : (#[(0, x), (1, y)].map fun (i, x) => (i, a.eval x)).toList = [(0, ptr D), (1, sbV s)] := by
   simp only [List.map_toArray, List.map_cons, List.map_nil, hx, hy]
  exact wp_build 118 _ ho (by rw [e, built_pager D hs]; rfl) (hK _ _ (by rw [e, built_pager D hs]; exact h))
theorem POwn.newP {w : World} {D : Nat} {x : Sb} (hx : x.Ok) (t : TypeId) : POwn (w.alloc (.cells (pgrCells D (Pst.opened x)).toArray t)) w.heap.size D (Pst.opened x) := by
 refine POwn.of_cells hx noSt_ok noSt_ok (fun j v hv => ?_) fun j => ?_
 ·have hb : (w.alloc (.cells (pgrCells D (Pst.opened x)).toArray t)).heap[w.heap.size]? = some (.cells (pgrCells D (Pst.opened x)).toArray t (0, 0)) := heap_alloc_last w _
  rw [cell_of_row _ w.heap.size (0 + j) _ _ _ hb, Nat.zero_add]
  simpa using hv
 ·exact frozen_of_row _ _ j _ _ (heap_alloc_last w _)
set_option maxRecDepth 100000 in
theorem Open_no {D : Value} {w : World} (c : Int) (h0 : c ≠ 0) (h : Calls Tryz.prog 52 #[D] w (BestPost c none w)) : Calls Tryz.prog 27 #[D] w (Two (.pointer none) c w) := by
 have HC := Hi h0
 have HH := Hi h
 clear h h0
 have hz := Tryz.sbProg.zero
 go_enter Tryz.func27, Tryz.ntmps27
 go_wp2_with fail
 refine HH.out.mono ?_
 rintro e w1 ⟨v, rfl, he, hb⟩
 obtain ⟨t, y, rfl⟩ := he.some HC.out
 have HE := Hi he
 have HB := Hi hb
 clear he hb HH
 go_wp2_with (with_reducible refine stop_at (o := ⟨none, _, _, _, _, _⟩) ?_)
 refine wpList_store_last rfl _ _ _ rfl (sbArr Sb.zero) (sbArr Sb.zero) _ rfl rfl rfl (by rw [sbArr_size Sb.Ok.zero]; exact Tryz.sbProg.size) rfl (sbArr_all _) ?_
 obtain ⟨w2, HW⟩ : ∃ w2, Hid (w2 = w1.alloc (.cells (sbArr Sb.zero) 103)) := Hy
 rw [← HW.out]
 have hb2 : Below w1.heap.size w1 w2 := by rw [HW.out]; exact (Below.refl _ _).alloc (Nat.le_refl _) _
 have HB2 : Hid (Below w.heap.size w w2) := Hi (HB.out.trans (hb2.mono HB.out.size))
 have HE2 := Hi (HE.out.below hb2)
 clear hb2 HW HB HE
 go_wp2_with fail
 refine (Tag_from _ w.heap.size c _ w2 HE2.out HB2.out.size).mono ?_
 rintro e w3 ⟨v, rfl, he, hb⟩
 have HE3 := Hi he
 have HB3 := Hi (HB2.out.trans (hb.mono HB2.out.size))
 clear he hb
 go_wp2_with fail
 go_ret2
 exact ⟨v, rfl, HE3.out, HB3.out⟩
set_option maxRecDepth 100000 in
theorem Open_yes {D : Nat} {w : World} {x : Sb} (hx : x.Ok) (h : Calls Tryz.prog 52 #[ptr D] w (BestPost 0 (some x) w)) : Calls Tryz.prog 27 #[ptr D] w fun e w' =>
  ∃ P, e = .returned (.tuple #[ptr P, .nilIface]) ∧ POwn w' P D (Pst.opened x) ∧ w.heap.size ≤ P ∧ Below w.heap.size w w' := by
 have HXO := Hi hx
 have HH : Hid (Calls Tryz.prog 52 #[ptr D] w fun e w' => e = .returned (.tuple #[sbV x, .nilIface]) ∧ Below w.heap.size w w') := Hi (h.mono (by
  rintro e w' ⟨v, rfl, he, hb⟩
  obtain rfl := he.zero
  exact ⟨rfl, hb⟩))
 clear h hx
 have hz := Tryz.sbProg.zero
 go_enter Tryz.func27, Tryz.ntmps27
 go_wp2_with fail
 refine HH.out.mono ?_
 rintro e w1 ⟨rfl, hb⟩
 have HB := Hi hb
 clear hb HH
 go_wp2_with (with_reducible refine stop_at (o := ⟨none, _, _, _, _, _⟩) ?_)
 refine wpList_store_last rfl _ _ _ rfl (sbArr Sb.zero) (sbArr x) _ rfl rfl rfl (by rw [sbArr_size HXO.out]; exact Tryz.sbProg.size) (by rw [sbArr_size HXO.out, sbArr_size Sb.Ok.zero]) (sbArr_all _) ?_
 obtain ⟨c, HC⟩ : ∃ c, Hid (c = w1.heap.size) := Hy
 obtain ⟨w2, HW⟩ : ∃ w2, Hid (w2 = w1.alloc (.cells (sbArr x) 103)) := Hy
 rw [← HW.out, ← HC.out]
 have HN : Hid (BOwn w2 c x) := Hi (by rw [HW.out, HC.out]; exact BOwn.new _)
 have hb2 : Below w1.heap.size w1 w2 := by rw [HW.out]; exact (Below.refl _ _).alloc (Nat.le_refl _) _
 have HB2 : Hid (Below w.heap.size w w2) := Hi (HB.out.trans (hb2.mono HB.out.size))
 clear hb2 HW HB
 go_wp2_with (with_reducible refine stop_at (o := ⟨some 16, _, _, _, _, _⟩) ?_)
 refine wpList_load_sb Tryz.sbProg (by rfl) _ rfl c rfl x HXO.out HN.out.at_ ?_
 refine wpList_build_pager rfl _ _ rfl D x HXO.out rfl rfl ?_
 go_wp2_with fail
 go_ret2
 exact ⟨w2.heap.size, rfl, .newP HXO.out _, HB2.out.size, HB2.out.alloc HB2.out.size _⟩
end Go.Proofs.YtafclmbecmgbnaaGreatDoor

/-
 PgrNew. Conditions: as each theorem says.
-/
namespace Go.Proofs.YtafclmbecmgbnaaGreatDoor
open Go.RowKit
open Bits (Ok has with_ without both minus)
structure PgrS (L : Nat → Prop) (w : World) (P D n : Nat) (d : Dk) (s : Pst) (wr : World) : Prop where
 own : POwn wr P D s
 disk : DiskAt L wr D n d
 below : Below w.heap.size w wr
theorem PgrS.carry {L : Nat → Prop} {w wr w' : World} {P D n : Nat} {d : Dk} {s : Pst} (h : PgrS L w P D n d s wr) (hb : Below wr.heap.size wr w') : PgrS L w P D n d s w' :=
 ⟨h.own.below hb, h.disk.carry hb, h.below.trans (hb.mono h.below.size)⟩
theorem PgrAt.ofStore {K : Nat → Prop} {w w4 w5 : World} {P D n : Nat} {d : Dk} {s : Pst} (hK : ¬ K P) (ht : There K w) (hd : DiskAt (fun b => K b ∨ b = P) w4 D n d) (hk : Kept (fun b => K b ∨ b = P) w w4) (ho : POwn w5 P D s) (h5 : OffP P w4 w5) :
  PgrAt PgrO K w5 P D n d s ∧ Kept K w w5 := by
 have h4 : Kept K w w5 := (hk.less fun k hk => .inl hk).trans (h5.less fun k hk2 => ⟨Nat.lt_of_lt_of_le (ht k hk2) hk.size, fun e => hK (e ▸ hk2)⟩)
 exact ⟨PgrAt.mk ho (hd.off (B := fun b => b = P) (fun b hb => .inr hb) h5 fun k hk => .inl hk) (fun k hk2 => Nat.lt_of_lt_of_le (ht k hk2) h4.size) hK, h4⟩
theorem PgrNew_long (P : Nat) (w : World) (t : ByteArray) (ht : 120 < t.size) : Calls Tryz.prog 30 #[ptr P, .string t] w (Two (.int .i64 0) 8 w) := by
 have hl : (120 : Int) < (t.size : Int) := by omega
 clear ht
 go_enter Tryz.func30, Tryz.ntmps30
 go_wp2_with fail
 refine (PgrFault_any 8 (by decide) w).mono ?_
 rintro e w' ⟨v, rfl, he, hb⟩
 have HE := Hi he
 have HB := Hi hb
 clear he hb
 go_wp2_with fail
 go_ret2
 exact ⟨v, rfl, HE.out, HB.out⟩
set_option maxRecDepth 100000 in
set_option maxHeartbeats 1000000 in
theorem PgrNew_full {K : Nat → Prop} {w : World} {P D n : Nat} {d : Dk} {s : Pst} {data firm : Nat → List UInt8} (hA : PgrAt PgrO K w P D n d s) (h : PInv n d s data firm) (t : ByteArray) (ht : t.size ≤ 120) (hf : s.first n = none) :
  Calls Tryz.prog 30 #[ptr P, .string t] w (Two (.int .i64 0) 6 w) := by
 obtain ⟨L, HL⟩ : ∃ L : Nat → Prop, Hid (L = fun b => K b ∨ b = P) := Hy
 have HO := Hi hA.own
 have HD := Hi hA.diskP
 have HU := Hi h.held.good.used
 have HBO := Hi (h.held.good.used.both h.newOk)
 have HF : Hid (firstZ (both s.sup.used s.new) 2 (n : Int) = none) := Hi (by
  have := h.le
  rw [← hf]
  unfold firstZ Pst.first
  congr 1
  omega)
 have hlen : ¬ (120 : Int) < (t.size : Int) := by omega
 rw [← HL.out] at HD
 clear hA h ht hf HL
 go_enter Tryz.func30, Tryz.ntmps30
 go_upto_region 5 with (fail)
 refine wp_region_held (S := PgrS L w P D n d s) (by kernel_rfl) ?_
 change wpAnyH _ _ _ _ _ _ _ _ w.drew
 obtain ⟨wa, HWA⟩ : ∃ wa, Hid (wa = w.drew) := Hy
 rw [← HWA.out]
 have hS : PgrS L w P D n d s wa := by rw [HWA.out]; exact ⟨HO.out.below (Below.refl _ _).drew, HD.out.carry (Below.refl _ _).drew, (Below.refl _ _).drew⟩
 clear HWA
 refine takeK (i := 0) 17 (v := ptr P) rfl rfl hS ?_
 simp only [Act.put, pU]
 refine takeK (i := 2) 19 (v := ptr P) rfl rfl hS ?_
 simp only [Act.put, pU]
 refine takeK (i := 3) 20 (v := .pointer (some ⟨P, 0, none⟩)) rfl rfl hS ?_
 simp only [Act.put, pU]
 refine takeK (i := 4) 21 (v := .pointer (some ⟨P, 0, none⟩)) rfl rfl hS ?_
 simp only [Act.put, pU]
 refine takeJ (i := 5) 22 (v := ptr D) rfl rfl (.inl ⟨by rfl, fun _ h => by have c0 := h.own.at0; go_simp⟩) hS ?_
 simp only [Act.put, pU]
 refine oneH (i := 1) (oi := ⟨some 18, _, _, _, _, _⟩) rfl (by kernel_rfl) (fun K0 hK => ?_)
 go_simp
 refine (Held_any hS.own HU.out).mono ?_
 rintro e wn ⟨rfl, hb⟩
 have hS2 := hS.carry hb
 clear hb hS
 refine hK.out _ _ hS2 ?_
 clear hK K0
 have hS := hS2
 clear hS2
 refine oneH (i := 6) (oi := ⟨some 23, _, _, _, _, _⟩) rfl (by kernel_rfl) (fun K0 hK => ?_)
 go_simp
 refine (Size_any hS.disk).mono ?_
 rintro e wn ⟨rfl, rfl⟩
 refine hK.out _ _ hS ?_
 clear hK K0
 refine oneH (i := 7) (oi := ⟨some 24, _, _, _, _, _⟩) rfl (by kernel_rfl) (fun K0 hK => ?_)
 go_simp
 refine (First_any _ HBO.out 2 (n : Int) _).mono ?_
 rw [HF.out]
 rintro e wn ⟨rfl, hb⟩
 have hS2 := hS.carry hb
 clear hb hS
 unfold firstV
 dsimp only
 refine hK.out _ _ hS2 ?_
 clear hK K0
 have hS := hS2
 clear hS2
 refine takeK (i := 8) 16 (v := .tuple #[.int .i64 0, .bool false]) rfl rfl hS ?_
 simp only [Act.put, pU]
 refine takeK (i := 9) 25 (v := .int .i64 0) rfl rfl hS ?_
 simp only [Act.put, pU]
 refine takeK (i := 10) 26 (v := .bool false) rfl rfl hS ?_
 simp only [Act.put, pU]
 refine takeK (i := 11) 6 (v := .int .i64 0) rfl rfl hS ?_
 simp only [Act.put, pU]
 refine takeK (i := 12) 7 (v := .bool false) rfl rfl hS ?_
 simp only [Act.put, pU]
 refine wpAnyH_done (by kernel_rfl) ?_ _
 clear HD HO
 have HS := Hi hS
 clear hS
 go_wp2_with fail
 refine (PgrFault_any 6 (by decide) _).mono ?_
 rintro e w' ⟨v, rfl, he, hb⟩
 have HE := Hi (he.mono HS.out.below.size)
 have HB := Hi (HS.out.below.trans (hb.mono HS.out.below.size))
 clear he hb
 go_wp2_with fail
 go_ret2
 exact ⟨v, rfl, HE.out, HB.out⟩
theorem codeL_page {t : ByteArray} (ht : t.size ≤ 120) : codeL 2 t = 0 := by
 unfold codeL
 rw [if_neg (by decide), if_neg (by omega)]
theorem pageL_page {t : ByteArray} (ht : t.size ≤ 120) : pageL 2 t = pgB (pageP t.data.toList) := by
 unfold pageL
 rw [if_pos (codeL_page ht)]
 rfl
set_option maxRecDepth 100000 in
set_option maxHeartbeats 1000000 in
theorem PgrNew_yes {K : Nat → Prop} {w : World} {P D n : Nat} {d : Dk} {s : Pst} {data firm : Nat → List UInt8} (hA : PgrAt PgrO K w P D n d s) (h : PInv n d s data firm) (hdn : d.down = false) (hg : ∀ w', Kept K w w' → Laid2 w') (hsl : d.soft.length ≤ 100000)
  (t : ByteArray) (ht : t.size ≤ 120) (k : Nat) (hf : s.first n = some k) :
  Calls Tryz.prog 30 #[ptr P, .string t] w fun e w' => e = .returned (.tuple #[.int .i64 (k : Int), .nilIface]) ∧ PgrAt PgrO K w' P D n (d.write k (pgB (pageP t.data.toList))) (s.at_ k) ∧ Kept K w w' := by
 obtain ⟨L, HL⟩ : ∃ L : Nat → Prop, Hid (L = fun b => K b ∨ b = P) := Hy
 have HNK := Hi hA.notK
 have HT := Hi hA.there
 have HKN : Hid (k < n ∧ k < 240) := Hi (by
  have := h.first_some hf
  have := h.le
  omega)
 have HTL : Hid (There L w) := Hi fun j hj => by
  rw [HL.out] at hj
  rcases hj with hj | rfl
  ·exact hA.there j hj
  ·exact hA.own.lt
 have HLP : Hid (L P) := Hi (by rw [HL.out]; exact .inr rfl)
 have HLK : Hid (∀ j, K j → L j) := Hi fun j hj => by rw [HL.out]; exact .inl hj
 have HG := Hi hg
 have HDN := Hi hdn
 have HSL : Hid (d.soft.length ≤ 1000000) := Hi (by omega)
 have HPL := Hi (pageL_page ht)
 have HCL := Hi (codeL_page ht)
 have HNO := Hi h.newOk
 have HO := Hi hA.own
 have HD := Hi hA.diskP
 have HU := Hi h.held.good.used
 have HBO := Hi (h.held.good.used.both h.newOk)
 have HF : Hid (firstZ (both s.sup.used s.new) 2 (n : Int) = some k) := Hi (by
  have := h.le
  rw [← hf]
  unfold firstZ Pst.first
  congr 1
  omega)
 have hlen : ¬ (120 : Int) < (t.size : Int) := by omega
 rw [← HL.out] at HD
 clear hA h ht hf hdn hg hsl
 go_enter Tryz.func30, Tryz.ntmps30
 go_upto_region 5 with (fail)
 refine wp_region_held (S := PgrS L w P D n d s) (by kernel_rfl) ?_
 change wpAnyH _ _ _ _ _ _ _ _ w.drew
 obtain ⟨wa, HWA⟩ : ∃ wa, Hid (wa = w.drew) := Hy
 rw [← HWA.out]
 have hS : PgrS L w P D n d s wa := by rw [HWA.out]; exact ⟨HO.out.below (Below.refl _ _).drew, HD.out.carry (Below.refl _ _).drew, (Below.refl _ _).drew⟩
 clear HWA
 refine takeK (i := 0) 17 (v := ptr P) rfl rfl hS ?_
 simp only [Act.put, pU]
 refine takeK (i := 2) 19 (v := ptr P) rfl rfl hS ?_
 simp only [Act.put, pU]
 refine takeK (i := 3) 20 (v := .pointer (some ⟨P, 0, none⟩)) rfl rfl hS ?_
 simp only [Act.put, pU]
 refine takeK (i := 4) 21 (v := .pointer (some ⟨P, 0, none⟩)) rfl rfl hS ?_
 simp only [Act.put, pU]
 refine takeJ (i := 5) 22 (v := ptr D) rfl rfl (.inl ⟨by rfl, fun _ h => by have c0 := h.own.at0; go_simp⟩) hS ?_
 simp only [Act.put, pU]
 refine oneH (i := 1) (oi := ⟨some 18, _, _, _, _, _⟩) rfl (by kernel_rfl) (fun K0 hK => ?_)
 go_simp
 refine (Held_any hS.own HU.out).mono ?_
 rintro e wn ⟨rfl, hb⟩
 have hS2 := hS.carry hb
 clear hb hS
 refine hK.out _ _ hS2 ?_
 clear hK K0
 have hS := hS2
 clear hS2
 refine oneH (i := 6) (oi := ⟨some 23, _, _, _, _, _⟩) rfl (by kernel_rfl) (fun K0 hK => ?_)
 go_simp
 refine (Size_any hS.disk).mono ?_
 rintro e wn ⟨rfl, rfl⟩
 refine hK.out _ _ hS ?_
 clear hK K0
 refine oneH (i := 7) (oi := ⟨some 24, _, _, _, _, _⟩) rfl (by kernel_rfl) (fun K0 hK => ?_)
 go_simp
 refine (First_any _ HBO.out 2 (n : Int) _).mono ?_
 rw [HF.out]
 rintro e wn ⟨rfl, hb⟩
 have hS2 := hS.carry hb
 clear hb hS
 unfold firstV
 dsimp only
 refine hK.out _ _ hS2 ?_
 clear hK K0
 have hS := hS2
 clear hS2
 refine takeK (i := 8) 16 (v := .tuple #[.int .i64 (k : Int), .bool true]) rfl rfl hS ?_
 simp only [Act.put, pU]
 refine takeK (i := 9) 25 (v := .int .i64 (k : Int)) rfl rfl hS ?_
 simp only [Act.put, pU]
 refine takeK (i := 10) 26 (v := .bool true) rfl rfl hS ?_
 simp only [Act.put, pU]
 refine takeK (i := 11) 6 (v := .int .i64 (k : Int)) rfl rfl hS ?_
 simp only [Act.put, pU]
 refine takeK (i := 12) 7 (v := .bool true) rfl rfl hS ?_
 simp only [Act.put, pU]
 refine wpAnyH_done (by kernel_rfl) ?_ _
 clear HD HO
 have HS := Hi hS
 have hc := hS.own.at0
 clear hS
 go_wp2_with fail
 have hkk : Kept L w wn := Kept.of_below HS.out.below HTL.out
 refine (FrStore_yes HS.out.disk (HTL.out.kept hkk) HDN.out HKN.out.1 HSL.out 2 t HCL.out (HG.out _ (hkk.less HLK.out)).crc).mono ?_
 rintro e w3 ⟨rfl, hd3, hk3⟩
 rw [HPL.out] at hd3
 have HK3 := Hi (hkk.trans hk3)
 have HD3 := Hi hd3
 have HO3 := Hi (HS.out.own.block (hk3.block P HLP.out))
 clear hd3 hk3 hkk hc HS
 go_wp2_with (with_reducible refine stop_at (o := ⟨some 45, _, _, _, _, _⟩) ?_)
 refine wpList_load_set_at (by rfl) _ rfl P 33 rfl s.new HNO.out.len HO3.out.fresh ?_
 go_wp2_with fail
 refine (With_yes _ HNO.out k HKN.out.2 w3).mono ?_
 rintro e w4 ⟨rfl, hb⟩
 have HO4 := Hi (HO3.out.below hb)
 have HD4 := Hi (HD3.out.carry hb)
 have HK4 : Hid (Kept L w w4) := Hi (HK3.out.trans (Kept.of_below hb fun j hj => HTL.out.kept HK3.out j hj))
 have HTO := Hi (HNO.out.with_ k)
 have HSA : Hid (s.at_ k = ⟨s.sup, with_ s.new k, s.gone⟩) := Hi rfl
 obtain ⟨q, HQ⟩ : ∃ q, Hid (q = with_ s.new k) := Hy
 rw [← HQ.out] at HTO HSA ⊢
 clear hb HO3 HD3 HK3
 go_wp2_with (with_reducible refine stop_at (o := ⟨none, _, _, _, _, _⟩) ?_)
 refine wpList_store_set_at rfl _ _ rfl P 33 q HTO.out.len rfl rfl (pgr_there HO4.out.fresh (by rw [stCells_length, HNO.out.len]) HO4.out.free) ?_
 intro w5 HW5
 go_wp2_with fail
 go_ret2
 rw [HSA.out]
 exact ⟨rfl, PgrAt.ofStore HNK.out HT.out (HL.out ▸ HD4.out) (HL.out ▸ HK4.out) (by rw [HW5.out]; exact HO4.out.putFresh HTO.out) (by rw [HW5.out]; exact OffP.setCells (Kept.refl _ _) _ _)⟩
end Go.Proofs.YtafclmbecmgbnaaGreatDoor

/-
 PgrCommit. Conditions: as each theorem says.
-/
namespace Go.Proofs.YtafclmbecmgbnaaGreatDoor
open Go.RowKit
open Bits (Ok has with_ without both minus)
theorem wpList_store_sb_at {ops : Array Oper} {rest : List Oper} {op : Oper} {a : Act} {w : World} {Q : Exit → Act → World → Prop} (hgd : op.guard = none) (x y : Operand) (ho : op.op = .store 103 x y)
  (b o : Nat) (s : Sb) (hs : s.Ok) (hx : a.eval x = .pointer (some ⟨b, o, none⟩)) (hy : a.eval y = sbV s) (hb : w.there b o 32)
  (h : ∀ w2, Hid (w2 = w.setCells b o (sbCells s)) → wpList Tryz.prog ops Q rest (a.put op.dst undef) w2) : wpList Tryz.prog ops Q (op :: rest) a w :=
 wpList_store_mid hgd _ x y ho b o (sbArr s) hx hy (by rw [sbArr_size hs]; exact hb) (by rw [sbArr_size hs]; exact Tryz.sbProg.size) (sbArr_all s) (h _ (Hi rfl))
section
variable {P : Program} {ops : Array Oper} {md : Region.Mode} {Q : Exit → Act → World → Prop} {S : World → Prop}
theorem twoH {i j : Nat} {oi oj : Oper} {fuel : Nat} {listed : Array Bool} {a : Act} {w : World} (hi : ops[i]? = some oi) (hj : ops[j]? = some oj) (hr : Region.ready md ops listed = [i, j])
  (h : ∀ K : Act → World → Prop, Hid (∀ a w, S w → wpAnyH P md ops Q S fuel (listed.setIfInBounds i true) a w → K a w) → if Region.wanted oi (yielded ops a.tmps) = true then Oper.wp P oi a w K Q else K (a.put oi.dst undef) w)
  (h' : ∀ K : Act → World → Prop, Hid (∀ a w, S w → wpAnyH P md ops Q S fuel (listed.setIfInBounds j true) a w → K a w) → if Region.wanted oj (yielded ops a.tmps) = true then Oper.wp P oj a w K Q else K (a.put oj.dst undef) w) : wpAnyH P md ops Q S (fuel + 1) listed a w :=
 wpAnyH_ready hr (by simp) (AllReadyH.cons hi (fun K hK => h K (fun a w h1 h2 => hK.out a w h1 fun _ => h2)) (AllReadyH.cons hj (fun K hK => h' K (fun a w h1 h2 => hK.out a w h1 fun _ => h2)) AllReadyH.nil))
end
structure ComS (P D u : Nat) (s : Pst) (q : List Nat) (wr : World) : Prop where
 own : POwn wr P D s
 set : SOwn wr u q
theorem root_no {s : Pst} {r : Int} (h : rootOk s r = false) : r ≠ 0 ∧ hasZ s.used r = false := by
 unfold rootOk at h
 have := Bool.or_eq_false_iff.1 h
 exact ⟨of_decide_eq_false this.1, this.2⟩
theorem root_yes {s : Pst} {r : Int} (h : rootOk s r = true) (h0 : ¬ r = 0) : hasZ s.used r = true := by
 unfold rootOk at h
 rw [decide_eq_false h0, Bool.false_or] at h
 exact h
set_option maxRecDepth 100000 in
theorem PgrCommit_no {w : World} {P D : Nat} {s : Pst} (h : POwn w P D s) (r : Int) (hr : rootOk s r = false) : Calls Tryz.prog 22 #[ptr P, .int .i64 r] w (FromPost 1 w.heap.size w) := by
 have hz := Tryz.zeroSet
 have HO := Hi h
 have HUO : Hid (Ok s.used) := Hi ((h.sup.used.both h.new).minus 240)
 obtain ⟨h0, hh⟩ := root_no hr
 have HI := Hi hh
 clear h hr hh
 go_enter Tryz.func22, Tryz.ntmps22
 go_wp2_with fail
 refine (Used_any HO.out HO.out.sup.used).mono ?_
 obtain ⟨q, HQ⟩ : ∃ q, Hid (q = s.used) := Hy
 rw [← HQ.out] at HUO HI ⊢
 rintro e w1 ⟨rfl, hb⟩
 have HB1 := Hi hb
 clear hb
 go_wp2_with (with_reducible refine stop_at (o := ⟨none, _, _, _, _, _⟩) ?_)
 refine wpList_store_last rfl _ _ _ rfl (stArr zeroSt) (stArr q) _ rfl rfl rfl (by rw [stArr_size, HUO.out.len]; exact Tryz.setSize) (by rw [stArr_size, stArr_size, HUO.out.len]; rfl) (stArr_all _) ?_
 obtain ⟨u, HUU⟩ : ∃ u, Hid (u = w1.heap.size) := Hy
 obtain ⟨w2, HW⟩ : ∃ w2, Hid (w2 = w1.alloc (.cells (stArr q) 63)) := Hy
 rw [← HW.out, ← HUU.out]
 have HSU : Hid (SOwn w2 u q) := Hi (by rw [HW.out, HUU.out]; exact SOwn.new _)
 have HB2 : Hid (Below w.heap.size w w2) := Hi (by rw [HW.out]; exact HB1.out.alloc HB1.out.size _)
 clear HW HUU
 go_wp2_with (with_reducible refine stop_at (o := ⟨some 16, _, _, _, _, _⟩) ?_)
 refine wpList_load_set (by unfold Region.wanted; simp [yielded, h0]) _ rfl u rfl q HUO.out.len HSU.out.at_ ?_
 go_wp2_with fail
 refine (Has_any _ HUO.out r w2).mono ?_
 rw [HI.out]
 rintro e w3 ⟨rfl, hb⟩
 have HB3 := Hi (HB2.out.trans (hb.mono HB2.out.size))
 clear hb
 go_wp2_with fail
 refine (PgrFault_any 1 (by decide) w3).mono ?_
 rintro e w4 ⟨v, rfl, he, hb⟩
 have HE := Hi (he.mono HB3.out.size)
 have HB4 := Hi (HB3.out.trans (hb.mono HB3.out.size))
 clear he hb
 go_wp2_with fail
 go_ret
 exact ⟨v, rfl, HE.out, HB4.out⟩
set_option maxRecDepth 100000 in
set_option maxHeartbeats 2000000 in
theorem PgrCommit_yes {K : Nat → Prop} {w : World} {P D n : Nat} {d : Dk} {s : Pst} {data firm : Nat → List UInt8} (hA : PgrAt PgrO K w P D n d s) (h : PInv n d s data firm) (hdn : d.down = false) (hg : ∀ w', Kept K w w' → Laid2 w')
  (r : Int) (hr : rootOk s r = true) (hgl : s.sup.gen + 1 < 4294967296) :
  Calls Tryz.prog 22 #[ptr P, .int .i64 r] w fun e w' => e = .returned .nilIface ∧ PgrAt PgrO K w' P D n (switchD d (s.next r)) (s.commit r) ∧ Kept K w w' := by
 have hz := Tryz.zeroSet
 have hz2 := Tryz.sbProg.zero
 have HNK := Hi hA.notK
 have HT := Hi hA.there
 have HO := Hi hA.own
 have HD := Hi hA.diskP
 have HG := Hi hg
 have HDN := Hi hdn
 have HN := Hi h.held.three
 have HRY := Hi (fun h0 => root_yes hr h0)
 have HR := Hi (h.next_right hr)
 have HGL := Hi hgl
 have HQO := Hi h.usedOk
 have HXO := Hi (h.next_ok hgl r)
 obtain ⟨x, HX⟩ : ∃ x, Hid (x = s.next r) := Hy
 have HSC : Hid (s.commit r = (⟨x, s.new, s.gone⟩ : Pst).abort) := Hi (by rw [HX.out]; rfl)
 rw [← HX.out] at HXO ⊢
 rw [HSC.out]
 clear hA h hdn hg hr hgl
 unfold Pst.next at HR HX
 obtain ⟨g, HGG⟩ : ∃ g, Hid (g = s.sup.gen) := Hy
 obtain ⟨q, HQ⟩ : ∃ q, Hid (q = s.used) := Hy
 rw [← HGG.out] at HR HX HGL
 rw [← HQ.out] at HR HX HQO HRY
 go_enter Tryz.func22, Tryz.ntmps22
 go_wp2_with fail
 refine (Used_any HO.out HO.out.sup.used).mono ?_
 rw [← HQ.out]
 rintro e w1 ⟨rfl, hb⟩
 have HB1 := Hi hb
 clear hb
 go_wp2_with (with_reducible refine stop_at (o := ⟨none, _, _, _, _, _⟩) ?_)
 refine wpList_store_last rfl _ _ _ rfl (stArr zeroSt) (stArr q) _ rfl rfl rfl (by rw [stArr_size, HQO.out.len]; exact Tryz.setSize) (by rw [stArr_size, stArr_size, HQO.out.len]; rfl) (stArr_all _) ?_
 obtain ⟨u, HUU⟩ : ∃ u, Hid (u = w1.heap.size) := Hy
 obtain ⟨w2, HW⟩ : ∃ w2, Hid (w2 = w1.alloc (.cells (stArr q) 63)) := Hy
 rw [← HW.out, ← HUU.out]
 have HSU : Hid (SOwn w2 u q) := Hi (by rw [HW.out, HUU.out]; exact SOwn.new _)
 have HB2 : Hid (Below w.heap.size w w2) := Hi (by rw [HW.out]; exact HB1.out.alloc HB1.out.size _)
 have HUL : Hid (w.heap.size ≤ u) := Hi (by rw [HUU.out]; exact HB1.out.size)
 clear HW HUU
 obtain ⟨L, HL⟩ : ∃ L : Nat → Prop, Hid (L = fun b => K b ∨ b = P) := Hy
 obtain ⟨L2, HL2⟩ : ∃ L2 : Nat → Prop, Hid (L2 = fun b => L b ∨ b = u) := Hy
 have HTL : Hid (There L w) := Hi fun j hj => by
  rw [HL.out] at hj
  rcases hj with hj | rfl
  ·exact HT.out j hj
  ·exact HO.out.lt
 have HKL : Hid (∀ j, K j → L j) := Hi fun j hj => by rw [HL.out]; exact .inl hj
 have HLP : Hid (L P) := Hi (by rw [HL.out]; exact .inr rfl)
 have HLL : Hid (∀ j, L j → L2 j) := Hi fun j hj => by rw [HL2.out]; exact .inl hj
 have HLU : Hid (L2 u) := Hi (by rw [HL2.out]; exact .inr rfl)
 rw [← HL.out] at HD
 have HDA2 : Hid (DiskAt L2 w2 D n d) := Hi (HD.out.more HB2.out fun k hk => by
  rw [HL2.out] at hk
  rcases hk with hk | rfl
  ·exact .inl hk
  ·exact .inr HUL.out)
 have HTA2 : Hid (There L2 w2) := Hi fun j hj => by
  rw [HL2.out] at hj
  rcases hj with hj | rfl
  ·exact Nat.lt_of_lt_of_le (HTL.out j hj) HB2.out.size
  ·exact HSU.out.lt (by have := HQO.out.len; omega)
 have HGA2 : Hid (∀ w3, Below w2.heap.size w2 w3 → ∀ w', Kept L w3 w' → LaidCrc w') := Hi fun w3 hb w' hk => (HG.out w' ((Kept.of_below (HB2.out.trans (hb.mono HB2.out.size)) fun k hk => HT.out k hk).trans (hk.less HKL.out))).crc
 have HO2 := Hi (HO.out.below HB2.out)
 clear HD HL2
 by_cases h0 : r = 0
 ·have HRZ : Hid (rightB ⟨g + 1, r, q⟩ = true) := HR
  have hr0 : (r != 0) = false := by rw [h0]; rfl
  clear h0 HRY
  go_upto_region 6 with (fail)
  obtain ⟨w3, HW3⟩ : ∃ w3, Hid (w3 = w2) := Hy
  rw [← HW3.out]
  have HB3 : Hid (Below w2.heap.size w2 w3) := Hi (by rw [HW3.out]; exact Below.refl _ _)
  clear HW3 hr0 HRZ
  refine wp_region_held (S := ComS P D u s q) (by kernel_rfl) ?_
  change wpAnyH _ _ _ _ _ _ _ _ w3.drew
  obtain ⟨wa, HWA⟩ : ∃ wa, Hid (wa = w3.drew) := Hy
  rw [← HWA.out]
  have hb3 : Below w2.heap.size w2 wa := by rw [HWA.out]; exact HB3.out.drew
  have hS : ComS P D u s q wa := ⟨HO2.out.below hb3, HSU.out.below hb3 (HSU.out.lt (by have := HQO.out.len; omega))⟩
  have HDA : Hid (DiskAt L2 wa D n d) := Hi (HDA2.out.carry hb3)
  have HTA : Hid (There L2 wa) := Hi (HTA2.out.below hb3)
  have HGA : Hid (∀ w', Kept L wa w' → LaidCrc w') := Hi (HGA2.out wa hb3)
  have HKA : Hid (Kept L w wa) := Hi ((Kept.of_below HB2.out fun k hk => HTL.out k hk).trans (Kept.of_below hb3 fun k hk => Nat.lt_of_lt_of_le (HTL.out k hk) HB2.out.size))
  have HWS : Hid (w.heap.size ≤ wa.heap.size) := Hi HKA.out.size
  clear HWA hb3 HB3 HDA2 HTA2 HGA2
  refine takeK (i := 0) 23 (v := ptr P) rfl rfl hS ?_
  simp only [Act.put, pU]
  refine takeK (i := 1) 24 (v := .pointer (some ⟨P, 0, none⟩)) rfl rfl hS ?_
  simp only [Act.put, pU]
  refine takeK (i := 2) 25 (v := .pointer (some ⟨P, 0, none⟩)) rfl rfl hS ?_
  simp only [Act.put, pU]
  refine takeJ (i := 3) 26 (v := ptr D) rfl rfl (.inl ⟨by rfl, fun _ h => by have c0 := h.own.at0; go_simp⟩) hS ?_
  simp only [Act.put, pU]
  refine takeK (i := 4) 27 (v := ptr P) rfl rfl hS ?_
  simp only [Act.put, pU]
  refine takeK (i := 5) 28 (v := .pointer (some ⟨P, 0, none⟩)) rfl rfl hS ?_
  simp only [Act.put, pU]
  refine takeK (i := 6) 29 (v := .pointer (some ⟨P, 1, none⟩)) rfl rfl hS ?_
  simp only [Act.put, pU]
  refine takeK (i := 7) 30 (v := .pointer (some ⟨P, 1, none⟩)) rfl rfl hS ?_
  simp only [Act.put, pU]
  refine takeJ (i := 8) 31 (v := .int .u32 (g : Int)) rfl rfl (.inl ⟨by rfl, fun _ h => by have c0 := h.own.genC; rw [← HGG.out] at c0; go_simp⟩) hS ?_
  simp only [Act.put, pU]
  refine takeK (i := 9) 32 (v := .int .i64 r) rfl rfl hS ?_
  simp only [Act.put, pU]
  refine takeJ (i := 10) 33 (v := stV q) rfl rfl (yieldsIf_set_at (by rfl) _ rfl u 0 rfl q HQO.out.len (fun _ h => h.set.at_)) hS ?_
  simp only [Act.put, pU]
  refine twoH (i := 11) (j := 15) (oi := ⟨some 34, _, _, _, _, _⟩) (oj := ⟨some 6, _, _, _, _, _⟩) rfl rfl (by kernel_rfl) (fun K0 hK => ?_) (fun K0 hK => ?_)
  ·go_simp
   refine (SwitchTo_yes HDA.out HTA.out HDN.out HN.out g r q HQO.out HGL.out HR.out (Hi fun w9 hk9 => HGA.out w9 (hk9.less HLL.out)).out).mono ?_
   rintro e wn ⟨rfl, hdn2, hkn⟩
   rw [← HX.out] at hdn2 ⊢
   have hS2 : ComS P D u s q wn := ⟨hS.own.block (hkn.block P (HLL.out P HLP.out)), hS.set.blockEq (hkn.block u HLU.out)⟩
   have HDN2 := Hi hdn2
   have HKN : Hid (Kept L w wn) := Hi (HKA.out.trans (hkn.less HLL.out))
   have HTN : Hid (There L2 wn) := Hi (HTA.out.kept hkn)
   clear hdn2 hkn hS
   refine hK.out _ _ hS2 ?_
   clear hK K0
   have hS := hS2
   clear hS2
   try simp only [Act.put, pU]
   refine takeK (i := 12) 22 (v := .tuple #[sbV x, .nilIface]) rfl rfl hS ?_
   simp only [Act.put, pU]
   refine takeK (i := 13) 35 (v := sbV x) rfl rfl hS ?_
   simp only [Act.put, pU]
   refine takeK (i := 14) 36 (v := .nilIface) rfl rfl hS ?_
   simp only [Act.put, pU]
   refine oneH (i := 15) (oi := ⟨some 6, _, _, _, _, _⟩) rfl (by kernel_rfl) (fun K0 hK => ?_)
   go_simp
   obtain ⟨c, HC⟩ : ∃ c, Hid (c = wn.heap.size) := Hy
   obtain ⟨wc, HWC⟩ : ∃ wc, Hid (wc = wn.alloc (.cells (sbArr Sb.zero) 103)) := Hy
   rw [← HC.out, ← HWC.out]
   have hbc : Below wn.heap.size wn wc := by rw [HWC.out]; exact (Below.refl _ _).alloc (Nat.le_refl _) _
   have HN5 : Hid (BOwn wc c Sb.zero) := Hi (by rw [HWC.out, HC.out]; exact BOwn.new _)
   have hS2 : ComS P D u s q wc := ⟨hS.own.below hbc, hS.set.below hbc (hS.set.lt (by have := HQO.out.len; omega))⟩
   have HCP : Hid (c ≠ P) := Hi (by have := hS.own.lt; rw [HC.out]; omega)
   have HCU : Hid (c ≠ u) := Hi (by have := hS.set.lt (by have := HQO.out.len; omega); rw [HC.out]; omega)
   have HCL : Hid (w.heap.size ≤ c) := Hi (by rw [HC.out]; exact HKN.out.size)
   have HD5 : Hid (DiskAt (fun k => L2 k ∨ k = c) wc D n (swDk d x)) := Hi (HDN2.out.more hbc fun k hk => by
    rcases hk with hk | rfl
    ·exact .inl hk
    ·exact .inr (by rw [HC.out]; exact Nat.le_refl _))
   have HK5 : Hid (Kept L w wc) := Hi (HKN.out.trans (Kept.of_below hbc fun k hk => HTN.out k (HLL.out k hk)))
   clear HWC HC hbc hS HDN2 HKN HTN HDA HTA HGA HKA
   refine hK.out _ _ hS2 ?_
   clear hK K0
   have hS := hS2
   clear hS2
   try simp only [Act.put, pU]
   refine oneH (i := 16) rfl (by kernel_rfl) (fun K0 hK => ?_)
   rw [if_pos (by rfl)]
   refine wp_store_mid _ _ _ rfl c 0 (sbArr x) rfl rfl (by rw [sbArr_size HXO.out]; exact pgr_there HN5.out.at_ (sbCells_length Sb.Ok.zero) HN5.out.free) (by rw [sbArr_size HXO.out]; exact Tryz.sbProg.size) (sbArr_all x) ?_
   obtain ⟨w6, HW6⟩ : ∃ w6, Hid (w6 = wc.setCells c 0 (sbCells x)) := Hy
   rw [show (sbArr x).toList = sbCells x from rfl, ← HW6.out]
   have hk6 : Kept (fun k => k < wc.heap.size ∧ ¬ k = c) wc w6 := by rw [HW6.out]; exact Kept.setCells (Kept.refl _ _) (fun hh => hh.2 rfl) _ _
   have HN6 : Hid (BOwn w6 c x) := Hi (by rw [HW6.out]; exact HN5.out.lay Sb.Ok.zero HXO.out)
   have hS2 : ComS P D u s q w6 := ⟨hS.own.block (hk6.block P ⟨hS.own.lt, Ne.symm HCP.out⟩), hS.set.blockEq (hk6.block u ⟨hS.set.lt (by have := HQO.out.len; omega), Ne.symm HCU.out⟩)⟩
   have HD6 : Hid (DiskAt L w6 D n (swDk d x)) := Hi (HD5.out.off (B := fun k => k = c) (fun k hk => .inr hk) hk6 fun k hk => .inl (.inl (HLL.out k hk)))
   have HK6 : Hid (Kept L w w6) := Hi (by
    rw [HW6.out]
    refine Kept.setCells HK5.out (fun hh => ?_) _ _
    have := HTL.out c hh
    have := HCL.out
    omega)
   refine hK.out _ _ hS2 ?_
   clear hK K0
   have hS := hS2
   clear hS2
   simp only [Act.put]
   refine takeK (i := 17) 7 (v := .nilIface) rfl rfl hS ?_
   simp only [Act.put]
   refine wpAnyH_done (by kernel_rfl) ?_ _
   have HO6 := Hi hS.own
   clear hS HN5 HD5 HK5 HW6 hk6
   go_wp2_with (with_reducible refine stop_at (o := ⟨some 41, _, _, _, _, _⟩) ?_)
   refine wpList_load_sb Tryz.sbProg (by rfl) _ rfl c rfl x HXO.out HN6.out.at_ ?_
   go_wp2_with (with_reducible refine stop_at (o := ⟨none, _, _, _, _, _⟩) ?_)
   refine wpList_store_sb_at rfl _ _ rfl P 1 x HXO.out rfl rfl (pgr_there HO6.out.sb (sbCells_length HO6.out.sup) HO6.out.free) ?_
   intro w7 HW7
   have HO7 : Hid (POwn w7 P D ⟨x, s.new, s.gone⟩) := Hi (by rw [HW7.out]; exact HO6.out.putSb HXO.out)
   have HF7 : Hid (OffP P w6 w7) := Hi (by rw [HW7.out]; exact OffP.setCells (Kept.refl _ _) _ _)
   go_wp2_with fail
   refine (Forget_any HO7.out).mono ?_
   rintro e w8 ⟨rfl, ho8, hf8⟩
   have HO8 := Hi ho8
   have HF8 := Hi (HF7.out.trans hf8)
   clear ho8 hf8
   go_wp2_with fail
   go_ret
   exact ⟨rfl, PgrAt.ofStore HNK.out HT.out (HL.out ▸ HD6.out) (HL.out ▸ HK6.out) HO8.out HF8.out⟩
  ·go_simp
   obtain ⟨c, HC⟩ : ∃ c, Hid (c = wa.heap.size) := Hy
   obtain ⟨wc, HWC⟩ : ∃ wc, Hid (wc = wa.alloc (.cells (sbArr Sb.zero) 103)) := Hy
   rw [← HC.out, ← HWC.out]
   have hbc : Below wa.heap.size wa wc := by rw [HWC.out]; exact (Below.refl _ _).alloc (Nat.le_refl _) _
   have HN5 : Hid (BOwn wc c Sb.zero) := Hi (by rw [HWC.out, HC.out]; exact BOwn.new _)
   have hS2 : ComS P D u s q wc := ⟨hS.own.below hbc, hS.set.below hbc (hS.set.lt (by have := HQO.out.len; omega))⟩
   have HCP : Hid (c ≠ P) := Hi (by have := hS.own.lt; rw [HC.out]; omega)
   have HCU : Hid (c ≠ u) := Hi (by have := hS.set.lt (by have := HQO.out.len; omega); rw [HC.out]; omega)
   have HCL : Hid (w.heap.size ≤ c) := Hi (by rw [HC.out]; exact HWS.out)
   have HDC : Hid (DiskAt (fun k => L2 k ∨ k = c) wc D n d) := Hi (HDA.out.more hbc fun k hk => by
    rcases hk with hk | rfl
    ·exact .inl hk
    ·exact .inr (by rw [HC.out]; exact Nat.le_refl _))
   have HTC : Hid (There (fun k => L2 k ∨ k = c) wc) := Hi fun k hk => by
    rcases hk with hk | rfl
    ·exact HTA.out.below hbc k hk
    ·exact HN5.out.lt
   have HKC : Hid (Kept L w wc) := Hi (HKA.out.trans (Kept.of_below hbc fun k hk => HTA.out k (HLL.out k hk)))
   have HGC : Hid (∀ w', Kept L wc w' → LaidCrc w') := Hi fun w' hk => HGA.out w' ((Kept.of_below hbc fun k hk => HTA.out k (HLL.out k hk)).trans hk)
   have HNC := HN5
   clear HWC HC hbc hS HDA HTA HGA HKA HN5
   refine hK.out _ _ hS2 ?_
   clear hK K0
   have hS := hS2
   clear hS2
   try simp only [Act.put, pU]
   refine oneH (i := 11) (oi := ⟨some 34, _, _, _, _, _⟩) rfl (by kernel_rfl) (fun K0 hK => ?_)
   go_simp
   refine (SwitchTo_yes HDC.out HTC.out HDN.out HN.out g r q HQO.out HGL.out HR.out (Hi fun w9 hk9 => HGC.out w9 (hk9.less fun k hk => .inl (HLL.out k hk))).out).mono ?_
   rintro e wn ⟨rfl, hdn2, hkn⟩
   rw [← HX.out] at hdn2 ⊢
   have hS2 : ComS P D u s q wn := ⟨hS.own.block (hkn.block P (.inl (HLL.out P HLP.out))), hS.set.blockEq (hkn.block u (.inl HLU.out))⟩
   have HD5 := Hi hdn2
   have HN5 := Hi (HNC.out.block (hkn.block c (.inr rfl)))
   have HK5 : Hid (Kept L w wn) := Hi (HKC.out.trans (hkn.less fun k hk => .inl (HLL.out k hk)))
   clear hdn2 hkn hS HDC HTC HKC HGC HNC
   refine hK.out _ _ hS2 ?_
   clear hK K0
   have hS := hS2
   clear hS2
   try simp only [Act.put, pU]
   refine takeK (i := 12) 22 (v := .tuple #[sbV x, .nilIface]) rfl rfl hS ?_
   simp only [Act.put, pU]
   refine takeK (i := 13) 35 (v := sbV x) rfl rfl hS ?_
   simp only [Act.put, pU]
   refine takeK (i := 14) 36 (v := .nilIface) rfl rfl hS ?_
   simp only [Act.put, pU]
   refine oneH (i := 16) rfl (by kernel_rfl) (fun K0 hK => ?_)
   rw [if_pos (by rfl)]
   refine wp_store_mid _ _ _ rfl c 0 (sbArr x) rfl rfl (by rw [sbArr_size HXO.out]; exact pgr_there HN5.out.at_ (sbCells_length Sb.Ok.zero) HN5.out.free) (by rw [sbArr_size HXO.out]; exact Tryz.sbProg.size) (sbArr_all x) ?_
   obtain ⟨w6, HW6⟩ : ∃ w6, Hid (w6 = wn.setCells c 0 (sbCells x)) := Hy
   rw [show (sbArr x).toList = sbCells x from rfl, ← HW6.out]
   have hk6 : Kept (fun k => k < wn.heap.size ∧ ¬ k = c) wn w6 := by rw [HW6.out]; exact Kept.setCells (Kept.refl _ _) (fun hh => hh.2 rfl) _ _
   have HN6 : Hid (BOwn w6 c x) := Hi (by rw [HW6.out]; exact HN5.out.lay Sb.Ok.zero HXO.out)
   have hS2 : ComS P D u s q w6 := ⟨hS.own.block (hk6.block P ⟨hS.own.lt, Ne.symm HCP.out⟩), hS.set.blockEq (hk6.block u ⟨hS.set.lt (by have := HQO.out.len; omega), Ne.symm HCU.out⟩)⟩
   have HD6 : Hid (DiskAt L w6 D n (swDk d x)) := Hi (HD5.out.off (B := fun k => k = c) (fun k hk => .inr hk) hk6 fun k hk => .inl (.inl (HLL.out k hk)))
   have HK6 : Hid (Kept L w w6) := Hi (by
    rw [HW6.out]
    refine Kept.setCells HK5.out (fun hh => ?_) _ _
    have := HTL.out c hh
    have := HCL.out
    omega)
   refine hK.out _ _ hS2 ?_
   clear hK K0
   have hS := hS2
   clear hS2
   simp only [Act.put]
   refine takeK (i := 17) 7 (v := .nilIface) rfl rfl hS ?_
   simp only [Act.put]
   refine wpAnyH_done (by kernel_rfl) ?_ _
   have HO6 := Hi hS.own
   clear hS HN5 HD5 HK5 HW6 hk6
   go_wp2_with (with_reducible refine stop_at (o := ⟨some 41, _, _, _, _, _⟩) ?_)
   refine wpList_load_sb Tryz.sbProg (by rfl) _ rfl c rfl x HXO.out HN6.out.at_ ?_
   go_wp2_with (with_reducible refine stop_at (o := ⟨none, _, _, _, _, _⟩) ?_)
   refine wpList_store_sb_at rfl _ _ rfl P 1 x HXO.out rfl rfl (pgr_there HO6.out.sb (sbCells_length HO6.out.sup) HO6.out.free) ?_
   intro w7 HW7
   have HO7 : Hid (POwn w7 P D ⟨x, s.new, s.gone⟩) := Hi (by rw [HW7.out]; exact HO6.out.putSb HXO.out)
   have HF7 : Hid (OffP P w6 w7) := Hi (by rw [HW7.out]; exact OffP.setCells (Kept.refl _ _) _ _)
   go_wp2_with fail
   refine (Forget_any HO7.out).mono ?_
   rintro e w8 ⟨rfl, ho8, hf8⟩
   have HO8 := Hi ho8
   have HF8 := Hi (HF7.out.trans hf8)
   clear ho8 hf8
   go_wp2_with fail
   go_ret
   exact ⟨rfl, PgrAt.ofStore HNK.out HT.out (HL.out ▸ HD6.out) (HL.out ▸ HK6.out) HO8.out HF8.out⟩
 ·have HI := Hi (HRY.out h0)
  go_wp2_with (with_reducible refine stop_at (o := ⟨some 16, _, _, _, _, _⟩) ?_)
  refine wpList_load_set (by unfold Region.wanted; simp [yielded, h0]) _ rfl u rfl q HQO.out.len HSU.out.at_ ?_
  go_wp2_with fail
  refine (Has_any _ HQO.out r w2).mono ?_
  rw [HI.out]
  rintro e w3 ⟨rfl, hb⟩
  have HB3 := Hi hb
  clear hb
  go_upto_region 6 with (fail)
  clear h0 HI HRY
  refine wp_region_held (S := ComS P D u s q) (by kernel_rfl) ?_
  change wpAnyH _ _ _ _ _ _ _ _ w3.drew
  obtain ⟨wa, HWA⟩ : ∃ wa, Hid (wa = w3.drew) := Hy
  rw [← HWA.out]
  have hb3 : Below w2.heap.size w2 wa := by rw [HWA.out]; exact HB3.out.drew
  have hS : ComS P D u s q wa := ⟨HO2.out.below hb3, HSU.out.below hb3 (HSU.out.lt (by have := HQO.out.len; omega))⟩
  have HDA : Hid (DiskAt L2 wa D n d) := Hi (HDA2.out.carry hb3)
  have HTA : Hid (There L2 wa) := Hi (HTA2.out.below hb3)
  have HGA : Hid (∀ w', Kept L wa w' → LaidCrc w') := Hi (HGA2.out wa hb3)
  have HKA : Hid (Kept L w wa) := Hi ((Kept.of_below HB2.out fun k hk => HTL.out k hk).trans (Kept.of_below hb3 fun k hk => Nat.lt_of_lt_of_le (HTL.out k hk) HB2.out.size))
  have HWS : Hid (w.heap.size ≤ wa.heap.size) := Hi HKA.out.size
  clear HWA hb3 HB3 HDA2 HTA2 HGA2
  refine takeK (i := 0) 23 (v := ptr P) rfl rfl hS ?_
  simp only [Act.put, pU]
  refine takeK (i := 1) 24 (v := .pointer (some ⟨P, 0, none⟩)) rfl rfl hS ?_
  simp only [Act.put, pU]
  refine takeK (i := 2) 25 (v := .pointer (some ⟨P, 0, none⟩)) rfl rfl hS ?_
  simp only [Act.put, pU]
  refine takeJ (i := 3) 26 (v := ptr D) rfl rfl (.inl ⟨by rfl, fun _ h => by have c0 := h.own.at0; go_simp⟩) hS ?_
  simp only [Act.put, pU]
  refine takeK (i := 4) 27 (v := ptr P) rfl rfl hS ?_
  simp only [Act.put, pU]
  refine takeK (i := 5) 28 (v := .pointer (some ⟨P, 0, none⟩)) rfl rfl hS ?_
  simp only [Act.put, pU]
  refine takeK (i := 6) 29 (v := .pointer (some ⟨P, 1, none⟩)) rfl rfl hS ?_
  simp only [Act.put, pU]
  refine takeK (i := 7) 30 (v := .pointer (some ⟨P, 1, none⟩)) rfl rfl hS ?_
  simp only [Act.put, pU]
  refine takeJ (i := 8) 31 (v := .int .u32 (g : Int)) rfl rfl (.inl ⟨by rfl, fun _ h => by have c0 := h.own.genC; rw [← HGG.out] at c0; go_simp⟩) hS ?_
  simp only [Act.put, pU]
  refine takeK (i := 9) 32 (v := .int .i64 r) rfl rfl hS ?_
  simp only [Act.put, pU]
  refine takeJ (i := 10) 33 (v := stV q) rfl rfl (yieldsIf_set_at (by rfl) _ rfl u 0 rfl q HQO.out.len (fun _ h => h.set.at_)) hS ?_
  simp only [Act.put, pU]
  refine twoH (i := 11) (j := 15) (oi := ⟨some 34, _, _, _, _, _⟩) (oj := ⟨some 6, _, _, _, _, _⟩) rfl rfl (by kernel_rfl) (fun K0 hK => ?_) (fun K0 hK => ?_)
  ·go_simp
   refine (SwitchTo_yes HDA.out HTA.out HDN.out HN.out g r q HQO.out HGL.out HR.out (Hi fun w9 hk9 => HGA.out w9 (hk9.less HLL.out)).out).mono ?_
   rintro e wn ⟨rfl, hdn2, hkn⟩
   rw [← HX.out] at hdn2 ⊢
   have hS2 : ComS P D u s q wn := ⟨hS.own.block (hkn.block P (HLL.out P HLP.out)), hS.set.blockEq (hkn.block u HLU.out)⟩
   have HDN2 := Hi hdn2
   have HKN : Hid (Kept L w wn) := Hi (HKA.out.trans (hkn.less HLL.out))
   have HTN : Hid (There L2 wn) := Hi (HTA.out.kept hkn)
   clear hdn2 hkn hS
   refine hK.out _ _ hS2 ?_
   clear hK K0
   have hS := hS2
   clear hS2
   try simp only [Act.put, pU]
   refine takeK (i := 12) 22 (v := .tuple #[sbV x, .nilIface]) rfl rfl hS ?_
   simp only [Act.put, pU]
   refine takeK (i := 13) 35 (v := sbV x) rfl rfl hS ?_
   simp only [Act.put, pU]
   refine takeK (i := 14) 36 (v := .nilIface) rfl rfl hS ?_
   simp only [Act.put, pU]
   refine oneH (i := 15) (oi := ⟨some 6, _, _, _, _, _⟩) rfl (by kernel_rfl) (fun K0 hK => ?_)
   go_simp
   obtain ⟨c, HC⟩ : ∃ c, Hid (c = wn.heap.size) := Hy
   obtain ⟨wc, HWC⟩ : ∃ wc, Hid (wc = wn.alloc (.cells (sbArr Sb.zero) 103)) := Hy
   rw [← HC.out, ← HWC.out]
   have hbc : Below wn.heap.size wn wc := by rw [HWC.out]; exact (Below.refl _ _).alloc (Nat.le_refl _) _
   have HN5 : Hid (BOwn wc c Sb.zero) := Hi (by rw [HWC.out, HC.out]; exact BOwn.new _)
   have hS2 : ComS P D u s q wc := ⟨hS.own.below hbc, hS.set.below hbc (hS.set.lt (by have := HQO.out.len; omega))⟩
   have HCP : Hid (c ≠ P) := Hi (by have := hS.own.lt; rw [HC.out]; omega)
   have HCU : Hid (c ≠ u) := Hi (by have := hS.set.lt (by have := HQO.out.len; omega); rw [HC.out]; omega)
   have HCL : Hid (w.heap.size ≤ c) := Hi (by rw [HC.out]; exact HKN.out.size)
   have HD5 : Hid (DiskAt (fun k => L2 k ∨ k = c) wc D n (swDk d x)) := Hi (HDN2.out.more hbc fun k hk => by
    rcases hk with hk | rfl
    ·exact .inl hk
    ·exact .inr (by rw [HC.out]; exact Nat.le_refl _))
   have HK5 : Hid (Kept L w wc) := Hi (HKN.out.trans (Kept.of_below hbc fun k hk => HTN.out k (HLL.out k hk)))
   clear HWC HC hbc hS HDN2 HKN HTN HDA HTA HGA HKA
   refine hK.out _ _ hS2 ?_
   clear hK K0
   have hS := hS2
   clear hS2
   try simp only [Act.put, pU]
   refine oneH (i := 16) rfl (by kernel_rfl) (fun K0 hK => ?_)
   rw [if_pos (by rfl)]
   refine wp_store_mid _ _ _ rfl c 0 (sbArr x) rfl rfl (by rw [sbArr_size HXO.out]; exact pgr_there HN5.out.at_ (sbCells_length Sb.Ok.zero) HN5.out.free) (by rw [sbArr_size HXO.out]; exact Tryz.sbProg.size) (sbArr_all x) ?_
   obtain ⟨w6, HW6⟩ : ∃ w6, Hid (w6 = wc.setCells c 0 (sbCells x)) := Hy
   rw [show (sbArr x).toList = sbCells x from rfl, ← HW6.out]
   have hk6 : Kept (fun k => k < wc.heap.size ∧ ¬ k = c) wc w6 := by rw [HW6.out]; exact Kept.setCells (Kept.refl _ _) (fun hh => hh.2 rfl) _ _
   have HN6 : Hid (BOwn w6 c x) := Hi (by rw [HW6.out]; exact HN5.out.lay Sb.Ok.zero HXO.out)
   have hS2 : ComS P D u s q w6 := ⟨hS.own.block (hk6.block P ⟨hS.own.lt, Ne.symm HCP.out⟩), hS.set.blockEq (hk6.block u ⟨hS.set.lt (by have := HQO.out.len; omega), Ne.symm HCU.out⟩)⟩
   have HD6 : Hid (DiskAt L w6 D n (swDk d x)) := Hi (HD5.out.off (B := fun k => k = c) (fun k hk => .inr hk) hk6 fun k hk => .inl (.inl (HLL.out k hk)))
   have HK6 : Hid (Kept L w w6) := Hi (by
    rw [HW6.out]
    refine Kept.setCells HK5.out (fun hh => ?_) _ _
    have := HTL.out c hh
    have := HCL.out
    omega)
   refine hK.out _ _ hS2 ?_
   clear hK K0
   have hS := hS2
   clear hS2
   simp only [Act.put]
   refine takeK (i := 17) 7 (v := .nilIface) rfl rfl hS ?_
   simp only [Act.put]
   refine wpAnyH_done (by kernel_rfl) ?_ _
   have HO6 := Hi hS.own
   clear hS HN5 HD5 HK5 HW6 hk6
   go_wp2_with (with_reducible refine stop_at (o := ⟨some 41, _, _, _, _, _⟩) ?_)
   refine wpList_load_sb Tryz.sbProg (by rfl) _ rfl c rfl x HXO.out HN6.out.at_ ?_
   go_wp2_with (with_reducible refine stop_at (o := ⟨none, _, _, _, _, _⟩) ?_)
   refine wpList_store_sb_at rfl _ _ rfl P 1 x HXO.out rfl rfl (pgr_there HO6.out.sb (sbCells_length HO6.out.sup) HO6.out.free) ?_
   intro w7 HW7
   have HO7 : Hid (POwn w7 P D ⟨x, s.new, s.gone⟩) := Hi (by rw [HW7.out]; exact HO6.out.putSb HXO.out)
   have HF7 : Hid (OffP P w6 w7) := Hi (by rw [HW7.out]; exact OffP.setCells (Kept.refl _ _) _ _)
   go_wp2_with fail
   refine (Forget_any HO7.out).mono ?_
   rintro e w8 ⟨rfl, ho8, hf8⟩
   have HO8 := Hi ho8
   have HF8 := Hi (HF7.out.trans hf8)
   clear ho8 hf8
   go_wp2_with fail
   go_ret
   exact ⟨rfl, PgrAt.ofStore HNK.out HT.out (HL.out ▸ HD6.out) (HL.out ▸ HK6.out) HO8.out HF8.out⟩
  ·go_simp
   obtain ⟨c, HC⟩ : ∃ c, Hid (c = wa.heap.size) := Hy
   obtain ⟨wc, HWC⟩ : ∃ wc, Hid (wc = wa.alloc (.cells (sbArr Sb.zero) 103)) := Hy
   rw [← HC.out, ← HWC.out]
   have hbc : Below wa.heap.size wa wc := by rw [HWC.out]; exact (Below.refl _ _).alloc (Nat.le_refl _) _
   have HN5 : Hid (BOwn wc c Sb.zero) := Hi (by rw [HWC.out, HC.out]; exact BOwn.new _)
   have hS2 : ComS P D u s q wc := ⟨hS.own.below hbc, hS.set.below hbc (hS.set.lt (by have := HQO.out.len; omega))⟩
   have HCP : Hid (c ≠ P) := Hi (by have := hS.own.lt; rw [HC.out]; omega)
   have HCU : Hid (c ≠ u) := Hi (by have := hS.set.lt (by have := HQO.out.len; omega); rw [HC.out]; omega)
   have HCL : Hid (w.heap.size ≤ c) := Hi (by rw [HC.out]; exact HWS.out)
   have HDC : Hid (DiskAt (fun k => L2 k ∨ k = c) wc D n d) := Hi (HDA.out.more hbc fun k hk => by
    rcases hk with hk | rfl
    ·exact .inl hk
    ·exact .inr (by rw [HC.out]; exact Nat.le_refl _))
   have HTC : Hid (There (fun k => L2 k ∨ k = c) wc) := Hi fun k hk => by
    rcases hk with hk | rfl
    ·exact HTA.out.below hbc k hk
    ·exact HN5.out.lt
   have HKC : Hid (Kept L w wc) := Hi (HKA.out.trans (Kept.of_below hbc fun k hk => HTA.out k (HLL.out k hk)))
   have HGC : Hid (∀ w', Kept L wc w' → LaidCrc w') := Hi fun w' hk => HGA.out w' ((Kept.of_below hbc fun k hk => HTA.out k (HLL.out k hk)).trans hk)
   have HNC := HN5
   clear HWC HC hbc hS HDA HTA HGA HKA HN5
   refine hK.out _ _ hS2 ?_
   clear hK K0
   have hS := hS2
   clear hS2
   try simp only [Act.put, pU]
   refine oneH (i := 11) (oi := ⟨some 34, _, _, _, _, _⟩) rfl (by kernel_rfl) (fun K0 hK => ?_)
   go_simp
   refine (SwitchTo_yes HDC.out HTC.out HDN.out HN.out g r q HQO.out HGL.out HR.out (Hi fun w9 hk9 => HGC.out w9 (hk9.less fun k hk => .inl (HLL.out k hk))).out).mono ?_
   rintro e wn ⟨rfl, hdn2, hkn⟩
   rw [← HX.out] at hdn2 ⊢
   have hS2 : ComS P D u s q wn := ⟨hS.own.block (hkn.block P (.inl (HLL.out P HLP.out))), hS.set.blockEq (hkn.block u (.inl HLU.out))⟩
   have HD5 := Hi hdn2
   have HN5 := Hi (HNC.out.block (hkn.block c (.inr rfl)))
   have HK5 : Hid (Kept L w wn) := Hi (HKC.out.trans (hkn.less fun k hk => .inl (HLL.out k hk)))
   clear hdn2 hkn hS HDC HTC HKC HGC HNC
   refine hK.out _ _ hS2 ?_
   clear hK K0
   have hS := hS2
   clear hS2
   try simp only [Act.put, pU]
   refine takeK (i := 12) 22 (v := .tuple #[sbV x, .nilIface]) rfl rfl hS ?_
   simp only [Act.put, pU]
   refine takeK (i := 13) 35 (v := sbV x) rfl rfl hS ?_
   simp only [Act.put, pU]
   refine takeK (i := 14) 36 (v := .nilIface) rfl rfl hS ?_
   simp only [Act.put, pU]
   refine oneH (i := 16) rfl (by kernel_rfl) (fun K0 hK => ?_)
   rw [if_pos (by rfl)]
   refine wp_store_mid _ _ _ rfl c 0 (sbArr x) rfl rfl (by rw [sbArr_size HXO.out]; exact pgr_there HN5.out.at_ (sbCells_length Sb.Ok.zero) HN5.out.free) (by rw [sbArr_size HXO.out]; exact Tryz.sbProg.size) (sbArr_all x) ?_
   obtain ⟨w6, HW6⟩ : ∃ w6, Hid (w6 = wn.setCells c 0 (sbCells x)) := Hy
   rw [show (sbArr x).toList = sbCells x from rfl, ← HW6.out]
   have hk6 : Kept (fun k => k < wn.heap.size ∧ ¬ k = c) wn w6 := by rw [HW6.out]; exact Kept.setCells (Kept.refl _ _) (fun hh => hh.2 rfl) _ _
   have HN6 : Hid (BOwn w6 c x) := Hi (by rw [HW6.out]; exact HN5.out.lay Sb.Ok.zero HXO.out)
   have hS2 : ComS P D u s q w6 := ⟨hS.own.block (hk6.block P ⟨hS.own.lt, Ne.symm HCP.out⟩), hS.set.blockEq (hk6.block u ⟨hS.set.lt (by have := HQO.out.len; omega), Ne.symm HCU.out⟩)⟩
   have HD6 : Hid (DiskAt L w6 D n (swDk d x)) := Hi (HD5.out.off (B := fun k => k = c) (fun k hk => .inr hk) hk6 fun k hk => .inl (.inl (HLL.out k hk)))
   have HK6 : Hid (Kept L w w6) := Hi (by
    rw [HW6.out]
    refine Kept.setCells HK5.out (fun hh => ?_) _ _
    have := HTL.out c hh
    have := HCL.out
    omega)
   refine hK.out _ _ hS2 ?_
   clear hK K0
   have hS := hS2
   clear hS2
   simp only [Act.put]
   refine takeK (i := 17) 7 (v := .nilIface) rfl rfl hS ?_
   simp only [Act.put]
   refine wpAnyH_done (by kernel_rfl) ?_ _
   have HO6 := Hi hS.own
   clear hS HN5 HD5 HK5 HW6 hk6
   go_wp2_with (with_reducible refine stop_at (o := ⟨some 41, _, _, _, _, _⟩) ?_)
   refine wpList_load_sb Tryz.sbProg (by rfl) _ rfl c rfl x HXO.out HN6.out.at_ ?_
   go_wp2_with (with_reducible refine stop_at (o := ⟨none, _, _, _, _, _⟩) ?_)
   refine wpList_store_sb_at rfl _ _ rfl P 1 x HXO.out rfl rfl (pgr_there HO6.out.sb (sbCells_length HO6.out.sup) HO6.out.free) ?_
   intro w7 HW7
   have HO7 : Hid (POwn w7 P D ⟨x, s.new, s.gone⟩) := Hi (by rw [HW7.out]; exact HO6.out.putSb HXO.out)
   have HF7 : Hid (OffP P w6 w7) := Hi (by rw [HW7.out]; exact OffP.setCells (Kept.refl _ _) _ _)
   go_wp2_with fail
   refine (Forget_any HO7.out).mono ?_
   rintro e w8 ⟨rfl, ho8, hf8⟩
   have HO8 := Hi ho8
   have HF8 := Hi (HF7.out.trans hf8)
   clear ho8 hf8
   go_wp2_with fail
   go_ret
   exact ⟨rfl, PgrAt.ofStore HNK.out HT.out (HL.out ▸ HD6.out) (HL.out ▸ HK6.out) HO8.out HF8.out⟩
end Go.Proofs.YtafclmbecmgbnaaGreatDoor

/-
 PgrFormat. Conditions: as each theorem says.
-/
namespace Go.Proofs.YtafclmbecmgbnaaGreatDoor
open Go.RowKit
open Bits (Ok has with_ without both minus)
theorem PgrFormat_no {K : Nat → Prop} {D n : Nat} {d : Dk} {w : World} (h : DiskAt K w D n d) (hn : n < 3) : Calls Tryz.prog 16 #[ptr D] w (Two (.pointer none) 1 w) := by
 have HD := Hi h
 have hn3 : (n : Int) < 3 := by omega
 clear h hn
 go_enter Tryz.func16, Tryz.ntmps16
 go_wp2_with fail
 refine (Size_any HD.out).mono ?_
 rintro e w' ⟨rfl, rfl⟩
 go_wp2_with fail
 refine (PgrFault_any 1 (by decide) _).mono ?_
 rintro e w' ⟨v, rfl, he, hb⟩
 have HE := Hi he
 have HB := Hi hb
 clear he hb
 go_wp2_with fail
 go_ret2
 exact ⟨v, rfl, HE.out, HB.out⟩
def FormatPost (K : Nat → Prop) (w : World) (D n : Nat) (d : Dk) (g : Nat) (e : Ending) (w' : World) : Prop :=
 ∃ P, e = .returned (.tuple #[ptr P, .nilIface]) ∧ PgrAt PgrO K w' P D n (switchD d (Sb.bare g)) (Pst.opened (Sb.bare g)) ∧ Kept K w w'
set_option maxRecDepth 100000 in
set_option maxHeartbeats 1000000 in
theorem PgrFormat_go {K : Nat → Prop} {D n : Nat} {d : Dk} {w : World} (h : DiskAt K w D n d) (ht : There K w) (hd : d.down = false) (hn : 3 ≤ n) (y : Sb) (hy : y.Ok) (hgl : y.gen + 1 < 4294967296) (c : Int) (hc : c = 0 ∨ c = 4)
  (hb : Calls Tryz.prog 52 #[ptr D] w fun e w' => ∃ v, e = .returned (.tuple #[sbV y, v]) ∧ ErrFrom w' w.heap.size c v ∧ Below w.heap.size w w') (hg : ∀ w', Kept K w w' → Laid2 w') :
  Calls Tryz.prog 16 #[ptr D] w (FormatPost K w D n d (y.gen + 1)) := by
 obtain ⟨R, HR⟩ : ∃ R, Hid (R = FormatPost K w D n d (y.gen + 1)) := Hy
 rw [← HR.out]
 have hz := Tryz.sbProg.zero
 have hn3 : ¬ (n : Int) < 3 := by omega
 have HD := Hi h
 have HT := Hi ht
 have HDN := Hi hd
 have HN := Hi hn
 have HY := Hi hy
 have HBB := Hi hb
 have HG := Hi hg
 have HC := Hi hc
 obtain ⟨g, HGG⟩ : ∃ g, Hid (g = y.gen) := Hy
 rw [← HGG.out] at HR hgl
 have HGL := Hi hgl
 have HRT : Hid (rightB ⟨g + 1, 0, zeroSt⟩ = true) := Hi (Sb.bare_right (Nat.succ_ne_zero g))
 clear h ht hd hn hy hb hg hgl hc
 go_enter Tryz.func16, Tryz.ntmps16
 go_wp2_with fail
 refine (Size_any HD.out).mono ?_
 rintro e w' ⟨rfl, rfl⟩
 go_wp2_with fail
 refine HBB.out.mono ?_
 rintro e w1 ⟨v, rfl, he, hb⟩
 have HE1 := Hi he
 have HB1 := Hi hb
 clear he hb HBB hn3
 go_wp2_with (with_reducible refine stop_at (o := ⟨none, _, _, _, _, _⟩) ?_)
 refine wpList_store_last rfl _ _ _ rfl (sbArr Sb.zero) (sbArr y) _ rfl rfl rfl (by rw [sbArr_size HY.out]; exact Tryz.sbProg.size) (by rw [sbArr_size HY.out, sbArr_size Sb.Ok.zero]) (sbArr_all _) ?_
 obtain ⟨b, HB⟩ : ∃ b, Hid (b = w1.heap.size) := Hy
 obtain ⟨w2, HW⟩ : ∃ w2, Hid (w2 = w1.alloc (.cells (sbArr y) 103)) := Hy
 rw [← HW.out, ← HB.out]
 have HY2 : Hid (BOwn w2 b y) := Hi (by rw [HW.out, HB.out]; exact BOwn.new _)
 have hb2 : Below w1.heap.size w1 w2 := by rw [HW.out]; exact (Below.refl _ _).alloc (Nat.le_refl _) _
 have HB2 : Hid (Below w.heap.size w w2) := Hi (HB1.out.trans (hb2.mono HB1.out.size))
 have HE2 := Hi (HE1.out.below hb2)
 clear hb2 HW HB1 HE1
 have HD2 := Hi (HD.out.carry HB2.out)
 have HT2 : Hid (There K w2) := Hi (HT.out.below HB2.out)
 have HK2 : Hid (Kept K w w2) := Hi (Kept.of_below HB2.out HT.out)
 have HG2 : Hid (∀ w3, Kept K w2 w3 → LaidCrc w3) := Hi fun w3 hk => (HG.out w3 (HK2.out.trans hk)).crc
 rcases HC.out with rfl | rfl
 case' inl => obtain rfl := HE2.out.zero
 case' inr =>
  obtain ⟨t, z, rfl⟩ := HE2.out.some (by decide)
  obtain ⟨l, hl⟩ : ∃ l, Chain w2 4 (.iface t z) l := by
   rcases HE2.out with ⟨h, _⟩ | ⟨_, h⟩
   ·cases h
   ·exact h.chain
  have HCH := Hi hl
  clear hl
  go_wp2_with fail
  refine (Same_chain 4 4 _ l w2 HCH.out true rfl).mono ?_
  rintro e w'' ⟨rfl, rfl⟩
 all_goals
  have c0 := HY2.out.gen
  rw [← HGG.out] at c0
  clear HE2 HC
  go_wp2_with (with_reducible refine stop_at (o := ⟨some 29, _, _, _, _, _⟩) ?_)
  refine wpList_build_set rfl rfl ?_
  go_wp2_with fail
  refine (SwitchTo_yes HD2.out HT2.out HDN.out HN.out g 0 zeroSt noSt_ok HGL.out HRT.out HG2.out).mono ?_
  rintro e w3 ⟨rfl, hd3, hk3⟩
  have HD3 : Hid (DiskAt K w3 D n (switchD d (Sb.bare (g + 1)))) := Hi hd3
  have HK3 := Hi (HK2.out.trans hk3)
  have HT3 : Hid (There K w3) := Hi (HT2.out.kept hk3)
  have HXO : Hid ((⟨g + 1, 0, zeroSt⟩ : Sb).Ok) := Hi ⟨HGL.out, noSt_ok⟩
  obtain ⟨x, HX⟩ : ∃ x, Hid (x = Sb.bare (g + 1)) := Hy
  rw [show (⟨g + 1, 0, zeroSt⟩ : Sb) = x from HX.out.symm] at HXO ⊢
  rw [← HX.out] at HD3
  clear hd3 hk3 c0
  go_wp2_with (with_reducible refine stop_at (o := ⟨none, _, _, _, _, _⟩) ?_)
  refine wpList_store_last rfl _ _ _ rfl (sbArr Sb.zero) (sbArr x) _ rfl rfl rfl (by rw [sbArr_size HXO.out]; exact Tryz.sbProg.size) (by rw [sbArr_size HXO.out, sbArr_size Sb.Ok.zero]) (sbArr_all _) ?_
  obtain ⟨b5, HB5⟩ : ∃ b5, Hid (b5 = w3.heap.size) := Hy
  obtain ⟨w4, HW4⟩ : ∃ w4, Hid (w4 = w3.alloc (.cells (sbArr x) 103)) := Hy
  rw [← HW4.out, ← HB5.out]
  have HX4 : Hid (BOwn w4 b5 x) := Hi (by rw [HW4.out, HB5.out]; exact BOwn.new _)
  have HB4 : Hid (Below w3.heap.size w3 w4) := Hi (by rw [HW4.out]; exact (Below.refl _ _).alloc (Nat.le_refl _) _)
  clear HW4
  go_wp2_with (with_reducible refine stop_at (o := ⟨some 37, _, _, _, _, _⟩) ?_)
  refine wpList_load_sb Tryz.sbProg (by rfl) _ rfl b5 rfl x HXO.out HX4.out.at_ ?_
  refine wpList_build_pager rfl _ _ rfl D x HXO.out rfl rfl ?_
  go_wp2_with fail
  rw [HR.out]
  have hbo := HB4.out.alloc HB4.out.size (.cells (pgrCells D (Pst.opened x)).toArray 118)
  refine ⟨w4.heap.size, rfl, ?_, HK3.out.trans (Kept.of_below hbo HT3.out)⟩
  rw [← HX.out]
  exact PgrAt.opened (B := fun k => k = w4.heap.size) HD3.out HT3.out ⟨fun _ => Iff.rfl, .newP HXO.out _⟩ (fun k hk => by rw [hk]; exact HB4.out.size) hbo
end Go.Proofs.YtafclmbecmgbnaaGreatDoor

/-
 PgrSpec. Conditions: as each theorem says.
-/
namespace Go.Proofs.YtafclmbecmgbnaaGreatDoor
open Go.RowKit
open Bits (Ok has with_ without both minus)
theorem best_at {K : Nat → Prop} {w : World} {D n : Nat} {d : Dk} {o : Option Sb} (h : DiskAt K w D n d) (hg : LaidCrc w) (hd : d.down = false) (hn : 3 ≤ n) (hb : BestD d o) :
  Calls Tryz.prog 52 #[ptr D] w (BestPost (if o.isSome = true then 0 else 4) o w) := by
 obtain ⟨p, q, h0, h1, rfl⟩ := hb
 exact Best_yes h hd hn p q h0.2 h1.2 h0.1 h1.1 hg
theorem pgrSpec : PgSpec PgrO where
 lt := fun h b hb => by
  obtain rfl := (h.1 b).1 hb
  exact h.2.lt
 carry := fun h hb => ⟨h.1, h.2.block (hb _ ((h.1 _).2 rfl))⟩
 openNo := fun {K w D n d} h hg c hc => by
  rcases hc with ⟨hd, rfl⟩ | ⟨hd, hn, rfl⟩ | ⟨hd, hn, hb, rfl⟩
  ·exact Open_no 7 (by decide) (Best_down h hd)
  ·exact Open_no 1 (by decide) (Best_small h hd hn)
  ·exact Open_no 4 (by decide) (best_at h hg hd hn hb)
 openYes := fun {K w D n d x} h hg hd hn hb hx => (Open_yes hx (best_at h hg hd hn hb)).mono (by
  rintro e w' ⟨P, rfl, h1, h2, h3⟩
  exact ⟨P, fun b => b = P, rfl, ⟨fun _ => Iff.rfl, h1⟩, fun b hb => by rw [hb]; exact h2, h3⟩)
 formatNo := fun h _ _ hn => PgrFormat_no h hn
 formatYes := fun {K w D n d} g h ht hg hd hn hb hgl => by
  have hgc : LaidCrc w := (hg w (Kept.refl _ _)).crc
  rcases hb with ⟨hb, rfl⟩ | ⟨x, hb, hx, rfl⟩
  ·exact PgrFormat_go h ht hd hn Sb.zero Sb.Ok.zero (by decide) 4 (.inr rfl) (best_at h hgc hd hn hb) hg
  ·exact PgrFormat_go h ht hd hn x hx hgl 0 (.inl rfl) (best_at h hgc hd hn hb) hg
 load := fun hA h hd hg i => Load_any hA.own hA.disk h hd hg i
 newLong := fun _ _ _ _ t ht => PgrNew_long _ _ t ht
 newFull := fun hA h _ _ t ht hf => PgrNew_full hA h t ht hf
 newYes := fun hA h hd hg hs t ht k hf => PgrNew_yes hA h hd hg hs t ht k hf
 dropNo := fun hA _ i hi => Drop_no hA.own i hi
 dropYes := fun hA _ k hk hu => (Drop_yes hA.own k hk hu).mono (by
  rintro e w' ⟨rfl, h1, h2⟩
  exact ⟨rfl, hA.off h1 h2⟩)
 commitNo := fun hA _ r hr => PgrCommit_no hA.own r hr
 commitYes := fun hA h hd hg r hr hgl => PgrCommit_yes hA h hd hg r hr hgl
 abort := fun {B w P D s} h => (Abort_any h.2).mono (by
  rintro e w' ⟨rfl, h1, h2⟩
  exact ⟨rfl, B, ⟨h.1, h1⟩, fun b hb => .inl hb, h2.less fun k hk => ⟨hk.1, fun hh => hk.2 ((h.1 k).2 hh)⟩⟩)
 root := fun h => Root_any h.2
 gen := fun h => Gen_any h.2
 used := fun hA _ => Used_any hA.own hA.own.sup.used
 nilLoad := Load_nil
 nilNew := New_nil
 nilDrop := Drop_nil
 nilCommit := Commit_nil
 nilAbort := Abort_nil
 nilRoot := Root_nil
 nilGen := Gen_nil
 nilUsed := Used_nil
end Go.Proofs.YtafclmbecmgbnaaGreatDoor
