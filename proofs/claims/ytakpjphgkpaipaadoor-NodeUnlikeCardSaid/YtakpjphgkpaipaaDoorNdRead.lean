/-
  The contract of the program's own Read of layer 9. Conditions: none beyond the premises of each theorem.
-/
import Derived.Test.YtakpjphgkpaipaaDoorNdTake
namespace Go.Proofs.YtakpjphgkpaipaaDoor
open Go.RowKit

theorem Tryd.nodeNone : Tryd.prog.built 32 [] = some #[.slice none 0 0, .slice none 0 0, .slice none 0 0] := by kernel_rfl
/-- what Read answers -/
def ReadPost (w : World) (o : Option Nd) (e : Ending) (w' : World) : Prop :=
  (o = none ∧ ∃ v, e = .returned (.tuple #[ndV Lay3.none_ Nd.empty, v]) ∧ ErrFrom w' w.heap.size 2 v ∧ Below w.heap.size w w') ∨
  ∃ x l, o = some x ∧ e = .returned (.tuple #[ndV l x, .nilIface]) ∧ NdIs w' l x ∧ Below w.heap.size w w'
/-- what Read holds ahead of the node -/
structure PreS (w : World) (D P H : Nat) (t : ByteArray) (sh : Bool) (wr : World) : Prop where
  t : TakeAt wr D H t sh
  res : NdBox wr P Lay3.none_ Nd.empty
  fp : ∀ j, wr.frozen? ⟨P, j, none⟩ = false
  lo : w.heap.size ≤ D
  dp : D < P
  ph : P < H
  below : Below w.heap.size w wr
theorem PreS.carry {w wr w' : World} {D P H : Nat} {t : ByteArray} {sh : Bool} (h : PreS w D P H t sh wr) (hb : Below wr.heap.size wr w') : PreS w D P H t sh w' :=
  ⟨h.t.carry hb, h.res.carry hb h.res.lt, fun j => (World.frozen?_of_block (w := wr) (a := ⟨P, j, none⟩) (hb.block P h.res.lt)).trans (h.fp j), h.lo, h.dp, h.ph, h.below.trans (hb.mono h.below.size)⟩
theorem PreS.took {w wr w' : World} {D P H : Nat} {t t' : ByteArray} {sh sh' : Bool} (h : PreS w D P H t sh wr) (ht : TakeAt w' D H t' sh') (ho : OffDH D H wr w') : PreS w D P H t' sh' w' := by
  have h1 := h.lo
  have h2 := h.dp
  have h3 := h.ph
  have bp := ho.block P (by omega) (by omega)
  exact ⟨ht, ⟨(World.cell?_of_block (w := wr) (a := ⟨P, 0, none⟩) bp).trans h.res.c0, (World.cell?_of_block (w := wr) (a := ⟨P, 1, none⟩) bp).trans h.res.c1, (World.cell?_of_block (w := wr) (a := ⟨P, 2, none⟩) bp).trans h.res.c2⟩,
    fun j => (World.frozen?_of_block (w := wr) (a := ⟨P, j, none⟩) bp).trans (h.fp j), h1, h2, h3, ho.below h.below h1 (by omega)⟩
theorem PreS.start {w wr : World} {D P H : Nat} {t : ByteArray} {sh : Bool} (h : PreS w D P H t sh wr) (T : TypeId) :
    RS w D P H wr.heap.size (wr.heap.size + 1) (.slice none 0 0) (.slice none 0 0) (.slice none 0 0) Nd.empty t sh (wr.alloc (.cells #[.slice none 0 0, .slice none 0 0, .slice none 0 0] T)) := by
  have hb : Below wr.heap.size wr (wr.alloc (.cells #[.slice none 0 0, .slice none 0 0, .slice none 0 0] T)) := (Below.refl _ _).alloc (Nat.le_refl _) _
  have h' := h.carry hb
  have hlt := below_block h.t.hc
  have h3 := h.ph
  have h2 := h.dp
  have h1 := h.lo
  have hH : H < wr.heap.size := hlt
  exact ⟨⟨h'.res, by simp, by simp, by simp, fun j => by simp, h'.fp, World.ownsRow_nil _ _ _ _, World.ownsRow_nil _ _ _ _, World.ownsRow_nil _ _ _ _, (fun g hg => by cases hg), (fun g hg => by cases hg), (fun g hg => by cases hg), by omega, by omega, by omega, by simp, h'.below⟩, h'.t, h1, h2, h3, hH⟩
theorem PreS.first (w : World) (s : ByteArray) (T1 T2 T3 : TypeId) : PreS w w.heap.size (w.heap.size + 1) (w.heap.size + 1 + 1) s false (((w.alloc (.cells #[.string s] T1)).alloc (.cells #[.slice none 0 0, .slice none 0 0, .slice none 0 0] T2)).alloc (.cells #[.bool false] T3)) := by
  obtain ⟨wa, hwa⟩ : ∃ wa, wa = w.alloc (.cells #[.string s] T1) := ⟨_, rfl⟩
  have a1 : wa.heap.size = w.heap.size + 1 := by rw [hwa]; simp
  have a2 : wa.cell? ⟨w.heap.size, 0, none⟩ = some (.string s) := by rw [hwa]; simp
  have a3 : wa.frozen? ⟨w.heap.size, 0, none⟩ = false := by rw [hwa]; simp
  have a4 : Below w.heap.size w wa := by rw [hwa]; exact (Below.refl _ _).alloc (Nat.le_refl _) _
  rw [← hwa, ← a1]
  obtain ⟨wb, hwb⟩ : ∃ wb, wb = wa.alloc (.cells #[.slice none 0 0, .slice none 0 0, .slice none 0 0] T2) := ⟨_, rfl⟩
  have b1 : wb.heap.size = wa.heap.size + 1 := by rw [hwb]; simp
  have b2 : NdBox wb wa.heap.size Lay3.none_ Nd.empty := by rw [hwb]; exact NdBox.new (l := Lay3.none_) (x := Nd.empty) _
  have b3 : ∀ j, wb.frozen? ⟨wa.heap.size, j, none⟩ = false := fun j => by rw [hwb]; simp
  have b4 : Below wa.heap.size wa wb := by rw [hwb]; exact (Below.refl _ _).alloc (Nat.le_refl _) _
  rw [← hwb, ← b1]
  obtain ⟨wc, hwc⟩ : ∃ wc, wc = wb.alloc (.cells #[.bool false] T3) := ⟨_, rfl⟩
  have c2 : wc.cell? ⟨wb.heap.size, 0, none⟩ = some (.bool false) := by rw [hwc]; simp
  have c3 : wc.frozen? ⟨wb.heap.size, 0, none⟩ = false := by rw [hwc]; simp
  have c4 : Below wb.heap.size wb wc := by rw [hwc]; exact (Below.refl _ _).alloc (Nat.le_refl _) _
  rw [← hwc]
  have hd : w.heap.size < wa.heap.size := by omega
  have hd2 : w.heap.size < wb.heap.size := by omega
  have hp : wa.heap.size < wb.heap.size := by omega
  refine ⟨⟨?_, c2, ?_, c3⟩, b2.carry c4 hp, fun j => (World.frozen?_of_block (w := wb) (a := ⟨wa.heap.size, j, none⟩) (c4.block _ hp)).trans (b3 j), Nat.le_refl _, hd, hp, ?_⟩
  · exact (c4.cell (p := ⟨w.heap.size, 0, none⟩) hd2).trans ((b4.cell (p := ⟨w.heap.size, 0, none⟩) hd).trans a2)
  · exact (World.frozen?_of_block (w := wb) (a := ⟨w.heap.size, 0, none⟩) (c4.block _ hd2)).trans ((World.frozen?_of_block (w := wa) (a := ⟨w.heap.size, 0, none⟩) (b4.block _ hd)).trans a3)
  · exact a4.trans ((b4.trans (c4.mono (by omega))).mono (by omega))
/-- the head was read -/
def Hd (L : List UInt8) (kn k : Nat) : Prop := ∃ a c, L = a :: c :: L.drop 2 ∧ kn = a.toNat ∧ k = c.toNat
theorem head_of {L : List UInt8} {p1 p2 : ByteArray} (h1 : p1.data.toList = (L.drop 0).take 1) (h2 : p2.data.toList = (L.drop 1).take 1) (hl : 2 ≤ L.length) : Hd L (num p1.data.toList) (num p2.data.toList) := by
  match L, hl with
  | a :: c :: r, _ =>
    refine ⟨a, c, rfl, ?_, ?_⟩
    · rw [h1]; simp [num]
    · rw [h2]; simp [num]
def KRel (w : World) (D P H q b kn k : Nat) (L : List UInt8) (i : Value) (wr : World) : Prop :=
  ∃ (j : Nat) (kv : Value) (x : Nd) (t : ByteArray) (sh : Bool), j ≤ k ∧ i = .int .i64 (j : Int) ∧ RS w D P H q b kv (.slice none 0 0) (.slice none 0 0) x t sh wr ∧ Cont L (2 + 4 * j) t sh ∧ Wide x ∧
    x.keys.length = j ∧ x.vals = [] ∧ x.kids = [] ∧ (sh = false → Hd L kn k ∧ x.keys = keysR j (L.drop 2))
def VRel (w : World) (D P H q b kn k : Nat) (L : List UInt8) (kv : Value) (i : Value) (wr : World) : Prop :=
  ∃ (j : Nat) (vv : Value) (x : Nd) (t : ByteArray) (sh : Bool), j ≤ k ∧ i = .int .i64 (j : Int) ∧ RS w D P H q b kv vv (.slice none 0 0) x t sh wr ∧ Cont L (2 + 4 * k + 12 * j) t sh ∧ Wide x ∧
    x.vals.length = j ∧ x.kids = [] ∧ (sh = false → Hd L kn k ∧ x.keys = keysR k (L.drop 2) ∧ x.vals = valsP k j (L.drop 2))
def CRel (w : World) (D P H q b kn k : Nat) (L : List UInt8) (kv : Value) (i : Value) (wr : World) : Prop :=
  ∃ (j : Nat) (cv : Value) (x : Nd) (t : ByteArray) (sh : Bool), j ≤ k + 1 ∧ i = .int .i64 (j : Int) ∧ RS w D P H q b kv (.slice none 0 0) cv x t sh wr ∧ Cont L (2 + 4 * k + j) t sh ∧ Wide x ∧
    x.kids.length = j ∧ x.vals = [] ∧ (sh = false → Hd L kn k ∧ x.keys = keysR k (L.drop 2) ∧ x.kids = (((L.drop 2).drop (4 * k)).take j).map fun c => (c.toNat : Int))
theorem kids_more {l : List UInt8} {j : Nat} (h : j < l.length) {part : ByteArray} (hp : part.data.toList = (l.drop j).take 1) : ((l.take (j + 1)).map fun c => (c.toNat : Int)) = ((l.take j).map fun c => (c.toNat : Int)) ++ [(num part.data.toList : Int)] := by
  have e : (l.drop j).take 1 = [l[j]] := by rw [List.drop_eq_getElem_cons h]; rfl
  rw [hp, e, List.take_succ_eq_append_getElem h, List.map_append]
  simp [num]
set_option maxRecDepth 100000 in
set_option maxHeartbeats 8000000 in
theorem Read_any (w : World) (s : ByteArray) : Calls Tryd.prog 14 #[.string s] w (ReadPost w (readN s.data.toList)) := by
  have hz := Tryd.zeroNode
  obtain ⟨ii, hi0, hi1, hi2, hi3⟩ := info_parts Tryd.infoInt9
  obtain ⟨is, hs0, hs1, hs2, hs3⟩ := info_parts Tryd.infoStr9
  obtain ⟨L, HL⟩ : ∃ L, Hid (L = s.data.toList) := ⟨_, Lib.hid rfl⟩
  rw [← HL.out]
  obtain ⟨PO, HPO⟩ : ∃ PO, Hid (PO = ReadPost w (readN L)) := ⟨_, Lib.hid rfl⟩
  rw [← HPO.out]
  obtain ⟨D, HD⟩ : ∃ D, Hid (D = w.heap.size) := ⟨_, Lib.hid rfl⟩
  obtain ⟨P, HP⟩ : ∃ P, Hid (P = D + 1) := ⟨_, Lib.hid rfl⟩
  obtain ⟨H, HH⟩ : ∃ H, Hid (H = P + 1) := ⟨_, Lib.hid rfl⟩
  have hDH : D ≠ H := by rw [HH.out, HP.out]; omega
  obtain ⟨w1, HW1⟩ : ∃ w1, Hid (w1 = ((w.alloc (.cells #[.string s] 9)).alloc (.cells #[.slice none 0 0, .slice none 0 0, .slice none 0 0] 32)).alloc (.cells #[.bool false] 4)) := ⟨_, Lib.hid rfl⟩
  have HP1 : Hid (PreS w D P H s false w1) := Lib.hid (by
    rw [HW1.out, HH.out, HP.out, HD.out]
    exact PreS.first w s _ _ _)
  have HC0 : Hid (Cont L 0 s false) := Lib.hid ⟨fun _ => ⟨Nat.zero_le _, by rw [HL.out]; rfl⟩, fun h => (by cases h)⟩
  go_enter Tryd.func14, Tryd.ntmps14
  go_upto_region 3 with (fail)
  rw [← HW1.out, ← HD.out, ← HP.out, ← HH.out]
  clear HW1 HD HP HH HL
  go_wp2_with fail
  refine (take_any (n := 1) HP1.out.t hDH).mono ?_
  rintro e w2 ⟨p1, t1, s1, rfl, hk, hta, hoff⟩
  have HK1 := Lib.hid hk
  have HP2 := Lib.hid (HP1.out.took hta hoff)
  clear hk hta hoff HP1
  have HC1 : Hid (Cont L 1 t1 s1) := Lib.hid (HC0.out.took HK1.out fun _ h => readN_two (by omega))
  have HA1 : Hid (s1 = false → p1.data.toList = (L.drop 0).take 1) := Lib.hid fun e => (HC0.out.part HK1.out e).2
  obtain ⟨kn, HKN⟩ : ∃ kn : Nat, Hid (kn = num p1.data.toList) := ⟨_, Lib.hid rfl⟩
  have hkn : kn < 256 := by rw [HKN.out]; exact num_small (n := 1) HK1.out.small
  go_wp2_with fail
  refine (number_any p1 _ (Nat.le_trans HK1.out.small (by decide))).mono ?_
  rw [← HKN.out]
  rintro e w3 ⟨rfl, hb⟩
  have HP3 := Lib.hid (HP2.out.carry hb)
  clear hb HP2
  go_wp2_with fail
  refine (take_any (n := 1) HP3.out.t hDH).mono ?_
  rintro e w4 ⟨p2, t2, s2, rfl, hk, hta, hoff⟩
  have HK2 := Lib.hid hk
  have HP4 := Lib.hid (HP3.out.took hta hoff)
  clear hk hta hoff HP3
  have HC2 : Hid (Cont L 2 t2 s2) := Lib.hid (HC1.out.took HK2.out fun _ h => readN_two (by omega))
  obtain ⟨k, HKC⟩ : ∃ k : Nat, Hid (k = num p2.data.toList) := ⟨_, Lib.hid rfl⟩
  have hk256 : k < 256 := by rw [HKC.out]; exact num_small (n := 1) HK2.out.small
  have HHD : Hid (s2 = false → Hd L kn k) := Lib.hid fun e => by
    obtain ⟨h1, h2⟩ := HC1.out.part HK2.out e
    rw [HKN.out, HKC.out]
    exact head_of (HA1.out (HK2.out.was e)) h2 h1
  clear HC0 HC1 HA1
  go_wp2_with fail
  refine (number_any p2 _ (Nat.le_trans HK2.out.small (by decide))).mono ?_
  rw [← HKC.out]
  rintro e w5 ⟨rfl, hb⟩
  have HP5 := Lib.hid (HP4.out.carry hb)
  clear hb HP4 HK1 HK2 HKN HKC
  obtain ⟨q, HQ⟩ : ∃ q, Hid (q = w5.heap.size) := ⟨_, Lib.hid rfl⟩
  obtain ⟨b, HBB⟩ : ∃ b, Hid (b = q + 1) := ⟨_, Lib.hid rfl⟩
  obtain ⟨w6, HW6⟩ : ∃ w6, Hid (w6 = w5.alloc (.cells #[.slice none 0 0, .slice none 0 0, .slice none 0 0] 32)) := ⟨_, Lib.hid rfl⟩
  have HR6 : Hid (RS w D P H q b (.slice none 0 0) (.slice none 0 0) (.slice none 0 0) Nd.empty t2 s2 w6) := Lib.hid (by rw [HW6.out, HBB.out, HQ.out]; exact HP5.out.start _)
  go_upto_region 5 with (fail)
  rw [← HW6.out, ← HQ.out]
  clear HW6 HQ HP5 HBB
  go_wp2_with fail
  go_loopw [17] (fun i wr => KRel w D P H q b kn k L i wr) (fun i _ => k - (intOf i).toNat)
  case atStart => exact ⟨0, _, _, _, _, Nat.zero_le _, rfl, HR6.out, HC2.out, Wide.empty, rfl, rfl, rfl, fun e => ⟨HHD.out e, rfl⟩⟩
  case round =>
    obtain ⟨j, kv, x, t, sh, hj, rfl, hrs, hco, hwd, hxl, hxv, hxc, hxx⟩ := hrel
    obtain ⟨vv, HVV⟩ : ∃ vv : Value, Hid (vv = .slice none 0 0) := ⟨_, Lib.hid rfl⟩
    obtain ⟨cv, HCV⟩ : ∃ cv : Value, Hid (cv = .slice none 0 0) := ⟨_, Lib.hid rfl⟩
    have HRS : Hid (RS w D P H q b kv vv cv x t sh wr) := Lib.hid (by rw [HVV.out, HCV.out]; exact hrs)
    have HCO := Lib.hid hco
    have HWD := Lib.hid hwd
    have HXL := Lib.hid hxl
    have HXV := Lib.hid hxv
    have HXC := Lib.hid hxc
    have HXX := Lib.hid hxx
    clear hrs hco hwd hxl hxv hxc hxx HR6 HC2 HHD
    by_cases hlt : j < k
    · have hl7 : x.keys.length ≤ 256 := HWD.out.kl
      go_upto_region 7 with (fail)
      refine wp_region_head (fun w9 => w9.cell? ⟨q, 0, none⟩ = some kv) 8 (by kernel_rfl) (by kernel_rfl) (fun wa HWA => ?_)
      have HRA : Hid (RS w D P H q b kv vv cv x t sh wa) := Lib.hid (by rw [HWA.out]; exact HRS.out.carry (Below.refl _ _).drew)
      clear HWA
      have hS : wa.cell? ⟨q, 0, none⟩ = some kv := HRA.out.g.c0
      refine takeH (i := 0) 19 (v := .pointer (some ⟨q, 0, none⟩)) rfl (by kernel_rfl) (by kernel_rfl) (by kernel_rfl) rfl (fun _ _ _ h => h) (.inl ⟨by rfl, fun _ _ => by go_simp⟩) hS ?_
      simp only [Act.put, List.setIfInBounds_toArray, List.set_cons_zero, List.set_cons_succ]
      refine takeH (i := 1) 20 (v := kv) rfl (by kernel_rfl) (by kernel_rfl) (by kernel_rfl) rfl (fun _ _ _ h => h) (.inl ⟨by rfl, fun _ h => by have c0 := h; go_simp⟩) hS ?_
      simp only [Act.put, List.setIfInBounds_toArray, List.set_cons_zero, List.set_cons_succ]
      refine takeH (i := 2) 21 (v := .func (Fn.func 27) #[] #[.pointer (some ⟨D, 0, none⟩), .pointer (some ⟨H, 0, none⟩)]) rfl (by kernel_rfl) (by kernel_rfl) (by kernel_rfl) rfl (fun _ _ _ h => h) (.inl ⟨by rfl, fun _ _ => by go_simp⟩) hS ?_
      simp only [Act.put, List.setIfInBounds_toArray, List.set_cons_zero, List.set_cons_succ]
      refine oneH (i := 3) (oi := ⟨some 22, _, _, _, _, _⟩) rfl (by kernel_rfl) (fun K hK => ?_)
      go_simp
      refine (take_any (n := 4) HRA.out.t hDH).mono ?_
      rintro e wn ⟨part, t', sh', rfl, hk, hta, hoff⟩
      have HTK := Lib.hid hk
      have HRN := Lib.hid (HRA.out.took hta hoff)
      clear hk hta hoff hS HRA
      have hS : wn.cell? ⟨q, 0, none⟩ = some kv := HRN.out.g.c0
      refine hK.out _ _ hS ?_
      clear hK K
      try simp only [Act.put, List.setIfInBounds_toArray, List.set_cons_zero, List.set_cons_succ]
      obtain ⟨z, HZ⟩ : ∃ z : Nat, Hid (z = num part.data.toList) := ⟨_, Lib.hid rfl⟩
      refine oneH (i := 4) (oi := ⟨some 23, _, _, _, _, _⟩) rfl (by kernel_rfl) (fun K hK => ?_)
      go_simp
      refine (number_any part _ (Nat.le_trans HTK.out.small (by decide))).mono ?_
      rw [← HZ.out]
      rintro e wm ⟨rfl, hb⟩
      have HRM := Lib.hid (HRN.out.carry hb)
      clear hb hS HRN
      have hS : wm.cell? ⟨q, 0, none⟩ = some kv := HRM.out.g.c0
      refine hK.out _ _ hS ?_
      clear hK K
      try simp only [Act.put, List.setIfInBounds_toArray, List.set_cons_zero, List.set_cons_succ]
      refine oneH (i := 5) (oi := ⟨some 24, _, _, _, _, _⟩) rfl (by kernel_rfl) (fun K hK => ?_)
      go_simp
      obtain ⟨g5, HG5⟩ : ∃ g5, Hid (g5 = wm.heap.size) := ⟨_, Lib.hid rfl⟩
      obtain ⟨w5, HW5⟩ : ∃ w5, Hid (w5 = World.alloc wm (.cells #[.int .i64 (z : Int)] 3)) := ⟨_, Lib.hid rfl⟩
      rw [← HG5.out, ← HW5.out]
      have HR5 : Hid (RS w D P H q b kv vv cv x t' sh' w5) := Lib.hid (by rw [HW5.out]; exact HRM.out.carry ((Below.refl _ _).alloc (Nat.le_refl _) _))
      have hn5 : ∀ (j : Nat) u, ([.int .i64 (z : Int)] : List Value)[j]? = some u → w5.cell? ((⟨g5, 0, none⟩ : Addr).add j) = some u := by rw [HW5.out, HG5.out]; exact World.news_of_block (cs := #[.int .i64 (z : Int)]) (heap_alloc_last wm _)
      clear HW5 HG5 hS HRM
      have hS : w5.cell? ⟨q, 0, none⟩ = some kv := HR5.out.g.c0
      refine hK.out _ _ hS ?_
      clear hK K
      try simp only [Act.put, List.setIfInBounds_toArray, List.set_cons_zero, List.set_cons_succ]
      refine oneH (i := 6) rfl (by kernel_rfl) (fun K hK => ?_)
      refine step_append_lies _ rfl _ _ _ rfl b 3 ii _ 1 8 Tryd.underlying22 hi0 hi1 hi2 hi3 rfl (by decide) kv x.keys.length (x.keys.map (Value.int .i64)) rfl HR5.out.g.k ⟨g5, 0, none⟩ 1 1 [.int .i64 (z : Int)] rfl rfl hn5 (fun u hu => by rw [List.mem_singleton.1 hu]; rfl) (by decide) (by unfold maxLen; omega) (by omega) (HR5.out.g.sz) w5.heap.size rfl ?_
      intro gg cap w6 hown hgrow hat _
      have hrowb : ∀ g, kv.ownBlock = some g → b ≤ g := fun g hg => (HR5.out.g.k.lt g hg).1
      have hrow : kv.ownBlock ≠ some q := fun e => by
        have := hrowb q e
        have := HR5.out.g.qb
        omega
      have hq5 : q < w5.heap.size := Nat.lt_of_lt_of_le HR5.out.g.qb HR5.out.g.sz
      have hS2 : w6.cell? ⟨q, 0, none⟩ = some kv := (hgrow.cell_far _ hq5 (Ne.symm hrow)).trans hS
      have hfz : w6.frozen? ⟨q, 0, none⟩ = false := (hgrow.frozen_far _ hq5 (Ne.symm hrow)).trans (HR5.out.g.fz 0)
      have HPU := Lib.hid (HR5.out.g.push0 (Below.refl _ _) hgrow hown hat (Nat.le_refl _))
      have HFT := Lib.hid (HR5.out.far (Below.refl _ _) hgrow hrowb 0 (.slice (some ⟨gg, 0, none⟩) (x.keys.length + 1) cap))
      have HRP : Hid (RS w D P H q b (.slice (some ⟨gg, 0, none⟩) (x.keys.length + 1) cap) vv cv _ t' sh' _) := Lib.hid ⟨HPU.out, HFT.out, HR5.out.lo, HR5.out.dp, HR5.out.ph, HR5.out.hq⟩
      clear hown hgrow hat hrow hrowb hS hn5 hq5 HPU HFT HR5
      refine hK.out _ _ hS2 ?_
      clear hK K
      have hS := hS2
      clear hS2
      try simp only [Act.put, List.setIfInBounds_toArray]
      refine takeH (i := 7) 26 (v := .pointer (some ⟨q, 0, none⟩)) rfl (by kernel_rfl) (by kernel_rfl) (by kernel_rfl) rfl (fun _ _ _ h => h) (.inl ⟨by rfl, fun _ _ => by go_simp⟩) hS ?_
      simp only [Act.put]
      refine wpAnyH_done (by kernel_rfl) ?_ _
      unfold HeadPost
      simp only [List.drop_succ_cons, List.drop_zero]
      go_wp2_with fail
      go_roundw
      case rel =>
        refine ⟨j + 1, _, _, _, _, hlt, by go_num, by have := HRP.out; rw [HVV.out, HCV.out] at this; exact this, ?_, HWD.out.push0 (z := (z : Int)) ?_ ?_, ?_, HXV.out, HXC.out, fun e' => ?_⟩
        · have := HCO.out.took HTK.out fun e hl => by
            obtain ⟨a, c, h1, h2, h3⟩ := (HXX.out e).1
            exact readN_few h1 (by omega)
          rwa [show 2 + 4 * (j + 1) = 2 + 4 * j + 4 by omega]
        · have := num_small HTK.out.small
          rw [← HZ.out] at this
          have h6 : (256 : Nat) ^ 4 = 4294967296 := by decide
          omega
        · rw [HXL.out]; omega
        · show (x.keys ++ [(z : Int)]).length = j + 1
          rw [List.length_append, HXL.out]; rfl
        · have e := HTK.out.was e'
          obtain ⟨h1, h2⟩ := HXX.out e
          refine ⟨h1, ?_⟩
          show x.keys ++ [(z : Int)] = _
          rw [keysR_succ, h2, HZ.out, (HCO.out.part HTK.out e').2, List.drop_drop]
      case measure => simp [intOf]; omega
    · obtain rfl : k = j := by omega
      rcases (show kn = 0 ∨ kn = 1 ∨ (kn ≠ 0 ∧ kn ≠ 1) by omega) with hk0 | hk1 | ⟨hk0, hk1⟩
      · have hke : (kn : Int) = 0 := by omega
        have HK0 := Lib.hid hk0
        clear hk0
        go_wp2_with fail
        clear hke
        go_loopw [34] (fun i wr => VRel w D P H q b kn k L kv i wr) (fun i _ => k - (intOf i).toNat)
        case atStart => exact ⟨0, _, _, _, _, Nat.zero_le _, rfl, by have := HRS.out; rw [HCV.out] at this; exact this, HCO.out, HWD.out, by rw [HXV.out]; rfl, HXC.out, fun e => ⟨(HXX.out e).1, (HXX.out e).2, by rw [HXV.out]; rfl⟩⟩
        case round =>
          clear HRS HCO HWD HXL HXV HXC HXX HVV
          obtain ⟨j, vv, x, t, sh, hj, rfl, hrs, hco, hwd, hxl, hxc, hxx⟩ := hrel
          have HRS : Hid (RS w D P H q b kv vv cv x t sh wr) := Lib.hid (by rw [HCV.out]; exact hrs)
          have HCO := Lib.hid hco
          have HWD := Lib.hid hwd
          have HXL := Lib.hid hxl
          have HXC := Lib.hid hxc
          have HXX := Lib.hid hxx
          clear hrs hco hwd hxl hxc hxx
          by_cases hlt : j < k
          · have hl7 : x.vals.length ≤ 256 := HWD.out.vl
            go_upto_region 14 with (fail)
            refine wp_region_head (fun w9 => w9.cell? ⟨q, 1, none⟩ = some vv) 7 (by kernel_rfl) (by kernel_rfl) (fun wa HWA => ?_)
            have HRA : Hid (RS w D P H q b kv vv cv x t sh wa) := Lib.hid (by rw [HWA.out]; exact HRS.out.carry (Below.refl _ _).drew)
            clear HWA
            have hS : wa.cell? ⟨q, 1, none⟩ = some vv := HRA.out.g.c1
            refine takeH (i := 0) 36 (v := .pointer (some ⟨q, 1, none⟩)) rfl (by kernel_rfl) (by kernel_rfl) (by kernel_rfl) rfl (fun _ _ _ h => h) (.inl ⟨by rfl, fun _ _ => by go_simp⟩) hS ?_
            simp only [Act.put, List.setIfInBounds_toArray, List.set_cons_zero, List.set_cons_succ]
            refine takeH (i := 1) 37 (v := vv) rfl (by kernel_rfl) (by kernel_rfl) (by kernel_rfl) rfl (fun _ _ _ h => h) (.inl ⟨by rfl, fun _ h => by have c0 := h; go_simp⟩) hS ?_
            simp only [Act.put, List.setIfInBounds_toArray, List.set_cons_zero, List.set_cons_succ]
            refine takeH (i := 2) 38 (v := .func (Fn.func 27) #[] #[.pointer (some ⟨D, 0, none⟩), .pointer (some ⟨H, 0, none⟩)]) rfl (by kernel_rfl) (by kernel_rfl) (by kernel_rfl) rfl (fun _ _ _ h => h) (.inl ⟨by rfl, fun _ _ => by go_simp⟩) hS ?_
            simp only [Act.put, List.setIfInBounds_toArray, List.set_cons_zero, List.set_cons_succ]
            refine oneH (i := 3) (oi := ⟨some 39, _, _, _, _, _⟩) rfl (by kernel_rfl) (fun K hK => ?_)
            go_simp
            refine (take_any (n := 12) HRA.out.t hDH).mono ?_
            rintro e wn ⟨part, t', sh', rfl, hk, hta, hoff⟩
            have HTK := Lib.hid hk
            have HRN := Lib.hid (HRA.out.took hta hoff)
            clear hk hta hoff hS HRA
            have hS : wn.cell? ⟨q, 1, none⟩ = some vv := HRN.out.g.c1
            refine hK.out _ _ hS ?_
            clear hK K
            try simp only [Act.put, List.setIfInBounds_toArray, List.set_cons_zero, List.set_cons_succ]
            refine oneH (i := 4) (oi := ⟨some 40, _, _, _, _, _⟩) rfl (by kernel_rfl) (fun K hK => ?_)
            go_simp
            obtain ⟨g5, HG5⟩ : ∃ g5, Hid (g5 = wn.heap.size) := ⟨_, Lib.hid rfl⟩
            obtain ⟨w5, HW5⟩ : ∃ w5, Hid (w5 = World.alloc wn (.cells #[.string part] 9)) := ⟨_, Lib.hid rfl⟩
            rw [← HG5.out, ← HW5.out]
            have HR5 : Hid (RS w D P H q b kv vv cv x t' sh' w5) := Lib.hid (by rw [HW5.out]; exact HRN.out.carry ((Below.refl _ _).alloc (Nat.le_refl _) _))
            have hn5 : ∀ (j : Nat) u, ([.string part] : List Value)[j]? = some u → w5.cell? ((⟨g5, 0, none⟩ : Addr).add j) = some u := by rw [HW5.out, HG5.out]; exact World.news_of_block (cs := #[.string part]) (heap_alloc_last wn _)
            clear HW5 HG5 hS HRN
            have hS : w5.cell? ⟨q, 1, none⟩ = some vv := HR5.out.g.c1
            refine hK.out _ _ hS ?_
            clear hK K
            try simp only [Act.put, List.setIfInBounds_toArray, List.set_cons_zero, List.set_cons_succ]
            refine oneH (i := 5) rfl (by kernel_rfl) (fun K hK => ?_)
            refine step_append_lies _ rfl _ _ _ rfl b 9 is _ 1 16 Tryd.underlying23 hs0 hs1 hs2 hs3 rfl (by decide) vv x.vals.length (x.vals.map Value.string) rfl HR5.out.g.v ⟨g5, 0, none⟩ 1 1 [.string part] rfl rfl hn5 (fun u hu => by rw [List.mem_singleton.1 hu]; rfl) (by decide) (by unfold maxLen; omega) (by omega) (HR5.out.g.sz) w5.heap.size rfl ?_
            intro gg cap w6 hown hgrow hat _
            have hrowb : ∀ g, vv.ownBlock = some g → b ≤ g := fun g hg => (HR5.out.g.v.lt g hg).1
            have hrow : vv.ownBlock ≠ some q := fun e => by
              have := hrowb q e
              have := HR5.out.g.qb
              omega
            have hq5 : q < w5.heap.size := Nat.lt_of_lt_of_le HR5.out.g.qb HR5.out.g.sz
            have hS2 : w6.cell? ⟨q, 1, none⟩ = some vv := (hgrow.cell_far _ hq5 (Ne.symm hrow)).trans hS
            have hfz : w6.frozen? ⟨q, 1, none⟩ = false := (hgrow.frozen_far _ hq5 (Ne.symm hrow)).trans (HR5.out.g.fz 1)
            have HPU := Lib.hid (HR5.out.g.push1 (Below.refl _ _) hgrow hown hat (Nat.le_refl _))
            have HFT := Lib.hid (HR5.out.far (Below.refl _ _) hgrow hrowb 1 (.slice (some ⟨gg, 0, none⟩) (x.vals.length + 1) cap))
            have HRP : Hid (RS w D P H q b kv (.slice (some ⟨gg, 0, none⟩) (x.vals.length + 1) cap) cv _ t' sh' _) := Lib.hid ⟨HPU.out, HFT.out, HR5.out.lo, HR5.out.dp, HR5.out.ph, HR5.out.hq⟩
            clear hown hgrow hat hrow hrowb hS hn5 hq5 HPU HFT HR5
            refine hK.out _ _ hS2 ?_
            clear hK K
            have hS := hS2
            clear hS2
            try simp only [Act.put, List.setIfInBounds_toArray]
            refine takeH (i := 6) 42 (v := .pointer (some ⟨q, 1, none⟩)) rfl (by kernel_rfl) (by kernel_rfl) (by kernel_rfl) rfl (fun _ _ _ h => h) (.inl ⟨by rfl, fun _ _ => by go_simp⟩) hS ?_
            simp only [Act.put]
            refine wpAnyH_done (by kernel_rfl) ?_ _
            unfold HeadPost
            simp only [List.drop_succ_cons, List.drop_zero]
            go_wp2_with fail
            go_roundw
            case rel =>
              refine ⟨j + 1, _, _, _, _, hlt, by go_num, by have := HRP.out; rw [HCV.out] at this; exact this, ?_, HWD.out.push1 (v := part) HTK.out.small ?_, ?_, HXC.out, fun e' => ?_⟩
              · have := HCO.out.took HTK.out fun e hl => by
                  obtain ⟨a, c, h1, h2, h3⟩ := (HXX.out e).1
                  obtain rfl : a = 0 := UInt8.toNat_inj.1 (by show a.toNat = 0; have := HK0.out; omega)
                  exact readN_leafL h1 (by omega)
                rwa [show 2 + 4 * k + 12 * (j + 1) = 2 + 4 * k + 12 * j + 12 by omega]
              · rw [HXL.out]; omega
              · show (x.vals ++ [part]).length = j + 1
                rw [List.length_append, HXL.out]; rfl
              · have e := HTK.out.was e'
                obtain ⟨h1, h2, h3⟩ := HXX.out e
                refine ⟨h1, h2, ?_⟩
                show x.vals ++ [part] = _
                have hp := (HCO.out.part HTK.out e').2
                rw [valsP_succ, h3, List.drop_drop, show 2 + (4 * k + 12 * j) = 2 + 4 * k + 12 * j by omega, ← hp]
            case measure => simp [intOf]; omega
          · obtain rfl : j = k := by omega
            have HLONG : Hid (sh = false → t.size ≠ 0 → readN L = none) := Lib.hid (fun e ht => by
              obtain ⟨⟨a, c, h1, h2, h3⟩, _⟩ := HXX.out e
              obtain rfl : a = 0 := UInt8.toNat_inj.1 (by show a.toNat = 0; have := HK0.out; omega)
              obtain ⟨h4, h5⟩ := HCO.out.yes e
              have h6 := congrArg List.length h5
              rw [Array.length_toList, List.length_drop] at h6
              have h7 : t.data.size = t.size := rfl
              exact readN_leafL h1 (by omega))
            have HFULL : Hid (sh = false → t = ⟨#[]⟩ → readN L = if rightN x = true then some x else none) := Lib.hid (fun e ht => by
              obtain ⟨⟨a, c, h1, h2, h3⟩, h8, h9⟩ := HXX.out e
              obtain rfl : a = 0 := UInt8.toNat_inj.1 (by show a.toNat = 0; have := HK0.out; omega)
              obtain ⟨h4, h5⟩ := HCO.out.yes e
              have h6 := congrArg List.length h5
              rw [Array.length_toList, List.length_drop, ht] at h6
              have h7 : (⟨#[]⟩ : ByteArray).data.size = 0 := rfl
              have hx : x = nodeR true c.toNat (L.drop 2) := by
                have hc := HXC.out
                obtain ⟨keys, vals, kids⟩ := x
                simp only at h8 h9 hc
                rw [h8, h9, hc, h3]
                rfl
              rw [hx]
              exact readN_fits h1 (by decide) (by rw [h3] at h4 h6; show _ = 2 + 16 * c.toNat; omega))
            have HFA := HFULL
            have HLO := HLONG
            have HNS : Hid (sh = true → readN L = none) := Lib.hid HCO.out.no
            have hmark := HRS.out.t.hc
            have hdata := HRS.out.t.dc
            clear HFULL HLONG HCO HXX
            cases sh with
            | true =>
              have HNO0 : Hid (readN L = none) := Lib.hid (HNS.out rfl)
              clear HNS HFA HLO
              have hbn := Tryd.nodeNone
              go_wp2_with fail
              refine (fault_any 2 (by decide) _).mono ?_
              rintro e w8 ⟨v, rfl, he, hb⟩
              have HRE := Lib.hid (HRS.out.carry hb)
              have HEE := Lib.hid he
              have HPL : Hid (P < wr.heap.size) := Lib.hid (Nat.lt_of_lt_of_le (Nat.lt_trans HRS.out.g.pq HRS.out.g.qb) HRS.out.g.sz)
              have HWL : Hid (w.heap.size ≤ wr.heap.size) := Lib.hid HRS.out.g.below.size
              have d0 := HRE.out.g.res.c0
              have d1 := HRE.out.g.res.c1
              have d2 := HRE.out.g.res.c2
              have f0 := HRE.out.g.fp 0
              have f1 := HRE.out.g.fp 1
              have f2 := HRE.out.g.fp 2
              clear he hb
              obtain ⟨w9, HW9⟩ : ∃ w9, Hid (w9 = ((w8.setCell ⟨P, 0, none⟩ (.slice none 0 0)).setCell ⟨P, 1, none⟩ (.slice none 0 0)).setCell ⟨P, 2, none⟩ (.slice none 0 0)) := ⟨_, Lib.hid rfl⟩
              have HBX9 : Hid (NdBox w9 P Lay3.none_ Nd.empty) := Lib.hid (by rw [HW9.out]; exact NdBox.set3 (l := Lay3.none_) (x := Nd.empty) d0 d1 d2)
              have HB9 : Hid (Below w.heap.size w w9) := Lib.hid (by
                have hp := HRE.out.g.lo
                rw [HW9.out]
                exact ((HRE.out.g.below.setCell hp _).setCell hp _).setCell hp _)
              have HE9 : Hid (ErrFrom w9 w.heap.size 2 v) := Lib.hid (by
                refine (HEE.out.carry (w' := w9) (by rw [HW9.out]; simp) fun i h1 _ => ?_).mono HWL.out
                have := HPL.out
                rw [HW9.out, World.heap_setCell_far9 _ _ _ (by show i ≠ P; omega), World.heap_setCell_far9 _ _ _ (by show i ≠ P; omega), World.heap_setCell_far9 _ _ _ (by show i ≠ P; omega)])
              have HNO : Hid (readN L = none) := Lib.hid (HNO0.out)
              go_wp2_with fail
              rw [← HW9.out, HPO.out]
              exact bodyPost_ret (results_nd2 Tryd.ndProg rfl _ _ P Lay3.none_ Nd.empty v rfl rfl HBX9.out) rfl (.inl ⟨HNO.out, v, rfl, HE9.out, HB9.out⟩)
            | false =>
              by_cases ht0 : t.size = 0
              case neg =>
                have htn : (t.toList == ([] : List UInt8)) = false := by
                  rw [beq_eq_false_iff_ne, ByteArray.toList_eq]
                  intro e
                  have := congrArg List.length e
                  rw [Array.length_toList] at this
                  exact ht0 this
                have HNO0 : Hid (readN L = none) := Lib.hid (HLO.out rfl ht0)
                clear ht0 HNS HFA HLO
                have hbn := Tryd.nodeNone
                go_wp2_with fail
                refine (fault_any 2 (by decide) _).mono ?_
                rintro e w8 ⟨v, rfl, he, hb⟩
                have HRE := Lib.hid (HRS.out.carry hb)
                have HEE := Lib.hid he
                have HPL : Hid (P < wr.heap.size) := Lib.hid (Nat.lt_of_lt_of_le (Nat.lt_trans HRS.out.g.pq HRS.out.g.qb) HRS.out.g.sz)
                have HWL : Hid (w.heap.size ≤ wr.heap.size) := Lib.hid HRS.out.g.below.size
                have d0 := HRE.out.g.res.c0
                have d1 := HRE.out.g.res.c1
                have d2 := HRE.out.g.res.c2
                have f0 := HRE.out.g.fp 0
                have f1 := HRE.out.g.fp 1
                have f2 := HRE.out.g.fp 2
                clear he hb
                obtain ⟨w9, HW9⟩ : ∃ w9, Hid (w9 = ((w8.setCell ⟨P, 0, none⟩ (.slice none 0 0)).setCell ⟨P, 1, none⟩ (.slice none 0 0)).setCell ⟨P, 2, none⟩ (.slice none 0 0)) := ⟨_, Lib.hid rfl⟩
                have HBX9 : Hid (NdBox w9 P Lay3.none_ Nd.empty) := Lib.hid (by rw [HW9.out]; exact NdBox.set3 (l := Lay3.none_) (x := Nd.empty) d0 d1 d2)
                have HB9 : Hid (Below w.heap.size w w9) := Lib.hid (by
                  have hp := HRE.out.g.lo
                  rw [HW9.out]
                  exact ((HRE.out.g.below.setCell hp _).setCell hp _).setCell hp _)
                have HE9 : Hid (ErrFrom w9 w.heap.size 2 v) := Lib.hid (by
                  refine (HEE.out.carry (w' := w9) (by rw [HW9.out]; simp) fun i h1 _ => ?_).mono HWL.out
                  have := HPL.out
                  rw [HW9.out, World.heap_setCell_far9 _ _ _ (by show i ≠ P; omega), World.heap_setCell_far9 _ _ _ (by show i ≠ P; omega), World.heap_setCell_far9 _ _ _ (by show i ≠ P; omega)])
                have HNO : Hid (readN L = none) := Lib.hid (HNO0.out)
                go_wp2_with fail
                rw [← HW9.out, HPO.out]
                exact bodyPost_ret (results_nd2 Tryd.ndProg rfl _ _ P Lay3.none_ Nd.empty v rfl rfl HBX9.out) rfl (.inl ⟨HNO.out, v, rfl, HE9.out, HB9.out⟩)
              case pos =>
                obtain rfl : t = ⟨#[]⟩ := by
                  apply ByteArray.ext
                  exact Array.eq_empty_of_size_eq_zero ht0
                have HON := Lib.hid (HFA.out rfl rfl)
                clear HFA HLO HNS
                obtain ⟨A, ca, rfl, hnk⟩ := owned_nums HRS.out.g.k
                obtain ⟨B, cb, rfl, hnv⟩ := owned_strs HRS.out.g.v
                obtain ⟨C, cc, rfl, hnc⟩ := owned_nums HRS.out.g.c
                have HFA : Hid (∀ a, A = some a → P ≠ a.block) := Lib.hid (by rintro a rfl; have h1 := (HRS.out.g.k.lt a.block rfl).1; have h2 := HRS.out.g.qb; have h3 := HRS.out.g.pq; omega)
                have HFB : Hid (∀ a, B = some a → P ≠ a.block) := Lib.hid (by rintro a rfl; have h1 := (HRS.out.g.v.lt a.block rfl).1; have h2 := HRS.out.g.qb; have h3 := HRS.out.g.pq; omega)
                have HFC : Hid (∀ a, C = some a → P ≠ a.block) := Lib.hid (by rintro a rfl; have h1 := (HRS.out.g.c.lt a.block rfl).1; have h2 := HRS.out.g.qb; have h3 := HRS.out.g.pq; omega)
                have HBX : Hid (NdBox wr q ⟨A, B, C, ca, cb, cc⟩ x) := Lib.hid ⟨HRS.out.g.c0, HRS.out.g.c1, HRS.out.g.c2⟩
                have HIS : Hid (NdIs wr ⟨A, B, C, ca, cb, cc⟩ x) := Lib.hid (HWD.out.is hnk hnv hnc)
                clear hnk hnv hnc
                obtain ⟨rr, HRX⟩ : ∃ rr, Hid (rr = rightN x) := ⟨_, Lib.hid rfl⟩
                go_wp2_with (with_reducible refine stop_at (o := ⟨some 65, _, _, _, _, _⟩) ?_)
                refine wpList_load_nd Tryd.ndProg (by rfl) _ rfl q rfl ⟨A, B, C, ca, cb, cc⟩ x HBX.out ?_
                go_wp2_with fail
                refine (Right_any HIS.out).mono ?_
                rw [← HRX.out]
                rintro e w7 ⟨rfl, hb⟩
                have HRS7 := Lib.hid (HRS.out.carry hb)
                have HBX7 := Lib.hid (HBX.out.carry hb HBX.out.lt)
                have HIS7 := Lib.hid (HIS.out.carry hb)
                clear hb HBX HIS hmark hdata HRS
                cases rr with
                | true =>
                  have d0 := HRS7.out.g.res.c0
                  have d1 := HRS7.out.g.res.c1
                  have d2 := HRS7.out.g.res.c2
                  have f0 := HRS7.out.g.fp 0
                  have f1 := HRS7.out.g.fp 1
                  have f2 := HRS7.out.g.fp 2
                  obtain ⟨w9, HW9⟩ : ∃ w9, Hid (w9 = ((w7.setCell ⟨P, 0, none⟩ (.slice A x.keys.length ca)).setCell ⟨P, 1, none⟩ (.slice B x.vals.length cb)).setCell ⟨P, 2, none⟩ (.slice C x.kids.length cc)) := ⟨_, Lib.hid rfl⟩
                  have HBX9 : Hid (NdBox w9 P ⟨A, B, C, ca, cb, cc⟩ x) := Lib.hid (by rw [HW9.out]; exact NdBox.set3 (l := ⟨A, B, C, ca, cb, cc⟩) (x := x) d0 d1 d2)
                  have HIS9 : Hid (NdIs w9 ⟨A, B, C, ca, cb, cc⟩ x) := Lib.hid (by rw [HW9.out]; exact ((HIS7.out.setCell HFA.out HFB.out HFC.out _ _).setCell HFA.out HFB.out HFC.out _ _).setCell HFA.out HFB.out HFC.out _ _)
                  have HB9 : Hid (Below w.heap.size w w9) := Lib.hid (by
                    have hp := HRS7.out.g.lo
                    rw [HW9.out]
                    exact ((HRS7.out.g.below.setCell hp _).setCell hp _).setCell hp _)
                  have HNO : Hid (readN L = some x) := Lib.hid (by rw [HON.out, if_pos HRX.out.symm])
                  go_wp2_with (with_reducible refine stop_at (o := ⟨some 71, _, _, _, _, _⟩) ?_)
                  refine wpList_load_nd Tryd.ndProg (by rfl) _ rfl q rfl ⟨A, B, C, ca, cb, cc⟩ x HBX7.out ?_
                  go_wp2_with fail
                  rw [← HW9.out, HPO.out]
                  exact bodyPost_ret (results_nd2 Tryd.ndProg rfl _ _ P ⟨A, B, C, ca, cb, cc⟩ x .nilIface rfl rfl HBX9.out) rfl (.inr ⟨x, ⟨A, B, C, ca, cb, cc⟩, HNO.out, rfl, HIS9.out, HB9.out⟩)
                | false =>
                  have hbn := Tryd.nodeNone
                  go_wp2_with fail
                  refine (fault_any 2 (by decide) _).mono ?_
                  rintro e w8 ⟨v, rfl, he, hb⟩
                  have HRE := Lib.hid (HRS7.out.carry hb)
                  have HEE := Lib.hid he
                  have HPL : Hid (P < w7.heap.size) := Lib.hid (Nat.lt_of_lt_of_le (Nat.lt_trans HRS7.out.g.pq HRS7.out.g.qb) HRS7.out.g.sz)
                  have HWL : Hid (w.heap.size ≤ w7.heap.size) := Lib.hid HRS7.out.g.below.size
                  have d0 := HRE.out.g.res.c0
                  have d1 := HRE.out.g.res.c1
                  have d2 := HRE.out.g.res.c2
                  have f0 := HRE.out.g.fp 0
                  have f1 := HRE.out.g.fp 1
                  have f2 := HRE.out.g.fp 2
                  clear he hb
                  obtain ⟨w9, HW9⟩ : ∃ w9, Hid (w9 = ((w8.setCell ⟨P, 0, none⟩ (.slice none 0 0)).setCell ⟨P, 1, none⟩ (.slice none 0 0)).setCell ⟨P, 2, none⟩ (.slice none 0 0)) := ⟨_, Lib.hid rfl⟩
                  have HBX9 : Hid (NdBox w9 P Lay3.none_ Nd.empty) := Lib.hid (by rw [HW9.out]; exact NdBox.set3 (l := Lay3.none_) (x := Nd.empty) d0 d1 d2)
                  have HB9 : Hid (Below w.heap.size w w9) := Lib.hid (by
                    have hp := HRE.out.g.lo
                    rw [HW9.out]
                    exact ((HRE.out.g.below.setCell hp _).setCell hp _).setCell hp _)
                  have HE9 : Hid (ErrFrom w9 w.heap.size 2 v) := Lib.hid (by
                    refine (HEE.out.carry (w' := w9) (by rw [HW9.out]; simp) fun i h1 _ => ?_).mono HWL.out
                    have := HPL.out
                    rw [HW9.out, World.heap_setCell_far9 _ _ _ (by show i ≠ P; omega), World.heap_setCell_far9 _ _ _ (by show i ≠ P; omega), World.heap_setCell_far9 _ _ _ (by show i ≠ P; omega)])
                  have HNO : Hid (readN L = none) := Lib.hid (by rw [HON.out, if_neg (by rw [← HRX.out]; decide)])
                  go_wp2_with fail
                  rw [← HW9.out, HPO.out]
                  exact bodyPost_ret (results_nd2 Tryd.ndProg rfl _ _ P Lay3.none_ Nd.empty v rfl rfl HBX9.out) rfl (.inl ⟨HNO.out, v, rfl, HE9.out, HB9.out⟩)
      · have hke : ¬ (kn : Int) = 0 := by omega
        have hke2 : (kn : Int) = 1 := by omega
        have HK1 := Lib.hid hk1
        clear hk1
        go_wp2_with fail
        clear hke hke2
        go_loopw [48] (fun i wr => CRel w D P H q b kn k L kv i wr) (fun i _ => k + 1 - (intOf i).toNat)
        case atStart => exact ⟨0, _, _, _, _, Nat.zero_le _, rfl, by have := HRS.out; rw [HVV.out] at this; exact this, HCO.out, HWD.out, by rw [HXC.out]; rfl, HXV.out, fun e => ⟨(HXX.out e).1, (HXX.out e).2, by rw [HXC.out]; rfl⟩⟩
        case round =>
          clear HRS HCO HWD HXL HXV HXC HXX HCV
          obtain ⟨j, cv, x, t, sh, hj, rfl, hrs, hco, hwd, hxl, hxv, hxx⟩ := hrel
          have HRS : Hid (RS w D P H q b kv vv cv x t sh wr) := Lib.hid (by rw [HVV.out]; exact hrs)
          have HCO := Lib.hid hco
          have HWD := Lib.hid hwd
          have HXL := Lib.hid hxl
          have HXV := Lib.hid hxv
          have HXX := Lib.hid hxx
          clear hrs hco hwd hxl hxv hxx
          by_cases hlt : j < k + 1
          · have hl7 : x.kids.length ≤ 256 := HWD.out.cl
            go_upto_region 19 with (fail)
            refine wp_region_head (fun w9 => w9.cell? ⟨q, 2, none⟩ = some cv) 8 (by kernel_rfl) (by kernel_rfl) (fun wa HWA => ?_)
            have HRA : Hid (RS w D P H q b kv vv cv x t sh wa) := Lib.hid (by rw [HWA.out]; exact HRS.out.carry (Below.refl _ _).drew)
            clear HWA
            have hS : wa.cell? ⟨q, 2, none⟩ = some cv := HRA.out.g.c2
            refine takeH (i := 0) 50 (v := .pointer (some ⟨q, 2, none⟩)) rfl (by kernel_rfl) (by kernel_rfl) (by kernel_rfl) rfl (fun _ _ _ h => h) (.inl ⟨by rfl, fun _ _ => by go_simp⟩) hS ?_
            simp only [Act.put, List.setIfInBounds_toArray, List.set_cons_zero, List.set_cons_succ]
            refine takeH (i := 1) 51 (v := cv) rfl (by kernel_rfl) (by kernel_rfl) (by kernel_rfl) rfl (fun _ _ _ h => h) (.inl ⟨by rfl, fun _ h => by have c0 := h; go_simp⟩) hS ?_
            simp only [Act.put, List.setIfInBounds_toArray, List.set_cons_zero, List.set_cons_succ]
            refine takeH (i := 2) 52 (v := .func (Fn.func 27) #[] #[.pointer (some ⟨D, 0, none⟩), .pointer (some ⟨H, 0, none⟩)]) rfl (by kernel_rfl) (by kernel_rfl) (by kernel_rfl) rfl (fun _ _ _ h => h) (.inl ⟨by rfl, fun _ _ => by go_simp⟩) hS ?_
            simp only [Act.put, List.setIfInBounds_toArray, List.set_cons_zero, List.set_cons_succ]
            refine oneH (i := 3) (oi := ⟨some 53, _, _, _, _, _⟩) rfl (by kernel_rfl) (fun K hK => ?_)
            go_simp
            refine (take_any (n := 1) HRA.out.t hDH).mono ?_
            rintro e wn ⟨part, t', sh', rfl, hk, hta, hoff⟩
            have HTK := Lib.hid hk
            have HRN := Lib.hid (HRA.out.took hta hoff)
            clear hk hta hoff hS HRA
            have hS : wn.cell? ⟨q, 2, none⟩ = some cv := HRN.out.g.c2
            refine hK.out _ _ hS ?_
            clear hK K
            try simp only [Act.put, List.setIfInBounds_toArray, List.set_cons_zero, List.set_cons_succ]
            obtain ⟨z, HZ⟩ : ∃ z : Nat, Hid (z = num part.data.toList) := ⟨_, Lib.hid rfl⟩
            refine oneH (i := 4) (oi := ⟨some 54, _, _, _, _, _⟩) rfl (by kernel_rfl) (fun K hK => ?_)
            go_simp
            refine (number_any part _ (Nat.le_trans HTK.out.small (by decide))).mono ?_
            rw [← HZ.out]
            rintro e wm ⟨rfl, hb⟩
            have HRM := Lib.hid (HRN.out.carry hb)
            clear hb hS HRN
            have hS : wm.cell? ⟨q, 2, none⟩ = some cv := HRM.out.g.c2
            refine hK.out _ _ hS ?_
            clear hK K
            try simp only [Act.put, List.setIfInBounds_toArray, List.set_cons_zero, List.set_cons_succ]
            refine oneH (i := 5) (oi := ⟨some 55, _, _, _, _, _⟩) rfl (by kernel_rfl) (fun K hK => ?_)
            go_simp
            obtain ⟨g5, HG5⟩ : ∃ g5, Hid (g5 = wm.heap.size) := ⟨_, Lib.hid rfl⟩
            obtain ⟨w5, HW5⟩ : ∃ w5, Hid (w5 = World.alloc wm (.cells #[.int .i64 (z : Int)] 3)) := ⟨_, Lib.hid rfl⟩
            rw [← HG5.out, ← HW5.out]
            have HR5 : Hid (RS w D P H q b kv vv cv x t' sh' w5) := Lib.hid (by rw [HW5.out]; exact HRM.out.carry ((Below.refl _ _).alloc (Nat.le_refl _) _))
            have hn5 : ∀ (j : Nat) u, ([.int .i64 (z : Int)] : List Value)[j]? = some u → w5.cell? ((⟨g5, 0, none⟩ : Addr).add j) = some u := by rw [HW5.out, HG5.out]; exact World.news_of_block (cs := #[.int .i64 (z : Int)]) (heap_alloc_last wm _)
            clear HW5 HG5 hS HRM
            have hS : w5.cell? ⟨q, 2, none⟩ = some cv := HR5.out.g.c2
            refine hK.out _ _ hS ?_
            clear hK K
            try simp only [Act.put, List.setIfInBounds_toArray, List.set_cons_zero, List.set_cons_succ]
            refine oneH (i := 6) rfl (by kernel_rfl) (fun K hK => ?_)
            refine step_append_lies _ rfl _ _ _ rfl b 3 ii _ 1 8 Tryd.underlying22 hi0 hi1 hi2 hi3 rfl (by decide) cv x.kids.length (x.kids.map (Value.int .i64)) rfl HR5.out.g.c ⟨g5, 0, none⟩ 1 1 [.int .i64 (z : Int)] rfl rfl hn5 (fun u hu => by rw [List.mem_singleton.1 hu]; rfl) (by decide) (by unfold maxLen; omega) (by omega) (HR5.out.g.sz) w5.heap.size rfl ?_
            intro gg cap w6 hown hgrow hat _
            have hrowb : ∀ g, cv.ownBlock = some g → b ≤ g := fun g hg => (HR5.out.g.c.lt g hg).1
            have hrow : cv.ownBlock ≠ some q := fun e => by
              have := hrowb q e
              have := HR5.out.g.qb
              omega
            have hq5 : q < w5.heap.size := Nat.lt_of_lt_of_le HR5.out.g.qb HR5.out.g.sz
            have hS2 : w6.cell? ⟨q, 2, none⟩ = some cv := (hgrow.cell_far _ hq5 (Ne.symm hrow)).trans hS
            have hfz : w6.frozen? ⟨q, 2, none⟩ = false := (hgrow.frozen_far _ hq5 (Ne.symm hrow)).trans (HR5.out.g.fz 2)
            have HPU := Lib.hid (HR5.out.g.push2 (Below.refl _ _) hgrow hown hat (Nat.le_refl _))
            have HFT := Lib.hid (HR5.out.far (Below.refl _ _) hgrow hrowb 2 (.slice (some ⟨gg, 0, none⟩) (x.kids.length + 1) cap))
            have HRP : Hid (RS w D P H q b kv vv (.slice (some ⟨gg, 0, none⟩) (x.kids.length + 1) cap) _ t' sh' _) := Lib.hid ⟨HPU.out, HFT.out, HR5.out.lo, HR5.out.dp, HR5.out.ph, HR5.out.hq⟩
            clear hown hgrow hat hrow hrowb hS hn5 hq5 HPU HFT HR5
            refine hK.out _ _ hS2 ?_
            clear hK K
            have hS := hS2
            clear hS2
            try simp only [Act.put, List.setIfInBounds_toArray]
            refine takeH (i := 7) 57 (v := .pointer (some ⟨q, 2, none⟩)) rfl (by kernel_rfl) (by kernel_rfl) (by kernel_rfl) rfl (fun _ _ _ h => h) (.inl ⟨by rfl, fun _ _ => by go_simp⟩) hS ?_
            simp only [Act.put]
            refine wpAnyH_done (by kernel_rfl) ?_ _
            unfold HeadPost
            simp only [List.drop_succ_cons, List.drop_zero]
            go_wp2_with fail
            go_roundw
            case rel =>
              refine ⟨j + 1, _, _, _, _, by omega, by go_num, by have := HRP.out; rw [HVV.out] at this; exact this, ?_, HWD.out.push2 (z := (z : Int)) ?_ ?_, ?_, HXV.out, fun e' => ?_⟩
              · have := HCO.out.took HTK.out fun e hl => by
                  obtain ⟨a, c, h1, h2, h3⟩ := (HXX.out e).1
                  obtain rfl : a = 1 := UInt8.toNat_inj.1 (by show a.toNat = 1; have := HK1.out; omega)
                  exact readN_innerL h1 (by omega)
                rwa [show 2 + 4 * k + (j + 1) = 2 + 4 * k + j + 1 by omega]
              · have := num_small HTK.out.small
                rw [← HZ.out] at this
                have h6 : (256 : Nat) ^ 1 = 256 := by decide
                omega
              · rw [HXL.out]; omega
              · show (x.kids ++ [(z : Int)]).length = j + 1
                rw [List.length_append, HXL.out]; rfl
              · have e := HTK.out.was e'
                obtain ⟨h1, h2, h3⟩ := HXX.out e
                refine ⟨h1, h2, ?_⟩
                show x.kids ++ [(z : Int)] = _
                obtain ⟨hpl, hp⟩ := HCO.out.part HTK.out e'
                rw [kids_more (part := part) (by rw [List.length_drop, List.length_drop]; omega) (by rw [hp, List.drop_drop, List.drop_drop]; congr 2; omega), h3, HZ.out]
            case measure => simp [intOf]; omega
          · obtain rfl : j = k + 1 := by omega
            have HLONG : Hid (sh = false → t.size ≠ 0 → readN L = none) := Lib.hid (fun e ht => by
              obtain ⟨⟨a, c, h1, h2, h3⟩, _⟩ := HXX.out e
              obtain rfl : a = 1 := UInt8.toNat_inj.1 (by show a.toNat = 1; have := HK1.out; omega)
              obtain ⟨h4, h5⟩ := HCO.out.yes e
              have h6 := congrArg List.length h5
              rw [Array.length_toList, List.length_drop] at h6
              have h7 : t.data.size = t.size := rfl
              exact readN_innerL h1 (by omega))
            have HFULL : Hid (sh = false → t = ⟨#[]⟩ → readN L = if rightN x = true then some x else none) := Lib.hid (fun e ht => by
              obtain ⟨⟨a, c, h1, h2, h3⟩, h8, h9⟩ := HXX.out e
              obtain rfl : a = 1 := UInt8.toNat_inj.1 (by show a.toNat = 1; have := HK1.out; omega)
              obtain ⟨h4, h5⟩ := HCO.out.yes e
              have h6 := congrArg List.length h5
              rw [Array.length_toList, List.length_drop, ht] at h6
              have h7 : (⟨#[]⟩ : ByteArray).data.size = 0 := rfl
              have hx : x = nodeR false c.toNat (L.drop 2) := by
                have hc := HXV.out
                obtain ⟨keys, vals, kids⟩ := x
                simp only at h8 h9 hc
                rw [List.take_of_length_le (by rw [List.length_drop, List.length_drop]; omega)] at h9
                rw [h8, h9, hc, h3]
                rfl
              rw [hx]
              exact readN_fits h1 (by decide) (by rw [h3] at h4 h6; show _ = 3 + 5 * c.toNat; omega))
            have HFA := HFULL
            have HLO := HLONG
            have HNS : Hid (sh = true → readN L = none) := Lib.hid HCO.out.no
            have hmark := HRS.out.t.hc
            have hdata := HRS.out.t.dc
            clear HFULL HLONG HCO HXX
            cases sh with
            | true =>
              have HNO0 : Hid (readN L = none) := Lib.hid (HNS.out rfl)
              clear HNS HFA HLO
              have hbn := Tryd.nodeNone
              go_wp2_with fail
              refine (fault_any 2 (by decide) _).mono ?_
              rintro e w8 ⟨v, rfl, he, hb⟩
              have HRE := Lib.hid (HRS.out.carry hb)
              have HEE := Lib.hid he
              have HPL : Hid (P < wr.heap.size) := Lib.hid (Nat.lt_of_lt_of_le (Nat.lt_trans HRS.out.g.pq HRS.out.g.qb) HRS.out.g.sz)
              have HWL : Hid (w.heap.size ≤ wr.heap.size) := Lib.hid HRS.out.g.below.size
              have d0 := HRE.out.g.res.c0
              have d1 := HRE.out.g.res.c1
              have d2 := HRE.out.g.res.c2
              have f0 := HRE.out.g.fp 0
              have f1 := HRE.out.g.fp 1
              have f2 := HRE.out.g.fp 2
              clear he hb
              obtain ⟨w9, HW9⟩ : ∃ w9, Hid (w9 = ((w8.setCell ⟨P, 0, none⟩ (.slice none 0 0)).setCell ⟨P, 1, none⟩ (.slice none 0 0)).setCell ⟨P, 2, none⟩ (.slice none 0 0)) := ⟨_, Lib.hid rfl⟩
              have HBX9 : Hid (NdBox w9 P Lay3.none_ Nd.empty) := Lib.hid (by rw [HW9.out]; exact NdBox.set3 (l := Lay3.none_) (x := Nd.empty) d0 d1 d2)
              have HB9 : Hid (Below w.heap.size w w9) := Lib.hid (by
                have hp := HRE.out.g.lo
                rw [HW9.out]
                exact ((HRE.out.g.below.setCell hp _).setCell hp _).setCell hp _)
              have HE9 : Hid (ErrFrom w9 w.heap.size 2 v) := Lib.hid (by
                refine (HEE.out.carry (w' := w9) (by rw [HW9.out]; simp) fun i h1 _ => ?_).mono HWL.out
                have := HPL.out
                rw [HW9.out, World.heap_setCell_far9 _ _ _ (by show i ≠ P; omega), World.heap_setCell_far9 _ _ _ (by show i ≠ P; omega), World.heap_setCell_far9 _ _ _ (by show i ≠ P; omega)])
              have HNO : Hid (readN L = none) := Lib.hid (HNO0.out)
              go_wp2_with fail
              rw [← HW9.out, HPO.out]
              exact bodyPost_ret (results_nd2 Tryd.ndProg rfl _ _ P Lay3.none_ Nd.empty v rfl rfl HBX9.out) rfl (.inl ⟨HNO.out, v, rfl, HE9.out, HB9.out⟩)
            | false =>
              by_cases ht0 : t.size = 0
              case neg =>
                have htn : (t.toList == ([] : List UInt8)) = false := by
                  rw [beq_eq_false_iff_ne, ByteArray.toList_eq]
                  intro e
                  have := congrArg List.length e
                  rw [Array.length_toList] at this
                  exact ht0 this
                have HNO0 : Hid (readN L = none) := Lib.hid (HLO.out rfl ht0)
                clear ht0 HNS HFA HLO
                have hbn := Tryd.nodeNone
                go_wp2_with fail
                refine (fault_any 2 (by decide) _).mono ?_
                rintro e w8 ⟨v, rfl, he, hb⟩
                have HRE := Lib.hid (HRS.out.carry hb)
                have HEE := Lib.hid he
                have HPL : Hid (P < wr.heap.size) := Lib.hid (Nat.lt_of_lt_of_le (Nat.lt_trans HRS.out.g.pq HRS.out.g.qb) HRS.out.g.sz)
                have HWL : Hid (w.heap.size ≤ wr.heap.size) := Lib.hid HRS.out.g.below.size
                have d0 := HRE.out.g.res.c0
                have d1 := HRE.out.g.res.c1
                have d2 := HRE.out.g.res.c2
                have f0 := HRE.out.g.fp 0
                have f1 := HRE.out.g.fp 1
                have f2 := HRE.out.g.fp 2
                clear he hb
                obtain ⟨w9, HW9⟩ : ∃ w9, Hid (w9 = ((w8.setCell ⟨P, 0, none⟩ (.slice none 0 0)).setCell ⟨P, 1, none⟩ (.slice none 0 0)).setCell ⟨P, 2, none⟩ (.slice none 0 0)) := ⟨_, Lib.hid rfl⟩
                have HBX9 : Hid (NdBox w9 P Lay3.none_ Nd.empty) := Lib.hid (by rw [HW9.out]; exact NdBox.set3 (l := Lay3.none_) (x := Nd.empty) d0 d1 d2)
                have HB9 : Hid (Below w.heap.size w w9) := Lib.hid (by
                  have hp := HRE.out.g.lo
                  rw [HW9.out]
                  exact ((HRE.out.g.below.setCell hp _).setCell hp _).setCell hp _)
                have HE9 : Hid (ErrFrom w9 w.heap.size 2 v) := Lib.hid (by
                  refine (HEE.out.carry (w' := w9) (by rw [HW9.out]; simp) fun i h1 _ => ?_).mono HWL.out
                  have := HPL.out
                  rw [HW9.out, World.heap_setCell_far9 _ _ _ (by show i ≠ P; omega), World.heap_setCell_far9 _ _ _ (by show i ≠ P; omega), World.heap_setCell_far9 _ _ _ (by show i ≠ P; omega)])
                have HNO : Hid (readN L = none) := Lib.hid (HNO0.out)
                go_wp2_with fail
                rw [← HW9.out, HPO.out]
                exact bodyPost_ret (results_nd2 Tryd.ndProg rfl _ _ P Lay3.none_ Nd.empty v rfl rfl HBX9.out) rfl (.inl ⟨HNO.out, v, rfl, HE9.out, HB9.out⟩)
              case pos =>
                obtain rfl : t = ⟨#[]⟩ := by
                  apply ByteArray.ext
                  exact Array.eq_empty_of_size_eq_zero ht0
                have HON := Lib.hid (HFA.out rfl rfl)
                clear HFA HLO HNS
                obtain ⟨A, ca, rfl, hnk⟩ := owned_nums HRS.out.g.k
                obtain ⟨B, cb, rfl, hnv⟩ := owned_strs HRS.out.g.v
                obtain ⟨C, cc, rfl, hnc⟩ := owned_nums HRS.out.g.c
                have HFA : Hid (∀ a, A = some a → P ≠ a.block) := Lib.hid (by rintro a rfl; have h1 := (HRS.out.g.k.lt a.block rfl).1; have h2 := HRS.out.g.qb; have h3 := HRS.out.g.pq; omega)
                have HFB : Hid (∀ a, B = some a → P ≠ a.block) := Lib.hid (by rintro a rfl; have h1 := (HRS.out.g.v.lt a.block rfl).1; have h2 := HRS.out.g.qb; have h3 := HRS.out.g.pq; omega)
                have HFC : Hid (∀ a, C = some a → P ≠ a.block) := Lib.hid (by rintro a rfl; have h1 := (HRS.out.g.c.lt a.block rfl).1; have h2 := HRS.out.g.qb; have h3 := HRS.out.g.pq; omega)
                have HBX : Hid (NdBox wr q ⟨A, B, C, ca, cb, cc⟩ x) := Lib.hid ⟨HRS.out.g.c0, HRS.out.g.c1, HRS.out.g.c2⟩
                have HIS : Hid (NdIs wr ⟨A, B, C, ca, cb, cc⟩ x) := Lib.hid (HWD.out.is hnk hnv hnc)
                clear hnk hnv hnc
                obtain ⟨rr, HRX⟩ : ∃ rr, Hid (rr = rightN x) := ⟨_, Lib.hid rfl⟩
                go_wp2_with (with_reducible refine stop_at (o := ⟨some 65, _, _, _, _, _⟩) ?_)
                refine wpList_load_nd Tryd.ndProg (by rfl) _ rfl q rfl ⟨A, B, C, ca, cb, cc⟩ x HBX.out ?_
                go_wp2_with fail
                refine (Right_any HIS.out).mono ?_
                rw [← HRX.out]
                rintro e w7 ⟨rfl, hb⟩
                have HRS7 := Lib.hid (HRS.out.carry hb)
                have HBX7 := Lib.hid (HBX.out.carry hb HBX.out.lt)
                have HIS7 := Lib.hid (HIS.out.carry hb)
                clear hb HBX HIS hmark hdata HRS
                cases rr with
                | true =>
                  have d0 := HRS7.out.g.res.c0
                  have d1 := HRS7.out.g.res.c1
                  have d2 := HRS7.out.g.res.c2
                  have f0 := HRS7.out.g.fp 0
                  have f1 := HRS7.out.g.fp 1
                  have f2 := HRS7.out.g.fp 2
                  obtain ⟨w9, HW9⟩ : ∃ w9, Hid (w9 = ((w7.setCell ⟨P, 0, none⟩ (.slice A x.keys.length ca)).setCell ⟨P, 1, none⟩ (.slice B x.vals.length cb)).setCell ⟨P, 2, none⟩ (.slice C x.kids.length cc)) := ⟨_, Lib.hid rfl⟩
                  have HBX9 : Hid (NdBox w9 P ⟨A, B, C, ca, cb, cc⟩ x) := Lib.hid (by rw [HW9.out]; exact NdBox.set3 (l := ⟨A, B, C, ca, cb, cc⟩) (x := x) d0 d1 d2)
                  have HIS9 : Hid (NdIs w9 ⟨A, B, C, ca, cb, cc⟩ x) := Lib.hid (by rw [HW9.out]; exact ((HIS7.out.setCell HFA.out HFB.out HFC.out _ _).setCell HFA.out HFB.out HFC.out _ _).setCell HFA.out HFB.out HFC.out _ _)
                  have HB9 : Hid (Below w.heap.size w w9) := Lib.hid (by
                    have hp := HRS7.out.g.lo
                    rw [HW9.out]
                    exact ((HRS7.out.g.below.setCell hp _).setCell hp _).setCell hp _)
                  have HNO : Hid (readN L = some x) := Lib.hid (by rw [HON.out, if_pos HRX.out.symm])
                  go_wp2_with (with_reducible refine stop_at (o := ⟨some 71, _, _, _, _, _⟩) ?_)
                  refine wpList_load_nd Tryd.ndProg (by rfl) _ rfl q rfl ⟨A, B, C, ca, cb, cc⟩ x HBX7.out ?_
                  go_wp2_with fail
                  rw [← HW9.out, HPO.out]
                  exact bodyPost_ret (results_nd2 Tryd.ndProg rfl _ _ P ⟨A, B, C, ca, cb, cc⟩ x .nilIface rfl rfl HBX9.out) rfl (.inr ⟨x, ⟨A, B, C, ca, cb, cc⟩, HNO.out, rfl, HIS9.out, HB9.out⟩)
                | false =>
                  have hbn := Tryd.nodeNone
                  go_wp2_with fail
                  refine (fault_any 2 (by decide) _).mono ?_
                  rintro e w8 ⟨v, rfl, he, hb⟩
                  have HRE := Lib.hid (HRS7.out.carry hb)
                  have HEE := Lib.hid he
                  have HPL : Hid (P < w7.heap.size) := Lib.hid (Nat.lt_of_lt_of_le (Nat.lt_trans HRS7.out.g.pq HRS7.out.g.qb) HRS7.out.g.sz)
                  have HWL : Hid (w.heap.size ≤ w7.heap.size) := Lib.hid HRS7.out.g.below.size
                  have d0 := HRE.out.g.res.c0
                  have d1 := HRE.out.g.res.c1
                  have d2 := HRE.out.g.res.c2
                  have f0 := HRE.out.g.fp 0
                  have f1 := HRE.out.g.fp 1
                  have f2 := HRE.out.g.fp 2
                  clear he hb
                  obtain ⟨w9, HW9⟩ : ∃ w9, Hid (w9 = ((w8.setCell ⟨P, 0, none⟩ (.slice none 0 0)).setCell ⟨P, 1, none⟩ (.slice none 0 0)).setCell ⟨P, 2, none⟩ (.slice none 0 0)) := ⟨_, Lib.hid rfl⟩
                  have HBX9 : Hid (NdBox w9 P Lay3.none_ Nd.empty) := Lib.hid (by rw [HW9.out]; exact NdBox.set3 (l := Lay3.none_) (x := Nd.empty) d0 d1 d2)
                  have HB9 : Hid (Below w.heap.size w w9) := Lib.hid (by
                    have hp := HRE.out.g.lo
                    rw [HW9.out]
                    exact ((HRE.out.g.below.setCell hp _).setCell hp _).setCell hp _)
                  have HE9 : Hid (ErrFrom w9 w.heap.size 2 v) := Lib.hid (by
                    refine (HEE.out.carry (w' := w9) (by rw [HW9.out]; simp) fun i h1 _ => ?_).mono HWL.out
                    have := HPL.out
                    rw [HW9.out, World.heap_setCell_far9 _ _ _ (by show i ≠ P; omega), World.heap_setCell_far9 _ _ _ (by show i ≠ P; omega), World.heap_setCell_far9 _ _ _ (by show i ≠ P; omega)])
                  have HNO : Hid (readN L = none) := Lib.hid (by rw [HON.out, if_neg (by rw [← HRX.out]; decide)])
                  go_wp2_with fail
                  rw [← HW9.out, HPO.out]
                  exact bodyPost_ret (results_nd2 Tryd.ndProg rfl _ _ P Lay3.none_ Nd.empty v rfl rfl HBX9.out) rfl (.inl ⟨HNO.out, v, rfl, HE9.out, HB9.out⟩)
      · have hbn := Tryd.nodeNone
        have hke : ¬ (kn : Int) = 0 := by omega
        have hke2 : ¬ (kn : Int) = 1 := by omega
        have HNO2 : Hid (readN L = none) := Lib.hid (by
          cases sh with
          | true => exact HCO.out.no rfl
          | false =>
            obtain ⟨a, c, h1, h2, h3⟩ := (HXX.out rfl).1
            exact readN_kind h1 (by omega) (by omega))
        go_wp2_with fail
        refine (fault_any 2 (by decide) _).mono ?_
        rintro e w8 ⟨v, rfl, he, hb⟩
        have HRE := Lib.hid (HRS.out.carry hb)
        have HEE := Lib.hid he
        have HPL : Hid (P < wr.heap.size) := Lib.hid (Nat.lt_of_lt_of_le (Nat.lt_trans HRS.out.g.pq HRS.out.g.qb) HRS.out.g.sz)
        have HWL : Hid (w.heap.size ≤ wr.heap.size) := Lib.hid HRS.out.g.below.size
        have d0 := HRE.out.g.res.c0
        have d1 := HRE.out.g.res.c1
        have d2 := HRE.out.g.res.c2
        have f0 := HRE.out.g.fp 0
        have f1 := HRE.out.g.fp 1
        have f2 := HRE.out.g.fp 2
        clear he hb
        obtain ⟨w9, HW9⟩ : ∃ w9, Hid (w9 = ((w8.setCell ⟨P, 0, none⟩ (.slice none 0 0)).setCell ⟨P, 1, none⟩ (.slice none 0 0)).setCell ⟨P, 2, none⟩ (.slice none 0 0)) := ⟨_, Lib.hid rfl⟩
        have HBX9 : Hid (NdBox w9 P Lay3.none_ Nd.empty) := Lib.hid (by rw [HW9.out]; exact NdBox.set3 (l := Lay3.none_) (x := Nd.empty) d0 d1 d2)
        have HB9 : Hid (Below w.heap.size w w9) := Lib.hid (by
          have hp := HRE.out.g.lo
          rw [HW9.out]
          exact ((HRE.out.g.below.setCell hp _).setCell hp _).setCell hp _)
        have HE9 : Hid (ErrFrom w9 w.heap.size 2 v) := Lib.hid (by
          refine (HEE.out.carry (w' := w9) (by rw [HW9.out]; simp) fun i h1 _ => ?_).mono HWL.out
          have := HPL.out
          rw [HW9.out, World.heap_setCell_far9 _ _ _ (by show i ≠ P; omega), World.heap_setCell_far9 _ _ _ (by show i ≠ P; omega), World.heap_setCell_far9 _ _ _ (by show i ≠ P; omega)])
        have HNO : Hid (readN L = none) := Lib.hid (HNO2.out)
        go_wp2_with fail
        rw [← HW9.out, HPO.out]
        exact bodyPost_ret (results_nd2 Tryd.ndProg rfl _ _ P Lay3.none_ Nd.empty v rfl rfl HBX9.out) rfl (.inl ⟨HNO.out, v, rfl, HE9.out, HB9.out⟩)
end Go.Proofs.YtakpjphgkpaipaaDoor
