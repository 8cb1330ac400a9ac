/-
  The contract of the program's own spread of layer 16: the field of what lies in the heap. Conditions: none beyond the premises of each theorem.
-/
import Derived.Test.YtiffgmgefpoblaaDoorFieldMath
import Derived.Test.YtiffgmgefpoblaaDoorFieldRepeat
import Derived.Test.YtiffgmgefpoblaaDoorHeapSorted
import Derived.Test.YtiffgmgefpoblaaDoorGridLaw
import Derived.Test.YtiffgmgefpoblaaDoorGridNearOwn
import Derived.Deep.LoopGhost
namespace Go.Proofs.YtiffgmgefpoblaaDoor
open Go.RowKit Hp Fld

theorem right_small {W H : Int} {s : ByteArray} (h : rightM W H s = true) : ∃ a b : Nat, W = a ∧ H = b ∧ 1 ≤ a ∧ a ≤ 8 ∧ 1 ≤ b ∧ b ≤ 8 ∧ s.data.toList.length = s.size ∧ 1 ≤ s.size ∧ s.size ≤ 64 := by
  have hr := (Grid.rightB_iff.1 h).1
  obtain ⟨a, b, h1, h2, h3, h4, h5, h6, h7, h8⟩ := Grid.sized_nat hr
  have hl := size_list s
  have h9 : 1 * 1 ≤ a * b := Nat.mul_le_mul h3 h5
  exact ⟨a, b, h1, h2, h3, h4, h5, h6, hl, by omega, by omega⟩
/-- what lies in memory while the field is spread -/
structure SpI (B hb q g : Nat) (W H : Int) (s : ByteArray) (w0 : World) (v : Value) (L : List Itm) (F : List Int) (wr : World) : Prop where
  hp : HpAt wr B hb v L
  isHp : IsHp L
  row : COwn wr g (rowV F)
  at_ : MapAt wr q W H s
  vg : v.ownBlock ≠ some g
  vq : v.ownBlock ≠ some q
  hg : hb ≠ g
  hq : hb ≠ q
  qg : q ≠ g
  Bg : B ≤ g
  gl : g < wr.heap.size
  ql : q < wr.heap.size
  Bw : B ≤ wr.heap.size
  below : Below B w0 wr
section
variable {B hb q g : Nat} {W H : Int} {s : ByteArray} {w0 w w' : World} {v v' : Value} {L L' : List Itm} {F : List Int}
theorem SpI.carry (h : SpI B hb q g W H s w0 v L F w) (hb' : Below w.heap.size w w') : SpI B hb q g W H s w0 v L F w' :=
  ⟨h.hp.carry hb', h.isHp, h.row.below hb' h.gl, h.at_.carry hb', h.vg, h.vq, h.hg, h.hq, h.qg, h.Bg, Nat.lt_of_lt_of_le h.gl hb'.size, Nat.lt_of_lt_of_le h.ql hb'.size, Nat.le_trans h.Bw hb'.size, h.below.trans (hb'.mono h.Bw)⟩
/-- the heap is turned by Push or Pop -/
theorem SpI.turn (h : SpI B hb q g W H s w0 v L F w) (h1 : HpAt w' B hb v' L') (h2 : IsHp L') (h4 : But2 (some hb) v.ownBlock w w') (h5 : v'.ownBlock = v.ownBlock ∨ ∀ k, v'.ownBlock = some k → w.heap.size ≤ k) : SpI B hb q g W H s w0 v' L' F w' := by
  have kg : w'.heap[g]? = w.heap[g]? := h4.block g h.gl (fun e => h.hg (Option.some.inj e).symm) (fun e => h.vg e.symm)
  have kq : w'.heap[q]? = w.heap[q]? := h4.block q h.ql (fun e => h.hq (Option.some.inj e).symm) (fun e => h.vq e.symm)
  refine ⟨h1, h2, h.row.block kg, kq.trans h.at_, ?_, ?_, h.hg, h.hq, h.qg, h.Bg, Nat.lt_of_lt_of_le h.gl h4.size, Nat.lt_of_lt_of_le h.ql h4.size, Nat.le_trans h.Bw h4.size, h.below.trans (h4.below h.Bw (fun k hk => by cases hk; exact h.hp.far) (fun k hk => (h.hp.row.lt k hk).1))⟩
  · rcases h5 with h5 | h5
    · rw [h5]; exact h.vg
    · intro e; have := h5 g e; have := h.gl; omega
  · rcases h5 with h5 | h5
    · rw [h5]; exact h.vq
    · intro e; have := h5 q e; have := h.ql; omega
/-- a cost is laid -/
theorem SpI.put (h : SpI B hb q g W H s w0 v L F w) {i : Nat} (hi : i < F.length) (z : Int) : SpI B hb q g W H s w0 v L (F.set i z) (w.setCell ⟨g, i, none⟩ (.int .i64 z)) := by
  have hsz : (w.setCell ⟨g, i, none⟩ (.int .i64 z)).heap.size = w.heap.size := by simp [World.setCell]
  refine ⟨hp_other h.hp h.hg h.vg i [.int .i64 z], h.isHp, ?_, (Below.heap_setCell _ _ _ _ h.qg).trans h.at_, h.vg, h.vq, h.hg, h.hq, h.qg, h.Bg, by rw [hsz]; exact h.gl, by rw [hsz]; exact h.ql, by rw [hsz]; exact h.Bw, h.below.setCell h.Bg _⟩
  have := h.row.put (i := i) (by simpa using hi) (.int .i64 z)
  rwa [show (rowV F).set i (.int .i64 z) = rowV (F.set i z) by simp [rowV, List.map_set]] at this
theorem SpI.cell (h : SpI B hb q g W H s w0 v L F w) {i : Nat} (hi : i < F.length) : w.cell? ⟨g, i, none⟩ = some (.int .i64 (fat F i)) := h.row.cell (rowV_at (fat_eq hi))
end
set_option maxRecDepth 100000 in
theorem spread_any {w : World} {B hb : Nat} {v : Value} {L : List Itm} {S : List Int} {st : Int} (W H : Int) (s : ByteArray) (hr : rightM W H s = true) (hs1 : 1 ≤ st) (hs2 : st ≤ 100) (hp : HpAt w B hb v L) (hh : IsHp L) (hn : L.length ≤ 64)
    (hL : ∀ x, x ∈ L ↔ ∃ i : Nat, (i : Int) ∈ S ∧ Grid.openAt s.data.toList i = true ∧ x = (0, (i : Int))) (hB : B ≤ w.heap.size) :
    Calls Tryd.prog 26 #[.agg #[.int .i64 W, .int .i64 H, .string s], ptr9 hb, .int .i64 st] w fun e w' => ∃ g F, e = .returned (.slice (some ⟨g, 0, none⟩) F.length F.length) ∧ w.heap.size ≤ g ∧ COwn w' g (rowV F) ∧ IsField s.data.toList W.toNat S st F ∧ Below B w w' := by
  obtain ⟨a, b, e1, e2, ha1, ha8, hb1, hb8, hlen, hs0, hs64⟩ := right_small hr
  have HR := Lib.hid hr
  have HH := Lib.hid hh
  have HLS := Lib.hid hL
  have HLN := Lib.hid hlen
  have HB := Lib.hid hB
  have HN := Lib.hid hn
  have HE1 := Lib.hid e1
  clear hr hh hL hlen hB hn e1 e2 hb1 hb8
  obtain ⟨w1, HW1⟩ : ∃ w1, Hid (w1 = w.alloc (.cells #[.int .i64 W, .int .i64 H, .string s] 30)) := ⟨_, Lib.hid rfl⟩
  obtain ⟨q, HQ⟩ : ∃ q, Hid (q = w.heap.size) := ⟨_, Lib.hid rfl⟩
  have hbw : Below w.heap.size w w1 := by rw [HW1.out]; exact (Below.refl _ _).alloc (Nat.le_refl _) _
  have HM1 : Hid (MapAt w1 q W H s) := Lib.hid (by rw [HW1.out, HQ.out]; exact heap_alloc_new w _)
  have HP1 : Hid (HpAt w1 B hb v L) := Lib.hid (hp.carry hbw)
  have HB1 : Hid (Below B w w1) := Lib.hid (hbw.mono HB.out)
  have HQW : Hid (w.heap.size ≤ q ∧ q < w1.heap.size ∧ hb < q ∧ ∀ k, v.ownBlock = some k → k < q) := Lib.hid (by
    rw [HQ.out]
    exact ⟨Nat.le_refl _, by rw [HW1.out, World.size_alloc]; omega, hp.lt, fun k hk => (hp.row.lt k hk).2⟩)
  have HLT1 : Hid (q < w1.heap.size) := Lib.hid HQW.out.2.1
  clear hbw hp
  have hrp := fun (w2 : World) (p : Nat) (hx : w2.cell? ⟨p, 0, none⟩ = some (.int .i64 (-1))) => Repeat_any (n := s.size) hx hs0 (by omega)
  have HRP := Lib.hid hrp
  clear hrp
  go_enter Tryd.func26, Tryd.ntmps26
  go_wp2_with fail
  go_step3
  go_wp2_with (with_reducible refine stop_at (o := ⟨some 12, _, _, _, _, _⟩) ?_)
  unfold Stopped
  rw [← HW1.out, ← HQ.out]
  refine wpList_nums rfl 24 3 .i64 1 _ rfl [-1] Tryd.underlying24 oneInt7 (by kernel_rfl) rfl (by decide) (by decide) rfl ?_
  intro w2 p hpe hnm hbl
  have HX2 : Hid (w2.cell? ⟨p, 0, none⟩ = some (.int .i64 (-1))) := Lib.hid (by
    obtain ⟨a9, h1, _, h3⟩ := hnm.out (by simp)
    cases h1
    have := h3 0 (-1) rfl
    simpa [Addr.add] using this)
  have HM2 : Hid (MapAt w2 q W H s) := Lib.hid (HM1.out.carry hbl.out)
  have HP2 : Hid (HpAt w2 B hb v L) := Lib.hid (HP1.out.carry hbl.out)
  have HQ2 : Hid (q < w2.heap.size ∧ w.heap.size ≤ w2.heap.size) := Lib.hid ⟨Nat.lt_of_lt_of_le HQW.out.2.1 hbl.out.size, Nat.le_trans HB1.out.size hbl.out.size⟩
  have HB2 : Hid (Below B w w2) := Lib.hid (HB1.out.trans (hbl.out.mono (by have := HB.out; have := HB1.out.size; omega)))
  have hre := Lib.hid (HRP.out w2 p HX2.out)
  clear hnm hbl HRP HM1 HP1 HB1 HW1 HX2 hpe HLT1
  have cs := HM2.out.s_
  simp only [Act.put, List.setIfInBounds_toArray, List.set_cons_zero, List.set_cons_succ]
  go_wp2_with fail
  refine hre.out.mono ?_
  rintro e w3 ⟨g, rfl, hg1, hg2, hb3⟩
  clear hre cs
  obtain ⟨F0, HF0⟩ : ∃ F0, Hid (F0 = List.replicate s.size (-1 : Int)) := ⟨_, Lib.hid rfl⟩
  have HS3 : Hid (SpI B hb q g W H s w v L F0 w3) := Lib.hid (by
    rw [HF0.out]
    refine ⟨HP2.out.carry hb3, HH.out, hg2, HM2.out.carry hb3, ?_, ?_, ?_, ?_, ?_, ?_, hg2.lt (by simp [rowV]; omega), Nat.lt_of_lt_of_le HQ2.out.1 hb3.size, ?_, HB2.out.trans (hb3.mono ?_)⟩
    · intro e; have := HQW.out.2.2.2 g e; have := HQ2.out.1; omega
    · intro e; have := HQW.out.2.2.2 q e; omega
    · have := HQW.out.2.2.1; have := HQ2.out.1; omega
    · have := HQW.out.2.2.1; omega
    · have := HQ2.out.1; omega
    · have := HQ2.out.2; have := HB.out; omega
    · have := HQ2.out.2; have := HB.out; have := hb3.size; omega
    · have := HQ2.out.2; have := HB.out; omega)
  have HD3 : Hid (Dij s.data.toList a S st F0 L) := Lib.hid (by
    have := Dij.start (w := a) (st := st) HLS.out
    rw [HLN.out] at this
    rw [HF0.out]; exact this)
  have HGW : Hid (w.heap.size ≤ g) := Lib.hid (by have := HQ2.out.2; omega)
  clear hg1 hg2 hb3 HP2 HM2 HQ2 HB2 HQW HLS HF0 HB
  go_wp2_with fail
  go_step3
  go_wp2_with fail
  go_loopg [] (L.length + 6 * (s.size - cnt F0) + 1) (fun k wr => ∃ (v : Value) (L : List Itm) (F : List Int), k = L.length + 6 * (s.size - cnt F) + 1 ∧ L.length + 6 * (s.size - cnt F) ≤ 450 ∧ SpI B hb q g W H s w v L F wr ∧ Dij s.data.toList a S st F L)
  case atStart => exact ⟨v, L, F0, rfl, by have := HN.out; omega, HS3.out, HD3.out⟩
  case round =>
    clear HS3 HD3 HH HN
    obtain ⟨v, L, F, hgk, hle, hst, hdij⟩ := hrel
    have HGK := Lib.hid hgk
    have HLE := Lib.hid hle
    have HST := Lib.hid hst
    have HD := Lib.hid hdij
    clear hgk hle hst hdij
    have hpo := Lib.hid (Pop_any HST.out.hp HST.out.isHp (by have := HLE.out; omega))
    go_wp2_with fail
    refine hpo.out.mono ?_
    rintro e w4 ⟨v5, M5, rfl, h4, h5, h6, h7, h8, h9⟩
    obtain ⟨x, HX⟩ : ∃ x, Hid (x = at2 L 0) := ⟨_, Lib.hid rfl⟩
    obtain ⟨ok, HOK⟩ : ∃ ok, Hid (ok = decide (0 < L.length)) := ⟨_, Lib.hid rfl⟩
    rw [← HX.out, ← HOK.out]
    have HS4 : Hid (SpI B hb q g W H s w v5 M5 F w4) := Lib.hid (HST.out.turn h4 h5 h7 (.inl h6))
    have HPE : Hid (0 < L.length → L.Perm (x :: M5)) := Lib.hid (by rw [HX.out]; exact h8)
    have HNI : Hid (L.length = 0 → M5 = []) := Lib.hid h9
    have HLE0 : Hid (∀ y ∈ L, le2 x y) := Lib.hid (by rw [HX.out]; exact fun y hy => HST.out.isHp.least_mem hy)
    have HXM : Hid (0 < L.length → x ∈ L) := Lib.hid (by rw [HX.out]; exact fun h => at2_mem h)
    clear h4 h5 h6 h7 h8 h9 hpo HST HX
    go_wp2_with (with_reducible refine stop_at (o := ⟨none, _, _, _, _, _⟩) ?_)
    unfold Stopped
    refine wpList_store_last rfl _ _ _ rfl _ (itC x).toArray _ rfl rfl rfl dueTy.size rfl (all_oneCell_toArray (itC_one x)) ?_
    obtain ⟨w5, HW5⟩ : ∃ w5, Hid (w5 = w4.alloc (.cells (itC x).toArray 52)) := ⟨_, Lib.hid rfl⟩
    obtain ⟨bx, HBB⟩ : ∃ bx, Hid (bx = w4.heap.size) := ⟨_, Lib.hid rfl⟩
    rw [← HW5.out, ← HBB.out]
    have hb5 : Below w4.heap.size w4 w5 := by rw [HW5.out]; exact (Below.refl _ _).alloc (Nat.le_refl _) _
    have HS5 : Hid (SpI B hb q g W H s w v5 M5 F w5) := Lib.hid (HS4.out.carry hb5)
    have HC5 : Hid (COwn w5 bx (itC x)) := Lib.hid (by rw [HW5.out, HBB.out]; exact COwn.new (itC x) _)
    have HBX : Hid (bx ≠ g ∧ bx ≠ hb ∧ v5.ownBlock ≠ some bx) := Lib.hid (by
      rw [HBB.out]
      exact ⟨by have := HS4.out.gl; omega, by have := HS4.out.hp.lt; omega, fun e => by have := (HS4.out.hp.row.lt _ e).2; omega⟩)
    clear hb5 HW5 HBB HS4
    by_cases h0 : L.length = 0
    · have hok : ok = false := by rw [HOK.out]; simp [h0]
      subst hok
      have HD9 : Hid (IsField s.data.toList a S st F) := Lib.hid (by
        have hd := HD.out
        rw [List.length_eq_zero_iff.1 h0] at hd
        exact hd.done)
      have hfl : F.length = s.size := by rw [HD.out.len, HLN.out]
      go_wp2_with fail
      rw [Exit.noGoto_ret]
      go_ret
      exact ⟨g, F, by rw [hfl]; rfl, HGW.out, HS5.out.row, by rw [HE1.out]; exact HD9.out, HS5.out.below⟩
    · have hok : ok = true := by rw [HOK.out]; simp; omega
      subst hok
      clear HOK
      obtain ⟨k, i, hx, hw, hk⟩ := HD.out.items x (HXM.out (by omega))
      have hil : i < s.size := by have := hw.lt; rw [HLN.out] at this; exact this
      have hfl : F.length = s.size := by rw [HD.out.len, HLN.out]
      have HXE := Lib.hid hx
      have HW := Lib.hid hw
      have HK := Lib.hid hk
      have HFL := Lib.hid hfl
      have HPE := Lib.hid (HPE.out (by omega))
      clear hx hw hk HXM HNI
      have e2 : x.2 = (i : Int) := by rw [HXE.out]
      have c0 : w5.cell? ⟨bx, 1, none⟩ = some (.int .i64 (i : Int)) := by have := HC5.out.cell (j := 1) rfl; rw [e2] at this; exact this
      have c1 := HS5.out.cell (i := i) (by rw [hfl]; exact hil)
      by_cases hf : fat F i = -1
      · rw [hf] at c1
        clear hfl
        obtain ⟨z, HZ⟩ : ∃ z, Hid (z = st * (k : Int)) := ⟨_, Lib.hid rfl⟩
        have HKC : Hid (k ≤ 64) := Lib.hid (by have := HK.out; have := cnt_le F; rw [HFL.out] at this; omega)
        have hz0 : 0 ≤ z := by rw [HZ.out]; exact mul_nn k hs1
        have hz1 : z ≤ 100000 := by rw [HZ.out]; exact mul_bound hs2 (by have := HKC.out; omega)
        have c2 : w5.cell? ⟨bx, 0, none⟩ = some (.int .i64 z) := by have := HC5.out.cell (j := 0) rfl; rw [show x.1 = z by rw [HXE.out, HZ.out]] at this; exact this
        have c3 := HS5.out.row.free i
        obtain ⟨w6, HW6⟩ : ∃ w6, Hid (w6 = w5.setCell ⟨g, i, none⟩ (.int .i64 z)) := ⟨_, Lib.hid rfl⟩
        obtain ⟨F', HF⟩ : ∃ F', Hid (F' = F.set i z) := ⟨_, Lib.hid rfl⟩
        have hset := HW6.out.symm
        have HS6 : Hid (SpI B hb q g W H s w v5 M5 F' w6) := Lib.hid (by rw [HW6.out, HF.out]; exact HS5.out.put (by rw [HFL.out]; exact hil) z)
        have HC6 : Hid (COwn w6 bx (itC x)) := Lib.hid (by rw [HW6.out]; exact HC5.out.far HBX.out.1 i _)
        have HD6 : Hid (DijE s.data.toList a S st (Fld.Rest i []) F' M5) := Lib.hid (by rw [HF.out, HZ.out]; exact HD.out.settle hs1 HPE.out HLE0.out HXE.out HW.out hf)
        have HCN : Hid (cnt F' = cnt F + 1 ∧ cnt F' ≤ s.size ∧ F'.length = s.size ∧ fat F' i = z) := Lib.hid (by
          have h1 := cnt_new (F := F) (i := i) (v := z) (by rw [HFL.out]; exact hil) hf (by omega)
          have h2 := cnt_le (F.set i z)
          rw [List.length_set, HFL.out] at h2
          rw [HF.out]
          exact ⟨h1, h2, by rw [List.length_set, HFL.out], by rw [fat_set (by rw [HFL.out]; exact hil), if_pos rfl]⟩)
        have c4 : w6.cell? ⟨bx, 1, none⟩ = some (.int .i64 (i : Int)) := by have := HC6.out.cell (j := 1) rfl; rw [e2] at this; exact this
        have m0 := HS6.out.at_.w_
        have m1 := HS6.out.at_.h_
        have m2 := HS6.out.at_.s_
        clear HS5 HC5 HD HF HLE0
        go_wp2_with fail
        refine (Near_own W H s (i : Int) (by unfold maxLen; omega) w6).mono ?_
        rintro e w7 ⟨A, cap, rfl, hnm, hb7, hfar⟩
        have hln : nearM W H s (i : Int) = Grid.nears s.data.toList a i := by
          unfold nearM
          rw [openM_on hil, HW.out.open_, HR.out, HE1.out]
          rfl
        rw [hln] at hnm ⊢
        obtain ⟨l, HL⟩ : ∃ l, Hid (l = Grid.nears s.data.toList a i) := ⟨_, Lib.hid rfl⟩
        rw [← HL.out] at hnm ⊢
        have HLL : Hid (l.length ≤ 4 ∧ ∀ n ∈ l, Grid.openAt s.data.toList n = true ∧ Grid.beside a i n = true) := Lib.hid (by
          rw [HL.out]
          exact ⟨Grid.nears_length_le ha1 ha8, fun n hn => Grid.mem_nears.1 hn⟩)
        have HNM := Lib.hid hnm
        have HS7 : Hid (SpI B hb q g W H s w v5 M5 F' w7) := Lib.hid (HS6.out.carry hb7)
        have HC7 : Hid (COwn w7 bx (itC x)) := Lib.hid (HC6.out.carry hb7 (by simp))
        have HA7 : Hid (0 < l.length → ∀ c, A = some c → c.block ≠ hb ∧ v5.ownBlock ≠ some c.block ∧ c.block < w7.heap.size) := Lib.hid (fun hl0 c hc => by
          have h1 := hfar c hc
          have h2 := HS6.out.hp.lt
          refine ⟨by omega, fun e => by have := (HS6.out.hp.row.lt _ e).2; omega, ?_⟩
          obtain ⟨c', e', h3, _⟩ := hnm (by rw [ints_length]; exact hl0)
          rw [hc] at e'
          cases e'
          exact h3)
        clear hnm hb7 hfar hln hset HW6 HS6 HC6 c4 m0 m1 m2 c1 c2 c3
        go_wp2_with fail
        have HMS : Hid (L.length = M5.length + 1) := Lib.hid (by have := HPE.out.length_eq; rwa [List.length_cons] at this)
        go_loopg [43] (l.length + 1) (fun m u wr => ∃ (j : Nat) (v' : Value) (L' : List Itm), m = l.length - j + 1 ∧ u = .int .i64 (j : Int) ∧ j ≤ l.length ∧ L'.length ≤ M5.length + j ∧ SpI B hb q g W H s w v' L' F' wr ∧ DijE s.data.toList a S st (Fld.Rest i (l.take j)) F' L' ∧ COwn wr bx (itC x) ∧ v'.ownBlock ≠ some bx ∧ Nums wr .i64 A (ints l) ∧ (0 < l.length → ∀ c, A = some c → c.block ≠ hb ∧ v'.ownBlock ≠ some c.block ∧ c.block < wr.heap.size))
        case atStart => exact ⟨0, v5, M5, rfl, rfl, Nat.zero_le _, Nat.le_refl _, HS7.out, HD6.out, HC7.out, HBX.out.2.2, HNM.out, HA7.out⟩
        case round =>
          obtain ⟨j, v', L', hgk, rfl, hj, hLl, hst, hdij, hco, hvb, hnu, hA⟩ := hrel
          have HG2 := Lib.hid hgk
          have HJ := Lib.hid hj
          have HLl := Lib.hid hLl
          have HS := Lib.hid hst
          have HDD := Lib.hid hdij
          have HC := Lib.hid hco
          have HVB := Lib.hid hvb
          have HNU := Lib.hid hnu
          have HA := Lib.hid hA
          clear hgk hj hLl hst hdij hco hvb hnu hA HS7 HD6 HC7 HNM HA7
          by_cases hjl : j < l.length
          · obtain ⟨n, HNN⟩ : ∃ n, Hid (n = l[j]) := ⟨_, Lib.hid rfl⟩
            have HNL : Hid (n ∈ l) := Lib.hid (by rw [HNN.out]; exact List.getElem_mem hjl)
            have HTK : Hid (l.take (j + 1) = l.take j ++ [n]) := Lib.hid (by rw [List.take_add_one, List.getElem?_eq_getElem hjl, HNN.out]; rfl)
            obtain ⟨c, hcA, hcc⟩ := HNU.out.at_ (ints_at hjl)
            subst hcA
            rw [← HNN.out] at hcc
            have hnl : n < s.size := by have := Grid.openAt_lt (HLL.out.2 n HNL.out).1; rwa [HLN.out] at this
            have c1 := HS.out.cell (i := n) (by rw [HCN.out.2.2.1]; exact hnl)
            by_cases hf2 : fat F' n = -1
            · rw [hf2] at c1
              have c2 : wr.cell? ⟨bx, 0, none⟩ = some (.int .i64 z) := by have := HC.out.cell (j := 0) rfl; rw [show x.1 = z by rw [HXE.out, HZ.out]] at this; exact this
              have hw9 : wrap64 (z + st) = z + st := by unfold wrap64; omega
              have hpu := Lib.hid (Push_any HS.out.hp HS.out.isHp (by have := HLl.out; have := HLL.out.1; have := HMS.out; have := HLE.out; omega) HS.out.Bw (z + st, (n : Int)))
              go_wp2_with fail
              refine hpu.out.mono ?_
              rintro e w8 ⟨rfl, v8, L8, h1, h2, h3, h4, h5⟩
              have HS8 : Hid (SpI B hb q g W H s w v8 L8 F' w8) := Lib.hid (HS.out.turn h1 h2 h4 h5)
              have HD8 : Hid (DijE s.data.toList a S st (Fld.Rest i (l.take (j + 1))) F' L8) := Lib.hid (by
                rw [HTK.out]
                exact HDD.out.push (k := k) (by rw [HCN.out.2.2.2, HZ.out]) HW.out (by have := HCN.out.1; have := HK.out; omega) (HLL.out.2 n HNL.out).2 (HLL.out.2 n HNL.out).1 (by rw [← HZ.out]; exact h3))
              have HL8 : Hid (L8.length ≤ M5.length + (j + 1)) := Lib.hid (by have := h3.length_eq; rw [List.length_append, List.length_singleton] at this; have := HLl.out; omega)
              have kb : ∀ k, k < wr.heap.size → k ≠ hb → v'.ownBlock ≠ some k → w8.heap[k]? = wr.heap[k]? := fun k h1 h2 h3 => h4.block k h1 (fun e => h2 (Option.some.inj e)) (fun e => h3 e.symm)
              have HC8 : Hid (COwn w8 bx (itC x)) := Lib.hid (HC.out.block (kb bx (HC.out.lt (by simp)) HBX.out.2.1 HVB.out))
              have HV8 : Hid (v8.ownBlock ≠ some bx) := Lib.hid (by
                rcases h5 with h5 | h5
                · rw [h5]; exact HVB.out
                · intro e; have := h5 bx e; have := HC.out.lt (by simp); omega)
              have HA8 : Hid (0 < l.length → ∀ c', some c = some c' → c'.block ≠ hb ∧ v8.ownBlock ≠ some c'.block ∧ c'.block < w8.heap.size) := Lib.hid (fun hl0 c' hc' => by
                obtain ⟨a1, a2, a3⟩ := HA.out hl0 c' hc'
                refine ⟨a1, ?_, Nat.lt_of_lt_of_le a3 h4.size⟩
                rcases h5 with h5 | h5
                · rw [h5]; exact a2
                · intro e; have := h5 _ e; omega)
              have HN8 : Hid (Nums w8 .i64 (some c) (ints l)) := Lib.hid (fun hl0 => by
                rw [ints_length] at hl0
                obtain ⟨a1, a2, a3⟩ := HA.out hl0 c rfl
                obtain ⟨c', e', _, hcell⟩ := HNU.out (by rw [ints_length]; exact hl0)
                cases e'
                refine ⟨c, rfl, Nat.lt_of_lt_of_le a3 h4.size, fun t z hz => ?_⟩
                rw [← hcell t z hz]
                have hbk : (c.add t).block = c.block := block_of_add c t
                simp only [World.cell?, hbk, kb c.block a3 a1 a2])
              clear h1 h2 h3 h4 h5 hpu kb c1 c2 hcc hf2
              go_wp2_with fail
              go_roundg (l.length - (j + 1) + 1)
              case rel => exact ⟨j + 1, v8, L8, rfl, by rw [show wrap64 ((j : Int) + 1) = ((j + 1 : Nat) : Int) by have := HLL.out.1; unfold wrap64; omega], hjl, HL8.out, HS8.out, HD8.out, HC8.out, HV8.out, HN8.out, HA8.out⟩
              case measure => have := HG2.out; omega
            · obtain ⟨y, HY⟩ : ∃ y, Hid (y = fat F' n) := ⟨_, Lib.hid rfl⟩
              rw [← HY.out] at c1 hf2
              go_wp2_with fail
              go_roundg (l.length - (j + 1) + 1)
              case rel => exact ⟨j + 1, v', L', rfl, by rw [show wrap64 ((j : Int) + 1) = ((j + 1 : Nat) : Int) by have := HLL.out.1; unfold wrap64; omega], hjl, by have := HLl.out; omega, HS.out, by rw [HTK.out]; exact HDD.out.pass (by rw [← HY.out]; exact hf2), HC.out, HVB.out, HNU.out, HA.out⟩
              case measure => have := HG2.out; omega
          · have hje : j = l.length := by have := HJ.out; omega
            go_wp2_with fail
            go_roundg (L'.length + 6 * (s.size - cnt F') + 1)
            case rel =>
              refine ⟨v', L', F', rfl, ?_, HS.out, ?_⟩
              · have := HLl.out; have := HLL.out.1; have := HMS.out; have := HLE.out; have := HCN.out.1; have := HCN.out.2.1; omega
              · have := HDD.out
                rw [hje, List.take_length, HL.out] at this
                exact this.end_
            case measure => have := HGK.out; have := HLl.out; have := HLL.out.1; have := HMS.out; have := HLE.out; have := HCN.out.1; have := HCN.out.2.1; omega
      · obtain ⟨y, HY⟩ : ∃ y, Hid (y = fat F i) := ⟨_, Lib.hid rfl⟩
        rw [← HY.out] at c1 hf
        clear hfl
        go_wp2_with fail
        go_roundg (M5.length + 6 * (s.size - cnt F) + 1)
        case rel => exact ⟨v5, M5, F, rfl, by have h5 := HPE.out.length_eq; have h6 := HLE.out; rw [List.length_cons] at h5; omega, HS5.out, HD.out.skip HPE.out e2 (by rw [← HY.out]; exact hf)⟩
        case measure => have h1 := HPE.out.length_eq; have := HGK.out; rw [List.length_cons] at h1; omega
end Go.Proofs.YtiffgmgefpoblaaDoor
