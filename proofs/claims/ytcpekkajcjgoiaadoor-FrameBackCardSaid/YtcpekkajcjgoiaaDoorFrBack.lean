/-
  The walk of the statement FrameBack: it answers true, and no memory that was there has turned. Conditions: errors.errorType and crc.halved are laid.
-/
import Derived.Test.YtcpekkajcjgoiaaDoorFrAwake
namespace Go.Proofs.YtcpekkajcjgoiaaDoor
open Go.RowKit

set_option maxRecDepth 100000 in
set_option maxHeartbeats 4000000 in
theorem back_long (a : Int) (s : ByteArray) (i y : Int) (w : World) (hl : 500 < s.size) (hg : Laid2 w) :
    Calls Tryd.prog 3 #[.int .i64 a, .string s, .int .u8 i, .int .u8 y] w fun e w' => e = .returned (.bool true) ∧ Below w.heap.size w w' := by
  have HG := Lib.hid hg
  clear hg
  have hd : decide ((500 : Int) < (s.size : Int)) = true := by simp; omega
  go_enter Tryd.func3, Tryd.ntmps3
  go_wp2_with fail
  refine (awake_any _ HG.out).mono ?_
  rintro e w1 ⟨rfl, hb⟩
  have HB := Lib.hid hb
  have HG1 := Lib.hid (HG.out.carry hb)
  clear hb
  go_wp2_with fail
  refine (awake_any _ HG1.out).mono ?_
  rintro e w2 ⟨rfl, hb⟩
  have HB2 := Lib.hid (HB.out.trans (hb.mono HB.out.size))
  clear hb
  go_wp2_with fail
  go_ret
  exact ⟨rfl, HB2.out⟩

theorem equalIn_self_zero (w : World) : (Op.equalIn 10000 24 (pgV zeroPg) (pgV zeroPg)).run Tryd.prog w = .ok true w := by
  rw [equalIn_two zeroPg zeroPg zeroPg_length zeroPg_length]
  simp
set_option maxRecDepth 100000 in
set_option maxHeartbeats 4000000 in
theorem back_no (a : Int) (s : ByteArray) (i y : Int) (w : World) (hl : s.size ≤ 500) (hc : codeL a s ≠ 0) (hg : Laid2 w) :
    Calls Tryd.prog 3 #[.int .i64 a, .string s, .int .u8 i, .int .u8 y] w fun e w' => e = .returned (.bool true) ∧ Below w.heap.size w w' := by
  have HG := Lib.hid hg
  have hpg : pageL a s = zeroPg := by unfold pageL; rw [if_neg hc]
  have HPG := Lib.hid hpg
  have HC0 := Lib.hid hc
  clear hg hpg hc
  have hz := Tryd.zeroPage
  have hd : decide ((500 : Int) < (s.size : Int)) = false := by simp; omega
  go_enter Tryd.func3, Tryd.ntmps3
  go_wp2_with fail
  refine (awake_any _ HG.out).mono ?_
  rintro e w1 ⟨rfl, hb⟩
  have HB1 := Lib.hid hb
  have HG1 := Lib.hid (HG.out.carry hb)
  clear hb
  go_wp2_with fail
  refine (FrLay_any a s w1 HG1.out.crc).mono ?_
  obtain ⟨c, HC⟩ : ∃ c, Hid (c = codeL a s) := ⟨_, Lib.hid rfl⟩
  rw [HPG.out, ← HC.out]
  rintro e w2 ⟨v, rfl, he, hb⟩
  have HB2 : Hid (Below w.heap.size w w2) := Lib.hid (HB1.out.trans (hb.mono HB1.out.size))
  have HE2 := Lib.hid he
  clear he hb HB1 HG1
  go_wp2_with (with_reducible refine stop_at (o := ⟨none, _, _, _, _, _⟩) ?_)
  refine wpList_store_last rfl _ _ _ rfl (pgArr zeroPg) (pgArr zeroPg) _ rfl rfl rfl (by rw [pgArr_size, zeroPg_length]; exact Tryd.pageSize) rfl (pgArr_all _) ?_
  obtain ⟨w3, HW⟩ : ∃ w3, Hid (w3 = w2.alloc (.cells (pgArr zeroPg) 24)) := ⟨_, Lib.hid rfl⟩
  obtain ⟨b1, HBB⟩ : ∃ b, Hid (b = w2.heap.size) := ⟨_, Lib.hid rfl⟩
  rw [← HW.out, ← HBB.out]
  have hb3 : Below w2.heap.size w2 w3 := by rw [HW.out]; exact (Below.refl _ _).alloc (Nat.le_refl _) _
  have HB3 : Hid (Below w.heap.size w w3) := Lib.hid (HB2.out.trans (hb3.mono HB2.out.size))
  have HR3 : Hid (w3.rangeAt b1 0 (pgCells zeroPg)) := Lib.hid (by rw [HW.out, HBB.out]; exact page_new _ _ _)
  have HE3 := Lib.hid ((HE2.out.below hb3).is)
  have HG3 := Lib.hid (HG.out.carry HB3.out)
  have h1' : (c == 0) = false := by have := HC0.out; rw [← HC.out] at this; simp [this]
  have h2' : (c != 0) = true := by simp [bne, h1']
  clear HW HBB hb3 HE2 HB2
  go_wp2_with fail
  refine (Num_any c v w3 HE3.out HG3.out.err).mono ?_
  rintro e w4 ⟨rfl, hb⟩
  have HB4 : Hid (Below w.heap.size w w4) := Lib.hid (HB3.out.trans (hb.mono HB3.out.size))
  have HR4 := Lib.hid (range_below HR3.out hb)
  clear hb
  go_wp2_with (with_reducible refine stop_at (o := ⟨some 34, _, _, _, _, _⟩) ?_)
  refine wpList_load_page rfl _ _ rfl b1 0 rfl zeroPg zeroPg_length HR4.out _ Tryd.underlying24 rfl Tryd.pageSize ?_
  refine wpList_build_none rfl _ rfl _ built_zero ?_
  have heq := equalIn_self_zero
  have hgp := guardPage1
  go_wp2_with fail
  go_ret
  exact ⟨rfl, HB4.out⟩
theorem range_set {w : World} {b j : Nat} {l : List UInt8} (h : w.rangeAt b 0 (pgCells (pgB l))) (hj : j < l.length) (c : UInt8) : (w.setCell ⟨b, j, none⟩ (.int .u8 (c.toNat : Int))).rangeAt b 0 (pgCells (pgB (l.set j c))) := fun i v hv => by
  rw [Nat.zero_add]
  have hi : i < l.length := by
    have := (List.getElem?_eq_some_iff.1 hv).1
    simpa [pgCells, pgB] using this
  have e : ∀ (l : List UInt8) (j : Nat), (pgCells (pgB l))[j]? = (l[j]?).map fun c => Value.int .u8 (c.toNat : Int) := fun l j => by simp [pgCells, pgB]; rfl
  rw [e] at hv
  have hcj := h j (.int .u8 (l[j].toNat : Int)) (by rw [e, List.getElem?_eq_getElem hj]; rfl)
  rw [Nat.zero_add] at hcj
  by_cases hij : j = i
  · subst hij
    rw [World.cell?_setCell_same _ _ _ hcj, ← hv]
    simp [hj]
  · rw [World.cell?_setCell_other _ _ _ _ (fun x => hij (Addr.mk.inj x).2.1)]
    have := h i v (by rw [e, ← hv, List.getElem?_set_ne hij])
    rwa [Nat.zero_add] at this
theorem xor_byte (a b : UInt8) : bits .xor .u8 (a.toNat : Int) (b.toNat : Int) = ((a ^^^ b).toNat : Int) := xor_u8 a b
set_option maxRecDepth 100000 in
set_option maxHeartbeats 4000000 in
theorem back_yes (n : Nat) (s : ByteArray) (i y : Nat) (w : World) (h1 : 1 ≤ n) (h2 : n ≤ 255) (hs : s.size ≤ 120) (hi : i < 256) (hy : y < 256) (hg : Laid2 w) :
    Calls Tryd.prog 3 #[.int .i64 n, .string s, .int .u8 i, .int .u8 y] w fun e w' => e = .returned (.bool true) ∧ Below w.heap.size w w' := by
  have HG := Lib.hid hg
  clear hg
  have hz := Tryd.zeroPage
  have hd : decide ((500 : Int) < (s.size : Int)) = false := by simp; omega
  obtain ⟨p, HP⟩ : ∃ p, Hid (p = layB (UInt8.ofNat n) s.data.toList) := ⟨_, Lib.hid rfl⟩
  have hsl : s.data.toList.length ≤ 120 := by rw [lenS]; exact hs
  have hk0 : UInt8.ofNat n ≠ 0 := fun e => by
    have := congrArg UInt8.toNat e
    rw [UInt8.toNat_ofNat', UInt8.toNat_zero] at this
    omega
  have HPL : Hid (p.length = 128) := Lib.hid (by rw [HP.out]; exact layB_length hsl)
  have HPC : Hid (codeB p = 0) := Lib.hid (by rw [HP.out]; exact codeB_lay hk0 hsl)
  have HPO : Hid (sumOk p = true) := Lib.hid (by rw [HP.out]; exact sumOk_lay _ _)
  have HPK : Hid (((kB p).toNat : Int) = (n : Int)) := Lib.hid (by rw [HP.out, kB_lay, UInt8.toNat_ofNat']; omega)
  have HPD : Hid ((⟨(dB p).toArray⟩ : ByteArray) = s) := Lib.hid (by rw [HP.out, dB_lay hsl])
  obtain ⟨j, HJ⟩ : ∃ j, Hid (j = i % 128) := ⟨_, Lib.hid rfl⟩
  have hj : j < 128 := by rw [HJ.out]; omega
  have hjp : j < p.length := by rw [HPL.out]; exact hj
  obtain ⟨x, HX⟩ : ∃ x : UInt8, Hid (p[j] = x) := ⟨_, Lib.hid rfl⟩
  obtain ⟨yb, HY⟩ : ∃ yb : UInt8, Hid (yb.toNat = y) := ⟨UInt8.ofNat y, Lib.hid (by rw [UInt8.toNat_ofNat']; omega)⟩
  clear hsl hk0
  go_enter Tryd.func3, Tryd.ntmps3
  go_wp2_with fail
  refine (awake_any _ HG.out).mono ?_
  rintro e w1 ⟨rfl, hb⟩
  have HB1 := Lib.hid hb
  have HG1 := Lib.hid (HG.out.carry hb)
  clear hb
  go_wp2_with fail
  refine (FrLay_yes n s w1 h1 h2 hs HG1.out.crc).mono ?_
  rw [← HP.out]
  rintro e w2 ⟨rfl, hb⟩
  have HB2 : Hid (Below w.heap.size w w2) := Lib.hid (HB1.out.trans (hb.mono HB1.out.size))
  clear hb HB1 HG1
  go_wp2_with (with_reducible refine stop_at (o := ⟨none, _, _, _, _, _⟩) ?_)
  refine wpList_store_last rfl _ _ _ rfl (pgArr zeroPg) (pgArr (pgB p)) _ rfl rfl rfl (by rw [pgArr_size, pgB_length, HPL.out]; exact Tryd.pageSize) (by rw [pgArr_size, pgArr_size, pgB_length, HPL.out]; rfl) (pgArr_all _) ?_
  obtain ⟨w3, HW⟩ : ∃ w3, Hid (w3 = w2.alloc (.cells (pgArr (pgB p)) 24)) := ⟨_, Lib.hid rfl⟩
  obtain ⟨b, HBB⟩ : ∃ b, Hid (b = w2.heap.size) := ⟨_, Lib.hid rfl⟩
  rw [← HW.out, ← HBB.out]
  have HB3 : Hid (Below w.heap.size w w3) := Lib.hid (by rw [HW.out]; exact HB2.out.alloc HB2.out.size _)
  have HO3 : Hid (Own w3 b p) := Lib.hid (by rw [HW.out, HBB.out]; exact Own.new _)
  have HWB : Hid (w.heap.size ≤ b) := Lib.hid (by rw [HBB.out]; exact HB2.out.size)
  clear HW HBB HB2
  go_wp2_with fail
  refine (Num_nil _).mono ?_
  rintro e w' ⟨rfl, rfl⟩
  go_wp2_with (with_reducible refine stop_at (o := ⟨some 38, _, _, _, _, _⟩) ?_)
  refine wpList_load_page rfl _ _ rfl b 0 rfl (pgB p) (by rw [pgB_length]; exact HPL.out) HO3.out.at_ _ Tryd.underlying24 rfl Tryd.pageSize ?_
  go_wp2_with fail
  refine (FrRead_any p HPL.out w3 (HG.out.crc.carry HB3.out)).mono ?_
  rintro e w4 ⟨v, rfl, he, hb⟩
  rw [HPC.out] at he
  obtain rfl := he.zero
  rw [if_pos HPC.out, if_pos HPC.out, HPK.out, HPD.out]
  have HB4 : Hid (Below w.heap.size w w4) := Lib.hid (HB3.out.trans (hb.mono HB3.out.size))
  have HO4 : Hid (Own w4 b p) := Lib.hid (HO3.out.below hb (HO3.out.lt HPL.out))
  clear he hb HB3 HO3
  have c1 : w4.cell? ⟨b, j, none⟩ = some (.int .u8 (x.toNat : Int)) := by
    have := HO4.out.at_ j (.int .u8 (x.toNat : Int)) (by rw [← HX.out]; simp [pgCells, pgB, hjp])
    rwa [Nat.zero_add] at this
  have c2 : w4.frozen? ⟨b, j, none⟩ = false := HO4.out.free j
  have hij : i % 128 = j := HJ.out.symm
  go_wp2_with (with_reducible refine stop_at (o := ⟨some 51, _, _, _, _, _⟩) ?_)
  obtain ⟨q, HQ⟩ : ∃ q, Hid (q = p.set j (x ^^^ yb)) := ⟨_, Lib.hid rfl⟩
  obtain ⟨w5, HW⟩ : ∃ w5, Hid (w5 = w4.setCell ⟨b, j, none⟩ (.int .u8 (bits .xor .u8 (x.toNat : Int) (y : Int)))) := ⟨_, Lib.hid rfl⟩
  rw [← HW.out]
  have HO5 : Hid (Own w5 b q) := Lib.hid (by
    rw [HW.out, ← HY.out, xor_byte, HQ.out]
    exact ⟨range_set HO4.out.at_ hjp _, fun i => by rw [World.frozen?_setCell]; exact HO4.out.free i⟩)
  have HB5 : Hid (Below w.heap.size w w5) := Lib.hid (by rw [HW.out]; exact HB4.out.setCell HWB.out _)
  have HQL : Hid (q.length = 128) := Lib.hid (by rw [HQ.out, List.length_set]; exact HPL.out)
  have HG5 := Lib.hid (HG.out.carry HB5.out)
  clear HW c1 c2 hij HB4 HO4
  refine wpList_load_page rfl _ _ rfl b 0 rfl (pgB q) (by rw [pgB_length]; exact HQL.out) HO5.out.at_ _ Tryd.underlying24 rfl Tryd.pageSize ?_
  by_cases hy0 : y = 0
  · have HPQ : Hid (q = p) := Lib.hid (by
      have : yb = 0 := UInt8.toNat_inj.1 (by rw [HY.out, hy0]; rfl)
      rw [HQ.out, this, ← HX.out, UInt8.xor_zero]
      exact List.set_getElem_self _)
    subst hy0
    rw [HPQ.out]
    go_wp2_with fail
    refine (FrRead_any p HPL.out w5 HG5.out.crc).mono ?_
    rintro e w6 ⟨v, rfl, he, hb⟩
    rw [HPC.out] at he
    obtain rfl := he.zero
    rw [if_pos HPC.out, if_pos HPC.out, HPK.out, HPD.out]
    have HB6 : Hid (Below w.heap.size w w6) := Lib.hid (HB5.out.trans (hb.mono HB5.out.size))
    clear he hb
    go_wp2_with fail
    refine (Num_nil _).mono ?_
    rintro e w' ⟨rfl, rfl⟩
    go_wp2_with fail
    refine (Num_nil _).mono ?_
    rintro e w' ⟨rfl, rfl⟩
    go_wp2_with fail
    go_ret
    exact ⟨by simp, HB6.out⟩
  · have HPQ : Hid (codeB q = 3) := Lib.hid (by
      rw [HQ.out]
      refine codeB_turn HPL.out HPO.out hjp ?_
      rw [HX.out]
      intro e
      have : yb = 0 := by
        have := congrArg (x ^^^ ·) e
        simp only [← UInt8.xor_assoc, UInt8.xor_self, UInt8.zero_xor] at this
        exact this.symm
      exact hy0 (by rw [← HY.out, this]; rfl))
    have hy1 : ((y : Int) == 0) = false := by simp; omega
    have hy2 : ((y : Int) != 0) = true := by simp [bne, hy1]
    clear hy0
    go_wp2_with fail
    refine (FrRead_any q HQL.out w5 HG5.out.crc).mono ?_
    rintro e w6 ⟨v, rfl, he, hb⟩
    rw [HPQ.out] at he
    rw [if_neg (by rw [HPQ.out]; decide), if_neg (by rw [HPQ.out]; decide)]
    have HB6 : Hid (Below w.heap.size w w6) := Lib.hid (HB5.out.trans (hb.mono HB5.out.size))
    have HE6 := Lib.hid he.is
    have HG6 := Lib.hid (HG5.out.carry hb)
    clear he hb
    go_wp2_with fail
    refine (Num_nil _).mono ?_
    rintro e w' ⟨rfl, rfl⟩
    go_wp2_with fail
    refine (Num_any 3 v w6 HE6.out HG6.out.err).mono ?_
    rintro e w7 ⟨rfl, hb⟩
    have HB7 : Hid (Below w.heap.size w w7) := Lib.hid (HB6.out.trans (hb.mono HB6.out.size))
    clear hb
    go_wp2_with fail
    go_ret
    exact ⟨by simp, HB7.out⟩
end Go.Proofs.YtcpekkajcjgoiaaDoor
