/-
  The contracts of frame.Load and frame.Store. Conditions: none beyond the premises of each theorem.
-/
import Derived.Test.YtaolkmlgdhnhaaaDoorFrRead
import Derived.Test.YtaolkmlgdhnhaaaDoorDiskNew
namespace Go.Proofs.YtaolkmlgdhnhaaaDoor
open Go.RowKit

/-- which error Load answers, where the disk answers c -/
def codeLd (c kind : Int) (l : List UInt8) : Int := if c ≠ 0 then c else if codeB l ≠ 0 then codeB l else if ((kB l).toNat : Int) = kind then 0 else 2
/-- what Load answers -/
def LoadAns (c : Int) (l : List UInt8) (w : World) (e : Ending) (w' : World) : Prop :=
  ∃ v, e = .returned (.tuple #[.string (if c = 0 then ⟨(dB l).toArray⟩ else ⟨#[]⟩), v]) ∧ ErrFrom w' w.heap.size c v ∧ Below w.heap.size w w'
theorem LoadAns.fault {l : List UInt8} {w w1 w' : World} {c : Int} {v : Value} (h0 : c ≠ 0) (hb : Below w.heap.size w w1) (he : ErrFrom w' w1.heap.size c v) (hb' : Below w1.heap.size w1 w') :
    LoadAns c l w (.returned (.tuple #[.string ⟨#[]⟩, v])) w' := by
  refine ⟨v, ?_, he.mono hb.size, hb.trans (hb'.mono hb.size)⟩
  rw [if_neg h0]
set_option maxRecDepth 100000 in
set_option maxHeartbeats 4000000 in
theorem FrLoad_bad (c : Int) (h0 : c ≠ 0) (D : Value) (i kind : Int) (l : List UInt8) (w : World) (hr : Calls Tryd.prog 24 #[D, .int .i64 i] w (ReadPost c zeroPg w)) :
    Calls Tryd.prog 52 #[D, .int .i64 i, .int .i64 kind] w (LoadAns c l w) := by
  have H0 := Lib.hid h0
  have HR := Lib.hid hr
  clear h0 hr
  have hz := Tryd.zeroPage
  go_enter Tryd.func52, Tryd.ntmps52
  go_wp2_with fail
  refine HR.out.mono ?_
  rintro e w1 ⟨v, rfl, he, hb⟩
  obtain ⟨t, x, rfl⟩ := he.some H0.out
  have HE := Lib.hid he
  have HB := Lib.hid hb
  clear he hb
  go_wp2_with (with_reducible refine stop_at (o := ⟨none, _, _, _, _, _⟩) ?_)
  refine wpList_store_last rfl _ _ _ rfl (pgArr zeroPg) (pgArr zeroPg) _ rfl rfl rfl (by rw [pgArr_size, zeroPg_length]; exact Tryd.pageSize) rfl (pgArr_all _) ?_
  obtain ⟨w2, HW⟩ : ∃ w2, Hid (w2 = w1.alloc (.cells (pgArr zeroPg) 55)) := ⟨_, Lib.hid rfl⟩
  rw [← HW.out]
  have hb2 : Below w1.heap.size w1 w2 := by rw [HW.out]; exact (Below.refl _ _).alloc (Nat.le_refl _) _
  have HB2 : Hid (Below w.heap.size w w2) := Lib.hid (HB.out.trans (hb2.mono HB.out.size))
  have HE2 : Hid (ErrFrom w2 w.heap.size c (.iface t x)) := Lib.hid ((HE.out.from_).below hb2)
  clear HW hb2
  go_wp2_with fail
  refine (Tag_from _ w.heap.size c _ w2 HE2.out HB2.out.size).mono ?_
  rintro e w3 ⟨v, rfl, h1, h4⟩
  have H1 := Lib.hid h1
  have H4 := Lib.hid h4
  clear h1 h4
  go_wp2_with fail
  go_ret2
  refine ⟨v, ?_, H1.out, HB2.out.trans (H4.out.mono HB2.out.size)⟩
  rw [if_neg H0.out]
  rfl
set_option maxRecDepth 100000 in
set_option maxHeartbeats 4000000 in
theorem FrLoad_page (D : Value) (i kind : Int) (l : List UInt8) (hl : l.length = 128) (w : World) (hr : Calls Tryd.prog 24 #[D, .int .i64 i] w (ReadPost 0 (pgB l) w)) (hg : LaidCrc w) :
    Calls Tryd.prog 52 #[D, .int .i64 i, .int .i64 kind] w (LoadAns (codeLd 0 kind l) l w) := by
  have HG := Lib.hid hg
  have HR := Lib.hid hr
  have HL := Lib.hid hl
  clear hg hr hl
  have hz := Tryd.zeroPage
  go_enter Tryd.func52, Tryd.ntmps52
  go_wp2_with fail
  refine HR.out.mono ?_
  rintro e w1 ⟨v, rfl, he, hb⟩
  obtain rfl := he.zero
  have HB := Lib.hid hb
  clear he hb
  go_wp2_with (with_reducible refine stop_at (o := ⟨none, _, _, _, _, _⟩) ?_)
  refine wpList_store_last rfl _ _ _ rfl (pgArr zeroPg) (pgArr (pgB l)) _ rfl rfl rfl (by rw [pgArr_size, pgB_length, HL.out]; exact Tryd.pageSize) (by rw [pgArr_size, pgArr_size, pgB_length, HL.out]; rfl) (pgArr_all _) ?_
  obtain ⟨w2, HW⟩ : ∃ w2, Hid (w2 = w1.alloc (.cells (pgArr (pgB l)) 55)) := ⟨_, Lib.hid rfl⟩
  obtain ⟨b, HBB⟩ : ∃ b, Hid (b = w1.heap.size) := ⟨_, Lib.hid rfl⟩
  rw [← HW.out, ← HBB.out]
  have HB2 : Hid (Below w.heap.size w w2) := Lib.hid (by rw [HW.out]; exact HB.out.alloc HB.out.size _)
  have H2 : Hid (w2.rangeAt b 0 (pgCells (pgB l))) := Lib.hid (by rw [HW.out, HBB.out]; exact (Own.new _).at_)
  clear HW HBB
  go_wp2_with (with_reducible refine stop_at (o := ⟨some 23, _, _, _, _, _⟩) ?_)
  refine wpList_load_page rfl _ _ rfl b 0 rfl (pgB l) (by rw [pgB_length]; exact HL.out) H2.out _ Tryd.underlying55 rfl Tryd.pageSize ?_
  go_wp2_with fail
  refine (FrRead_any l HL.out w2 (HG.out.carry HB2.out)).mono ?_
  rintro e w3 ⟨v, rfl, he, hb⟩
  have HB3 := Lib.hid hb
  by_cases hc : codeB l = 0
  · rw [if_pos hc, if_pos hc]
    rw [hc] at he
    obtain rfl := he.zero
    have HC := Lib.hid hc
    obtain ⟨k, HK⟩ : ∃ k, Hid (k = (kB l).toNat) := ⟨_, Lib.hid rfl⟩
    rw [← HK.out]
    clear he hb hc
    by_cases hk : (k : Int) = kind
    · have HKK := Lib.hid hk
      have hkk : ((k : Int) == kind) = true := by simp [hk]
      clear hk
      go_wp2_with fail
      go_ret2
      have hz0 : codeLd 0 kind l = 0 := by
        unfold codeLd
        rw [if_neg (by decide), if_neg (by rw [HC.out]; decide), if_pos (by rw [← HK.out]; exact HKK.out)]
      rw [hz0]
      exact ⟨.nilIface, by rw [if_pos rfl]; rfl, .nil _ _, HB2.out.trans (HB3.out.mono HB2.out.size)⟩
    · have hz2 : codeLd 0 kind l = 2 := by
        unfold codeLd
        rw [if_neg (by decide), if_neg (by rw [HC.out]; decide), if_neg (by rw [← HK.out]; exact hk)]
      have HZ := Lib.hid hz2
      have hkk : ((k : Int) == kind) = false := by simp [hk]
      clear hz2 hk
      go_wp2_with fail
      refine (FrFault_any 2 (by decide) _).mono ?_
      rintro e w4 ⟨v, rfl, h1, h4⟩
      have H1 := Lib.hid h1
      have H4 := Lib.hid h4
      clear h1 h4
      go_wp2_with fail
      go_ret2
      rw [HZ.out]
      exact LoadAns.fault (by decide) (HB2.out.trans (HB3.out.mono HB2.out.size)) H1.out H4.out
  · have hzc : codeLd 0 kind l = codeB l := by
      unfold codeLd
      rw [if_neg (by decide), if_pos hc]
    have HZ := Lib.hid hzc
    have HC := Lib.hid hc
    have HE := Lib.hid he
    obtain ⟨t, x, rfl⟩ := he.some hc
    rw [if_neg hc, if_neg hc]
    clear he hb hc hzc
    go_wp2_with fail
    go_ret2
    rw [HZ.out]
    exact ⟨.iface t x, by rw [if_neg HC.out]; rfl, HE.out.mono HB2.out.size, HB2.out.trans (HB3.out.mono HB2.out.size)⟩
/-- Load of a disk: l is what lies there -/
theorem FrLoad_any {K : Nat → Prop} {D n : Nat} {d : Dk} {w : World} (h : DiskAt K w D n d) (i kind : Int) (l : List UInt8) (hl : l.length = 128) (hp : codeZ d.down n i = 0 → pgAt d.seen i.toNat = pgB l) (hg : LaidCrc w) :
    Calls Tryd.prog 52 #[.pointer (some ⟨D, 0, none⟩), .int .i64 i, .int .i64 kind] w (LoadAns (codeLd (codeZ d.down n i) kind l) l w) := by
  have hr := Read_any h i
  by_cases h0 : codeZ d.down n i = 0
  · rw [h0, if_pos rfl, hp h0] at hr
    rw [h0]
    exact FrLoad_page _ i kind l hl w hr hg
  · rw [if_neg h0] at hr
    have : codeLd (codeZ d.down n i) kind l = codeZ d.down n i := by unfold codeLd; rw [if_pos h0]
    rw [this]
    exact FrLoad_bad _ h0 _ i kind l w hr
theorem FrLoad_nil (i kind : Int) (l : List UInt8) (w : World) : Calls Tryd.prog 52 #[.pointer none, .int .i64 i, .int .i64 kind] w (LoadAns 1 l w) := FrLoad_bad 1 (by decide) _ i kind l w (Read_nil i w)

/-- which error Store answers, where the disk answers c -/
def codeSt (c k : Int) (s : ByteArray) : Int := if codeL k s ≠ 0 then codeL k s else c
set_option maxRecDepth 100000 in
theorem FrStore_lay (D : Value) (i k : Int) (s : ByteArray) (w : World) (hc : codeL k s ≠ 0) (hg : LaidCrc w) : Calls Tryd.prog 40 #[D, .int .i64 i, .int .i64 k, .string s] w (FromPost (codeL k s) w.heap.size w) := by
  have HC := Lib.hid hc
  have HL := Lib.hid (FrLay_any k s w hg)
  clear hc hg
  have hz := Tryd.zeroPage
  go_enter Tryd.func40, Tryd.ntmps40
  go_wp2_with fail
  refine HL.out.mono ?_
  rintro e w1 ⟨v, rfl, he, hb⟩
  obtain ⟨t, x, rfl⟩ := he.some HC.out
  have HE := Lib.hid he
  have HB := Lib.hid hb
  have hpl := pageL_length k s
  obtain ⟨p, HP⟩ : ∃ p, Hid (p = pageL k s) := ⟨_, Lib.hid rfl⟩
  rw [← HP.out] at hpl ⊢
  have HPL := Lib.hid hpl
  clear he hb hpl
  go_wp2_with (with_reducible refine stop_at (o := ⟨none, _, _, _, _, _⟩) ?_)
  refine wpList_store_last rfl _ _ _ rfl (pgArr zeroPg) (pgArr p) _ rfl rfl rfl (by rw [pgArr_size, HPL.out]; exact Tryd.pageSize) (by rw [pgArr_size, pgArr_size, HPL.out]; rfl) (pgArr_all _) ?_
  obtain ⟨w2, HW⟩ : ∃ w2, Hid (w2 = w1.alloc (.cells (pgArr p) 55)) := ⟨_, Lib.hid rfl⟩
  rw [← HW.out]
  have hb2 : Below w1.heap.size w1 w2 := by rw [HW.out]; exact (Below.refl _ _).alloc (Nat.le_refl _) _
  have HB2 : Hid (Below w.heap.size w w2) := Lib.hid (HB.out.trans (hb2.mono HB.out.size))
  have HE2 := Lib.hid (HE.out.below hb2)
  clear HW hb2
  go_wp2_with fail
  go_ret
  exact ⟨_, rfl, HE2.out, HB2.out⟩
set_option maxRecDepth 100000 in
/-- Store up to the disk's Write -/
theorem FrStore_write {Post : Ending → World → Prop} (D : Value) (i k : Int) (s : ByteArray) (w : World) (hc : codeL k s = 0) (hg : LaidCrc w)
    (h : ∀ w2, Below w.heap.size w w2 → Calls Tryd.prog 19 #[D, .int .i64 i, pgV (pageL k s)] w2 fun e w3 => ∃ v c, e = .returned v ∧ ErrFrom w3 w2.heap.size c v ∧ w2.heap.size ≤ w3.heap.size ∧ ∀ v' w4, ErrFrom w4 w2.heap.size c v' → Below w3.heap.size w3 w4 → Post (.returned v') w4) :
    Calls Tryd.prog 40 #[D, .int .i64 i, .int .i64 k, .string s] w Post := by
  have HL := Lib.hid (FrLay_any k s w hg)
  have HH := Lib.hid h
  rw [hc] at HL
  clear hc hg h
  have hz := Tryd.zeroPage
  go_enter Tryd.func40, Tryd.ntmps40
  go_wp2_with fail
  refine HL.out.mono ?_
  rintro e w1 ⟨v, rfl, he, hb⟩
  obtain rfl := he.zero
  have HB := Lib.hid hb
  have hpl := pageL_length k s
  obtain ⟨p, HP⟩ : ∃ p, Hid (p = pageL k s) := ⟨_, Lib.hid rfl⟩
  rw [← HP.out] at hpl HH ⊢
  have HPL := Lib.hid hpl
  clear he hb hpl
  go_wp2_with (with_reducible refine stop_at (o := ⟨none, _, _, _, _, _⟩) ?_)
  refine wpList_store_last rfl _ _ _ rfl (pgArr zeroPg) (pgArr p) _ rfl rfl rfl (by rw [pgArr_size, HPL.out]; exact Tryd.pageSize) (by rw [pgArr_size, pgArr_size, HPL.out]; rfl) (pgArr_all _) ?_
  obtain ⟨w2, HW⟩ : ∃ w2, Hid (w2 = w1.alloc (.cells (pgArr p) 55)) := ⟨_, Lib.hid rfl⟩
  obtain ⟨b, HBB⟩ : ∃ b, Hid (b = w1.heap.size) := ⟨_, Lib.hid rfl⟩
  rw [← HW.out, ← HBB.out]
  have HB2 : Hid (Below w.heap.size w w2) := Lib.hid (by rw [HW.out]; exact HB.out.alloc HB.out.size _)
  have hbl : w2.heap[b]? = some (.cells (pgArr p) 55 (0, 0)) := by rw [HW.out, HBB.out]; exact heap_alloc_last w1 _
  have HR : Hid (w2.rangeAt b 0 (pgCells p)) := Lib.hid (fun j u hu => by
    rw [cell_of_row w2 b (0 + j) _ _ _ hbl, Nat.zero_add]
    simpa [pgArr] using hu)
  clear HW HBB hbl
  go_wp2_with (with_reducible refine stop_at (o := ⟨some 22, _, _, _, _, _⟩) ?_)
  refine wpList_load_page rfl _ _ rfl b 0 rfl p HPL.out HR.out _ Tryd.underlying55 rfl Tryd.pageSize ?_
  go_wp2_with fail
  refine (HH.out w2 HB2.out).mono ?_
  rintro e w3 ⟨v, c, rfl, he, hs, hp⟩
  have HE := Lib.hid he
  have HS := Lib.hid hs
  have HP3 := Lib.hid hp
  clear he hs hp
  go_wp2_with fail
  refine (Tag_from _ w2.heap.size c v w3 HE.out HS.out).mono ?_
  rintro e w4 ⟨v', rfl, h1, h4⟩
  have H1 := Lib.hid h1
  have H4 := Lib.hid h4
  clear h1 h4
  go_wp2_with fail
  exact HP3.out v' w4 H1.out H4.out
/-- Store that is refused -/
theorem FrStore_no {K : Nat → Prop} {D n : Nat} {d : Dk} {w : World} (h : DiskAt K w D n d) (i k : Int) (s : ByteArray) (hc : codeSt (codeZ d.down n i) k s ≠ 0) (hg : LaidCrc w) :
    Calls Tryd.prog 40 #[.pointer (some ⟨D, 0, none⟩), .int .i64 i, .int .i64 k, .string s] w (FromPost (codeSt (codeZ d.down n i) k s) w.heap.size w) := by
  by_cases h0 : codeL k s = 0
  · have e : codeSt (codeZ d.down n i) k s = codeZ d.down n i := by unfold codeSt; rw [if_neg (by rw [h0]; decide)]
    rw [e] at hc ⊢
    refine FrStore_write _ i k s w h0 hg fun w2 hb2 => (Write_no (h.carry hb2) rfl hc).mono ?_
    rintro e w3 ⟨v, rfl, he, hb3⟩
    exact ⟨v, _, rfl, he.from_, hb3.size, fun v' w4 h4 hb4 => ⟨v', rfl, h4.mono hb2.size, (hb2.trans (hb3.mono hb2.size)).trans (hb4.mono (Nat.le_trans hb2.size hb3.size))⟩⟩
  · have e : codeSt (codeZ d.down n i) k s = codeL k s := by unfold codeSt; rw [if_pos h0]
    rw [e]
    exact FrStore_lay _ i k s w h0 hg
theorem FrStore_nil (i k : Int) (s : ByteArray) (w : World) (hg : LaidCrc w) :
    Calls Tryd.prog 40 #[.pointer none, .int .i64 i, .int .i64 k, .string s] w (FromPost (codeSt 1 k s) w.heap.size w) := by
  by_cases h0 : codeL k s = 0
  · have e : codeSt 1 k s = 1 := by unfold codeSt; rw [if_neg (by rw [h0]; decide)]
    rw [e]
    refine FrStore_write _ i k s w h0 hg fun w2 hb2 => (Write_nil i _ w2).mono ?_
    rintro e w3 ⟨v, rfl, he, hb3⟩
    exact ⟨v, _, rfl, he.from_, hb3.size, fun v' w4 h4 hb4 => ⟨v', rfl, h4.mono hb2.size, (hb2.trans (hb3.mono hb2.size)).trans (hb4.mono (Nat.le_trans hb2.size hb3.size))⟩⟩
  · have e : codeSt 1 k s = codeL k s := by unfold codeSt; rw [if_pos h0]
    rw [e]
    exact FrStore_lay _ i k s w h0 hg
/-- Store that is carried out -/
theorem FrStore_yes {K : Nat → Prop} {D n i : Nat} {d : Dk} {w : World} (h : DiskAt K w D n d) (ht : There K w) (hd : d.down = false) (hi : i < n) (hs : d.soft.length ≤ 1000000) (k : Int) (s : ByteArray) (hc : codeL k s = 0) (hg : LaidCrc w) :
    Calls Tryd.prog 40 #[.pointer (some ⟨D, 0, none⟩), .int .i64 i, .int .i64 k, .string s] w fun e w' => e = .returned .nilIface ∧ DiskAt K w' D n (d.write i (pageL k s)) ∧ Kept K w w' := by
  refine FrStore_write _ i k s w hc hg fun w2 hb2 => (Write_yes (h.carry hb2) (ht.below hb2) hd hi (pageL_length k s) hs).mono ?_
  rintro e w3 ⟨rfl, hd3, hk3⟩
  refine ⟨.nilIface, 0, rfl, .nil _ _, hk3.size, fun v' w4 h4 hb4 => ?_⟩
  obtain rfl := h4.zero
  exact ⟨rfl, hd3.carry hb4, ((Kept.of_below hb2 ht).trans hk3).trans (Kept.of_below hb4 fun j hj => Nat.lt_of_lt_of_le ((ht.below hb2) j hj) hk3.size)⟩
end Go.Proofs.YtaolkmlgdhnhaaaDoor
