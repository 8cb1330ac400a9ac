/-
  The walk of the statement DiskPlays: it answers true, and no memory that was there has turned. Condition: errors.errorType is laid.
-/
import Derived.Test.YtflkhbdipmjmeaaDoorDiskPlaysArm
namespace Go.Proofs.YtflkhbdipmjmeaaDoor
open Go.RowKit

set_option maxRecDepth 100000 in
set_option maxHeartbeats 8000000 in
theorem plays_long (A : Option Addr) (cap : Nat) (l : List ActD) (z : Int) (w : World) (hl : 60 < l.length) (hg : Laid w) :
    Calls Tryd.prog 3 #[.int .i64 z, .slice A l.length cap] w fun e w' => e = .returned (.bool true) ∧ Below w.heap.size w w' := by
  have HG := Lib.hid hg
  clear hg
  have hd : decide ((60 : Int) < (l.length : Int)) = true := by simp; omega
  go_enter Tryd.func3, Tryd.ntmps3
  go_wp2_with fail
  refine (awake_any _ HG.out).mono ?_
  rintro e w1 ⟨rfl, hb⟩
  have HB := Lib.hid hb
  have HG1 := Lib.hid (HG.out.carry hb)
  clear hb
  go_wp2_with fail
  refine (awake_any _ HG1.out).mono ?_
  rintro e w2 ⟨rfl, hb⟩
  have HB2 := Lib.hid (HB.out.trans (hb.mono HB.out.size))
  clear hb
  go_wp2_with fail
  go_ret
  exact ⟨rfl, HB2.out⟩
set_option maxRecDepth 100000 in
set_option maxHeartbeats 8000000 in
theorem plays_low (A : Option Addr) (cap : Nat) (l : List ActD) (z : Int) (w : World) (hl : l.length ≤ 60) (h : decide (z < 1) = true) (hg : Laid w) :
    Calls Tryd.prog 3 #[.int .i64 z, .slice A l.length cap] w fun e w' => e = .returned (.bool true) ∧ Below w.heap.size w w' := by
  have hzz : z < 1 ∨ 240 < z := by simp at h; omega
  have HZZ := Lib.hid hzz
  clear hzz
  have HG := Lib.hid hg
  clear hg
  have hd : decide ((60 : Int) < (l.length : Int)) = false := by simp; omega
  go_enter Tryd.func3, Tryd.ntmps3
  go_wp2_with fail
  refine (awake_any _ HG.out).mono ?_
  rintro e w2 ⟨rfl, hb⟩
  have HB := Lib.hid hb
  have HG2 := Lib.hid (HG.out.carry hb)
  clear hb
  go_wp2_with fail
  refine (New_no z HZZ.out _).mono ?_
  rintro e w3 ⟨v, rfl, he, hb⟩
  have HB3 := Lib.hid (HB.out.trans (hb.mono HB.out.size))
  have HE3 := Lib.hid he.is
  clear he hb
  go_wp2_with fail
  refine (Num_any 1 v w3 HE3.out (HG.out.carry HB3.out)).mono ?_
  rintro e w4 ⟨rfl, hb⟩
  have HB4 := Lib.hid (HB3.out.trans (hb.mono HB3.out.size))
  clear hb
  go_wp2_with fail
  go_ret
  exact ⟨rfl, HB4.out⟩
set_option maxRecDepth 100000 in
set_option maxHeartbeats 8000000 in
theorem plays_high (A : Option Addr) (cap : Nat) (l : List ActD) (z : Int) (w : World) (hl : l.length ≤ 60) (h : decide (z < 1) = false) (h2 : decide (240 < z) = true) (hg : Laid w) :
    Calls Tryd.prog 3 #[.int .i64 z, .slice A l.length cap] w fun e w' => e = .returned (.bool true) ∧ Below w.heap.size w w' := by
  have hzz : z < 1 ∨ 240 < z := by simp at h2; omega
  have HZZ := Lib.hid hzz
  clear hzz
  have HG := Lib.hid hg
  clear hg
  have hd : decide ((60 : Int) < (l.length : Int)) = false := by simp; omega
  go_enter Tryd.func3, Tryd.ntmps3
  go_wp2_with fail
  refine (awake_any _ HG.out).mono ?_
  rintro e w2 ⟨rfl, hb⟩
  have HB := Lib.hid hb
  have HG2 := Lib.hid (HG.out.carry hb)
  clear hb
  go_wp2_with fail
  refine (New_no z HZZ.out _).mono ?_
  rintro e w3 ⟨v, rfl, he, hb⟩
  have HB3 := Lib.hid (HB.out.trans (hb.mono HB.out.size))
  have HE3 := Lib.hid he.is
  clear he hb
  go_wp2_with fail
  refine (Num_any 1 v w3 HE3.out (HG.out.carry HB3.out)).mono ?_
  rintro e w4 ⟨rfl, hb⟩
  have HB4 := Lib.hid (HB3.out.trans (hb.mono HB3.out.size))
  clear hb
  go_wp2_with fail
  go_ret
  exact ⟨rfl, HB4.out⟩
set_option maxRecDepth 100000 in
set_option maxHeartbeats 8000000 in
theorem plays_big (A : Option Addr) (cap : Nat) (l : List ActD) (n : Nat) (w : World) (hl : l.length ≤ 60) (h1 : 1 ≤ n) (h2 : n ≤ 240) (h3 : 30 < n) (hg : Laid w) :
    Calls Tryd.prog 3 #[.int .i64 n, .slice A l.length cap] w fun e w' => e = .returned (.bool true) ∧ Below w.heap.size w w' := by
  have g1 : decide ((n : Int) < 1) = false := by simp; omega
  have g2 : decide (240 < (n : Int)) = false := by simp; omega
  have g3 : decide (30 < (n : Int)) = true := by simp; omega
  have HG := Lib.hid hg
  clear hg
  have hd : decide ((60 : Int) < (l.length : Int)) = false := by simp; omega
  go_enter Tryd.func3, Tryd.ntmps3
  go_wp2_with fail
  refine (awake_any _ HG.out).mono ?_
  rintro e w2 ⟨rfl, hb⟩
  have HB := Lib.hid hb
  have HG2 := Lib.hid (HG.out.carry hb)
  clear hb
  go_wp2_with fail
  refine (New_yes n h1 (by omega) _).mono ?_
  obtain ⟨N, HNN⟩ : ∃ N, Hid (N = w2.heap.size) := ⟨_, Lib.hid rfl⟩
  rw [show NewPost n w2 = fun e w' => ∃ D, e = .returned (.tuple #[.pointer (some ⟨D, 0, none⟩), .nilIface]) ∧ DiskAt (· < N) w' D n (Dk.new n) ∧ Below N w2 w' by rw [HNN.out]; rfl]
  rintro e w3 ⟨D, rfl, hdk, hb⟩
  have HD := Lib.hid hdk
  have HB3 : Hid (Below N w2 w3) := Lib.hid hb
  clear hdk hb
  go_wp2_with fail
  refine (Num_nil _).mono ?_
  rintro e w' ⟨rfl, rfl⟩
  go_wp2_with fail
  refine (Size_any HD.out).mono ?_
  rintro e w' ⟨rfl, rfl⟩
  go_wp2_with fail
  go_ret
  exact ⟨rfl, HB.out.trans (HB3.out.mono (by rw [HNN.out]; exact HB.out.size))⟩
theorem made_arrs (n : Nat) {M : Array Value} (hM : M = madeCells (pgArr zeroPg) (n * 128)) (w : World) (b : Nat) (fr : Nat × Nat) (hb : w.heap[b]? = some (.cells M 35 fr)) : Pages w b (List.replicate n zeroPg) := fun i p hp => by
  have hi : i < n := by have := (List.getElem?_eq_some_iff.1 hp).1; simpa using this
  obtain rfl : zeroPg = p := by simpa [hi] using hp
  refine ⟨zeroPg_length, fun j v hv => ?_⟩
  have hj : j < 128 := by have := (List.getElem?_eq_some_iff.1 hv).1; rw [pgCells_length, zeroPg_length] at this; exact this
  have hs : (pgArr zeroPg).size = 128 := by rw [pgArr_size, zeroPg_length]
  rw [cell_of_row w b (i * 128 + j) M _ fr hb, hM]
  have hlt : i * 128 + j < n * 128 := by omega
  have e : (madeCells (pgArr zeroPg) (n * 128))[i * 128 + j]? = some ((pgArr zeroPg)[(i * 128 + j) % (pgArr zeroPg).size]!) := by simp [madeCells, hlt]
  rw [e, hs, show (i * 128 + j) % 128 = j by omega, ← hv]
  rw [getElem!_pos (pgArr zeroPg) j (by rw [hs]; exact hj)]
  rw [show (pgCells zeroPg)[j]? = (pgArr zeroPg)[j]? by simp [pgArr]]
  exact (Array.getElem?_eq_getElem _).symm
/-- what the document's disk begins with -/
theorem ref_new {N D n : Nat} {w2 w3 : World} {M : Array Value} (hM : M = madeCells (pgArr zeroPg) (n * 128)) (hN : N ≤ w2.heap.size) (hk : Kept (· < N) w2 w3) (hd : DiskAt (· < N) w3 D n (Dk.new n)) :
    PlAt (fun _ => False) N w2 D (w3.heap.size + 1) n (Dk.new n) (Dk.new n).firm (Dk.new n).soft ((w3.alloc (.cells M 35)).alloc (.cells #[.slice (some ⟨w3.heap.size, 0, none⟩) n n, .slice none 0 0, .slice none 0 0] 34)) := by
  have hb : Below w3.heap.size w3 ((w3.alloc (.cells M 35)).alloc (.cells #[.slice (some ⟨w3.heap.size, 0, none⟩) n n, .slice none 0 0, .slice none 0 0] 34)) := ((Below.refl _ _).alloc (Nat.le_refl _) _).alloc (by simp) _
  have hsz := hk.size
  generalize hW : ((w3.alloc (.cells M 35)).alloc (.cells #[.slice (some ⟨w3.heap.size, 0, none⟩) n n, .slice none 0 0, .slice none 0 0] 34)) = W at hb ⊢
  have b0 : W.heap[w3.heap.size]? = some (.cells M 35 (0, 0)) := by
    rw [← hW, Below.heap_alloc _ _ _ (by simp)]
    exact heap_alloc_last w3 _
  have b1 : W.heap[w3.heap.size + 1]? = some (.cells #[.slice (some ⟨w3.heap.size, 0, none⟩) n n, .slice none 0 0, .slice none 0 0] 34 (0, 0)) := by
    have := heap_alloc_last (w3.alloc (.cells M 35)) (.cells #[.slice (some ⟨w3.heap.size, 0, none⟩) n n, .slice none 0 0, .slice none 0 0] 34)
    rw [hW] at this
    simpa using this
  have hs : W.heap.size = w3.heap.size + 2 := by rw [← hW]; simp
  refine ⟨fun j => j < N ∨ (w3.heap.size ≤ j ∧ j < W.heap.size), w3.heap.size, n, .slice none 0 0, .slice none 0 0, fun j hj => hj.elim, fun j hj => .inl hj, fun j hj => ?_, hd.more hb fun k hk => hk.imp id And.left, ?_, hk.trans (Kept.of_below hb fun k hk => by omega)⟩
  · rcases hj with hj | hj
    · omega
    · exact hj.2
  · refine ⟨?_, ?_, ?_, fun j => frozen_of_row W _ j _ _ b1, made_arrs n hM W _ _ b0, World.ownsRow_nil _ _ _ _, World.ownsRow_nil _ _ _ _, .inr (by omega), .inr (by omega), by omega, by omega, by omega, fun g hg => (by cases hg), fun g hg => (by cases hg)⟩
    · rw [cell_of_row W _ 0 _ _ _ b1]; rfl
    · rw [cell_of_row W _ 1 _ _ _ b1]; rfl
    · rw [cell_of_row W _ 2 _ _ _ b1]; rfl
/-- a conclusion of the walk's own -/
theorem go_on {P : Program} {K : Act → World → Prop} {c : Code} {Q : Exit → Act → World → Prop} {a : Act} {w : World} (h : ∀ a w, Code.wp P c Q a w → K a w) (hw : Code.wp P c Q a w) : K a w := h a w hw
def OutRel (N : Nat) (w2 : World) (D b7 n L g : Nat) (dn i : Value) (wr : World) : Prop :=
  ∃ (k : Nat) (d : Dk) (bd : Bool), k + g = L + 1 ∧ k ≤ L ∧ i = .int .i64 (k : Int) ∧ dn = .bool bd ∧ bd = d.down ∧ d.Sync ∧ d.soft.length ≤ k ∧ PlAt (fun _ => False) N w2 D b7 n d d.firm d.soft wr
set_option maxRecDepth 100000 in
set_option maxHeartbeats 8000000 in
theorem plays_short (A : Option Addr) (cap : Nat) (l : List ActD) (n : Nat) (w : World) (hl : l.length ≤ 60) (h1 : 1 ≤ n) (h3 : n ≤ 30) (ha : Acts w A l) (hg : Laid w) :
    Calls Tryd.prog 3 #[.int .i64 n, .slice A l.length cap] w fun e w' => e = .returned (.bool true) ∧ Below w.heap.size w w' := by
  have HA := Lib.hid ha
  clear ha
  have g1 : decide ((n : Int) < 1) = false := by simp; omega
  have g2 : decide (240 < (n : Int)) = false := by simp; omega
  have g3 : decide (30 < (n : Int)) = false := by simp; omega
  obtain ⟨M, HM⟩ : ∃ M, Hid (M = madeCells (pgArr zeroPg) (n * 128)) := ⟨_, Lib.hid rfl⟩
  obtain ⟨i0, hi0, hz0, hz1, hz2⟩ := info_parts Tryd.infoArr3
  have hmk : ∀ w', (Instr.makeSlice 31 (.int .i64 (n : Int)) (.int .i64 (n : Int))).run Tryd.prog w' = .ok (.slice (some ⟨w'.heap.size, 0, none⟩) n n) (w'.alloc (.cells M 35)) := fun w' => by
    have := run_make (P := Tryd.prog) w' 31 35 i0 _ Tryd.underlying31 hi0 hz0 .i64 .i64 n n (Int.natCast_nonneg n) (Int.le_refl _) (by rw [hz2]; omega) (by omega)
    rw [this, HM.out, hz1]
    rfl
  clear hi0 hz0 hz1 hz2
  obtain ⟨ZA, HZA⟩ : ∃ Z, Hid (Z = zeroAct) := ⟨_, Lib.hid rfl⟩
  have hza : ∀ w', (zeroValue 39).run Tryd.prog w' = .ok (.agg ZA) w' := by rw [HZA.out]; exact (zero_of_info Tryd.infoAct).1
  have HG := Lib.hid hg
  clear hg
  have hd : decide ((60 : Int) < (l.length : Int)) = false := by simp; omega
  go_enter Tryd.func3, Tryd.ntmps3
  go_wp2_with fail
  refine (awake_any _ HG.out).mono ?_
  rintro e w2 ⟨rfl, hb⟩
  have HB := Lib.hid hb
  have HG2 := Lib.hid (HG.out.carry hb)
  clear hb
  go_wp2_with fail
  have HA2 := Lib.hid (HA.out.below HB.out)
  refine (New_yes n h1 (by omega) _).mono ?_
  obtain ⟨N, HNN⟩ : ∃ N, Hid (N = w2.heap.size) := ⟨_, Lib.hid rfl⟩
  rw [show NewPost n w2 = fun e w' => ∃ D, e = .returned (.tuple #[.pointer (some ⟨D, 0, none⟩), .nilIface]) ∧ DiskAt (· < N) w' D n (Dk.new n) ∧ Below N w2 w' by rw [HNN.out]; rfl]
  rintro e w3 ⟨D, rfl, hdk, hb⟩
  have HD := Lib.hid hdk
  have HB3 : Hid (Below N w2 w3) := Lib.hid hb
  clear hdk hb
  have HK : Hid (Kept (· < N) w2 w3) := Lib.hid (Kept.of_below HB3.out (fun _ h => h))
  go_wp2_with fail
  have HPN := Lib.hid (ref_new HM.out (by rw [HNN.out]; exact Nat.le_refl _) HK.out HD.out)
  obtain ⟨w4, HW4⟩ : ∃ w4, Hid (w4 = (w3.alloc (.cells M 35)).alloc (.cells #[.slice (some ⟨w3.heap.size, 0, none⟩) n n, .slice none 0 0, .slice none 0 0] 34)) := ⟨_, Lib.hid rfl⟩
  obtain ⟨b7, HB7⟩ : ∃ b7, Hid (b7 = w3.heap.size + 1) := ⟨_, Lib.hid rfl⟩
  rw [← HW4.out, ← HB7.out] at HPN ⊢
  clear HW4 HB7 hmk HM HD HK
  go_loopg [8, 9] (l.length + 1) (fun g dn i wr => OutRel N w2 D b7 n l.length g dn i wr)
  case atStart => exact ⟨0, Dk.new n, false, by omega, Nat.zero_le _, rfl, rfl, rfl, Dk.Sync.new n, Nat.le_refl _, HPN.out⟩
  case round =>
    obtain ⟨k, d, bd, hkg, hk, rfl, rfl, hbd, hsy, hsl, hp⟩ := hrel
    have HDN := Lib.hid hbd
    have HSY := Lib.hid hsy
    have HP := Lib.hid hp
    have HKG := Lib.hid hkg
    clear hbd hsy hp hkg HPN
    by_cases hlt : k < l.length
    · obtain ⟨K, F, cF, va, vw, hst⟩ := HP.out
      obtain ⟨bb, o, rfl, hbl, hx⟩ := (HA2.out.kept hst.kept (fun j hj => by rw [HNN.out]; exact hj)).at_ hlt
      clear hst
      obtain ⟨x, HXE⟩ : ∃ x, Hid (x = l[k]) := ⟨_, Lib.hid rfl⟩
      rw [← HXE.out] at hx
      have HXA := Lib.hid hx
      obtain ⟨u, hu, _⟩ := wf_u8 hx.w0
      have hki : (k : Int) < (l.length : Int) := by omega
      have HU := Lib.hid hu
      clear hx hbl hu
      go_wp2_with (with_reducible refine stop_at (o := ⟨some 69, _, _, _, _, _⟩) ?_)
      refine wpList_load_mid rfl _ _ rfl bb (o + k * 132) rfl (actCells x) _ HXA.out.range Tryd.underlying39 rfl (by rw [actCells_length HXA.out.len]; exact Tryd.actSize) ?_
      go_wp2_with (with_reducible refine stop_at (o := ⟨none, _, _, _, _, _⟩) ?_)
      have hasz : (actCells x).toArray.size = 132 := by rw [List.size_toArray]; exact actCells_length HXA.out.len
      have hzsz : ZA.size = 132 := by rw [HZA.out]; rfl
      refine wpList_store_last rfl _ _ _ rfl ZA (actCells x).toArray _ rfl rfl rfl (by rw [hasz]; exact Tryd.actSize) (by rw [hasz, hzsz]) (actCells_one x) ?_
      obtain ⟨w5, HW5⟩ : ∃ w5, Hid (w5 = wr.alloc (.cells (actCells x).toArray 39)) := ⟨_, Lib.hid rfl⟩
      obtain ⟨b10, HBB⟩ : ∃ b, Hid (b = wr.heap.size) := ⟨_, Lib.hid rfl⟩
      rw [← HW5.out, ← HBB.out]
      have hba : w5.heap[b10]? = some (.cells (actCells x).toArray 39 (0, 0)) := by rw [HW5.out, HBB.out]; exact heap_alloc_last wr _
      have hbb : Below wr.heap.size wr w5 := by rw [HW5.out]; exact (Below.refl _ _).alloc (Nat.le_refl _) _
      have HX5 : Hid (ActAt w5 b10 0 x) := Lib.hid (HXA.out.of_range (fun j v hv => by
        rw [cell_of_row w5 b10 (0 + j) _ _ _ hba, Nat.zero_add]
        simpa using hv))
      have HP5 : Hid (PlAt (fun j => j = b10) N w2 D b7 n d d.firm d.soft w5) := Lib.hid (HP.out.below hbb (fun j hj => .inr (by
        have e1 := HBB.out
        have e2 := (Array.getElem?_eq_some_iff.1 hba).1
        omega)))
      have c0 : w5.cell? ⟨b10, 0, none⟩ = some (.int .u8 (u : Int)) := by have := HX5.out.c0; rw [HU.out] at this; exact this
      clear hba hbb hasz hzsz HP HXA HW5 HBB
      cases bd with
      | true =>
        go_upto_block 2 with (fail)
        refine sw_any (x := x) (bd := true) HP5 HX5 HSY (by omega) h1 (by omega) HNN HG2 HDN (Lib.hid rfl) (Lib.hid ?_)
        intros
        rename_i dn' d' w6 hdn' hsy' hsl' hp'
        have HDN' := Lib.hid hdn'
        have HSY' := Lib.hid hsy'
        have HP' := Lib.hid hp'
        clear hdn' hsy' hp' HP5 HX5 hza
        simp only [Exit.then]
        refine go_on (P := Tryd.prog) (by assumption) ?_
        refine plays_tail HP' HSY' (by omega) (by omega) HNN HG2 HDN' (fun _ _ _ _ _ h => h) (Lib.hid ?_)
        intros
        rename_i w7 hp7
        have HP7 := Lib.hid hp7
        clear hp7 HP'
        go_wp2_with fail
        go_roundg (l.length - k)
        case measure => have := HKG.out; omega
        case rel => exact ⟨k + 1, d', dn', by omega, hlt, by go_num, rfl, HDN'.out, HSY'.out, by omega, HP7.out⟩
      | false =>
        go_upto_block 2 with (fail)
        refine sw_any (x := x) (bd := false) HP5 HX5 HSY (by omega) h1 (by omega) HNN HG2 HDN (Lib.hid rfl) (Lib.hid ?_)
        intros
        rename_i dn' d' w6 hdn' hsy' hsl' hp'
        have HDN' := Lib.hid hdn'
        have HSY' := Lib.hid hsy'
        have HP' := Lib.hid hp'
        clear hdn' hsy' hp' HP5 HX5 hza
        simp only [Exit.then]
        refine go_on (P := Tryd.prog) (by assumption) ?_
        refine plays_tail HP' HSY' (by omega) (by omega) HNN HG2 HDN' (fun _ _ _ _ _ h => h) (Lib.hid ?_)
        intros
        rename_i w7 hp7
        have HP7 := Lib.hid hp7
        clear hp7 HP'
        go_wp2_with fail
        go_roundg (l.length - k)
        case measure => have := HKG.out; omega
        case rel => exact ⟨k + 1, d', dn', by omega, hlt, by go_num, rfl, HDN'.out, HSY'.out, by omega, HP7.out⟩
    · obtain rfl : k = l.length := by omega
      obtain ⟨K, F, cF, va, vw, hst⟩ := HP.out
      have HBR : Hid (Below w.heap.size w wr) := Lib.hid (HB.out.trans (hst.kept.below (fun k hk => by have := HB.out.size; rw [HNN.out]; omega)))
      clear hst HP
      go_upto_region 51 with (fail)
      go_cut [17] (fun s17 wx => s17 = .pointer none ∧ wr = wx)
      case first =>
        go_wp2_with fail
        go_meet
        exact ⟨rfl, rfl⟩
      case rest =>
        obtain ⟨rfl, rfl⟩ := hcut
        refine go_on (P := Tryd.prog) (by assumption) ?_
        exact plays_end HG HBR
end Go.Proofs.YtflkhbdipmjmeaaDoor
