/-
  The document's own Costs (layer 16): as long as something changes. Conditions: none beyond the premises of each theorem.
-/
import Derived.Test.YtiffgmgefpoblaaDoorFieldAwake
namespace Go.Proofs.YtiffgmgefpoblaaDoor
open Go.RowKit Hp Fld

/-- the costs in memory -/
structure RcI (w0 : World) (p g : Nat) (W H : Int) (s : ByteArray) (F : List Int) (w : World) : Prop where
  ref : RefAt w p W H s
  row : COwn w g (rowV F)
  len : F.length = s.size
  pg : p ≠ g
  far : w0.heap.size ≤ g
  gl : g < w.heap.size
  below : Below w0.heap.size w0 w
theorem RcI.carry {w0 w w' : World} {p g : Nat} {W H : Int} {s : ByteArray} {F : List Int} (h : RcI w0 p g W H s F w) (hb : Below w.heap.size w w') : RcI w0 p g W H s F w' :=
  ⟨h.ref.carry hb, h.row.below hb h.gl, h.len, h.pg, h.far, Nat.lt_of_lt_of_le h.gl hb.size, h.below.trans (hb.mono h.below.size)⟩
theorem RcI.drew {w0 w : World} {p g : Nat} {W H : Int} {s : ByteArray} {F : List Int} (h : RcI w0 p g W H s F w) : RcI w0 p g W H s F w.drew := h.carry (Below.refl _ _).drew
theorem RcI.cell {w0 w : World} {p g : Nat} {W H : Int} {s : ByteArray} {F : List Int} (h : RcI w0 p g W H s F w) {i : Nat} (hi : i < s.size) : w.cell? ⟨g, i, none⟩ = some (.int .i64 (fat F i)) := h.row.cell (rowV_at (fat_eq (by rw [h.len]; exact hi)))
theorem RcI.put {w0 w : World} {p g : Nat} {W H : Int} {s : ByteArray} {F : List Int} (h : RcI w0 p g W H s F w) {i : Nat} (hi : i < s.size) (z : Int) : RcI w0 p g W H s (F.set i z) (w.setCell ⟨g, i, none⟩ (.int .i64 z)) := by
  refine ⟨(Below.heap_setCell _ _ _ _ h.pg).trans h.ref, ?_, by rw [List.length_set]; exact h.len, h.pg, h.far, by simp [World.setCell]; exact h.gl, h.below.setCell h.far _⟩
  have := h.row.put (i := i) (by simpa [h.len] using hi) (.int .i64 z)
  rwa [show (rowV F).set i (.int .i64 z) = rowV (F.set i z) by simp [rowV, List.map_set]] at this
open Classical in
/-- what a cell costs at first, of the first k sources -/
noncomputable def src0 (xs : List UInt8) (S : List Int) (k i : Nat) : Int := if (i : Int) ∈ S.take k ∧ Grid.openAt xs i = true then 0 else -1
theorem src0_zero (xs : List UInt8) (S : List Int) (i : Nat) : src0 xs S 0 i = -1 := by simp [src0]
theorem src0_yes {xs : List UInt8} {S : List Int} {k i : Nat} (hk : k < S.length) (h : S[k] = (i : Int)) (ho : Grid.openAt xs i = true) : src0 xs S (k + 1) i = 0 := by
  unfold src0
  rw [if_pos]
  refine ⟨?_, ho⟩
  rw [List.take_add_one, List.getElem?_eq_getElem hk, h]
  simp
theorem src0_no {xs : List UInt8} {S : List Int} {k i : Nat} (hk : k < S.length) (h : ¬ (S[k] = (i : Int) ∧ Grid.openAt xs i = true)) : src0 xs S (k + 1) i = src0 xs S k i := by
  unfold src0
  have e : ((i : Int) ∈ S.take (k + 1) ∧ Grid.openAt xs i = true) ↔ ((i : Int) ∈ S.take k ∧ Grid.openAt xs i = true) := by
    rw [List.take_add_one, List.getElem?_eq_getElem hk]
    simp only [Option.toList_some, List.mem_append, List.mem_singleton]
    constructor
    · rintro ⟨h1 | h1, h2⟩
      · exact ⟨h1, h2⟩
      · exact absurd ⟨h1.symm, h2⟩ h
    · rintro ⟨h1, h2⟩; exact ⟨.inl h1, h2⟩
  by_cases hc : (i : Int) ∈ S.take k ∧ Grid.openAt xs i = true
  · rw [if_pos hc, if_pos (e.2 hc)]
  · rw [if_neg hc, if_neg (fun x => hc (e.1 x))]
theorem wrapI_left9 (n : Int) : IntKind.i64.wrap n = wrap64 n := by unfold wrap64; exact IntKind.wrap_i64 n
set_option maxRecDepth 100000 in
set_option maxHeartbeats 2000000 in
theorem RefCosts_any {w : World} {A : Option Addr} {cap : Nat} {S : List Int} {st : Int} (W H : Int) (s : ByteArray) (hz : Nums w .i64 A S) (hr : rightM W H s = true) (hs1 : 1 ≤ st) (hs2 : st ≤ 100) (hn : S.length ≤ 64) :
    Calls Tryd.prog 15 #[.agg #[.int .i64 W, .int .i64 H, .string s], .slice A S.length cap, .int .i64 st] w fun e w' => ∃ g F, e = .returned (.slice (some ⟨g, 0, none⟩) F.length F.length) ∧ Nums w' .i64 (some ⟨g, 0, none⟩) F ∧ IsField s.data.toList W.toNat S st F ∧ Below w.heap.size w w' := by
  obtain ⟨wd, hgt, rfl, rfl, ha1, ha8, hb1, hb8, hlen, hs0, hs64⟩ := right_small hr
  have HLE := Lib.hid hlen
  have HZ := Lib.hid hz
  clear hr hb1 hb8 hlen hz
  obtain ⟨w1, HW1⟩ : ∃ w1, Hid (w1 = w.alloc (.cells #[.int .i64 (wd : Int), .int .i64 (hgt : Int), .string s] 23)) := ⟨_, Lib.hid rfl⟩
  obtain ⟨p, HP⟩ : ∃ p, Hid (p = w.heap.size) := ⟨_, Lib.hid rfl⟩
  have HR1 : Hid (RefAt w1 p wd hgt s) := Lib.hid (by rw [HW1.out, HP.out]; exact heap_alloc_new w _)
  have HB1 : Hid (Below w.heap.size w w1) := Lib.hid (by rw [HW1.out]; exact (Below.refl _ _).alloc (Nat.le_refl _) _)
  have hmk := make_nums s.size (by omega) w1
  rw [repC_made 0] at hmk
  obtain ⟨w2, HW2⟩ : ∃ w2, Hid (w2 = w1.alloc (.cells (repC 0 0 s.size).toArray 3)) := ⟨_, Lib.hid rfl⟩
  obtain ⟨g, HG⟩ : ∃ g, Hid (g = w1.heap.size) := ⟨_, Lib.hid rfl⟩
  have HR2 : Hid (RcI w p g wd hgt s (List.replicate s.size 0) w2) := Lib.hid (by
    have hb : Below w1.heap.size w1 w2 := by rw [HW2.out]; exact (Below.refl _ _).alloc (Nat.le_refl _) _
    refine ⟨HR1.out.carry hb, ?_, by simp, by rw [HG.out]; have := HR1.out.lt; omega, by rw [HG.out]; exact HB1.out.size, by rw [HW2.out, HG.out, World.size_alloc]; omega, HB1.out.trans (hb.mono HB1.out.size)⟩
    have := COwn.of_row (w := w2) (g := g) (cs := repC 0 0 s.size) (t := 3) (by rw [HW2.out, HG.out]; exact heap_alloc_new w1 _)
    have e : repC 0 0 s.size = rowV (List.replicate s.size 0) := by simp [repC, rowV]
    rwa [e] at this)
  rw [← HW2.out, ← HG.out] at hmk
  have c2 := HR1.out.s_
  rw [HW1.out] at c2 hmk
  rw [HP.out] at c2
  go_enter Tryd.func15, Tryd.ntmps15
  go_wp2_with fail
  rw [← HP.out]
  clear c2 hmk HW1 HP HR1 HB1 HW2 HG
  go_loopw [9] (fun u wr => ∃ (i : Nat) (F : List Int), u = .int .i64 (i : Int) ∧ i ≤ s.size ∧ RcI w p g wd hgt s F wr ∧ ∀ t, t < i → fat F t = src0 s.data.toList S S.length t) (fun u _ => s.size - (intOf u).toNat)
  case atStart => exact ⟨0, _, rfl, Nat.zero_le _, HR2.out, fun t ht => by omega⟩
  case round =>
    clear HR2
    obtain ⟨i, F, rfl, hi, hrc, hpre⟩ := hrel
    have HC := Lib.hid hrc
    have HPRE := Lib.hid hpre
    clear hrc hpre
    by_cases hil : i < s.size
    · obtain ⟨x, HX⟩ : ∃ x, Hid (x = fat F i) := ⟨_, Lib.hid rfl⟩
      have r0 := HC.out.cell hil
      rw [← HX.out] at r0
      have f0 := HC.out.row.free i
      obtain ⟨w3, HW3⟩ : ∃ w3, Hid (w3 = wr.setCell ⟨g, i, none⟩ (.int .i64 (-1))) := ⟨_, Lib.hid rfl⟩
      have hset := HW3.out.symm
      have HC3 : Hid (RcI w p g wd hgt s (F.set i (-1)) w3) := Lib.hid (by rw [HW3.out]; exact HC.out.put hil (-1))
      have HP3 : Hid (∀ t, t < i → fat (F.set i (-1)) t = src0 s.data.toList S S.length t) := Lib.hid (fun t ht => by
        rw [fat_set (by rw [HC.out.len]; exact hil), if_neg (by omega)]
        exact HPRE.out t ht)
      have HP4 : Hid (fat (F.set i (-1)) i = src0 s.data.toList S 0 i) := Lib.hid (by rw [fat_set (by rw [HC.out.len]; exact hil), if_pos rfl, src0_zero])
      go_wp2_with fail
      clear hset HW3 HC HPRE r0 f0 HX
      go_loopw [10] (fun u wr => ∃ (k : Nat) (F : List Int), u = .int .i64 (k : Int) ∧ k ≤ S.length ∧ RcI w p g wd hgt s F wr ∧ (∀ t, t < i → fat F t = src0 s.data.toList S S.length t) ∧ fat F i = src0 s.data.toList S k i) (fun u _ => S.length - (intOf u).toNat)
      case atStart => exact ⟨0, _, rfl, Nat.zero_le _, HC3.out, HP3.out, HP4.out⟩
      case round =>
        clear HC3 HP3 HP4
        obtain ⟨k, F, rfl, hk, hrc, hpre, hat⟩ := hrel
        have HC := Lib.hid hrc
        have HPRE := Lib.hid hpre
        have HAT := Lib.hid hat
        clear hrc hpre hat
        by_cases hkl : k < S.length
        · obtain ⟨sv, HSV⟩ : ∃ sv, Hid (sv = S[k]) := ⟨_, Lib.hid rfl⟩
          obtain ⟨ad, hA, hcc⟩ := (HZ.out.carry HC.out.below).at_ (List.getElem?_eq_getElem hkl)
          subst hA
          rw [← HSV.out] at hcc
          have c2 := HC.out.ref.s_
          have hby := byte_ne_int s i hil
          obtain ⟨oi, HOI⟩ : ∃ oi, Hid (oi = Grid.openAt s.data.toList i) := ⟨_, Lib.hid rfl⟩
          rw [← HOI.out] at hby
          by_cases hsi : sv = (i : Int)
          · subst hsi
            cases oi with
            | false =>
              go_wp2_with fail
              go_roundw
              case rel => exact ⟨k + 1, F, by go_num, hkl, HC.out, HPRE.out, by rw [HAT.out, src0_no hkl (by rw [← HOI.out]; simp)]⟩
              case measure => simp [intOf]; omega
            | true =>
              have r0 := HC.out.cell hil
              obtain ⟨x, HX⟩ : ∃ x, Hid (x = fat F i) := ⟨_, Lib.hid rfl⟩
              rw [← HX.out] at r0
              have f0 := HC.out.row.free i
              obtain ⟨w3, HW3⟩ : ∃ w3, Hid (w3 = wr.setCell ⟨g, i, none⟩ (.int .i64 0)) := ⟨_, Lib.hid rfl⟩
              have hset := HW3.out.symm
              have HC3 : Hid (RcI w p g wd hgt s (F.set i 0) w3) := Lib.hid (by rw [HW3.out]; exact HC.out.put hil 0)
              have HP3 : Hid (∀ t, t < i → fat (F.set i 0) t = src0 s.data.toList S S.length t) := Lib.hid (fun t ht => by
                rw [fat_set (by rw [HC.out.len]; exact hil), if_neg (by omega)]
                exact HPRE.out t ht)
              have HP4 : Hid (fat (F.set i 0) i = src0 s.data.toList S (k + 1) i) := Lib.hid (by rw [fat_set (by rw [HC.out.len]; exact hil), if_pos rfl, src0_yes hkl HSV.out.symm HOI.out.symm])
              go_wp2_with fail
              go_roundw
              case rel => exact ⟨k + 1, _, by go_num, hkl, HC3.out, HP3.out, HP4.out⟩
              case measure => simp [intOf]; omega
          · go_wp2_with fail
            go_roundw
            case rel => exact ⟨k + 1, F, by go_num, hkl, HC.out, HPRE.out, by rw [HAT.out, src0_no hkl (by rw [← HSV.out]; exact fun h => hsi h.1)]⟩
            case measure => simp [intOf]; omega
        · obtain rfl : k = S.length := by omega
          go_wp2_with fail
          go_roundw
          case rel => exact ⟨i + 1, F, by go_num, hil, HC.out, fun t ht => by
            by_cases e : t = i
            · rw [e]; exact HAT.out
            · exact HPRE.out t (by omega)⟩
          case measure => simp [intOf]; omega
    · obtain rfl : i = s.size := by omega
      have HST : Hid (BelI s.data.toList wd S st 0 0 F) := Lib.hid (BelI.start (by rw [HC.out.len, HLE.out]) (fun t => by
        by_cases ht : t < s.size
        · rw [HPRE.out t ht]
          unfold src0
          rw [List.take_length]
        · rw [fat_out (by rw [HC.out.len]; omega), if_neg]
          rintro ⟨_, h2⟩
          have := Grid.openAt_lt h2
          rw [HLE.out] at this
          exact ht this))
      clear HPRE
      go_wp2_with fail
      go_loopw [11] (fun u wr => ∃ (r : Nat) (F : List Int), u = .int .i64 (r : Int) ∧ r ≤ s.size ∧ RcI w p g wd hgt s F wr ∧ BelI s.data.toList wd S st r 0 F) (fun u _ => s.size - (intOf u).toNat)
      case atStart => exact ⟨0, F, rfl, Nat.zero_le _, HC.out, HST.out⟩
      case round =>
        clear HC HST
        obtain ⟨r, F, rfl, hr, hrc, hbe⟩ := hrel
        have HC := Lib.hid hrc
        have HBE := Lib.hid hbe
        clear hrc hbe
        by_cases hrl : r < s.size
        · go_wp2_with fail
          go_loopw [12] (fun u wr => ∃ (i : Nat) (F : List Int), u = .int .i64 (i : Int) ∧ i ≤ s.size ∧ RcI w p g wd hgt s F wr ∧ BelI s.data.toList wd S st r i F) (fun u _ => s.size - (intOf u).toNat)
          case atStart => exact ⟨0, F, rfl, Nat.zero_le _, HC.out, HBE.out⟩
          case round =>
            clear HC HBE
            obtain ⟨i, F, rfl, hi, hrc, hbe⟩ := hrel
            have HC := Lib.hid hrc
            have HBE := Lib.hid hbe
            clear hrc hbe
            by_cases hil : i < s.size
            · go_wp2_with fail
              go_loopw [13] (fun u wr => ∃ (k : Nat) (F : List Int), u = .int .i64 (k : Int) ∧ k ≤ s.size ∧ RcI w p g wd hgt s F wr ∧ BelK s.data.toList wd S st r i k F) (fun u _ => s.size - (intOf u).toNat)
              case atStart => exact ⟨0, F, rfl, Nat.zero_le _, HC.out, HBE.out.begin⟩
              case round =>
                clear HC HBE
                obtain ⟨k, F, rfl, hk, hrc, hbe⟩ := hrel
                have HC := Lib.hid hrc
                have HBE := Lib.hid hbe
                clear hrc hbe
                have c0 := HC.out.ref.w_
                have c2 := HC.out.ref.s_
                have hby := byte_ne_int s i hil
                obtain ⟨oi, HOI⟩ : ∃ oi, Hid (oi = Grid.openAt s.data.toList i) := ⟨_, Lib.hid rfl⟩
                rw [← HOI.out] at hby
                by_cases hkl : k < s.size
                · cases oi with
                  | false =>
                    go_wp2_with fail
                    go_roundw
                    case rel => exact ⟨i + 1, F, by go_num, hil, HC.out, HBE.out.bel.wall HOI.out.symm⟩
                    case measure => simp [intOf]; omega
                  | true =>
                    obtain ⟨y, HY⟩ : ∃ y, Hid (y = fat F k) := ⟨_, Lib.hid rfl⟩
                    obtain ⟨x, HX⟩ : ∃ x, Hid (x = fat F i) := ⟨_, Lib.hid rfl⟩
                    have r0 := HC.out.cell hkl
                    have r1 := HC.out.cell hil
                    rw [← HY.out] at r0
                    rw [← HX.out] at r1
                    have hyb : y = -1 ∨ (0 ≤ y ∧ y ≤ 100000) := by
                      rcases HBE.out.bel.bel.sound k with h | ⟨q, h, _, hq⟩
                      · exact .inl (HY.out.trans h)
                      · have := cnt_le F
                        rw [HC.out.len] at this
                        exact .inr ⟨by rw [HY.out, h]; exact mul_nn q hs1, by rw [HY.out, h]; exact mul_bound hs2 (by omega)⟩
                    have hxb : x = -1 ∨ 0 ≤ x := by
                      rcases HBE.out.bel.bel.sound i with h | ⟨q, h, _, hq⟩
                      · exact .inl (HX.out.trans h)
                      · exact .inr (by rw [HX.out, h]; exact mul_nn q hs1)
                    have hw1 : wrap64 (y + st) = y + st := by unfold wrap64; omega
                    have hw2 : IntKind.i64.wrap (y + st) = y + st := by rw [wrapI_left9, hw1]
                    go_wp2_with fail
                    refine wp_region_held (S := fun w9 => w9.cell? ⟨p, 0, none⟩ = some (.int .i64 (wd : Int)) ∧ w9.cell? ⟨g, k, none⟩ = some (.int .i64 y) ∧ w9.cell? ⟨g, i, none⟩ = some (.int .i64 x)) (by kernel_rfl) ?_
                    change wpAnyH _ _ _ _ _ _ _ _ wr.drew
                    obtain ⟨wa, HWA⟩ : ∃ wa, Hid (wa = wr.drew) := ⟨_, Lib.hid rfl⟩
                    rw [← HWA.out]
                    have hS : wa.cell? ⟨p, 0, none⟩ = some (.int .i64 (wd : Int)) ∧ wa.cell? ⟨g, k, none⟩ = some (.int .i64 y) ∧ wa.cell? ⟨g, i, none⟩ = some (.int .i64 x) := by rw [HWA.out]; exact ⟨c0, r0, r1⟩
                    have HCa : Hid (RcI w p g wd hgt s F wa) := Lib.hid (by rw [HWA.out]; exact HC.out.drew)
                    clear HWA HC c0 c2 r0 r1 hby
                    obtain ⟨bs, HBS⟩ : ∃ bs, Hid (bs = Grid.beside wd i k) := ⟨_, Lib.hid rfl⟩
                    have hbc := Lib.hid (RefBeside_any wd i k ha1 ha8 (by omega) (by omega))
                    rw [← HBS.out] at hbc
                    cases bs with
                    | false =>
                      refine takeH (i := 0) 71 (v := .pointer (some ⟨p, 0, none⟩)) rfl (by kernel_rfl) (by kernel_rfl) (by kernel_rfl) rfl (fun _ _ _ h => h) (.inl ⟨by rfl, fun _ _ => by go_simp⟩) hS ?_
                      simp only [Act.put, List.setIfInBounds_toArray, List.set_cons_zero, List.set_cons_succ]
                      refine takeH (i := 1) 72 (v := .int .i64 (wd : Int)) rfl (by kernel_rfl) (by kernel_rfl) (by kernel_rfl) rfl (fun _ _ _ h => h) (.inl ⟨by rfl, fun _ h => by have s0 := h.1; go_simp⟩) hS ?_
                      simp only [Act.put, List.setIfInBounds_toArray, List.set_cons_zero, List.set_cons_succ]
                      refine takeH (i := 2) 73 (v := .int .i64 (i : Int)) rfl (by kernel_rfl) (by kernel_rfl) (by kernel_rfl) rfl (fun _ _ _ h => h) (.inl ⟨by rfl, fun _ _ => by go_simp⟩) hS ?_
                      simp only [Act.put, List.setIfInBounds_toArray, List.set_cons_zero, List.set_cons_succ]
                      refine takeH (i := 3) 74 (v := .int .i64 (k : Int)) rfl (by kernel_rfl) (by kernel_rfl) (by kernel_rfl) rfl (fun _ _ _ h => h) (.inl ⟨by rfl, fun _ _ => by go_simp⟩) hS ?_
                      simp only [Act.put, List.setIfInBounds_toArray, List.set_cons_zero, List.set_cons_succ]
                      refine oneH (i := 4) (oi := ⟨some 75, _, _, _, _, _⟩) rfl (by kernel_rfl) (fun K hK => ?_)
                      go_simp
                      refine (hbc.out wa).mono ?_
                      rintro e wb ⟨rfl, hbb⟩
                      have HCb : Hid (RcI w p g wd hgt s F wb) := Lib.hid (HCa.out.carry hbb)
                      have hS2 : wb.cell? ⟨p, 0, none⟩ = some (.int .i64 (wd : Int)) ∧ wb.cell? ⟨g, k, none⟩ = some (.int .i64 y) ∧ wb.cell? ⟨g, i, none⟩ = some (.int .i64 x) := ⟨(hbb.cell (below_block hS.1)).trans hS.1, (hbb.cell (below_block hS.2.1)).trans hS.2.1, (hbb.cell (below_block hS.2.2)).trans hS.2.2⟩
                      refine hK.out _ _ hS2 ?_
                      clear hK K hS HCa hbb hbc
                      have hS := hS2
                      clear hS2
                      refine takeH (i := 5) 76 (v := .bool false) rfl (by kernel_rfl) (by kernel_rfl) (by kernel_rfl) rfl (fun _ _ _ h => h) (.inl ⟨by rfl, fun _ _ => by go_simp⟩) hS ?_
                      simp only [Act.put, List.setIfInBounds_toArray, List.set_cons_zero, List.set_cons_succ]
                      refine takeH (i := 6) 77 (v := undef) rfl (by kernel_rfl) (by kernel_rfl) (by kernel_rfl) rfl (fun _ _ _ h => h) (.inr ⟨by rfl, rfl⟩) hS ?_
                      simp only [Act.put, List.setIfInBounds_toArray, List.set_cons_zero, List.set_cons_succ]
                      refine takeH (i := 7) 78 (v := undef) rfl (by kernel_rfl) (by kernel_rfl) (by kernel_rfl) rfl (fun _ _ _ h => h) (.inr ⟨by rfl, rfl⟩) hS ?_
                      simp only [Act.put, List.setIfInBounds_toArray, List.set_cons_zero, List.set_cons_succ]
                      refine takeH (i := 8) 79 (v := undef) rfl (by kernel_rfl) (by kernel_rfl) (by kernel_rfl) rfl (fun _ _ _ h => h) (.inr ⟨by rfl, rfl⟩) hS ?_
                      simp only [Act.put, List.setIfInBounds_toArray, List.set_cons_zero, List.set_cons_succ]
                      refine takeH (i := 9) 80 (v := undef) rfl (by kernel_rfl) (by kernel_rfl) (by kernel_rfl) rfl (fun _ _ _ h => h) (.inr ⟨by rfl, rfl⟩) hS ?_
                      simp only [Act.put, List.setIfInBounds_toArray, List.set_cons_zero, List.set_cons_succ]
                      refine takeH (i := 10) 81 (v := undef) rfl (by kernel_rfl) (by kernel_rfl) (by kernel_rfl) rfl (fun _ _ _ h => h) (.inr ⟨by rfl, rfl⟩) hS ?_
                      simp only [Act.put, List.setIfInBounds_toArray, List.set_cons_zero, List.set_cons_succ]
                      refine takeH (i := 11) 82 (v := .bool false) rfl (by kernel_rfl) (by kernel_rfl) (by kernel_rfl) rfl (fun _ _ _ h => h) (.inl ⟨by rfl, fun _ _ => by go_simp⟩) hS ?_
                      simp only [Act.put, List.setIfInBounds_toArray, List.set_cons_zero, List.set_cons_succ]
                      refine takeH (i := 12) 83 (v := .bool false) rfl (by kernel_rfl) (by kernel_rfl) (by kernel_rfl) rfl (fun _ _ _ h => h) (.inl ⟨by rfl, fun _ _ => by go_simp⟩) hS ?_
                      simp only [Act.put, List.setIfInBounds_toArray, List.set_cons_zero, List.set_cons_succ]
                      refine takeH (i := 13) 84 (v := undef) rfl (by kernel_rfl) (by kernel_rfl) (by kernel_rfl) rfl (fun _ _ _ h => h) (.inr ⟨by rfl, rfl⟩) hS ?_
                      simp only [Act.put, List.setIfInBounds_toArray, List.set_cons_zero, List.set_cons_succ]
                      refine takeH (i := 14) 85 (v := undef) rfl (by kernel_rfl) (by kernel_rfl) (by kernel_rfl) rfl (fun _ _ _ h => h) (.inr ⟨by rfl, rfl⟩) hS ?_
                      simp only [Act.put, List.setIfInBounds_toArray, List.set_cons_zero, List.set_cons_succ]
                      refine takeH (i := 15) 86 (v := undef) rfl (by kernel_rfl) (by kernel_rfl) (by kernel_rfl) rfl (fun _ _ _ h => h) (.inr ⟨by rfl, rfl⟩) hS ?_
                      simp only [Act.put, List.setIfInBounds_toArray, List.set_cons_zero, List.set_cons_succ]
                      refine takeH (i := 16) 87 (v := undef) rfl (by kernel_rfl) (by kernel_rfl) (by kernel_rfl) rfl (fun _ _ _ h => h) (.inr ⟨by rfl, rfl⟩) hS ?_
                      simp only [Act.put, List.setIfInBounds_toArray, List.set_cons_zero, List.set_cons_succ]
                      refine takeH (i := 17) 88 (v := undef) rfl (by kernel_rfl) (by kernel_rfl) (by kernel_rfl) rfl (fun _ _ _ h => h) (.inr ⟨by rfl, rfl⟩) hS ?_
                      simp only [Act.put, List.setIfInBounds_toArray, List.set_cons_zero, List.set_cons_succ]
                      refine takeH (i := 18) 89 (v := undef) rfl (by kernel_rfl) (by kernel_rfl) (by kernel_rfl) rfl (fun _ _ _ h => h) (.inr ⟨by rfl, rfl⟩) hS ?_
                      simp only [Act.put, List.setIfInBounds_toArray, List.set_cons_zero, List.set_cons_succ]
                      refine takeH (i := 19) 90 (v := undef) rfl (by kernel_rfl) (by kernel_rfl) (by kernel_rfl) rfl (fun _ _ _ h => h) (.inr ⟨by rfl, rfl⟩) hS ?_
                      simp only [Act.put, List.setIfInBounds_toArray, List.set_cons_zero, List.set_cons_succ]
                      refine takeH (i := 20) 91 (v := undef) rfl (by kernel_rfl) (by kernel_rfl) (by kernel_rfl) rfl (fun _ _ _ h => h) (.inr ⟨by rfl, rfl⟩) hS ?_
                      simp only [Act.put, List.setIfInBounds_toArray, List.set_cons_zero, List.set_cons_succ]
                      refine takeH (i := 21) 92 (v := undef) rfl (by kernel_rfl) (by kernel_rfl) (by kernel_rfl) rfl (fun _ _ _ h => h) (.inr ⟨by rfl, rfl⟩) hS ?_
                      simp only [Act.put, List.setIfInBounds_toArray, List.set_cons_zero, List.set_cons_succ]
                      refine takeH (i := 22) 93 (v := undef) rfl (by kernel_rfl) (by kernel_rfl) (by kernel_rfl) rfl (fun _ _ _ h => h) (.inr ⟨by rfl, rfl⟩) hS ?_
                      simp only [Act.put, List.setIfInBounds_toArray, List.set_cons_zero, List.set_cons_succ]
                      refine takeH (i := 23) 94 (v := undef) rfl (by kernel_rfl) (by kernel_rfl) (by kernel_rfl) rfl (fun _ _ _ h => h) (.inr ⟨by rfl, rfl⟩) hS ?_
                      simp only [Act.put, List.setIfInBounds_toArray, List.set_cons_zero, List.set_cons_succ]
                      refine takeH (i := 24) 95 (v := undef) rfl (by kernel_rfl) (by kernel_rfl) (by kernel_rfl) rfl (fun _ _ _ h => h) (.inr ⟨by rfl, rfl⟩) hS ?_
                      simp only [Act.put, List.setIfInBounds_toArray, List.set_cons_zero, List.set_cons_succ]
                      refine takeH (i := 25) 96 (v := undef) rfl (by kernel_rfl) (by kernel_rfl) (by kernel_rfl) rfl (fun _ _ _ h => h) (.inr ⟨by rfl, rfl⟩) hS ?_
                      simp only [Act.put, List.setIfInBounds_toArray, List.set_cons_zero, List.set_cons_succ]
                      refine takeH (i := 26) 97 (v := undef) rfl (by kernel_rfl) (by kernel_rfl) (by kernel_rfl) rfl (fun _ _ _ h => h) (.inr ⟨by rfl, rfl⟩) hS ?_
                      simp only [Act.put, List.setIfInBounds_toArray, List.set_cons_zero, List.set_cons_succ]
                      refine takeH (i := 27) 98 (v := undef) rfl (by kernel_rfl) (by kernel_rfl) (by kernel_rfl) rfl (fun _ _ _ h => h) (.inr ⟨by rfl, rfl⟩) hS ?_
                      simp only [Act.put, List.setIfInBounds_toArray, List.set_cons_zero, List.set_cons_succ]
                      refine takeH (i := 28) 99 (v := undef) rfl (by kernel_rfl) (by kernel_rfl) (by kernel_rfl) rfl (fun _ _ _ h => h) (.inr ⟨by rfl, rfl⟩) hS ?_
                      simp only [Act.put, List.setIfInBounds_toArray, List.set_cons_zero, List.set_cons_succ]
                      refine takeH (i := 29) 100 (v := undef) rfl (by kernel_rfl) (by kernel_rfl) (by kernel_rfl) rfl (fun _ _ _ h => h) (.inr ⟨by rfl, rfl⟩) hS ?_
                      simp only [Act.put, List.setIfInBounds_toArray, List.set_cons_zero, List.set_cons_succ]
                      refine takeH (i := 30) 101 (v := undef) rfl (by kernel_rfl) (by kernel_rfl) (by kernel_rfl) rfl (fun _ _ _ h => h) (.inr ⟨by rfl, rfl⟩) hS ?_
                      simp only [Act.put, List.setIfInBounds_toArray, List.set_cons_zero, List.set_cons_succ]
                      refine takeH (i := 31) 102 (v := .bool false) rfl (by kernel_rfl) (by kernel_rfl) (by kernel_rfl) rfl (fun _ _ _ h => h) (.inl ⟨by rfl, fun _ _ => by go_simp⟩) hS ?_
                      simp only [Act.put, List.setIfInBounds_toArray, List.set_cons_zero, List.set_cons_succ]
                      refine wpAnyH_done (by kernel_rfl) ?_ _
                      go_wp2_with fail
                      go_roundw
                      case rel => exact ⟨k + 1, F, by go_num, hkl, HCb.out, HBE.out.same (fun h => by rw [← HBS.out] at h; cases h)⟩
                      case measure => simp [intOf]; omega
                    | true =>
                      by_cases hy0 : 0 ≤ y
                      · by_cases hx0 : x < 0
                        · refine takeH (i := 0) 71 (v := .pointer (some ⟨p, 0, none⟩)) rfl (by kernel_rfl) (by kernel_rfl) (by kernel_rfl) rfl (fun _ _ _ h => h) (.inl ⟨by rfl, fun _ _ => by go_simp⟩) hS ?_
                          simp only [Act.put, List.setIfInBounds_toArray, List.set_cons_zero, List.set_cons_succ]
                          refine takeH (i := 1) 72 (v := .int .i64 (wd : Int)) rfl (by kernel_rfl) (by kernel_rfl) (by kernel_rfl) rfl (fun _ _ _ h => h) (.inl ⟨by rfl, fun _ h => by have s0 := h.1; go_simp⟩) hS ?_
                          simp only [Act.put, List.setIfInBounds_toArray, List.set_cons_zero, List.set_cons_succ]
                          refine takeH (i := 2) 73 (v := .int .i64 (i : Int)) rfl (by kernel_rfl) (by kernel_rfl) (by kernel_rfl) rfl (fun _ _ _ h => h) (.inl ⟨by rfl, fun _ _ => by go_simp⟩) hS ?_
                          simp only [Act.put, List.setIfInBounds_toArray, List.set_cons_zero, List.set_cons_succ]
                          refine takeH (i := 3) 74 (v := .int .i64 (k : Int)) rfl (by kernel_rfl) (by kernel_rfl) (by kernel_rfl) rfl (fun _ _ _ h => h) (.inl ⟨by rfl, fun _ _ => by go_simp⟩) hS ?_
                          simp only [Act.put, List.setIfInBounds_toArray, List.set_cons_zero, List.set_cons_succ]
                          refine oneH (i := 4) (oi := ⟨some 75, _, _, _, _, _⟩) rfl (by kernel_rfl) (fun K hK => ?_)
                          go_simp
                          refine (hbc.out wa).mono ?_
                          rintro e wb ⟨rfl, hbb⟩
                          have HCb : Hid (RcI w p g wd hgt s F wb) := Lib.hid (HCa.out.carry hbb)
                          have hS2 : wb.cell? ⟨p, 0, none⟩ = some (.int .i64 (wd : Int)) ∧ wb.cell? ⟨g, k, none⟩ = some (.int .i64 y) ∧ wb.cell? ⟨g, i, none⟩ = some (.int .i64 x) := ⟨(hbb.cell (below_block hS.1)).trans hS.1, (hbb.cell (below_block hS.2.1)).trans hS.2.1, (hbb.cell (below_block hS.2.2)).trans hS.2.2⟩
                          refine hK.out _ _ hS2 ?_
                          clear hK K hS HCa hbb hbc
                          have hS := hS2
                          clear hS2
                          refine takeH (i := 5) 76 (v := .bool true) rfl (by kernel_rfl) (by kernel_rfl) (by kernel_rfl) rfl (fun _ _ _ h => h) (.inl ⟨by rfl, fun _ _ => by go_simp⟩) hS ?_
                          simp only [Act.put, List.setIfInBounds_toArray, List.set_cons_zero, List.set_cons_succ]
                          refine takeH (i := 6) 77 (v := .slice (some ⟨g, 0, none⟩) s.size s.size) rfl (by kernel_rfl) (by kernel_rfl) (by kernel_rfl) rfl (fun _ _ _ h => h) (.inl ⟨by rfl, fun _ _ => by go_simp⟩) hS ?_
                          simp only [Act.put, List.setIfInBounds_toArray, List.set_cons_zero, List.set_cons_succ]
                          refine takeH (i := 7) 78 (v := .int .i64 (k : Int)) rfl (by kernel_rfl) (by kernel_rfl) (by kernel_rfl) rfl (fun _ _ _ h => h) (.inl ⟨by rfl, fun _ _ => by go_simp⟩) hS ?_
                          simp only [Act.put, List.setIfInBounds_toArray, List.set_cons_zero, List.set_cons_succ]
                          refine takeH (i := 8) 79 (v := .pointer (some ⟨g, k, none⟩)) rfl (by kernel_rfl) (by kernel_rfl) (by kernel_rfl) rfl (fun _ _ _ h => h) (.inl ⟨by rfl, fun _ _ => by go_simp⟩) hS ?_
                          simp only [Act.put, List.setIfInBounds_toArray, List.set_cons_zero, List.set_cons_succ]
                          refine takeH (i := 9) 80 (v := .int .i64 y) rfl (by kernel_rfl) (by kernel_rfl) (by kernel_rfl) rfl (fun _ _ _ h => h) (.inl ⟨by rfl, fun _ h => by have s1 := h.2.1; go_simp⟩) hS ?_
                          simp only [Act.put, List.setIfInBounds_toArray, List.set_cons_zero, List.set_cons_succ]
                          refine takeH (i := 10) 81 (v := .bool true) rfl (by kernel_rfl) (by kernel_rfl) (by kernel_rfl) rfl (fun _ _ _ h => h) (.inl ⟨by rfl, fun _ _ => by go_simp⟩) hS ?_
                          simp only [Act.put, List.setIfInBounds_toArray, List.set_cons_zero, List.set_cons_succ]
                          refine takeH (i := 11) 82 (v := .bool true) rfl (by kernel_rfl) (by kernel_rfl) (by kernel_rfl) rfl (fun _ _ _ h => h) (.inl ⟨by rfl, fun _ _ => by go_simp⟩) hS ?_
                          simp only [Act.put, List.setIfInBounds_toArray, List.set_cons_zero, List.set_cons_succ]
                          refine takeH (i := 12) 83 (v := .bool true) rfl (by kernel_rfl) (by kernel_rfl) (by kernel_rfl) rfl (fun _ _ _ h => h) (.inl ⟨by rfl, fun _ _ => by go_simp⟩) hS ?_
                          simp only [Act.put, List.setIfInBounds_toArray, List.set_cons_zero, List.set_cons_succ]
                          refine takeH (i := 13) 84 (v := .slice (some ⟨g, 0, none⟩) s.size s.size) rfl (by kernel_rfl) (by kernel_rfl) (by kernel_rfl) rfl (fun _ _ _ h => h) (.inl ⟨by rfl, fun _ _ => by go_simp⟩) hS ?_
                          simp only [Act.put, List.setIfInBounds_toArray, List.set_cons_zero, List.set_cons_succ]
                          refine takeH (i := 14) 85 (v := .int .i64 (i : Int)) rfl (by kernel_rfl) (by kernel_rfl) (by kernel_rfl) rfl (fun _ _ _ h => h) (.inl ⟨by rfl, fun _ _ => by go_simp⟩) hS ?_
                          simp only [Act.put, List.setIfInBounds_toArray, List.set_cons_zero, List.set_cons_succ]
                          refine takeH (i := 15) 86 (v := .pointer (some ⟨g, i, none⟩)) rfl (by kernel_rfl) (by kernel_rfl) (by kernel_rfl) rfl (fun _ _ _ h => h) (.inl ⟨by rfl, fun _ _ => by go_simp⟩) hS ?_
                          simp only [Act.put, List.setIfInBounds_toArray, List.set_cons_zero, List.set_cons_succ]
                          refine takeH (i := 16) 87 (v := .int .i64 x) rfl (by kernel_rfl) (by kernel_rfl) (by kernel_rfl) rfl (fun _ _ _ h => h) (.inl ⟨by rfl, fun _ h => by have s2 := h.2.2; go_simp⟩) hS ?_
                          simp only [Act.put, List.setIfInBounds_toArray, List.set_cons_zero, List.set_cons_succ]
                          refine takeH (i := 17) 88 (v := .bool true) rfl (by kernel_rfl) (by kernel_rfl) (by kernel_rfl) rfl (fun _ _ _ h => h) (.inl ⟨by rfl, fun _ _ => by go_simp⟩) hS ?_
                          simp only [Act.put, List.setIfInBounds_toArray, List.set_cons_zero, List.set_cons_succ]
                          refine takeH (i := 18) 89 (v := .bool true) rfl (by kernel_rfl) (by kernel_rfl) (by kernel_rfl) rfl (fun _ _ _ h => h) (.inl ⟨by rfl, fun _ _ => by go_simp⟩) hS ?_
                          simp only [Act.put, List.setIfInBounds_toArray, List.set_cons_zero, List.set_cons_succ]
                          refine takeH (i := 19) 90 (v := undef) rfl (by kernel_rfl) (by kernel_rfl) (by kernel_rfl) rfl (fun _ _ _ h => h) (.inr ⟨by rfl, rfl⟩) hS ?_
                          simp only [Act.put, List.setIfInBounds_toArray, List.set_cons_zero, List.set_cons_succ]
                          refine takeH (i := 20) 91 (v := undef) rfl (by kernel_rfl) (by kernel_rfl) (by kernel_rfl) rfl (fun _ _ _ h => h) (.inr ⟨by rfl, rfl⟩) hS ?_
                          simp only [Act.put, List.setIfInBounds_toArray, List.set_cons_zero, List.set_cons_succ]
                          refine takeH (i := 21) 92 (v := undef) rfl (by kernel_rfl) (by kernel_rfl) (by kernel_rfl) rfl (fun _ _ _ h => h) (.inr ⟨by rfl, rfl⟩) hS ?_
                          simp only [Act.put, List.setIfInBounds_toArray, List.set_cons_zero, List.set_cons_succ]
                          refine takeH (i := 22) 93 (v := undef) rfl (by kernel_rfl) (by kernel_rfl) (by kernel_rfl) rfl (fun _ _ _ h => h) (.inr ⟨by rfl, rfl⟩) hS ?_
                          simp only [Act.put, List.setIfInBounds_toArray, List.set_cons_zero, List.set_cons_succ]
                          refine takeH (i := 23) 94 (v := undef) rfl (by kernel_rfl) (by kernel_rfl) (by kernel_rfl) rfl (fun _ _ _ h => h) (.inr ⟨by rfl, rfl⟩) hS ?_
                          simp only [Act.put, List.setIfInBounds_toArray, List.set_cons_zero, List.set_cons_succ]
                          refine takeH (i := 24) 95 (v := undef) rfl (by kernel_rfl) (by kernel_rfl) (by kernel_rfl) rfl (fun _ _ _ h => h) (.inr ⟨by rfl, rfl⟩) hS ?_
                          simp only [Act.put, List.setIfInBounds_toArray, List.set_cons_zero, List.set_cons_succ]
                          refine takeH (i := 25) 96 (v := undef) rfl (by kernel_rfl) (by kernel_rfl) (by kernel_rfl) rfl (fun _ _ _ h => h) (.inr ⟨by rfl, rfl⟩) hS ?_
                          simp only [Act.put, List.setIfInBounds_toArray, List.set_cons_zero, List.set_cons_succ]
                          refine takeH (i := 26) 97 (v := undef) rfl (by kernel_rfl) (by kernel_rfl) (by kernel_rfl) rfl (fun _ _ _ h => h) (.inr ⟨by rfl, rfl⟩) hS ?_
                          simp only [Act.put, List.setIfInBounds_toArray, List.set_cons_zero, List.set_cons_succ]
                          refine takeH (i := 27) 98 (v := undef) rfl (by kernel_rfl) (by kernel_rfl) (by kernel_rfl) rfl (fun _ _ _ h => h) (.inr ⟨by rfl, rfl⟩) hS ?_
                          simp only [Act.put, List.setIfInBounds_toArray, List.set_cons_zero, List.set_cons_succ]
                          refine takeH (i := 28) 99 (v := undef) rfl (by kernel_rfl) (by kernel_rfl) (by kernel_rfl) rfl (fun _ _ _ h => h) (.inr ⟨by rfl, rfl⟩) hS ?_
                          simp only [Act.put, List.setIfInBounds_toArray, List.set_cons_zero, List.set_cons_succ]
                          refine takeH (i := 29) 100 (v := undef) rfl (by kernel_rfl) (by kernel_rfl) (by kernel_rfl) rfl (fun _ _ _ h => h) (.inr ⟨by rfl, rfl⟩) hS ?_
                          simp only [Act.put, List.setIfInBounds_toArray, List.set_cons_zero, List.set_cons_succ]
                          refine takeH (i := 30) 101 (v := .bool true) rfl (by kernel_rfl) (by kernel_rfl) (by kernel_rfl) rfl (fun _ _ _ h => h) (.inl ⟨by rfl, fun _ _ => by go_simp⟩) hS ?_
                          simp only [Act.put, List.setIfInBounds_toArray, List.set_cons_zero, List.set_cons_succ]
                          refine takeH (i := 31) 102 (v := .bool true) rfl (by kernel_rfl) (by kernel_rfl) (by kernel_rfl) rfl (fun _ _ _ h => h) (.inl ⟨by rfl, fun _ _ => by go_simp⟩) hS ?_
                          simp only [Act.put, List.setIfInBounds_toArray, List.set_cons_zero, List.set_cons_succ]
                          refine wpAnyH_done (by kernel_rfl) ?_ _
                          have r0 := hS.2.1
                          have r1 := hS.2.2
                          have f1 := HCb.out.row.free i
                          obtain ⟨w3, HW3⟩ : ∃ w3, Hid (w3 = wb.setCell ⟨g, i, none⟩ (.int .i64 (y + st))) := ⟨_, Lib.hid rfl⟩
                          have hset := HW3.out.symm
                          have HC3 : Hid (RcI w p g wd hgt s (F.set i (y + st)) w3) := Lib.hid (by rw [HW3.out]; exact HCb.out.put hil _)
                          have HB3 : Hid (BelK s.data.toList wd S st r i (k + 1) (F.set i (y + st))) := Lib.hid (by
                            have h9 := HBE.out.set hs1 HBS.out.symm HOI.out.symm (by rw [← HY.out]; omega) (.inl (by rw [← HX.out]; rcases hxb with h | h; exact h; omega))
                            rwa [← HY.out] at h9)
                          clear hS HW3
                          go_wp2_with fail
                          go_roundw
                          case rel => exact ⟨k + 1, _, by go_num, hkl, HC3.out, HB3.out⟩
                          case measure => simp [intOf]; omega
                        · by_cases hlt : y + st < x
                          · refine takeH (i := 0) 71 (v := .pointer (some ⟨p, 0, none⟩)) rfl (by kernel_rfl) (by kernel_rfl) (by kernel_rfl) rfl (fun _ _ _ h => h) (.inl ⟨by rfl, fun _ _ => by go_simp⟩) hS ?_
                            simp only [Act.put, List.setIfInBounds_toArray, List.set_cons_zero, List.set_cons_succ]
                            refine takeH (i := 1) 72 (v := .int .i64 (wd : Int)) rfl (by kernel_rfl) (by kernel_rfl) (by kernel_rfl) rfl (fun _ _ _ h => h) (.inl ⟨by rfl, fun _ h => by have s0 := h.1; go_simp⟩) hS ?_
                            simp only [Act.put, List.setIfInBounds_toArray, List.set_cons_zero, List.set_cons_succ]
                            refine takeH (i := 2) 73 (v := .int .i64 (i : Int)) rfl (by kernel_rfl) (by kernel_rfl) (by kernel_rfl) rfl (fun _ _ _ h => h) (.inl ⟨by rfl, fun _ _ => by go_simp⟩) hS ?_
                            simp only [Act.put, List.setIfInBounds_toArray, List.set_cons_zero, List.set_cons_succ]
                            refine takeH (i := 3) 74 (v := .int .i64 (k : Int)) rfl (by kernel_rfl) (by kernel_rfl) (by kernel_rfl) rfl (fun _ _ _ h => h) (.inl ⟨by rfl, fun _ _ => by go_simp⟩) hS ?_
                            simp only [Act.put, List.setIfInBounds_toArray, List.set_cons_zero, List.set_cons_succ]
                            refine oneH (i := 4) (oi := ⟨some 75, _, _, _, _, _⟩) rfl (by kernel_rfl) (fun K hK => ?_)
                            go_simp
                            refine (hbc.out wa).mono ?_
                            rintro e wb ⟨rfl, hbb⟩
                            have HCb : Hid (RcI w p g wd hgt s F wb) := Lib.hid (HCa.out.carry hbb)
                            have hS2 : wb.cell? ⟨p, 0, none⟩ = some (.int .i64 (wd : Int)) ∧ wb.cell? ⟨g, k, none⟩ = some (.int .i64 y) ∧ wb.cell? ⟨g, i, none⟩ = some (.int .i64 x) := ⟨(hbb.cell (below_block hS.1)).trans hS.1, (hbb.cell (below_block hS.2.1)).trans hS.2.1, (hbb.cell (below_block hS.2.2)).trans hS.2.2⟩
                            refine hK.out _ _ hS2 ?_
                            clear hK K hS HCa hbb hbc
                            have hS := hS2
                            clear hS2
                            refine takeH (i := 5) 76 (v := .bool true) rfl (by kernel_rfl) (by kernel_rfl) (by kernel_rfl) rfl (fun _ _ _ h => h) (.inl ⟨by rfl, fun _ _ => by go_simp⟩) hS ?_
                            simp only [Act.put, List.setIfInBounds_toArray, List.set_cons_zero, List.set_cons_succ]
                            refine takeH (i := 6) 77 (v := .slice (some ⟨g, 0, none⟩) s.size s.size) rfl (by kernel_rfl) (by kernel_rfl) (by kernel_rfl) rfl (fun _ _ _ h => h) (.inl ⟨by rfl, fun _ _ => by go_simp⟩) hS ?_
                            simp only [Act.put, List.setIfInBounds_toArray, List.set_cons_zero, List.set_cons_succ]
                            refine takeH (i := 7) 78 (v := .int .i64 (k : Int)) rfl (by kernel_rfl) (by kernel_rfl) (by kernel_rfl) rfl (fun _ _ _ h => h) (.inl ⟨by rfl, fun _ _ => by go_simp⟩) hS ?_
                            simp only [Act.put, List.setIfInBounds_toArray, List.set_cons_zero, List.set_cons_succ]
                            refine takeH (i := 8) 79 (v := .pointer (some ⟨g, k, none⟩)) rfl (by kernel_rfl) (by kernel_rfl) (by kernel_rfl) rfl (fun _ _ _ h => h) (.inl ⟨by rfl, fun _ _ => by go_simp⟩) hS ?_
                            simp only [Act.put, List.setIfInBounds_toArray, List.set_cons_zero, List.set_cons_succ]
                            refine takeH (i := 9) 80 (v := .int .i64 y) rfl (by kernel_rfl) (by kernel_rfl) (by kernel_rfl) rfl (fun _ _ _ h => h) (.inl ⟨by rfl, fun _ h => by have s1 := h.2.1; go_simp⟩) hS ?_
                            simp only [Act.put, List.setIfInBounds_toArray, List.set_cons_zero, List.set_cons_succ]
                            refine takeH (i := 10) 81 (v := .bool true) rfl (by kernel_rfl) (by kernel_rfl) (by kernel_rfl) rfl (fun _ _ _ h => h) (.inl ⟨by rfl, fun _ _ => by go_simp⟩) hS ?_
                            simp only [Act.put, List.setIfInBounds_toArray, List.set_cons_zero, List.set_cons_succ]
                            refine takeH (i := 11) 82 (v := .bool true) rfl (by kernel_rfl) (by kernel_rfl) (by kernel_rfl) rfl (fun _ _ _ h => h) (.inl ⟨by rfl, fun _ _ => by go_simp⟩) hS ?_
                            simp only [Act.put, List.setIfInBounds_toArray, List.set_cons_zero, List.set_cons_succ]
                            refine takeH (i := 12) 83 (v := .bool true) rfl (by kernel_rfl) (by kernel_rfl) (by kernel_rfl) rfl (fun _ _ _ h => h) (.inl ⟨by rfl, fun _ _ => by go_simp⟩) hS ?_
                            simp only [Act.put, List.setIfInBounds_toArray, List.set_cons_zero, List.set_cons_succ]
                            refine takeH (i := 13) 84 (v := .slice (some ⟨g, 0, none⟩) s.size s.size) rfl (by kernel_rfl) (by kernel_rfl) (by kernel_rfl) rfl (fun _ _ _ h => h) (.inl ⟨by rfl, fun _ _ => by go_simp⟩) hS ?_
                            simp only [Act.put, List.setIfInBounds_toArray, List.set_cons_zero, List.set_cons_succ]
                            refine takeH (i := 14) 85 (v := .int .i64 (i : Int)) rfl (by kernel_rfl) (by kernel_rfl) (by kernel_rfl) rfl (fun _ _ _ h => h) (.inl ⟨by rfl, fun _ _ => by go_simp⟩) hS ?_
                            simp only [Act.put, List.setIfInBounds_toArray, List.set_cons_zero, List.set_cons_succ]
                            refine takeH (i := 15) 86 (v := .pointer (some ⟨g, i, none⟩)) rfl (by kernel_rfl) (by kernel_rfl) (by kernel_rfl) rfl (fun _ _ _ h => h) (.inl ⟨by rfl, fun _ _ => by go_simp⟩) hS ?_
                            simp only [Act.put, List.setIfInBounds_toArray, List.set_cons_zero, List.set_cons_succ]
                            refine takeH (i := 16) 87 (v := .int .i64 x) rfl (by kernel_rfl) (by kernel_rfl) (by kernel_rfl) rfl (fun _ _ _ h => h) (.inl ⟨by rfl, fun _ h => by have s2 := h.2.2; go_simp⟩) hS ?_
                            simp only [Act.put, List.setIfInBounds_toArray, List.set_cons_zero, List.set_cons_succ]
                            refine takeH (i := 17) 88 (v := .bool false) rfl (by kernel_rfl) (by kernel_rfl) (by kernel_rfl) rfl (fun _ _ _ h => h) (.inl ⟨by rfl, fun _ _ => by go_simp⟩) hS ?_
                            simp only [Act.put, List.setIfInBounds_toArray, List.set_cons_zero, List.set_cons_succ]
                            refine takeH (i := 18) 89 (v := .bool false) rfl (by kernel_rfl) (by kernel_rfl) (by kernel_rfl) rfl (fun _ _ _ h => h) (.inl ⟨by rfl, fun _ _ => by go_simp⟩) hS ?_
                            simp only [Act.put, List.setIfInBounds_toArray, List.set_cons_zero, List.set_cons_succ]
                            refine takeH (i := 19) 90 (v := .slice (some ⟨g, 0, none⟩) s.size s.size) rfl (by kernel_rfl) (by kernel_rfl) (by kernel_rfl) rfl (fun _ _ _ h => h) (.inl ⟨by rfl, fun _ _ => by go_simp⟩) hS ?_
                            simp only [Act.put, List.setIfInBounds_toArray, List.set_cons_zero, List.set_cons_succ]
                            refine takeH (i := 20) 91 (v := .int .i64 (k : Int)) rfl (by kernel_rfl) (by kernel_rfl) (by kernel_rfl) rfl (fun _ _ _ h => h) (.inl ⟨by rfl, fun _ _ => by go_simp⟩) hS ?_
                            simp only [Act.put, List.setIfInBounds_toArray, List.set_cons_zero, List.set_cons_succ]
                            refine takeH (i := 21) 92 (v := .pointer (some ⟨g, k, none⟩)) rfl (by kernel_rfl) (by kernel_rfl) (by kernel_rfl) rfl (fun _ _ _ h => h) (.inl ⟨by rfl, fun _ _ => by go_simp⟩) hS ?_
                            simp only [Act.put, List.setIfInBounds_toArray, List.set_cons_zero, List.set_cons_succ]
                            refine takeH (i := 22) 93 (v := .int .i64 y) rfl (by kernel_rfl) (by kernel_rfl) (by kernel_rfl) rfl (fun _ _ _ h => h) (.inl ⟨by rfl, fun _ h => by have s1 := h.2.1; go_simp⟩) hS ?_
                            simp only [Act.put, List.setIfInBounds_toArray, List.set_cons_zero, List.set_cons_succ]
                            refine takeH (i := 23) 94 (v := .int .i64 st) rfl (by kernel_rfl) (by kernel_rfl) (by kernel_rfl) rfl (fun _ _ _ h => h) (.inl ⟨by rfl, fun _ _ => by go_simp⟩) hS ?_
                            simp only [Act.put, List.setIfInBounds_toArray, List.set_cons_zero, List.set_cons_succ]
                            refine takeH (i := 24) 95 (v := .int .i64 (y + st)) rfl (by kernel_rfl) (by kernel_rfl) (by kernel_rfl) rfl (fun _ _ _ h => h) (.inl ⟨by rfl, fun _ _ => by go_simp⟩) hS ?_
                            simp only [Act.put, List.setIfInBounds_toArray, List.set_cons_zero, List.set_cons_succ]
                            refine takeH (i := 25) 96 (v := .slice (some ⟨g, 0, none⟩) s.size s.size) rfl (by kernel_rfl) (by kernel_rfl) (by kernel_rfl) rfl (fun _ _ _ h => h) (.inl ⟨by rfl, fun _ _ => by go_simp⟩) hS ?_
                            simp only [Act.put, List.setIfInBounds_toArray, List.set_cons_zero, List.set_cons_succ]
                            refine takeH (i := 26) 97 (v := .int .i64 (i : Int)) rfl (by kernel_rfl) (by kernel_rfl) (by kernel_rfl) rfl (fun _ _ _ h => h) (.inl ⟨by rfl, fun _ _ => by go_simp⟩) hS ?_
                            simp only [Act.put, List.setIfInBounds_toArray, List.set_cons_zero, List.set_cons_succ]
                            refine takeH (i := 27) 98 (v := .pointer (some ⟨g, i, none⟩)) rfl (by kernel_rfl) (by kernel_rfl) (by kernel_rfl) rfl (fun _ _ _ h => h) (.inl ⟨by rfl, fun _ _ => by go_simp⟩) hS ?_
                            simp only [Act.put, List.setIfInBounds_toArray, List.set_cons_zero, List.set_cons_succ]
                            refine takeH (i := 28) 99 (v := .int .i64 x) rfl (by kernel_rfl) (by kernel_rfl) (by kernel_rfl) rfl (fun _ _ _ h => h) (.inl ⟨by rfl, fun _ h => by have s2 := h.2.2; go_simp⟩) hS ?_
                            simp only [Act.put, List.setIfInBounds_toArray, List.set_cons_zero, List.set_cons_succ]
                            refine takeH (i := 29) 100 (v := .bool true) rfl (by kernel_rfl) (by kernel_rfl) (by kernel_rfl) rfl (fun _ _ _ h => h) (.inl ⟨by rfl, fun _ _ => by go_simp⟩) hS ?_
                            simp only [Act.put, List.setIfInBounds_toArray, List.set_cons_zero, List.set_cons_succ]
                            refine takeH (i := 30) 101 (v := .bool true) rfl (by kernel_rfl) (by kernel_rfl) (by kernel_rfl) rfl (fun _ _ _ h => h) (.inl ⟨by rfl, fun _ _ => by go_simp⟩) hS ?_
                            simp only [Act.put, List.setIfInBounds_toArray, List.set_cons_zero, List.set_cons_succ]
                            refine takeH (i := 31) 102 (v := .bool true) rfl (by kernel_rfl) (by kernel_rfl) (by kernel_rfl) rfl (fun _ _ _ h => h) (.inl ⟨by rfl, fun _ _ => by go_simp⟩) hS ?_
                            simp only [Act.put, List.setIfInBounds_toArray, List.set_cons_zero, List.set_cons_succ]
                            refine wpAnyH_done (by kernel_rfl) ?_ _
                            have r0 := hS.2.1
                            have r1 := hS.2.2
                            have f1 := HCb.out.row.free i
                            obtain ⟨w3, HW3⟩ : ∃ w3, Hid (w3 = wb.setCell ⟨g, i, none⟩ (.int .i64 (y + st))) := ⟨_, Lib.hid rfl⟩
                            have hset := HW3.out.symm
                            have HC3 : Hid (RcI w p g wd hgt s (F.set i (y + st)) w3) := Lib.hid (by rw [HW3.out]; exact HCb.out.put hil _)
                            have HB3 : Hid (BelK s.data.toList wd S st r i (k + 1) (F.set i (y + st))) := Lib.hid (by
                              have h9 := HBE.out.set hs1 HBS.out.symm HOI.out.symm (by rw [← HY.out]; omega) (.inr (by rw [← HX.out, ← HY.out]; exact hlt))
                              rwa [← HY.out] at h9)
                            clear hS HW3
                            go_wp2_with fail
                            go_roundw
                            case rel => exact ⟨k + 1, _, by go_num, hkl, HC3.out, HB3.out⟩
                            case measure => simp [intOf]; omega
                          · refine takeH (i := 0) 71 (v := .pointer (some ⟨p, 0, none⟩)) rfl (by kernel_rfl) (by kernel_rfl) (by kernel_rfl) rfl (fun _ _ _ h => h) (.inl ⟨by rfl, fun _ _ => by go_simp⟩) hS ?_
                            simp only [Act.put, List.setIfInBounds_toArray, List.set_cons_zero, List.set_cons_succ]
                            refine takeH (i := 1) 72 (v := .int .i64 (wd : Int)) rfl (by kernel_rfl) (by kernel_rfl) (by kernel_rfl) rfl (fun _ _ _ h => h) (.inl ⟨by rfl, fun _ h => by have s0 := h.1; go_simp⟩) hS ?_
                            simp only [Act.put, List.setIfInBounds_toArray, List.set_cons_zero, List.set_cons_succ]
                            refine takeH (i := 2) 73 (v := .int .i64 (i : Int)) rfl (by kernel_rfl) (by kernel_rfl) (by kernel_rfl) rfl (fun _ _ _ h => h) (.inl ⟨by rfl, fun _ _ => by go_simp⟩) hS ?_
                            simp only [Act.put, List.setIfInBounds_toArray, List.set_cons_zero, List.set_cons_succ]
                            refine takeH (i := 3) 74 (v := .int .i64 (k : Int)) rfl (by kernel_rfl) (by kernel_rfl) (by kernel_rfl) rfl (fun _ _ _ h => h) (.inl ⟨by rfl, fun _ _ => by go_simp⟩) hS ?_
                            simp only [Act.put, List.setIfInBounds_toArray, List.set_cons_zero, List.set_cons_succ]
                            refine oneH (i := 4) (oi := ⟨some 75, _, _, _, _, _⟩) rfl (by kernel_rfl) (fun K hK => ?_)
                            go_simp
                            refine (hbc.out wa).mono ?_
                            rintro e wb ⟨rfl, hbb⟩
                            have HCb : Hid (RcI w p g wd hgt s F wb) := Lib.hid (HCa.out.carry hbb)
                            have hS2 : wb.cell? ⟨p, 0, none⟩ = some (.int .i64 (wd : Int)) ∧ wb.cell? ⟨g, k, none⟩ = some (.int .i64 y) ∧ wb.cell? ⟨g, i, none⟩ = some (.int .i64 x) := ⟨(hbb.cell (below_block hS.1)).trans hS.1, (hbb.cell (below_block hS.2.1)).trans hS.2.1, (hbb.cell (below_block hS.2.2)).trans hS.2.2⟩
                            refine hK.out _ _ hS2 ?_
                            clear hK K hS HCa hbb hbc
                            have hS := hS2
                            clear hS2
                            refine takeH (i := 5) 76 (v := .bool true) rfl (by kernel_rfl) (by kernel_rfl) (by kernel_rfl) rfl (fun _ _ _ h => h) (.inl ⟨by rfl, fun _ _ => by go_simp⟩) hS ?_
                            simp only [Act.put, List.setIfInBounds_toArray, List.set_cons_zero, List.set_cons_succ]
                            refine takeH (i := 6) 77 (v := .slice (some ⟨g, 0, none⟩) s.size s.size) rfl (by kernel_rfl) (by kernel_rfl) (by kernel_rfl) rfl (fun _ _ _ h => h) (.inl ⟨by rfl, fun _ _ => by go_simp⟩) hS ?_
                            simp only [Act.put, List.setIfInBounds_toArray, List.set_cons_zero, List.set_cons_succ]
                            refine takeH (i := 7) 78 (v := .int .i64 (k : Int)) rfl (by kernel_rfl) (by kernel_rfl) (by kernel_rfl) rfl (fun _ _ _ h => h) (.inl ⟨by rfl, fun _ _ => by go_simp⟩) hS ?_
                            simp only [Act.put, List.setIfInBounds_toArray, List.set_cons_zero, List.set_cons_succ]
                            refine takeH (i := 8) 79 (v := .pointer (some ⟨g, k, none⟩)) rfl (by kernel_rfl) (by kernel_rfl) (by kernel_rfl) rfl (fun _ _ _ h => h) (.inl ⟨by rfl, fun _ _ => by go_simp⟩) hS ?_
                            simp only [Act.put, List.setIfInBounds_toArray, List.set_cons_zero, List.set_cons_succ]
                            refine takeH (i := 9) 80 (v := .int .i64 y) rfl (by kernel_rfl) (by kernel_rfl) (by kernel_rfl) rfl (fun _ _ _ h => h) (.inl ⟨by rfl, fun _ h => by have s1 := h.2.1; go_simp⟩) hS ?_
                            simp only [Act.put, List.setIfInBounds_toArray, List.set_cons_zero, List.set_cons_succ]
                            refine takeH (i := 10) 81 (v := .bool true) rfl (by kernel_rfl) (by kernel_rfl) (by kernel_rfl) rfl (fun _ _ _ h => h) (.inl ⟨by rfl, fun _ _ => by go_simp⟩) hS ?_
                            simp only [Act.put, List.setIfInBounds_toArray, List.set_cons_zero, List.set_cons_succ]
                            refine takeH (i := 11) 82 (v := .bool true) rfl (by kernel_rfl) (by kernel_rfl) (by kernel_rfl) rfl (fun _ _ _ h => h) (.inl ⟨by rfl, fun _ _ => by go_simp⟩) hS ?_
                            simp only [Act.put, List.setIfInBounds_toArray, List.set_cons_zero, List.set_cons_succ]
                            refine takeH (i := 12) 83 (v := .bool true) rfl (by kernel_rfl) (by kernel_rfl) (by kernel_rfl) rfl (fun _ _ _ h => h) (.inl ⟨by rfl, fun _ _ => by go_simp⟩) hS ?_
                            simp only [Act.put, List.setIfInBounds_toArray, List.set_cons_zero, List.set_cons_succ]
                            refine takeH (i := 13) 84 (v := .slice (some ⟨g, 0, none⟩) s.size s.size) rfl (by kernel_rfl) (by kernel_rfl) (by kernel_rfl) rfl (fun _ _ _ h => h) (.inl ⟨by rfl, fun _ _ => by go_simp⟩) hS ?_
                            simp only [Act.put, List.setIfInBounds_toArray, List.set_cons_zero, List.set_cons_succ]
                            refine takeH (i := 14) 85 (v := .int .i64 (i : Int)) rfl (by kernel_rfl) (by kernel_rfl) (by kernel_rfl) rfl (fun _ _ _ h => h) (.inl ⟨by rfl, fun _ _ => by go_simp⟩) hS ?_
                            simp only [Act.put, List.setIfInBounds_toArray, List.set_cons_zero, List.set_cons_succ]
                            refine takeH (i := 15) 86 (v := .pointer (some ⟨g, i, none⟩)) rfl (by kernel_rfl) (by kernel_rfl) (by kernel_rfl) rfl (fun _ _ _ h => h) (.inl ⟨by rfl, fun _ _ => by go_simp⟩) hS ?_
                            simp only [Act.put, List.setIfInBounds_toArray, List.set_cons_zero, List.set_cons_succ]
                            refine takeH (i := 16) 87 (v := .int .i64 x) rfl (by kernel_rfl) (by kernel_rfl) (by kernel_rfl) rfl (fun _ _ _ h => h) (.inl ⟨by rfl, fun _ h => by have s2 := h.2.2; go_simp⟩) hS ?_
                            simp only [Act.put, List.setIfInBounds_toArray, List.set_cons_zero, List.set_cons_succ]
                            refine takeH (i := 17) 88 (v := .bool false) rfl (by kernel_rfl) (by kernel_rfl) (by kernel_rfl) rfl (fun _ _ _ h => h) (.inl ⟨by rfl, fun _ _ => by go_simp⟩) hS ?_
                            simp only [Act.put, List.setIfInBounds_toArray, List.set_cons_zero, List.set_cons_succ]
                            refine takeH (i := 18) 89 (v := .bool false) rfl (by kernel_rfl) (by kernel_rfl) (by kernel_rfl) rfl (fun _ _ _ h => h) (.inl ⟨by rfl, fun _ _ => by go_simp⟩) hS ?_
                            simp only [Act.put, List.setIfInBounds_toArray, List.set_cons_zero, List.set_cons_succ]
                            refine takeH (i := 19) 90 (v := .slice (some ⟨g, 0, none⟩) s.size s.size) rfl (by kernel_rfl) (by kernel_rfl) (by kernel_rfl) rfl (fun _ _ _ h => h) (.inl ⟨by rfl, fun _ _ => by go_simp⟩) hS ?_
                            simp only [Act.put, List.setIfInBounds_toArray, List.set_cons_zero, List.set_cons_succ]
                            refine takeH (i := 20) 91 (v := .int .i64 (k : Int)) rfl (by kernel_rfl) (by kernel_rfl) (by kernel_rfl) rfl (fun _ _ _ h => h) (.inl ⟨by rfl, fun _ _ => by go_simp⟩) hS ?_
                            simp only [Act.put, List.setIfInBounds_toArray, List.set_cons_zero, List.set_cons_succ]
                            refine takeH (i := 21) 92 (v := .pointer (some ⟨g, k, none⟩)) rfl (by kernel_rfl) (by kernel_rfl) (by kernel_rfl) rfl (fun _ _ _ h => h) (.inl ⟨by rfl, fun _ _ => by go_simp⟩) hS ?_
                            simp only [Act.put, List.setIfInBounds_toArray, List.set_cons_zero, List.set_cons_succ]
                            refine takeH (i := 22) 93 (v := .int .i64 y) rfl (by kernel_rfl) (by kernel_rfl) (by kernel_rfl) rfl (fun _ _ _ h => h) (.inl ⟨by rfl, fun _ h => by have s1 := h.2.1; go_simp⟩) hS ?_
                            simp only [Act.put, List.setIfInBounds_toArray, List.set_cons_zero, List.set_cons_succ]
                            refine takeH (i := 23) 94 (v := .int .i64 st) rfl (by kernel_rfl) (by kernel_rfl) (by kernel_rfl) rfl (fun _ _ _ h => h) (.inl ⟨by rfl, fun _ _ => by go_simp⟩) hS ?_
                            simp only [Act.put, List.setIfInBounds_toArray, List.set_cons_zero, List.set_cons_succ]
                            refine takeH (i := 24) 95 (v := .int .i64 (y + st)) rfl (by kernel_rfl) (by kernel_rfl) (by kernel_rfl) rfl (fun _ _ _ h => h) (.inl ⟨by rfl, fun _ _ => by go_simp⟩) hS ?_
                            simp only [Act.put, List.setIfInBounds_toArray, List.set_cons_zero, List.set_cons_succ]
                            refine takeH (i := 25) 96 (v := .slice (some ⟨g, 0, none⟩) s.size s.size) rfl (by kernel_rfl) (by kernel_rfl) (by kernel_rfl) rfl (fun _ _ _ h => h) (.inl ⟨by rfl, fun _ _ => by go_simp⟩) hS ?_
                            simp only [Act.put, List.setIfInBounds_toArray, List.set_cons_zero, List.set_cons_succ]
                            refine takeH (i := 26) 97 (v := .int .i64 (i : Int)) rfl (by kernel_rfl) (by kernel_rfl) (by kernel_rfl) rfl (fun _ _ _ h => h) (.inl ⟨by rfl, fun _ _ => by go_simp⟩) hS ?_
                            simp only [Act.put, List.setIfInBounds_toArray, List.set_cons_zero, List.set_cons_succ]
                            refine takeH (i := 27) 98 (v := .pointer (some ⟨g, i, none⟩)) rfl (by kernel_rfl) (by kernel_rfl) (by kernel_rfl) rfl (fun _ _ _ h => h) (.inl ⟨by rfl, fun _ _ => by go_simp⟩) hS ?_
                            simp only [Act.put, List.setIfInBounds_toArray, List.set_cons_zero, List.set_cons_succ]
                            refine takeH (i := 28) 99 (v := .int .i64 x) rfl (by kernel_rfl) (by kernel_rfl) (by kernel_rfl) rfl (fun _ _ _ h => h) (.inl ⟨by rfl, fun _ h => by have s2 := h.2.2; go_simp⟩) hS ?_
                            simp only [Act.put, List.setIfInBounds_toArray, List.set_cons_zero, List.set_cons_succ]
                            refine takeH (i := 29) 100 (v := .bool false) rfl (by kernel_rfl) (by kernel_rfl) (by kernel_rfl) rfl (fun _ _ _ h => h) (.inl ⟨by rfl, fun _ _ => by go_simp⟩) hS ?_
                            simp only [Act.put, List.setIfInBounds_toArray, List.set_cons_zero, List.set_cons_succ]
                            refine takeH (i := 30) 101 (v := .bool false) rfl (by kernel_rfl) (by kernel_rfl) (by kernel_rfl) rfl (fun _ _ _ h => h) (.inl ⟨by rfl, fun _ _ => by go_simp⟩) hS ?_
                            simp only [Act.put, List.setIfInBounds_toArray, List.set_cons_zero, List.set_cons_succ]
                            refine takeH (i := 31) 102 (v := .bool false) rfl (by kernel_rfl) (by kernel_rfl) (by kernel_rfl) rfl (fun _ _ _ h => h) (.inl ⟨by rfl, fun _ _ => by go_simp⟩) hS ?_
                            simp only [Act.put, List.setIfInBounds_toArray, List.set_cons_zero, List.set_cons_succ]
                            refine wpAnyH_done (by kernel_rfl) ?_ _
                            go_wp2_with fail
                            go_roundw
                            case rel => exact ⟨k + 1, F, by go_num, hkl, HCb.out, HBE.out.same (fun _ _ _ => by rw [← HX.out, ← HY.out]; omega)⟩
                            case measure => simp [intOf]; omega
                      · refine takeH (i := 0) 71 (v := .pointer (some ⟨p, 0, none⟩)) rfl (by kernel_rfl) (by kernel_rfl) (by kernel_rfl) rfl (fun _ _ _ h => h) (.inl ⟨by rfl, fun _ _ => by go_simp⟩) hS ?_
                        simp only [Act.put, List.setIfInBounds_toArray, List.set_cons_zero, List.set_cons_succ]
                        refine takeH (i := 1) 72 (v := .int .i64 (wd : Int)) rfl (by kernel_rfl) (by kernel_rfl) (by kernel_rfl) rfl (fun _ _ _ h => h) (.inl ⟨by rfl, fun _ h => by have s0 := h.1; go_simp⟩) hS ?_
                        simp only [Act.put, List.setIfInBounds_toArray, List.set_cons_zero, List.set_cons_succ]
                        refine takeH (i := 2) 73 (v := .int .i64 (i : Int)) rfl (by kernel_rfl) (by kernel_rfl) (by kernel_rfl) rfl (fun _ _ _ h => h) (.inl ⟨by rfl, fun _ _ => by go_simp⟩) hS ?_
                        simp only [Act.put, List.setIfInBounds_toArray, List.set_cons_zero, List.set_cons_succ]
                        refine takeH (i := 3) 74 (v := .int .i64 (k : Int)) rfl (by kernel_rfl) (by kernel_rfl) (by kernel_rfl) rfl (fun _ _ _ h => h) (.inl ⟨by rfl, fun _ _ => by go_simp⟩) hS ?_
                        simp only [Act.put, List.setIfInBounds_toArray, List.set_cons_zero, List.set_cons_succ]
                        refine oneH (i := 4) (oi := ⟨some 75, _, _, _, _, _⟩) rfl (by kernel_rfl) (fun K hK => ?_)
                        go_simp
                        refine (hbc.out wa).mono ?_
                        rintro e wb ⟨rfl, hbb⟩
                        have HCb : Hid (RcI w p g wd hgt s F wb) := Lib.hid (HCa.out.carry hbb)
                        have hS2 : wb.cell? ⟨p, 0, none⟩ = some (.int .i64 (wd : Int)) ∧ wb.cell? ⟨g, k, none⟩ = some (.int .i64 y) ∧ wb.cell? ⟨g, i, none⟩ = some (.int .i64 x) := ⟨(hbb.cell (below_block hS.1)).trans hS.1, (hbb.cell (below_block hS.2.1)).trans hS.2.1, (hbb.cell (below_block hS.2.2)).trans hS.2.2⟩
                        refine hK.out _ _ hS2 ?_
                        clear hK K hS HCa hbb hbc
                        have hS := hS2
                        clear hS2
                        refine takeH (i := 5) 76 (v := .bool true) rfl (by kernel_rfl) (by kernel_rfl) (by kernel_rfl) rfl (fun _ _ _ h => h) (.inl ⟨by rfl, fun _ _ => by go_simp⟩) hS ?_
                        simp only [Act.put, List.setIfInBounds_toArray, List.set_cons_zero, List.set_cons_succ]
                        refine takeH (i := 6) 77 (v := .slice (some ⟨g, 0, none⟩) s.size s.size) rfl (by kernel_rfl) (by kernel_rfl) (by kernel_rfl) rfl (fun _ _ _ h => h) (.inl ⟨by rfl, fun _ _ => by go_simp⟩) hS ?_
                        simp only [Act.put, List.setIfInBounds_toArray, List.set_cons_zero, List.set_cons_succ]
                        refine takeH (i := 7) 78 (v := .int .i64 (k : Int)) rfl (by kernel_rfl) (by kernel_rfl) (by kernel_rfl) rfl (fun _ _ _ h => h) (.inl ⟨by rfl, fun _ _ => by go_simp⟩) hS ?_
                        simp only [Act.put, List.setIfInBounds_toArray, List.set_cons_zero, List.set_cons_succ]
                        refine takeH (i := 8) 79 (v := .pointer (some ⟨g, k, none⟩)) rfl (by kernel_rfl) (by kernel_rfl) (by kernel_rfl) rfl (fun _ _ _ h => h) (.inl ⟨by rfl, fun _ _ => by go_simp⟩) hS ?_
                        simp only [Act.put, List.setIfInBounds_toArray, List.set_cons_zero, List.set_cons_succ]
                        refine takeH (i := 9) 80 (v := .int .i64 y) rfl (by kernel_rfl) (by kernel_rfl) (by kernel_rfl) rfl (fun _ _ _ h => h) (.inl ⟨by rfl, fun _ h => by have s1 := h.2.1; go_simp⟩) hS ?_
                        simp only [Act.put, List.setIfInBounds_toArray, List.set_cons_zero, List.set_cons_succ]
                        refine takeH (i := 10) 81 (v := .bool false) rfl (by kernel_rfl) (by kernel_rfl) (by kernel_rfl) rfl (fun _ _ _ h => h) (.inl ⟨by rfl, fun _ _ => by go_simp⟩) hS ?_
                        simp only [Act.put, List.setIfInBounds_toArray, List.set_cons_zero, List.set_cons_succ]
                        refine takeH (i := 11) 82 (v := .bool false) rfl (by kernel_rfl) (by kernel_rfl) (by kernel_rfl) rfl (fun _ _ _ h => h) (.inl ⟨by rfl, fun _ _ => by go_simp⟩) hS ?_
                        simp only [Act.put, List.setIfInBounds_toArray, List.set_cons_zero, List.set_cons_succ]
                        refine takeH (i := 12) 83 (v := .bool false) rfl (by kernel_rfl) (by kernel_rfl) (by kernel_rfl) rfl (fun _ _ _ h => h) (.inl ⟨by rfl, fun _ _ => by go_simp⟩) hS ?_
                        simp only [Act.put, List.setIfInBounds_toArray, List.set_cons_zero, List.set_cons_succ]
                        refine takeH (i := 13) 84 (v := undef) rfl (by kernel_rfl) (by kernel_rfl) (by kernel_rfl) rfl (fun _ _ _ h => h) (.inr ⟨by rfl, rfl⟩) hS ?_
                        simp only [Act.put, List.setIfInBounds_toArray, List.set_cons_zero, List.set_cons_succ]
                        refine takeH (i := 14) 85 (v := undef) rfl (by kernel_rfl) (by kernel_rfl) (by kernel_rfl) rfl (fun _ _ _ h => h) (.inr ⟨by rfl, rfl⟩) hS ?_
                        simp only [Act.put, List.setIfInBounds_toArray, List.set_cons_zero, List.set_cons_succ]
                        refine takeH (i := 15) 86 (v := undef) rfl (by kernel_rfl) (by kernel_rfl) (by kernel_rfl) rfl (fun _ _ _ h => h) (.inr ⟨by rfl, rfl⟩) hS ?_
                        simp only [Act.put, List.setIfInBounds_toArray, List.set_cons_zero, List.set_cons_succ]
                        refine takeH (i := 16) 87 (v := undef) rfl (by kernel_rfl) (by kernel_rfl) (by kernel_rfl) rfl (fun _ _ _ h => h) (.inr ⟨by rfl, rfl⟩) hS ?_
                        simp only [Act.put, List.setIfInBounds_toArray, List.set_cons_zero, List.set_cons_succ]
                        refine takeH (i := 17) 88 (v := undef) rfl (by kernel_rfl) (by kernel_rfl) (by kernel_rfl) rfl (fun _ _ _ h => h) (.inr ⟨by rfl, rfl⟩) hS ?_
                        simp only [Act.put, List.setIfInBounds_toArray, List.set_cons_zero, List.set_cons_succ]
                        refine takeH (i := 18) 89 (v := undef) rfl (by kernel_rfl) (by kernel_rfl) (by kernel_rfl) rfl (fun _ _ _ h => h) (.inr ⟨by rfl, rfl⟩) hS ?_
                        simp only [Act.put, List.setIfInBounds_toArray, List.set_cons_zero, List.set_cons_succ]
                        refine takeH (i := 19) 90 (v := undef) rfl (by kernel_rfl) (by kernel_rfl) (by kernel_rfl) rfl (fun _ _ _ h => h) (.inr ⟨by rfl, rfl⟩) hS ?_
                        simp only [Act.put, List.setIfInBounds_toArray, List.set_cons_zero, List.set_cons_succ]
                        refine takeH (i := 20) 91 (v := undef) rfl (by kernel_rfl) (by kernel_rfl) (by kernel_rfl) rfl (fun _ _ _ h => h) (.inr ⟨by rfl, rfl⟩) hS ?_
                        simp only [Act.put, List.setIfInBounds_toArray, List.set_cons_zero, List.set_cons_succ]
                        refine takeH (i := 21) 92 (v := undef) rfl (by kernel_rfl) (by kernel_rfl) (by kernel_rfl) rfl (fun _ _ _ h => h) (.inr ⟨by rfl, rfl⟩) hS ?_
                        simp only [Act.put, List.setIfInBounds_toArray, List.set_cons_zero, List.set_cons_succ]
                        refine takeH (i := 22) 93 (v := undef) rfl (by kernel_rfl) (by kernel_rfl) (by kernel_rfl) rfl (fun _ _ _ h => h) (.inr ⟨by rfl, rfl⟩) hS ?_
                        simp only [Act.put, List.setIfInBounds_toArray, List.set_cons_zero, List.set_cons_succ]
                        refine takeH (i := 23) 94 (v := undef) rfl (by kernel_rfl) (by kernel_rfl) (by kernel_rfl) rfl (fun _ _ _ h => h) (.inr ⟨by rfl, rfl⟩) hS ?_
                        simp only [Act.put, List.setIfInBounds_toArray, List.set_cons_zero, List.set_cons_succ]
                        refine takeH (i := 24) 95 (v := undef) rfl (by kernel_rfl) (by kernel_rfl) (by kernel_rfl) rfl (fun _ _ _ h => h) (.inr ⟨by rfl, rfl⟩) hS ?_
                        simp only [Act.put, List.setIfInBounds_toArray, List.set_cons_zero, List.set_cons_succ]
                        refine takeH (i := 25) 96 (v := undef) rfl (by kernel_rfl) (by kernel_rfl) (by kernel_rfl) rfl (fun _ _ _ h => h) (.inr ⟨by rfl, rfl⟩) hS ?_
                        simp only [Act.put, List.setIfInBounds_toArray, List.set_cons_zero, List.set_cons_succ]
                        refine takeH (i := 26) 97 (v := undef) rfl (by kernel_rfl) (by kernel_rfl) (by kernel_rfl) rfl (fun _ _ _ h => h) (.inr ⟨by rfl, rfl⟩) hS ?_
                        simp only [Act.put, List.setIfInBounds_toArray, List.set_cons_zero, List.set_cons_succ]
                        refine takeH (i := 27) 98 (v := undef) rfl (by kernel_rfl) (by kernel_rfl) (by kernel_rfl) rfl (fun _ _ _ h => h) (.inr ⟨by rfl, rfl⟩) hS ?_
                        simp only [Act.put, List.setIfInBounds_toArray, List.set_cons_zero, List.set_cons_succ]
                        refine takeH (i := 28) 99 (v := undef) rfl (by kernel_rfl) (by kernel_rfl) (by kernel_rfl) rfl (fun _ _ _ h => h) (.inr ⟨by rfl, rfl⟩) hS ?_
                        simp only [Act.put, List.setIfInBounds_toArray, List.set_cons_zero, List.set_cons_succ]
                        refine takeH (i := 29) 100 (v := undef) rfl (by kernel_rfl) (by kernel_rfl) (by kernel_rfl) rfl (fun _ _ _ h => h) (.inr ⟨by rfl, rfl⟩) hS ?_
                        simp only [Act.put, List.setIfInBounds_toArray, List.set_cons_zero, List.set_cons_succ]
                        refine takeH (i := 30) 101 (v := undef) rfl (by kernel_rfl) (by kernel_rfl) (by kernel_rfl) rfl (fun _ _ _ h => h) (.inr ⟨by rfl, rfl⟩) hS ?_
                        simp only [Act.put, List.setIfInBounds_toArray, List.set_cons_zero, List.set_cons_succ]
                        refine takeH (i := 31) 102 (v := .bool false) rfl (by kernel_rfl) (by kernel_rfl) (by kernel_rfl) rfl (fun _ _ _ h => h) (.inl ⟨by rfl, fun _ _ => by go_simp⟩) hS ?_
                        simp only [Act.put, List.setIfInBounds_toArray, List.set_cons_zero, List.set_cons_succ]
                        refine wpAnyH_done (by kernel_rfl) ?_ _
                        go_wp2_with fail
                        go_roundw
                        case rel => exact ⟨k + 1, F, by go_num, hkl, HCb.out, HBE.out.same (fun _ _ h => by rw [← HY.out] at h; omega)⟩
                        case measure => simp [intOf]; omega
                · obtain rfl : k = s.size := by omega
                  go_wp2_with fail
                  go_roundw
                  case rel => exact ⟨i + 1, F, by go_num, hil, HC.out, by
                    have := HBE.out
                    rw [← HLE.out] at this
                    exact this.end_⟩
                  case measure => simp [intOf]; omega
            · obtain rfl : i = s.size := by omega
              go_wp2_with fail
              go_roundw
              case rel => exact ⟨r + 1, F, by go_num, hrl, HC.out, by
                have := HBE.out
                rw [← HLE.out] at this
                exact this.next⟩
              case measure => simp [intOf]; omega
        · obtain rfl : r = s.size := by omega
          go_wp2_with fail
          go_ret
          exact ⟨g, F, by rw [HC.out.len]; rfl, HC.out.row.nums, HBE.out.done hs1 (by rw [HLE.out]; exact Nat.le_refl _), HC.out.below⟩
end Go.Proofs.YtiffgmgefpoblaaDoor
