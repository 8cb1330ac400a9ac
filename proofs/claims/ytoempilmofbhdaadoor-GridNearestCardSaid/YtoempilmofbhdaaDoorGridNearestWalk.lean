/-
  The walk of GridNearest: from an open cell of a right map each open one is reached by neighbours. Conditions: none beyond the premises of each theorem.
-/
import Derived.Test.YtoempilmofbhdaaDoorGridRefRight
import Derived.Test.YtoempilmofbhdaaDoorGridNearOwn
namespace Go.Proofs.YtoempilmofbhdaaDoor
open Go.RowKit

/-- the edges done: out of cells below i; out of i, into the first j of a list -/
def D5 (xs : List UInt8) (a i : Nat) (x y : Nat) : Prop := Grid.Edge xs a x y ∧ x < i
def D6 (xs : List UInt8) (a i : Nat) (L : List Nat) (j : Nat) (x y : Nat) : Prop := Grid.Edge xs a x y ∧ (x < i ∨ (x = i ∧ y ∈ L.take j))
/-- what is met from o on in round n, the edges D being done -/
structure Mk (xs : List UInt8) (a o n : Nat) (D : Nat → Nat → Prop) (l : List Bool) : Prop where
  marks : Grid.Marks xs a (some o) l
  prog : Grid.Prog (Grid.Edge xs a) n D l
theorem cnt_on {m : List Bool} {i : Nat} (h : Grid.on m i = true) : 0 < Grid.cnt m := by
  have hlt := Grid.on_lt h
  rw [Grid.on_eq hlt] at h
  unfold Grid.cnt
  rw [List.count_pos_iff, ← h]
  exact List.getElem_mem _
theorem Mk.start {xs : List UInt8} {a o : Nat} (ho : o < xs.length) : Mk xs a o 0 (fun _ _ => False) ((List.replicate xs.length false).set o true) := by
  have hl : o < (List.replicate xs.length false).length := by simpa using ho
  have hon : ∀ i, Grid.on ((List.replicate xs.length false).set o true) i = true ↔ i = o := fun i => by
    rw [Grid.on_set hl]
    have : Grid.on (List.replicate xs.length false) i = false := by
      unfold Grid.on
      rw [List.getElem?_replicate]
      split <;> rfl
    rw [this]; simp
  refine ⟨⟨by simp, fun f hf => by cases hf; exact (hon o).2 rfl, fun i hi => .base (by rw [(hon i).1 hi])⟩, .inr (.inr ⟨?_, fun _ _ e => e.elim⟩)⟩
  have := cnt_on ((hon o).2 rfl)
  omega
theorem Mk.begin5 {xs : List UInt8} {a o n : Nat} {l : List Bool} (h : Mk xs a o n (fun _ _ => False) l) : Mk xs a o n (D5 xs a 0) l :=
  ⟨h.marks, progWeaken h.prog fun _ _ e => by have := e.2; omega⟩
theorem Mk.begin6 {xs : List UInt8} {a o n i : Nat} {l : List Bool} (L : List Nat) (h : Mk xs a o n (D5 xs a i) l) : Mk xs a o n (D6 xs a i L 0) l :=
  ⟨h.marks, progWeaken h.prog fun _ _ e => .inl ⟨e.1, by have := e.2; simp at this; exact this⟩⟩
theorem Mk.skip {xs : List UInt8} {a o n i j : Nat} {L : List Nat} {l : List Bool} (h : Mk xs a o n (D6 xs a i L j) l) (hi : Grid.on l i = false) : Mk xs a o n (D5 xs a (i + 1)) l := by
  refine ⟨h.marks, progWeaken h.prog fun x y e => ?_⟩
  by_cases hx : x = i
  · subst hx; exact .inr (.inl hi)
  · exact .inl ⟨e.1, .inl (by have := e.2; omega)⟩
theorem Mk.end6 {xs : List UInt8} {a o n i : Nat} {L : List Nat} {l : List Bool} (h : Mk xs a o n (D6 xs a i L L.length) l) (hL : Grid.on l i = true → L = Grid.nears xs a i) : Mk xs a o n (D5 xs a (i + 1)) l := by
  cases hi : Grid.on l i with
  | false => exact h.skip hi
  | true =>
    refine ⟨h.marks, progWeaken h.prog fun x y e => .inl ⟨e.1, ?_⟩⟩
    have h2 := e.2
    by_cases hx : x = i
    · subst hx
      refine .inr ⟨rfl, ?_⟩
      rw [List.take_length, hL hi]
      exact Grid.mem_nears.2 ⟨e.1.2, by rw [Grid.beside_comm]; exact e.1.1⟩
    · exact .inl (by omega)
theorem Mk.edge {xs : List UInt8} {a i j : Nat} {L : List Nat} (hL : L = Grid.nears xs a i) (hj : j < L.length) : Grid.Edge xs a i L[j] := by
  subst hL
  have := Grid.mem_nears.1 (List.getElem_mem hj)
  exact ⟨by rw [Grid.beside_comm]; exact this.2, this.1⟩
theorem Mk.mark {xs : List UInt8} {a o n i j : Nat} {L : List Nat} {l : List Bool} (h : Mk xs a o n (D6 xs a i L j) l) (hi : Grid.on l i = true) (hL : L = Grid.nears xs a i) (hj : j < L.length) : Mk xs a o n (D6 xs a i L (j + 1)) (l.set L[j] true) := by
  have he := Mk.edge hL hj
  refine ⟨h.marks.mark he hi, progWeaken (Grid.Prog.mark h.prog he hi (by rw [h.marks.len]; exact Grid.openAt_lt he.2)) fun x y e => .inl ?_⟩
  rw [D6, List.take_succ_eq_append_getElem hj] at e
  rcases e.2 with h2 | ⟨h2, h3⟩
  · exact .inl ⟨e.1, .inl h2⟩
  · rcases List.mem_append.1 h3 with h3 | h3
    · exact .inl ⟨e.1, .inr ⟨h2, h3⟩⟩
    · exact .inr ⟨h2, List.mem_singleton.1 h3⟩
theorem Mk.end5 {xs : List UInt8} {a o n : Nat} {l : List Bool} (h : Mk xs a o n (D5 xs a xs.length) l) : Mk xs a o (n + 1) (fun _ _ => False) l := by
  have h2 : Mk xs a o n (Grid.Edge xs a) l := ⟨h.marks, progWeaken h.prog fun x y e => by
    by_cases hx : x < xs.length
    · exact .inl ⟨e, hx⟩
    · right; left
      cases h9 : Grid.on l x with
      | false => rfl
      | true => have := Grid.on_lt h9; rw [h.marks.len] at this; omega⟩
  exact ⟨h2.marks, Grid.Prog.next h2.prog fun _ _ e => e⟩
theorem Mk.open_ {xs : List UInt8} {a o n i : Nat} {D : Nat → Nat → Prop} {l : List Bool} (h : Mk xs a o n D l) (ho : Grid.openAt xs o = true) (hi : Grid.on l i = true) : Grid.openAt xs i = true :=
  Grid.Reach.open_ ho (h.marks.reach i hi)
/-- in the end what is met is what is open -/
theorem Mk.all {xs : List UInt8} {a o n : Nat} {D : Nat → Nat → Prop} {l : List Bool} (h : Mk xs a o n D l) (hn : xs.length ≤ n) (hj : Grid.Joined xs a) (ho : Grid.openAt xs o = true) (i : Nat) : Grid.on l i = Grid.openAt xs i := by
  rw [Bool.eq_iff_iff]
  refine ⟨h.open_ ho, fun hi => ?_⟩
  rw [h.marks.all (Grid.Prog.done h.prog (by rw [h.marks.len]; exact hn)) i]
  exact (Grid.joined_iff.1 hj).2 o i ho hi
theorem near_on {a m : Nat} {s : ByteArray} {i : Nat} (hr : rightM (a : Int) (m : Int) s = true) (hi : i < s.size) (ho : Grid.openAt s.data.toList i = true) : nearM (a : Int) (m : Int) s (i : Int) = Grid.nears s.data.toList a i := by
  unfold nearM
  rw [openM_on hi, ho, hr]
  simp
theorem near_off {a m : Nat} {s : ByteArray} {i : Nat} (hi : i < s.size) (ho : Grid.openAt s.data.toList i = false) : nearM (a : Int) (m : Int) s (i : Int) = [] := by
  unfold nearM
  rw [openM_on hi, ho]
  simp
/-- the law's variables -/
structure QSt (w0 : World) (q g : Nat) (W H : Int) (s : ByteArray) (l : List Bool) (w : World) : Prop where
  at_ : MapAt w q W H s
  row : BL w g l
  below : Below w0.heap.size w0 w
  far : w0.heap.size ≤ g
  ne : q ≠ g
theorem QSt.carry {w0 w w' : World} {q g : Nat} {W H : Int} {s : ByteArray} {l : List Bool} (h : QSt w0 q g W H s l w) (hb : Below w.heap.size w w') : QSt w0 q g W H s l w' :=
  ⟨h.at_.carry hb, h.row.carry hb, h.below.trans (hb.mono h.below.size), h.far, h.ne⟩
theorem QSt.put {w0 w : World} {q g : Nat} {W H : Int} {s : ByteArray} {l : List Bool} (h : QSt w0 q g W H s l w) {i : Nat} (hi : i < l.length) : QSt w0 q g W H s (l.set i true) (w.setCell ⟨g, i, none⟩ (.bool true)) :=
  ⟨(Below.heap_setCell _ _ _ _ h.ne).trans h.at_, h.row.put hi, h.below.setCell h.far _, h.far, h.ne⟩
theorem QSt.drew {w0 w : World} {q g : Nat} {W H : Int} {s : ByteArray} {l : List Bool} (h : QSt w0 q g W H s l w) : QSt w0 q g W H s l w.drew := ⟨h.at_, h.row.drew, h.below.drew, h.far, h.ne⟩
set_option maxRecDepth 100000 in
set_option maxHeartbeats 2000000 in
theorem nearest_walk (W H : Int) (s : ByteArray) (b : Nat) (hb : b < 256) (w : World) : Calls Tryd.prog 8 #[.agg #[.int .i64 W, .int .i64 H, .string s], .int .u8 (b : Int)] w fun e w' => e = .returned (.bool true) ∧ Below w.heap.size w w' := by
  obtain ⟨w1, HW1⟩ : ∃ w1, Hid (w1 = w.alloc (.cells #[.int .i64 W, .int .i64 H, .string s] 23)) := ⟨_, Lib.hid rfl⟩
  obtain ⟨p, HP⟩ : ∃ p, Hid (p = w.heap.size) := ⟨_, Lib.hid rfl⟩
  have HR1 : Hid (RefAt w1 p W H s) := Lib.hid (by rw [HW1.out, HP.out]; exact heap_alloc_new w _)
  have HB1 : Hid (Below w.heap.size w w1) := Lib.hid (by rw [HW1.out]; exact (Below.refl _ _).alloc (Nat.le_refl _) _)
  go_enter Tryd.func8, Tryd.ntmps8
  go_upto_region 1 with (fail)
  rw [← HP.out, ← HW1.out]
  clear HP HW1
  go_wp2_with fail
  refine (awake_any w1).mono ?_
  rintro e w2 ⟨rfl, hbw⟩
  have HR2 := Lib.hid (HR1.out.carry hbw)
  have HB2 := Lib.hid (HB1.out.trans (hbw.mono HB1.out.size))
  clear hbw HR1 HB1
  dsimp only
  have c0 := HR2.out.w_
  have c1 := HR2.out.h_
  have c2 := HR2.out.s_
  go_wp2_with fail
  refine (RefRight_any W H s w2).mono ?_
  obtain ⟨z, HZ⟩ : ∃ z, Hid (z = rightM W H s) := ⟨_, Lib.hid rfl⟩
  rw [← HZ.out]
  rintro e w3 ⟨rfl, hbw⟩
  have HR3 := Lib.hid (HR2.out.carry hbw)
  have HB3 := Lib.hid (HB2.out.trans (hbw.mono HB2.out.size))
  clear hbw HR2 HB2 c0 c1 c2
  dsimp only
  cases z with
  | false =>
    go_wp2_with fail
    refine (awake_any w3).mono ?_
    rintro e w4 ⟨rfl, hbw⟩
    have HB4 := Lib.hid (HB3.out.trans (hbw.mono HB3.out.size))
    clear hbw
    dsimp only
    go_wp2_with fail
    go_ret
    exact ⟨rfl, HB4.out⟩
  | true =>
    have hr := Grid.rightB_iff.1 HZ.out.symm
    obtain ⟨a, m, rfl, rfl, h1, h8, hh1, hh8, hn, _⟩ := Grid.sized_nat hr.1
    have hl : s.data.toList.length = s.size := by rw [Array.length_toList]; rfl
    rw [hl] at hn
    have HJO : Hid (Grid.Joined s.data.toList a) := Lib.hid (by have := hr.2.2; rwa [Int.toNat_natCast] at this)
    have h64 : s.size ≤ 64 := by
      have h3 : a * m ≤ 8 * 8 := Nat.mul_le_mul h8 hh8
      omega
    have hpos : 0 < s.size := by rw [hn]; exact Nat.mul_pos (by omega) (by omega)
    have hsm : s.size ≤ maxLen := by unfold maxLen; omega
    clear hr hn
    have c0 := HR3.out.w_
    have c1 := HR3.out.h_
    have c2 := HR3.out.s_
    go_wp2_with fail
    refine (Of_any (a : Int) (m : Int) s w3).mono ?_
    rintro e w4 ⟨rfl, hbw⟩
    have HR4 := Lib.hid (HR3.out.carry hbw)
    have HB4 := Lib.hid (HB3.out.trans (hbw.mono HB3.out.size))
    clear hbw HR3 HB3 c0 c1 c2
    dsimp only
    have HPL : Hid (p < w4.heap.size) := Lib.hid HR4.out.lt
    obtain ⟨w5, HW5⟩ : ∃ w5, Hid (w5 = w4.alloc (.cells #[.int .i64 (a : Int), .int .i64 (m : Int), .string s] 29)) := ⟨_, Lib.hid rfl⟩
    obtain ⟨q, HQ⟩ : ∃ q, Hid (q = w4.heap.size) := ⟨_, Lib.hid rfl⟩
    have HR5 : Hid (RefAt w5 p a m s) := Lib.hid (by rw [HW5.out]; exact HR4.out.carry ((Below.refl _ _).alloc (Nat.le_refl _) _))
    have HM5 : Hid (MapAt w5 q a m s) := Lib.hid (by rw [HW5.out, HQ.out]; exact heap_alloc_new w4 _)
    have HB5 : Hid (Below w.heap.size w w5) := Lib.hid (by rw [HW5.out]; exact HB4.out.alloc HB4.out.size _)
    obtain ⟨i, HI⟩ : ∃ i, Hid (i = b % s.size) := ⟨_, Lib.hid rfl⟩
    have hi : i < s.size := by rw [HI.out]; exact Nat.mod_lt _ hpos
    have i1 : (b : Int).tmod (s.size : Int) = (i : Int) := by rw [HI.out, Int.tmod_eq_emod_of_nonneg (by omega), Int.natCast_emod]
    have i2 : (b : Int) % (s.size : Int) = (i : Int) := by rw [HI.out, Int.natCast_emod]
    have i3 : ¬ s.size = 0 := by omega
    have i4 : wrap64 (i : Int) = (i : Int) := by unfold wrap64; omega
    go_upto_region 4 with (fail)
    rw [← HQ.out, ← HW5.out]
    clear HQ HW5 HR4 HB4 HPL
    have c0 := HR5.out.w_
    have c1 := HR5.out.h_
    have c2 := HR5.out.s_
    have hmk := make_bools s.size (by omega) w5
    obtain ⟨w6, HW6⟩ : ∃ w6, Hid (w6 = w5.alloc (.cells (madeCells #[Value.bool false] (s.size * 1)) 4)) := ⟨_, Lib.hid rfl⟩
    obtain ⟨g, HG⟩ : ∃ g, Hid (g = w5.heap.size) := ⟨_, Lib.hid rfl⟩
    have HS6 : Hid (QSt w q g a m s (List.replicate s.data.toList.length false) w6) := Lib.hid (by
      rw [HW6.out, HG.out, hl]
      exact ⟨HM5.out.carry ((Below.refl _ _).alloc (Nat.le_refl _) _), BL.made rfl (heap_alloc_new w5 _), HB5.out.alloc HB5.out.size _, HB5.out.size, by have := HM5.out.lt; omega⟩)
    rw [← HW6.out, ← HG.out] at hmk
    go_upto_region 6 with (fail)
    clear hmk c0 c1 c2 HW6 HG HM5 HB5 HR5 i1 i2 i3 i4 HI
    have c0 := HS6.out.at_.w_
    have c1 := HS6.out.at_.h_
    have c2 := HS6.out.at_.s_
    go_wp2_with fail
    refine (Open_any (a : Int) (m : Int) s i hsm w6).mono ?_
    obtain ⟨o, HO⟩ : ∃ o, Hid (o = Grid.openAt s.data.toList i) := ⟨_, Lib.hid rfl⟩
    rw [openM_on hi, ← HZ.out, ← HO.out, Bool.and_true]
    rintro e w7 ⟨rfl, hbw⟩
    have HS7 := Lib.hid (HS6.out.carry hbw)
    clear hbw HS6 c0 c1 c2
    dsimp only
    have c0 := HS7.out.at_.w_
    have c1 := HS7.out.at_.h_
    have c2 := HS7.out.at_.s_
    cases o with
    | false =>
      go_wp2_with fail
      refine (Near_any (a : Int) (m : Int) s i hsm w7).mono ?_
      rw [near_off hi HO.out.symm]
      rintro e w8 ⟨A, cap, rfl, -, hbw⟩
      have HS8 := Lib.hid (HS7.out.carry hbw)
      clear hbw
      dsimp only [List.length_nil]
      go_wp2_with fail
      go_ret
      exact ⟨rfl, HS8.out.below⟩
    | true =>
      have b0 := HS7.out.row.at_ i (by simp; omega)
      have b1 := HS7.out.row.free i
      obtain ⟨w8, HW8⟩ : ∃ w8, Hid (w8 = w7.setCell ⟨g, i, none⟩ (.bool true)) := ⟨_, Lib.hid rfl⟩
      have HS8 : Hid (QSt w q g a m s ((List.replicate s.data.toList.length false).set i true) w8) := Lib.hid (by rw [HW8.out]; exact HS7.out.put (by simp; omega))
      have HM8 : Hid (Mk s.data.toList a i 0 (fun _ _ => False) ((List.replicate s.data.toList.length false).set i true)) := Lib.hid (Mk.start (by omega))
      go_upto_region 9 with (fail)
      rw [← HW8.out]
      clear HW8 HS7 b0 b1 c0 c1 c2
      go_wp2_with fail
      go_loopw [8] (fun i9 wr => ∃ (n : Nat) (l : List Bool), n ≤ 64 ∧ i9 = .int .i64 (n : Int) ∧ Mk s.data.toList a i n (fun _ _ => False) l ∧ QSt w q g a m s l wr) (fun i9 _ => 64 - (intOf i9).toNat)
      case atStart => exact ⟨0, _, by omega, rfl, HM8.out, HS8.out⟩
      case round =>
        obtain ⟨n, l2, hn, rfl, hmt, hst⟩ := hrel
        have HS2 := Lib.hid hst
        have HM2 := Lib.hid hmt
        clear hst hmt HS8 HM8
        by_cases hnl : n < 64
        · go_wp2_with fail
          go_loopw [9] (fun i9 wr => ∃ (j : Nat) (l : List Bool), j ≤ s.size ∧ i9 = .int .i64 (j : Int) ∧ Mk s.data.toList a i n (D5 s.data.toList a j) l ∧ QSt w q g a m s l wr) (fun i9 _ => s.size - (intOf i9).toNat)
          case atStart => exact ⟨0, l2, Nat.zero_le _, rfl, HM2.out.begin5, HS2.out⟩
          case round =>
            obtain ⟨j, l3, hj, rfl, hmt, hst⟩ := hrel
            have HS3 := Lib.hid hst
            have HM3 := Lib.hid hmt
            clear hst hmt HS2 HM2
            by_cases hjl : j < s.size
            · have c0 := HS3.out.at_.w_
              have c1 := HS3.out.at_.h_
              have c2 := HS3.out.at_.s_
              obtain ⟨L, HL⟩ : ∃ L, Hid (L = nearM (a : Int) (m : Int) s (j : Int)) := ⟨_, Lib.hid rfl⟩
              have HM4 := Lib.hid (HM3.out.begin6 L)
              go_wp2_with fail
              refine (Near_own (a : Int) (m : Int) s j hsm _).mono ?_
              rw [← HL.out]
              rintro e w9 ⟨A, cap, rfl, hnum, hbw, hfar⟩
              have HS4 := Lib.hid (HS3.out.carry hbw)
              have HNU := Lib.hid hnum
              have HFA : Hid (∀ x, A = some x → x.block ≠ g) := Lib.hid fun x hx => by have := hfar x hx; have := HS3.out.row.lt; omega
              clear hbw hnum hfar c0 c1 c2 HS3 HM3
              dsimp only
              have HLL : Hid (L.length ≤ 4) := Lib.hid (by
                rw [HL.out]
                unfold nearM
                split
                · simp; exact Grid.nears_length_le h1 h8
                · simp)
              go_wp2_with fail
              go_loopw [11] (fun i9 wr => ∃ (k : Nat) (l : List Bool), k ≤ L.length ∧ i9 = .int .i64 (k : Int) ∧ Mk s.data.toList a i n (D6 s.data.toList a j L k) l ∧ QSt w q g a m s l wr ∧ Nums wr .i64 A (ints L)) (fun i9 _ => L.length - (intOf i9).toNat)
              case atStart => exact ⟨0, l3, Nat.zero_le _, rfl, HM4.out, HS4.out, HNU.out⟩
              case round =>
                clear HM4
                obtain ⟨k, l4, hk, rfl, hmt, hst, hnum⟩ := hrel
                have HS5 := Lib.hid hst
                have HM5 := Lib.hid hmt
                have HN5 := Lib.hid hnum
                clear hst hmt hnum HS4 HNU
                have hl4 : l4.length = s.size := HM5.out.marks.len.trans hl
                have hll := HLL.out
                by_cases hkl : k < L.length
                · have b0 := HS5.out.row.at_ j (by omega)
                  obtain ⟨v, HV⟩ : ∃ v, Hid (v = Grid.on l4 j) := ⟨_, Lib.hid rfl⟩
                  rw [← HV.out] at b0
                  cases v with
                  | false =>
                    go_wp2_with fail
                    go_roundw
                    case rel => exact ⟨j + 1, l4, hjl, by go_num, HM5.out.skip HV.out.symm, HS5.out⟩
                    case measure => simp [intOf]; omega
                  | true =>
                    have hLn : L = Grid.nears s.data.toList a j := by
                      rw [HL.out]
                      exact near_on HZ.out.symm hjl (HM5.out.open_ HO.out.symm HV.out.symm)
                    have hed := Mk.edge hLn hkl
                    have hyl := Grid.openAt_lt hed.2
                    obtain ⟨y, HY⟩ : ∃ y, Hid (y = L[k]) := ⟨_, Lib.hid rfl⟩
                    rw [← HY.out] at hyl
                    have hys : y < s.size := by omega
                    obtain ⟨x, rfl, hxc⟩ := HN5.out.at_ (ints_at hkl)
                    rw [← HY.out] at hxc
                    have b2 := HS5.out.row.at_ y (by omega)
                    have b3 := HS5.out.row.free y
                    have HLN := Lib.hid hLn
                    clear hLn hed hyl
                    go_wp2_with fail
                    go_roundw
                    case rel => exact ⟨k + 1, l4.set y true, hkl, by go_num, by rw [HY.out]; exact HM5.out.mark HV.out.symm HLN.out hkl, HS5.out.put (by omega), HN5.out.store (fun x9 hx9 => HFA.out x9 hx9) _⟩
                    case measure => simp [intOf]; omega
                · obtain rfl : k = L.length := by omega
                  go_wp2_with fail
                  go_roundw
                  case rel => exact ⟨j + 1, l4, hjl, by go_num, HM5.out.end6 fun ho => by rw [HL.out]; exact near_on HZ.out.symm hjl (HM5.out.open_ HO.out.symm ho), HS5.out⟩
                  case measure => simp [intOf]; omega
            · obtain rfl : j = s.size := by omega
              go_wp2_with fail
              go_roundw
              case rel => exact ⟨n + 1, l3, hnl, by go_num, by have h9 := HM3.out; rw [← hl] at h9; exact h9.end5, HS3.out⟩
              case measure => simp [intOf]; omega
        · have e64 : (n : Int) = 64 := by omega
          rw [e64]
          clear e64
          have HON := Lib.hid (HM2.out.all (by omega) HJO.out HO.out.symm)
          have hl2 : l2.length = s.size := HM2.out.marks.len.trans hl
          clear HM2
          go_wp2_with fail
          go_loopw [12] (fun i9 wr => ∃ (k : Nat), k ≤ s.size ∧ i9 = .int .i64 (k : Int) ∧ QSt w q g a m s l2 wr) (fun i9 _ => s.size - (intOf i9).toNat)
          case atStart => exact ⟨0, Nat.zero_le _, rfl, HS2.out⟩
          case round =>
            obtain ⟨k, hk, rfl, hst⟩ := hrel
            have HS3 := Lib.hid hst
            clear hst HS2
            by_cases hkl : k < s.size
            · have hov := openM_on (W := (a : Int)) (H := (m : Int)) hkl
              rw [← HZ.out, Bool.and_true] at hov
              obtain ⟨v, HV⟩ : ∃ v, Hid (v = Grid.openAt s.data.toList k) := ⟨_, Lib.hid rfl⟩
              rw [← HV.out] at hov
              have HOV := Lib.hid hov
              have HB0 : Hid (∀ wx, QSt w q g a m s l2 wx → wx.cell? ⟨g, k, none⟩ = some (.bool v)) := Lib.hid fun wx hx => by rw [hx.row.at_ k (by omega), HON.out k, ← HV.out]
              clear hov
              go_upto_region 23 with (fail)
              refine wp_region_held (S := QSt w q g a m s l2) (by kernel_rfl) ?_
              change wpAnyH _ _ _ _ _ _ _ _ wr.drew
              obtain ⟨wa, HWA⟩ : ∃ wa, Hid (wa = wr.drew) := ⟨_, Lib.hid rfl⟩
              rw [← HWA.out]
              have hS : QSt w q g a m s l2 wa := by rw [HWA.out]; exact HS3.out.drew
              clear HWA HS3
              -- region 23
              refine takeH (i := 0) 82 (v := .slice (some ⟨g, 0, none⟩) s.size s.size) rfl (by kernel_rfl) (by kernel_rfl) (by kernel_rfl) rfl (fun _ _ _ h => h) (.inl ⟨by rfl, fun _ _ => by go_simp⟩) hS ?_
              simp only [Act.put, List.setIfInBounds_toArray, List.set_cons_zero, List.set_cons_succ]
              refine takeH (i := 1) 83 (v := .int .i64 (k : Int)) rfl (by kernel_rfl) (by kernel_rfl) (by kernel_rfl) rfl (fun _ _ _ h => h) (.inl ⟨by rfl, fun _ _ => by go_simp⟩) hS ?_
              simp only [Act.put, List.setIfInBounds_toArray, List.set_cons_zero, List.set_cons_succ]
              refine takeH (i := 2) 84 (v := .pointer (some ⟨g, k, none⟩)) rfl (by kernel_rfl) (by kernel_rfl) (by kernel_rfl) rfl (fun _ _ _ h => h) (.inl ⟨by rfl, fun _ _ => by go_simp⟩) hS ?_
              simp only [Act.put, List.setIfInBounds_toArray, List.set_cons_zero, List.set_cons_succ]
              refine takeH (i := 3) 85 (v := .bool v) rfl (by kernel_rfl) (by kernel_rfl) (by kernel_rfl) rfl (fun _ _ _ h => h) (.inl ⟨by rfl, fun _ h => by have c0 := HB0.out _ h; go_simp⟩) hS ?_
              simp only [Act.put, List.setIfInBounds_toArray, List.set_cons_zero, List.set_cons_succ]
              refine takeH (i := 4) 86 (v := .agg #[.int .i64 (a : Int), .int .i64 (m : Int), .string s]) rfl (by kernel_rfl) (by kernel_rfl) (by kernel_rfl) rfl (fun _ _ _ h => h) (.inl ⟨by rfl, fun _ h => by have c0 := h.at_.w_; have c1 := h.at_.h_; have c2 := h.at_.s_; go_simp⟩) hS ?_
              simp only [Act.put, List.setIfInBounds_toArray, List.set_cons_zero, List.set_cons_succ]
              refine takeH (i := 5) 87 (v := .int .i64 (k : Int)) rfl (by kernel_rfl) (by kernel_rfl) (by kernel_rfl) rfl (fun _ _ _ h => h) (.inl ⟨by rfl, fun _ _ => by go_simp⟩) hS ?_
              simp only [Act.put, List.setIfInBounds_toArray, List.set_cons_zero, List.set_cons_succ]
              refine oneH (i := 6) (oi := ⟨some 88, _, _, _, _, _⟩) rfl (by kernel_rfl) (fun K hK => ?_)
              go_simp
              refine (Open_any (a : Int) (m : Int) s (k : Int) hsm _).mono ?_
              rw [HOV.out]
              rintro e wn ⟨rfl, hbw⟩
              have hS2 := hS.carry hbw
              refine hK.out _ _ hS2 ?_
              clear hK K hbw hS
              have hS := hS2
              clear hS2
              refine takeH (i := 7) 89 (v := .bool false) rfl (by kernel_rfl) (by kernel_rfl) (by kernel_rfl) rfl (fun _ _ _ h => h) (.inl ⟨by rfl, fun _ _ => by go_simp⟩) hS ?_
              simp only [Act.put, List.setIfInBounds_toArray, List.set_cons_zero, List.set_cons_succ]
              refine wpAnyH_done (by kernel_rfl) ?_ _
              -- behind region 23
              have HS4 := Lib.hid hS
              clear hS
              go_wp2_with fail
              go_roundw
              case rel => exact ⟨k + 1, hkl, by go_num, HS4.out⟩
              case measure => simp [intOf]; omega
            · obtain rfl : k = s.size := by omega
              go_wp2_with fail
              go_ret
              exact ⟨rfl, HS3.out.below⟩
end Go.Proofs.YtoempilmofbhdaaDoor
