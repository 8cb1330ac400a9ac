/-
  The document's own Right (layer 14). Conditions: none beyond the premises of each theorem.
-/
import Derived.Test.YtiffgmgefpoblaaDoorBools
import Derived.Test.YtiffgmgefpoblaaDoorGridRefBeside
namespace Go.Proofs.YtiffgmgefpoblaaDoor
open Go.RowKit

theorem progWeaken {E D D' : Nat → Nat → Prop} {n : Nat} {m : List Bool} (h : Grid.Prog E n D m) (hd : ∀ a b, D' a b → D a b ∨ Grid.on m a = false ∨ Grid.on m b = true) : Grid.Prog E n D' m := by
  rcases h with h | h | ⟨h1, h2⟩
  · exact .inl h
  · exact .inr (.inl h)
  · refine .inr (.inr ⟨h1, fun a b e he => ?_⟩)
    rcases hd a b e with e | e | e
    · exact h2 a b e he
    · rw [e] at he; cases he
    · exact e
/-- the first k signs looked at: l marks the first charger, and nothing else -/
structure First (xs : List UInt8) (k : Nat) (l : List Bool) : Prop where
  len : l.length = xs.length
  at_ : ∀ f, Grid.on l f = true ↔ Grid.firstC (xs.take k) = some f
  sign : ∀ i, i < k → ∀ h : i < xs.length, Grid.sign xs[i] = true
theorem First.start (xs : List UInt8) : First xs 0 (List.replicate xs.length false) := by
  refine ⟨by simp, fun f => ?_, fun i hi => by omega⟩
  have : Grid.on (List.replicate xs.length false) f = false := by
    unfold Grid.on
    rw [List.getElem?_replicate]
    split <;> rfl
  rw [this]
  simp [Grid.firstC]
theorem first_succ {xs : List UInt8} {k : Nat} (hk : k < xs.length) : Grid.firstC (xs.take (k + 1)) = (Grid.firstC (xs.take k)).or (if xs[k] = 67 then some k else none) := by
  unfold Grid.firstC
  rw [List.take_succ_eq_append_getElem hk, List.findIdx?_append]
  congr 1
  have hl : (xs.take k).length = k := by rw [List.length_take]; omega
  by_cases e : xs[k] = 67
  · simp [e, hl]
  · simp [e]
theorem First.skip {xs : List UInt8} {k : Nat} {l : List Bool} (h : First xs k l) (hk : k < xs.length) (hs : Grid.sign xs[k] = true) (hc : xs[k] ≠ 67 ∨ (Grid.firstC (xs.take k)).isSome = true) : First xs (k + 1) l ∧ Grid.firstC (xs.take (k + 1)) = Grid.firstC (xs.take k) := by
  have e : Grid.firstC (xs.take (k + 1)) = Grid.firstC (xs.take k) := by
    rw [first_succ hk]
    rcases hc with hc | hc
    · rw [if_neg hc]; simp
    · obtain ⟨f, hf⟩ := Option.isSome_iff_exists.1 hc
      rw [hf]; rfl
  refine ⟨⟨h.len, fun f => by rw [e]; exact h.at_ f, fun i hi hx => ?_⟩, e⟩
  rcases Nat.lt_succ_iff_lt_or_eq.1 hi with h1 | h1
  · exact h.sign i h1 hx
  · subst h1; exact hs
theorem First.mark {xs : List UInt8} {k : Nat} {l : List Bool} (h : First xs k l) (hk : k < xs.length) (hc : xs[k] = 67) (hn : (Grid.firstC (xs.take k)).isSome = false) : First xs (k + 1) (l.set k true) ∧ Grid.firstC (xs.take (k + 1)) = some k := by
  have hn' : Grid.firstC (xs.take k) = none := by simpa using hn
  have e : Grid.firstC (xs.take (k + 1)) = some k := by
    rw [first_succ hk, hn', if_pos hc]; rfl
  refine ⟨⟨by rw [List.length_set]; exact h.len, fun f => ?_, fun i hi hx => ?_⟩, e⟩
  · rw [Grid.on_set (by rw [h.len]; exact hk), e]
    have h9 := h.at_ f
    rw [hn'] at h9
    have : Grid.on l f = false := by
      cases h8 : Grid.on l f with
      | false => rfl
      | true => rw [h8] at h9; simp at h9
    rw [this]
    simp
    exact eq_comm
  · rcases Nat.lt_succ_iff_lt_or_eq.1 hi with h1 | h1
    · exact h.sign i h1 hx
    · subst h1; rw [hc]; rfl
theorem First.all {xs : List UInt8} {l : List Bool} (h : First xs xs.length l) : xs.all Grid.sign = true := by
  rw [List.all_eq_true]
  intro c hc
  obtain ⟨i, hi, e⟩ := List.getElem_of_mem hc
  rw [← e]
  exact h.sign i hi hi
theorem First.marks {xs : List UInt8} {l : List Bool} (a : Nat) (h : First xs xs.length l) : Grid.Marks xs a (Grid.firstC xs) l ∧ Grid.Prog (Grid.Edge xs a) 0 (fun _ _ => False) l := by
  have hat := h.at_
  rw [List.take_length] at hat
  refine ⟨⟨h.len, fun f hf => (hat f).2 hf, fun i hi => .base ((hat i).1 hi)⟩, ?_⟩
  cases hc : Grid.firstC xs with
  | none =>
    refine .inr (.inl fun x y _ hx => ?_)
    rw [(hat x), hc] at hx
    cases hx
  | some f =>
    refine .inr (.inr ⟨?_, fun _ _ e => e.elim⟩)
    have hf := (hat f).2 hc
    have hlt := Grid.on_lt hf
    rw [Grid.on_eq hlt] at hf
    have : 0 < Grid.cnt l := by
      unfold Grid.cnt
      rw [List.count_pos_iff, ← hf]
      exact List.getElem_mem _
    omega
/-- the edges done: into cells below i; into i, from cells below k -/
def D3 (xs : List UInt8) (a i : Nat) (x y : Nat) : Prop := Grid.Edge xs a x y ∧ y < i
def D4 (xs : List UInt8) (a i k : Nat) (x y : Nat) : Prop := Grid.Edge xs a x y ∧ (y < i ∨ (y = i ∧ x < k))
/-- what is met in round n, cells below i being done, of cell i what comes from below k -/
structure Met (xs : List UInt8) (a n : Nat) (D : Nat → Nat → Prop) (l : List Bool) : Prop where
  marks : Grid.Marks xs a (Grid.firstC xs) l
  prog : Grid.Prog (Grid.Edge xs a) n D l
theorem Met.begin3 {xs : List UInt8} {a n : Nat} {l : List Bool} (h : Met xs a n (fun _ _ => False) l) : Met xs a n (D3 xs a 0) l :=
  ⟨h.marks, progWeaken h.prog fun _ _ e => by have := e.2; omega⟩
theorem Met.begin4 {xs : List UInt8} {a n i : Nat} {l : List Bool} (h : Met xs a n (D3 xs a i) l) : Met xs a n (D4 xs a i 0) l :=
  ⟨h.marks, progWeaken h.prog fun _ _ e => .inl ⟨e.1, by have := e.2; omega⟩⟩
theorem Met.skip {xs : List UInt8} {a n i k : Nat} {l : List Bool} (h : Met xs a n (D4 xs a i k) l) (hk : Grid.on l k = false ∨ Grid.beside a i k = false) : Met xs a n (D4 xs a i (k + 1)) l := by
  refine ⟨h.marks, progWeaken h.prog fun x y e => ?_⟩
  obtain ⟨e1, e2⟩ := e
  by_cases hx : y = i ∧ x = k
  · obtain ⟨rfl, rfl⟩ := hx
    rcases hk with hk | hk
    · exact .inr (.inl hk)
    · rw [e1.1] at hk; cases hk
  · exact .inl ⟨e1, by omega⟩
theorem Met.mark {xs : List UInt8} {a n i k : Nat} {l : List Bool} (h : Met xs a n (D4 xs a i k) l) (hk : Grid.on l k = true) (hb : Grid.beside a i k = true) (ho : Grid.openAt xs i = true) : Met xs a n (D4 xs a i (k + 1)) (l.set i true) := by
  refine ⟨h.marks.mark ⟨hb, ho⟩ hk, progWeaken (Grid.Prog.mark h.prog (x := k) (y := i) ⟨hb, ho⟩ hk (by rw [h.marks.len]; exact Grid.openAt_lt ho)) fun x y e => ?_⟩
  obtain ⟨e1, e2⟩ := e
  by_cases hx : y = i ∧ x = k
  · exact .inl (.inr ⟨hx.2, hx.1⟩)
  · exact .inl (.inl ⟨e1, by omega⟩)
theorem Met.end4 {xs : List UInt8} {a n i : Nat} {l : List Bool} (h : Met xs a n (D4 xs a i xs.length) l) : Met xs a n (D3 xs a (i + 1)) l := by
  refine ⟨h.marks, progWeaken h.prog fun x y e => ?_⟩
  by_cases hx : x < xs.length
  · exact .inl ⟨e.1, by have := e.2; omega⟩
  · right; left
    cases h9 : Grid.on l x with
    | false => rfl
    | true => have := Grid.on_lt h9; rw [h.marks.len] at this; omega
theorem Met.wall {xs : List UInt8} {a n i k : Nat} {l : List Bool} (h : Met xs a n (D4 xs a i k) l) (ho : Grid.openAt xs i = false) : Met xs a n (D3 xs a (i + 1)) l := by
  refine ⟨h.marks, progWeaken h.prog fun x y e => .inl ⟨e.1, ?_⟩⟩
  have h2 := e.2
  by_cases hy : y = i
  · subst hy; have := e.1.2; rw [ho] at this; cases this
  · omega
theorem Met.end3 {xs : List UInt8} {a n : Nat} {l : List Bool} (h : Met xs a n (D3 xs a xs.length) l) : Met xs a (n + 1) (fun _ _ => False) l :=
  ⟨h.marks, Grid.Prog.next h.prog fun _ _ e => ⟨e, Grid.openAt_lt e.2⟩⟩
theorem Met.done {xs : List UInt8} {a : Nat} {l : List Bool} {D : Nat → Nat → Prop} (h : Met xs a xs.length D l) (i : Nat) : Grid.on l i = true ↔ Grid.Reach xs a (Grid.firstC xs) i :=
  h.marks.all (Grid.Prog.done h.prog (by rw [h.marks.len]; exact Nat.le_refl _)) i
theorem not_joined {xs : List UInt8} {a k : Nat} {l : List Bool} (h : ∀ i, Grid.on l i = true ↔ Grid.Reach xs a (Grid.firstC xs) i) (hk : Grid.on l k = false) (ho : Grid.openAt xs k = true) : Grid.joinedB xs a = false := by
  cases h9 : Grid.joinedB xs a with
  | false => rfl
  | true =>
    obtain ⟨f, hf, hall⟩ := Grid.joinedB_iff.1 h9
    have := hall k ho
    rw [← hf, ← h k, hk] at this
    cases this
theorem all_joined {xs : List UInt8} {a : Nat} {l : List Bool} (h : ∀ i, Grid.on l i = true ↔ Grid.Reach xs a (Grid.firstC xs) i) (hall : ∀ k, k < xs.length → Grid.openAt xs k = true → Grid.on l k = true) : Grid.joinedB xs a = (Grid.firstC xs).isSome := by
  rw [Bool.eq_iff_iff, Grid.joinedB_iff, Option.isSome_iff_exists]
  constructor
  · rintro ⟨f, hf, _⟩; exact ⟨f, hf⟩
  · rintro ⟨f, hf⟩
    refine ⟨f, hf, fun i hi => ?_⟩
    have := (h i).1 (hall i (Grid.openAt_lt hi) hi)
    rwa [hf] at this
/-- the variables of Right -/
structure RSt (w0 : World) (p g : Nat) (W H : Int) (s : ByteArray) (l : List Bool) (w : World) : Prop where
  ref : RefAt w p W H s
  row : BL w g l
  below : Below w0.heap.size w0 w
  far : w0.heap.size ≤ g
  ne : p ≠ g
theorem RSt.carry {w0 w w' : World} {p g : Nat} {W H : Int} {s : ByteArray} {l : List Bool} (h : RSt w0 p g W H s l w) (hb : Below w.heap.size w w') : RSt w0 p g W H s l w' :=
  ⟨h.ref.carry hb, h.row.carry hb, h.below.trans (hb.mono h.below.size), h.far, h.ne⟩
theorem RSt.put {w0 w : World} {p g : Nat} {W H : Int} {s : ByteArray} {l : List Bool} (h : RSt w0 p g W H s l w) {i : Nat} (hi : i < l.length) : RSt w0 p g W H s (l.set i true) (w.setCell ⟨g, i, none⟩ (.bool true)) :=
  ⟨(Below.heap_setCell _ _ _ _ h.ne).trans h.ref, h.row.put hi, h.below.setCell h.far _, h.far, h.ne⟩
theorem sign_cases {c : UInt8} (h : Grid.sign c = true) : c = 35 ∨ c = 46 ∨ c = 67 ∨ c = 80 := by
  unfold Grid.sign at h
  simp only [Bool.or_eq_true, beq_iff_eq] at h
  rcases h with ((h | h) | h) | h <;> simp [h]
theorem sign_not {c : UInt8} (h : Grid.sign c = false) : (((c.toNat : Int) != 35) = true ∧ ((c.toNat : Int) != 46) = true) ∧ ((c.toNat : Int) != 67) = true ∧ ((c.toNat : Int) != 80) = true := by
  have key : ∀ d : UInt8, Grid.sign d = true → ((c.toNat : Int) != (d.toNat : Int)) = true := fun d hd => by
    simp only [bne_iff_ne, ne_eq]
    intro e
    have : c = d := UInt8.toNat.inj (by omega)
    rw [this, hd] at h
    cases h
  exact ⟨⟨key 35 rfl, key 46 rfl⟩, key 67 rfl, key 80 rfl⟩
set_option maxRecDepth 100000 in
set_option maxHeartbeats 2000000 in
theorem RefRight_any (W H : Int) (s : ByteArray) (w : World) : Calls Tryd.prog 12 #[.agg #[.int .i64 W, .int .i64 H, .string s]] w fun e w' => e = .returned (.bool (rightM W H s)) ∧ Below w.heap.size w w' := by
  obtain ⟨w1, HW1⟩ : ∃ w1, Hid (w1 = w.alloc (.cells #[.int .i64 W, .int .i64 H, .string s] 23)) := ⟨_, Lib.hid rfl⟩
  obtain ⟨p, HP⟩ : ∃ p, Hid (p = w.heap.size) := ⟨_, Lib.hid rfl⟩
  have HR1 : Hid (RefAt w1 p W H s) := Lib.hid (by rw [HW1.out, HP.out]; exact heap_alloc_new w _)
  have HB1 : Hid (Below w.heap.size w w1) := Lib.hid (by rw [HW1.out]; exact (Below.refl _ _).alloc (Nat.le_refl _) _)
  have HPL : Hid (p < w1.heap.size) := Lib.hid HR1.out.lt
  go_enter Tryd.func12, Tryd.ntmps12
  go_upto_region 1 with (fail)
  rw [← HP.out, ← HW1.out]
  clear HP HW1
  have c0 := HR1.out.w_
  have c1 := HR1.out.h_
  have c2 := HR1.out.s_
  have hl : s.data.toList.length = s.size := by rw [Array.length_toList]; rfl
  by_cases hz : Grid.sized W H s.size
  · obtain ⟨a, m, rfl, rfl, h1, h8, hh1, hh8, hn, _⟩ := Grid.sized_nat hz
    have hm := mul_small (W := (a : Int)) (H := (m : Int)) (by omega)
    have HZ := Lib.hid hz
    have he2 : ((s.size : Int) != (a : Int) * (m : Int)) = false := by have := hz.2.2.2.2; rw [this]; simp
    have h64 : s.size ≤ 64 := by
      have h3 : a * m ≤ 8 * 8 := Nat.mul_le_mul h8 hh8
      omega
    have hpos : 0 < s.size := by rw [hn]; exact Nat.mul_pos (by omega) (by omega)
    clear hz hn
    have hmk := make_bools s.size (by omega) w1
    obtain ⟨w3, HW3⟩ : ∃ w3, Hid (w3 = w1.alloc (.cells (madeCells #[Value.bool false] (s.size * 1)) 4)) := ⟨_, Lib.hid rfl⟩
    obtain ⟨g, HG⟩ : ∃ g, Hid (g = w1.heap.size) := ⟨_, Lib.hid rfl⟩
    have HS3 : Hid (RSt w p g a m s (List.replicate s.data.toList.length false) w3) := Lib.hid (by
      rw [HW3.out, HG.out, hl]
      exact ⟨HR1.out.carry ((Below.refl _ _).alloc (Nat.le_refl _) _), BL.made rfl (heap_alloc_new w1 _), HB1.out.alloc HB1.out.size _, HB1.out.size, by have := HPL.out; omega⟩)
    rw [← HW3.out, ← HG.out] at hmk
    clear HW3 HG HR1 HB1 HPL
    have HF3 := Lib.hid (First.start s.data.toList)
    go_wp2_with fail
    go_loopw [4, 5] (fun ch i wr => ∃ (k : Nat) (l : List Bool), k ≤ s.size ∧ i = .int .i64 (k : Int) ∧ ch = .bool (Grid.firstC (s.data.toList.take k)).isSome ∧ First s.data.toList k l ∧ RSt w p g a m s l wr) (fun _ i _ => s.size - (intOf i).toNat)
    case atStart => exact ⟨0, _, Nat.zero_le _, rfl, rfl, HF3.out, HS3.out⟩
    case round =>
      obtain ⟨k, l, hk, rfl, rfl, hfst, hst⟩ := hrel
      have HST := Lib.hid hst
      have HF := Lib.hid hfst
      clear hst hfst HS3 HF3 c0 c1 c2
      have c0 := HST.out.ref.w_
      have c1 := HST.out.ref.h_
      have c2 := HST.out.ref.s_
      obtain ⟨z, HCH⟩ : ∃ z, Hid ((Grid.firstC (s.data.toList.take k)).isSome = z) := ⟨_, Lib.hid rfl⟩
      rw [HCH.out]
      by_cases hlt : k < s.size
      · have hkl : k < s.data.toList.length := by omega
        obtain ⟨c, HC⟩ : ∃ c, Hid (c = s[k]) := ⟨_, Lib.hid rfl⟩
        have hck : s[k] = c := HC.out.symm
        have hcx : s.data.toList[k] = c := HC.out.symm
        cases hsg : Grid.sign c with
        | false =>
          obtain ⟨⟨d1, d2⟩, d3, d4⟩ := sign_not hsg
          go_wp2_with fail
          go_ret
          refine ⟨ret_bool9 ?_, HST.out.below⟩
          refine (Grid.rightB_signs ?_).symm
          rw [Bool.eq_false_iff]
          intro h9
          rw [List.all_eq_true] at h9
          have := h9 _ (List.getElem_mem hkl)
          rw [hcx, hsg] at this
          cases this
        | true =>
          rcases sign_cases hsg with rfl | rfl | rfl | rfl
          · go_wp2_with fail
            go_roundw
            case rel =>
              have h9 := HF.out.skip hkl (by rw [hcx]; exact hsg) (.inl (by rw [hcx]; decide))
              exact ⟨k + 1, l, hlt, by go_num, by rw [h9.2, HCH.out], h9.1, HST.out⟩
            case measure => simp [intOf]; omega
          · go_wp2_with fail
            go_roundw
            case rel =>
              have h9 := HF.out.skip hkl (by rw [hcx]; exact hsg) (.inl (by rw [hcx]; decide))
              exact ⟨k + 1, l, hlt, by go_num, by rw [h9.2, HCH.out], h9.1, HST.out⟩
            case measure => simp [intOf]; omega
          · cases z with
            | false =>
              have b0 := HST.out.row.at_ k (by rw [HF.out.len]; exact hkl)
              have b1 := HST.out.row.free k
              go_wp2_with fail
              go_roundw
              case rel =>
                have h9 := HF.out.mark hkl hcx HCH.out
                exact ⟨k + 1, _, hlt, by go_num, by rw [h9.2]; rfl, h9.1, HST.out.put (by rw [HF.out.len]; exact hkl)⟩
              case measure => simp [intOf]; omega
            | true =>
              go_wp2_with fail
              go_roundw
              case rel =>
                have h9 := HF.out.skip hkl (by rw [hcx]; exact hsg) (.inr HCH.out)
                exact ⟨k + 1, l, hlt, by go_num, by rw [h9.2, HCH.out], h9.1, HST.out⟩
              case measure => simp [intOf]; omega
          · go_wp2_with fail
            go_roundw
            case rel =>
              have h9 := HF.out.skip hkl (by rw [hcx]; exact hsg) (.inl (by rw [hcx]; decide))
              exact ⟨k + 1, l, hlt, by go_num, by rw [h9.2, HCH.out], h9.1, HST.out⟩
            case measure => simp [intOf]; omega
      · obtain rfl : k = s.size := by omega
        rw [← hl] at HF
        rw [← hl, List.take_length] at HCH
        have HMT : Hid (Met s.data.toList a 0 (fun _ _ => False) l) := Lib.hid ⟨(HF.out.marks a).1, (HF.out.marks a).2⟩
        have HRB := Lib.hid (Grid.rightB_joined (W := (a : Int)) (H := (m : Int)) (xs := s.data.toList) (by rw [hl]; exact HZ.out) HF.out.all)
        clear HF
        go_wp2_with fail
        clear c0 c1 c2
        go_loopw [7] (fun i wr => ∃ (n : Nat) (l : List Bool), n ≤ s.size ∧ i = .int .i64 (n : Int) ∧ Met s.data.toList a n (fun _ _ => False) l ∧ RSt w p g a m s l wr) (fun i _ => s.size - (intOf i).toNat)
        case atStart => exact ⟨0, l, Nat.zero_le _, rfl, HMT.out, HST.out⟩
        case round =>
          obtain ⟨n, l2, hn, rfl, hmt, hst⟩ := hrel
          have HS2 := Lib.hid hst
          have HM2 := Lib.hid hmt
          clear hst hmt HST HMT
          by_cases hnl : n < s.size
          · go_wp2_with fail
            go_loopw [8] (fun i wr => ∃ (j : Nat) (l : List Bool), j ≤ s.size ∧ i = .int .i64 (j : Int) ∧ Met s.data.toList a n (D3 s.data.toList a j) l ∧ RSt w p g a m s l wr) (fun i _ => s.size - (intOf i).toNat)
            case atStart => exact ⟨0, l2, Nat.zero_le _, rfl, HM2.out.begin3, HS2.out⟩
            case round =>
              obtain ⟨i, l3, hi, rfl, hmt, hst⟩ := hrel
              have HS3 := Lib.hid hst
              have HM3 := Lib.hid hmt
              clear hst hmt HS2 HM2
              by_cases hil : i < s.size
              · have HM4 := Lib.hid HM3.out.begin4
                go_wp2_with fail
                go_loopw [9] (fun i9 wr => ∃ (k : Nat) (l : List Bool), k ≤ s.size ∧ i9 = .int .i64 (k : Int) ∧ Met s.data.toList a n (D4 s.data.toList a i k) l ∧ RSt w p g a m s l wr) (fun i9 _ => s.size - (intOf i9).toNat)
                case atStart => exact ⟨0, l3, Nat.zero_le _, rfl, HM4.out, HS3.out⟩
                case round =>
                  clear HM4
                  obtain ⟨k, l4, hk, rfl, hmt, hst⟩ := hrel
                  have HS4 := Lib.hid hst
                  have HM4 := Lib.hid hmt
                  clear hst hmt HS3 HM3
                  have c0 := HS4.out.ref.w_
                  have c1 := HS4.out.ref.h_
                  have c2 := HS4.out.ref.s_
                  have hl4 : l4.length = s.size := HM4.out.marks.len.trans hl
                  by_cases hkl : k < s.size
                  · have hop := byte_ne_int s i hil
                    obtain ⟨o, HO⟩ : ∃ o, Hid (o = Grid.openAt s.data.toList i) := ⟨_, Lib.hid rfl⟩
                    rw [← HO.out] at hop
                    cases o with
                    | false =>
                      go_wp2_with fail
                      go_roundw
                      case rel => exact ⟨i + 1, l4, hil, by go_num, HM4.out.wall HO.out.symm, HS4.out⟩
                      case measure => simp [intOf]; omega
                    | true =>
                      have b0 := HS4.out.row.at_ k (by omega)
                      obtain ⟨v, HV⟩ : ∃ v, Hid (v = Grid.on l4 k) := ⟨_, Lib.hid rfl⟩
                      rw [← HV.out] at b0
                      cases v with
                      | false =>
                        go_wp2_with fail
                        go_roundw
                        case rel => exact ⟨k + 1, l4, hkl, by go_num, HM4.out.skip (.inl HV.out.symm), HS4.out⟩
                        case measure => simp [intOf]; omega
                      | true =>
                        go_wp2_with fail
                        refine (RefBeside_any a i k h1 h8 (by omega) (by omega) _).mono ?_
                        obtain ⟨bs, HBS⟩ : ∃ bs, Hid (bs = Grid.beside a i k) := ⟨_, Lib.hid rfl⟩
                        rw [← HBS.out]
                        rintro e w9 ⟨rfl, hb⟩
                        have HS5 := Lib.hid (HS4.out.carry hb)
                        clear hb b0 c0 c1 c2 HS4
                        dsimp only
                        cases bs with
                        | false =>
                          go_wp2_with fail
                          go_roundw
                          case rel => exact ⟨k + 1, l4, hkl, by go_num, HM4.out.skip (.inr HBS.out.symm), HS5.out⟩
                          case measure => simp [intOf]; omega
                        | true =>
                          have b0 := HS5.out.row.at_ i (by omega)
                          have b1 := HS5.out.row.free i
                          go_wp2_with fail
                          go_roundw
                          case rel => exact ⟨k + 1, l4.set i true, hkl, by go_num, HM4.out.mark HV.out.symm HBS.out.symm HO.out.symm, HS5.out.put (by omega)⟩
                          case measure => simp [intOf]; omega
                  · obtain rfl : k = s.size := by omega
                    go_wp2_with fail
                    go_roundw
                    case rel => exact ⟨i + 1, l4, hil, by go_num, by have h9 := HM4.out; rw [← hl] at h9; exact h9.end4, HS4.out⟩
                    case measure => simp [intOf]; omega
              · obtain rfl : i = s.size := by omega
                go_wp2_with fail
                go_roundw
                case rel => exact ⟨n + 1, l3, hnl, by go_num, by have h9 := HM3.out; rw [← hl] at h9; exact h9.end3, HS3.out⟩
                case measure => simp [intOf]; omega
          · obtain rfl : n = s.size := by omega
            have hmd := HM2.out
            rw [← hl] at hmd
            have HMD := Lib.hid hmd.done
            have hl2 : l2.length = s.size := HM2.out.marks.len.trans hl
            clear hmd HM2
            go_wp2_with fail
            go_loopw [10] (fun i wr => ∃ (k : Nat), k ≤ s.size ∧ i = .int .i64 (k : Int) ∧ (∀ j, j < k → Grid.openAt s.data.toList j = true → Grid.on l2 j = true) ∧ RSt w p g a m s l2 wr) (fun i _ => s.size - (intOf i).toNat)
            case atStart => exact ⟨0, Nat.zero_le _, rfl, fun j hj => by omega, HS2.out⟩
            case round =>
              obtain ⟨k, hk, rfl, hall, hst⟩ := hrel
              have HS3 := Lib.hid hst
              have HA := Lib.hid hall
              clear hst hall HS2
              have c0 := HS3.out.ref.w_
              have c1 := HS3.out.ref.h_
              have c2 := HS3.out.ref.s_
              by_cases hkl : k < s.size
              · have hop := byte_ne_int s k hkl
                obtain ⟨o, HO⟩ : ∃ o, Hid (o = Grid.openAt s.data.toList k) := ⟨_, Lib.hid rfl⟩
                rw [← HO.out] at hop
                have b0 := HS3.out.row.at_ k (by omega)
                obtain ⟨v, HV⟩ : ∃ v, Hid (v = Grid.on l2 k) := ⟨_, Lib.hid rfl⟩
                rw [← HV.out] at b0
                have hstep : (o = true → v = true) → ∀ j, j < k + 1 → Grid.openAt s.data.toList j = true → Grid.on l2 j = true := fun h j hj ho => by
                  rcases Nat.lt_succ_iff_lt_or_eq.1 hj with h2 | h2
                  · exact HA.out j h2 ho
                  · subst h2
                    rw [← HO.out] at ho
                    rw [← HV.out]
                    exact h ho
                have HSTEP := Lib.hid hstep
                clear hstep
                cases v with
                | true =>
                  go_wp2_with fail
                  go_roundw
                  case rel => exact ⟨k + 1, hkl, by go_num, HSTEP.out fun _ => rfl, HS3.out⟩
                  case measure => simp [intOf]; omega
                | false =>
                  cases o with
                  | false =>
                    go_wp2_with fail
                    go_roundw
                    case rel => exact ⟨k + 1, hkl, by go_num, HSTEP.out (fun e => by cases e), HS3.out⟩
                    case measure => simp [intOf]; omega
                  | true =>
                    go_wp2_with fail
                    go_ret
                    refine ⟨ret_bool9 ?_, HS3.out.below⟩
                    unfold rightM
                    rw [HRB.out, Int.toNat_natCast]
                    exact (not_joined HMD.out HV.out.symm HO.out.symm).symm
              · obtain rfl : k = s.size := by omega
                go_wp2_with fail
                go_ret
                refine ⟨ret_bool9 ?_, HS3.out.below⟩
                unfold rightM
                rw [HRB.out, Int.toNat_natCast, all_joined HMD.out fun j hj => HA.out j (by rw [← hl]; exact hj)]
                exact HCH.out.symm
  · have e : rightM W H s = false := Grid.rightB_not (by rw [hl]; exact hz)
    by_cases h : 1 ≤ W ∧ W ≤ 8 ∧ 1 ≤ H ∧ H ≤ 8
    · have hm := mul_small h
      obtain ⟨g1, g2, g3, g4⟩ := h
      have he2 : ((s.size : Int) != W * H) = true := by
        simp only [bne_iff_ne, ne_eq]
        exact fun e9 => hz ⟨g1, g2, g3, g4, e9⟩
      clear hz
      go_wp2_with fail
      go_ret
      first | exact ⟨rfl, HB1.out⟩ | exact ⟨ret_bool9 e.symm, HB1.out⟩
    · clear hz
      go_wp2_with fail
      all_goals first
        | (exfalso; omega)
        | (go_ret; exact ⟨rfl, HB1.out⟩)
        | (go_ret; exact ⟨ret_bool9 e.symm, HB1.out⟩)
end Go.Proofs.YtiffgmgefpoblaaDoor
