/-
  What an argument that is a slice of layer 8's acts gives a walk; the law's 'few'. Conditions: none beyond the premises of each theorem.
-/
import Derived.Test.YtbcapaafoklhdaaDoorOpens
import Derived.Deep.Slices
import Derived.Deep.MidRow
namespace Go.Proofs.YtbcapaafoklhdaaDoor
open Go.ChangeShapes Go.WideShapes Go.ChangeAt Go.RowKit Go.Deep

theorem Tryd.cellsInt : Tryd.prog.cellsOf 3 = 1 := by kernel_rfl
theorem Tryd.cellsU32 : Tryd.prog.cellsOf 35 = 1 := by kernel_rfl
/-- an act, as data -/
structure ActP where
  what : Int
  at_ : Int
  data : ByteArray
  mask : Int
  torn : Int
structure ActAtP (w : World) (b q : Nat) (x : ActP) : Prop where
  c0 : w.cell? ⟨b, q, none⟩ = some (.int .u8 x.what)
  c1 : w.cell? ⟨b, q + 1, none⟩ = some (.int .i64 x.at_)
  c2 : w.cell? ⟨b, q + 2, none⟩ = some (.string x.data)
  c3 : w.cell? ⟨b, q + 3, none⟩ = some (.int .u32 x.mask)
  c4 : w.cell? ⟨b, q + 4, none⟩ = some (.int .i64 x.torn)
  w0 : (Lit.int .u8 x.what).wf = true
  w1 : (Lit.int .i64 x.at_).wf = true
  w3 : (Lit.int .u32 x.mask).wf = true
  w4 : (Lit.int .i64 x.torn).wf = true
def ActsP (w : World) (A : Option Addr) (l : List ActP) : Prop := 0 < l.length → ∃ b o, A = some ⟨b, o, none⟩ ∧ b < w.heap.size ∧ ∀ i x, l[i]? = some x → ActAtP w b (o + i * 5) x
theorem ActAtP.carry {w w' : World} {b q : Nat} {x : ActP} (h : ActAtP w b q x) (hb : w'.heap[b]? = w.heap[b]?) : ActAtP w' b q x :=
  have e : ∀ j, w'.cell? ⟨b, j, none⟩ = w.cell? ⟨b, j, none⟩ := fun j => World.cell?_of_block (w := w) (a := ⟨b, j, none⟩) hb
  { c0 := (e _).trans h.c0, c1 := (e _).trans h.c1, c2 := (e _).trans h.c2, c3 := (e _).trans h.c3, c4 := (e _).trans h.c4, w0 := h.w0, w1 := h.w1, w3 := h.w3, w4 := h.w4 }
theorem ActsP.kept {K : Nat → Prop} {w w' : World} {A : Option Addr} {l : List ActP} (h : ActsP w A l) (hk : Kept K w w') (hK : ∀ k, k < w.heap.size → K k) : ActsP w' A l := fun hp => by
  obtain ⟨b, o, e, hb, hc⟩ := h hp
  exact ⟨b, o, e, Nat.lt_of_lt_of_le hb hk.size, fun i x hx => (hc i x hx).carry (hk.block b (hK b hb))⟩
theorem ActsP.below {w w' : World} {A : Option Addr} {l : List ActP} (h : ActsP w A l) (hk : Below w.heap.size w w') : ActsP w' A l := h.kept (K := (· < w.heap.size)) (Kept.of_below hk fun _ h => h) fun _ h => h
theorem ActsP.at_ {w : World} {A : Option Addr} {l : List ActP} (h : ActsP w A l) {i : Nat} (hi : i < l.length) : ∃ b o, A = some ⟨b, o, none⟩ ∧ b < w.heap.size ∧ ActAtP w b (o + i * 5) l[i] := by
  obtain ⟨b, o, e, hb, hc⟩ := h (by omega)
  exact ⟨b, o, e, hb, hc i _ (List.getElem?_eq_getElem hi)⟩

theorem Tryd.cellsActP : Tryd.prog.cellsOf 41 = 5 := by kernel_rfl
theorem str_of_trod1 {H : Type} {enc : TypeId × Value → H} {P : Program} {w : World} {base : Nat} {sp : Nat → Bool} {held : Bool} {fuel : Nat} {t : TypeId} {c : Value} {y : DataW H × List MemPlace}
    (ht : P.underlying t = some .string) (h : DataW.trod enc P w base sp held fuel t [c] = some y) : ∃ s, c = .string s := by
  cases fuel with
  | zero => simp [DataW.trod] at h
  | succ fuel =>
    cases c <;> simp [DataW.trod, ht] at h
    exact ⟨_, rfl⟩
theorem drop_one {l : List Value} {j : Nat} (h : j < l.length) : (l.drop j).take 1 = [l[j]] := by
  rw [List.drop_eq_getElem_cons h]; rfl
set_option maxRecDepth 100000 in
/-- a slice of acts that is read as data -/
theorem open_actsP {H : Type} {enc : TypeId × Value → H} {W : World} {v : Value} {d : DataW H} {ps : List MemPlace} {r : Reach} {b0 : Nat} (hval : Value.okWide Tryd.prog W r b0 22 v)
    (h : DataW.Trod enc Tryd.prog W 0 (fun _ => true) true 22 v d ps) : ∃ (A : Option Addr) (cap : Nat) (l : List ActP), v = .slice A l.length cap ∧ ActsP W A l ∧ l.length ≤ cap ∧ cap ≤ maxLen := by
  obtain ⟨A, len, cap, rfl⟩ := okWide_slice Tryd.underlying22 hval
  obtain ⟨fuel, hf⟩ := h
  rcases open_slice Tryd.underlying22 hf with ⟨hcs, _⟩ | ⟨a, len', cap', m, n, D, Pl, hcs, _, hl, hm, hmm, _, hi⟩
  · simp [Value.cells] at hcs
    obtain ⟨rfl, rfl, rfl⟩ := hcs
    exact ⟨none, 0, [], rfl, fun h => absurd h (by simp), Nat.le_refl _, by unfold maxLen; omega⟩
  · simp [Value.cells] at hcs
    obtain ⟨rfl, rfl, rfl⟩ := hcs
    rw [if_pos rfl] at hmm
    subst hmm
    have key : ∀ i, i < len → ∃ x : ActP, ∃ b o, a = ⟨b, o, none⟩ ∧ b < W.heap.size ∧ ActAtP W b (o + i * 5) x := by
      intro i hlt
      obtain ⟨cs, hc, ht⟩ := hi i (by omega)
      rw [Tryd.cellsActP] at hc
      obtain ⟨_, hcl, hat⟩ := World.cells?_some hc
      obtain ⟨xs, n', _, _, hlen, hxl, hfd⟩ := DataW.trod_struct Tryd.underlying41 ht
      have hx5 : xs.length = 5 := hxl
      have at1 : ∀ k (hk : k < 5), xs[k]? = some (xs[k]'(by omega)) := fun k hk => List.getElem?_eq_getElem (by omega)
      have g0 : DataW.trod enc Tryd.prog W 0 (fun _ => true) true n' 5 ((cs.drop 0).take (Tryd.prog.cellsOf 5)) = xs[0]? := hfd 0 _ rfl
      have g1 : DataW.trod enc Tryd.prog W 0 (fun _ => true) true n' 3 ((cs.drop 1).take (Tryd.prog.cellsOf 3)) = xs[1]? := hfd 1 _ rfl
      have g2 : DataW.trod enc Tryd.prog W 0 (fun _ => true) true n' 9 ((cs.drop 2).take (Tryd.prog.cellsOf 9)) = xs[2]? := hfd 2 _ rfl
      have g3 : DataW.trod enc Tryd.prog W 0 (fun _ => true) true n' 35 ((cs.drop 3).take (Tryd.prog.cellsOf 35)) = xs[3]? := hfd 3 _ rfl
      have g4 : DataW.trod enc Tryd.prog W 0 (fun _ => true) true n' 3 ((cs.drop 4).take (Tryd.prog.cellsOf 3)) = xs[4]? := hfd 4 _ rfl
      rw [Tryd.cellsByte, drop_one (by omega), at1 0 (by omega)] at g0
      rw [Tryd.cellsInt, drop_one (by omega), at1 1 (by omega)] at g1
      rw [Tryd.cellsStr, drop_one (by omega), at1 2 (by omega)] at g2
      rw [Tryd.cellsU32, drop_one (by omega), at1 3 (by omega)] at g3
      rw [Tryd.cellsInt, drop_one (by omega), at1 4 (by omega)] at g4
      obtain ⟨z0, e0, _, w0⟩ := int_of_trod1 Tryd.underlying5 g0
      obtain ⟨z1, e1, _, w1⟩ := int_of_trod1 Tryd.underlying3 g1
      obtain ⟨p, e2⟩ := str_of_trod1 Tryd.underlying9 g2
      obtain ⟨z3, e3, _, w3⟩ := int_of_trod1 Tryd.underlying35 g3
      obtain ⟨z4, e4, _, w4⟩ := int_of_trod1 Tryd.underlying3 g4
      have c0 := hat 0 (by omega)
      have hs : (a.add (i * 5)).add 0 = a.add (i * 5) := by simp [Addr.add]
      rw [hs, List.getElem?_eq_getElem (by omega)] at c0
      have hblk := lt_of_cell c0
      rw [block_of_add] at hblk
      have hsp0 : a.spot = none := by
        obtain ⟨cs0, hc0, _⟩ := hi 0 (by omega)
        rw [Tryd.cellsActP] at hc0
        obtain ⟨_, hcl0, hat0⟩ := World.cells?_some hc0
        have h00 := hat0 0 (by omega)
        have hs0 : (a.add (0 * 5)).add 0 = a := by simp [Addr.add]
        rw [hs0, List.getElem?_eq_getElem (by omega)] at h00
        exact World.cell?_spot h00
      obtain ⟨b, o, sp⟩ := a
      have hsp : sp = none := hsp0
      subst hsp
      have ha : ∀ j, (Addr.add ⟨b, o, none⟩ (i * 5)).add j = ⟨b, o + i * 5 + j, none⟩ := fun j => by rw [add_of_add, Addr.add_mid, Nat.add_assoc]
      have hat' : ∀ j (hj : j < 5), W.cell? ⟨b, o + i * 5 + j, none⟩ = some (cs[j]'(by omega)) := fun j hj => by
        have := hat j hj
        rw [ha, List.getElem?_eq_getElem (by omega)] at this
        exact this
      refine ⟨⟨z0, z1, p, z3, z4⟩, b, o, rfl, hblk, ?_, ?_, ?_, ?_, ?_, w0, w1, w3, w4⟩
      · have := hat' 0 (by omega)
        rw [e0] at this
        exact this
      · rw [hat' 1 (by omega), e1]
      · rw [hat' 2 (by omega), e2]
      · rw [hat' 3 (by omega), e3]
      · rw [hat' 4 (by omega), e4]
    have hex : ∃ f : Nat → ActP, ∀ i, i < len → ∃ b o, a = ⟨b, o, none⟩ ∧ b < W.heap.size ∧ ActAtP W b (o + i * 5) (f i) :=
      ⟨fun i => if h : i < len then Classical.choose (key i h) else ⟨0, 0, ⟨#[]⟩, 0, 0⟩, fun i hi => by simp only [dif_pos hi]; exact Classical.choose_spec (key i hi)⟩
    obtain ⟨f, hf'⟩ := hex
    refine ⟨some a, m, (List.range len).map f, by simp, fun hp => ?_, by simpa using hl, hm⟩
    have hp' : 0 < len := by simpa using hp
    obtain ⟨b, o, rfl, hb, _⟩ := hf' 0 hp'
    refine ⟨b, o, rfl, hb, fun i x hx => ?_⟩
    have hi' : i < len := by have := (List.getElem?_eq_some_iff.1 hx).1; simpa using this
    obtain rfl : f i = x := by simpa [hi'] using hx
    obtain ⟨b', o', e, _, hc⟩ := hf' i hi'
    injection e with e1 e2
    subst e1
    subst e2
    exact hc

/-- of a size that is looked at -/
def fewL (l : List ActP) : Bool := (l.take 51).all (fun x => decide (x.data.size ≤ 500)) && decide (l.length ≤ 50)
def FewRel (l : List ActP) (i : Value) : Prop := ∃ j : Nat, j ≤ l.length ∧ j ≤ 51 ∧ i = .int .i64 (j : Int) ∧ ∀ m x, l[m]? = some x → m < j → x.data.size ≤ 500
theorem few_at {A : Option Addr} {l : List ActP} {w : World} (h : ActsP w A l) {j : Nat} (hj : j < l.length) : ∃ b o, A = some ⟨b, o, none⟩ ∧ ActAtP w b (o + j * 5) l[j] := by
  obtain ⟨b, o, e, _, hc⟩ := h.at_ hj
  exact ⟨b, o, e, hc⟩
theorem few_val {l : List ActP} (h : ∀ m x, l[m]? = some x → m < 51 → x.data.size ≤ 500) : fewL l = decide (l.length ≤ 50) := by
  unfold fewL
  have : (l.take 51).all (fun x => decide (x.data.size ≤ 500)) = true := by
    rw [List.all_eq_true]
    intro x hx
    obtain ⟨m, hm, e⟩ := List.getElem_of_mem hx
    rw [List.length_take] at hm
    rw [List.getElem_take] at e
    exact decide_eq_true (h m x (by rw [List.getElem?_eq_getElem (by omega), e]) (by omega))
  rw [this, Bool.true_and]
theorem few_bad {l : List ActP} {j : Nat} (hj : j < l.length) (h51 : j < 51) (h : ¬ l[j].data.size ≤ 500) : fewL l = false := by
  unfold fewL
  have : (l.take 51).all (fun x => decide (x.data.size ≤ 500)) = false := by
    rw [List.all_eq_false]
    refine ⟨l[j], ?_, by simpa using h⟩
    rw [List.mem_take_iff_getElem]
    exact ⟨j, by omega, rfl⟩
  rw [this, Bool.false_and]
set_option maxRecDepth 100000 in
set_option maxHeartbeats 1000000 in
theorem few_any {A : Option Addr} {cap : Nat} {l : List ActP} {w : World} (h : ActsP w A l) (hlc : l.length ≤ maxLen) : Calls Tryd.prog 9 #[.slice A l.length cap] w fun e w' => e = .returned (.bool (fewL l)) ∧ w = w' := by
  have HA := Lib.hid h
  obtain ⟨V, HV⟩ : ∃ V, Hid (V = fewL l) := ⟨_, Lib.hid rfl⟩
  rw [← HV.out]
  obtain ⟨n, HN⟩ : ∃ n, Hid (n = l.length) := ⟨_, Lib.hid rfl⟩
  have hn : n ≤ maxLen := by rw [HN.out]; exact hlc
  unfold maxLen at hn
  rw [← HN.out]
  clear h hlc
  go_enter Tryd.func9, Tryd.ntmps9
  go_wp2_with fail
  go_loop [3] (fun i => FewRel l i) (fun i => 51 - (intOf i).toNat)
  case atStart => exact ⟨0, Nat.zero_le _, by decide, rfl, fun m x _ h => absurd h (Nat.not_lt_zero m)⟩
  case round =>
    obtain ⟨j, hj, hj51, rfl, hall⟩ := hrel
    have HALL := Lib.hid hall
    clear hall
    rw [← HN.out] at hj
    by_cases hlt : j < n
    · by_cases h50 : j ≤ 50
      · have hjl : j < l.length := by rw [← HN.out]; exact hlt
        obtain ⟨b, o, rfl, ha⟩ := few_at HA.out hjl
        obtain ⟨x, HX⟩ : ∃ x, Hid (x = l[j]) := ⟨_, Lib.hid rfl⟩
        rw [← HX.out] at ha
        have c2 := ha.c2
        have hlt2 : (j : Int) < (n : Int) := by omega
        have h502 : (j : Int) ≤ 50 := by omega
        clear ha
        by_cases hd : x.data.size ≤ 500
        · have hd2 : decide ((500 : Int) < (x.data.size : Int)) = false := by simp; omega
          go_wp2_with fail
          go_round
          case rel =>
            refine ⟨j + 1, by rw [← HN.out]; exact hlt, by omega, by go_num, fun m y hy hm => ?_⟩
            by_cases e : m = j
            · subst e
              rw [List.getElem?_eq_getElem hjl] at hy
              obtain rfl := Option.some.inj hy
              rw [← HX.out]
              exact hd
            · exact HALL.out m y hy (by omega)
          case measure => simp [intOf]; omega
        · have hd2 : decide ((500 : Int) < (x.data.size : Int)) = true := by simp; omega
          obtain rfl : V = false := by rw [HV.out]; exact few_bad hjl (by omega) (by rw [← HX.out]; exact hd)
          go_wp2_with fail
          go_ret
          exact ⟨rfl, rfl⟩
      · have h502 : decide ((j : Int) ≤ 50) = false := by simp; omega
        have hlt2 : (j : Int) < (n : Int) := by omega
        have hn50 : decide ((n : Int) ≤ 50) = false := by simp; omega
        obtain rfl : V = false := by rw [HV.out, few_val (fun m x hx hm => HALL.out m x hx (by omega)), ← HN.out]; exact decide_eq_false (by omega)
        go_wp2_with fail
        go_ret
        exact ⟨rfl, rfl⟩
    · obtain rfl : j = n := by omega
      have hv : V = decide ((j : Int) ≤ 50) := by
        rw [HV.out, few_val (fun m x hx hm => HALL.out m x hx (by have := (List.getElem?_eq_some_iff.1 hx).1; rw [← HN.out] at this; exact this)), ← HN.out]
        exact decide_eq_decide.2 (by omega)
      have HVV := Lib.hid hv
      clear hv
      go_wp2_with fail
      go_ret
      exact ⟨by rw [HVV.out]; rfl, rfl⟩
end Go.Proofs.YtbcapaafoklhdaaDoor
