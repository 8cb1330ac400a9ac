/-
  A region that draws its order, whose last operations come in one order, behind all the others: the head under a condition on the world, then the tail as a list. Conditions: none beyond the premises of each theorem.
-/
import Derived.Test.YtiffgmgefpoblaaDoorNums
import Derived.Lib.Hide
import Derived.StillTailTactics
import Derived.Deep.RegionHeld3
namespace Go.Proofs.YtiffgmgefpoblaaDoor
open Go.RowKit

section
variable {P : Program} {ops : Array Oper} {md : Region.Mode} {Q : Exit → Act → World → Prop} {S : World → Prop}

/-- the head's post: the tail goes on from there -/
def HeadPost (P : Program) (l : List Oper) (n : Nat) (Q : Exit → Act → World → Prop) : Exit → Act → World → Prop
  | .normal, a, w => wpList P l.toArray Q (l.drop n) a w
  | .exit i, a, w => Q (.exit i) a w
  | .goto i, a, w => Q (.goto i) a w
  | .ret, a, w => Q .ret a w
  | .panic c, a, w => Q (.panic c) a w
  | .outgrown, a, w => Q .outgrown a w
theorem oper_post {o : Oper} {a : Act} {w : World} {K : Act → World → Prop} {l : List Oper} {n : Nat} (hh : o.wp P a w K (HeadPost P l n Q)) : o.wp P a w K Q := by
  unfold Oper.wp at *
  generalize (execOp a.eval o).run P w = r at *
  cases r with
  | ok m w' =>
    cases m <;> simp only [Oper.upon] at hh ⊢ <;>
      first
        | exact hh
        | exact Calls.mono hh (fun e w'' he => by cases e <;> exact he)
  | halt x w' => cases x <;> simp only [Oper.upon] at hh ⊢ <;> exact hh
theorem wpOp_post {i : Nat} {a : Act} {w : World} {K : Act → World → Prop} {l : List Oper} {n : Nat} (hh : wpOp P ops (HeadPost P l n Q) i K a w) : wpOp P ops Q i K a w := by
  unfold wpOp at *
  split
  · simpa [*] using hh
  · rename_i o ho
    simp only [ho] at hh
    split
    · rename_i hw
      simp only [hw, if_true] at hh
      exact hh.imp oper_post fun ⟨h1, h2⟩ => ⟨h1, h2⟩
    · rename_i hw
      simp only [hw] at hh
      exact hh
/-- the tail, with more fuel than it wants -/
theorem wpAny_more (k : Nat) : ∀ (l : List Oper) (p : Nat) (listed : Array Bool) (a : Act) (w : World), (∀ j, l[j]? = ops[p + j]?) →
    Region.seqB md ops l.length p listed = true → wpList P ops Q l a w → wpAny P md ops Q (l.length + k) listed a w
  | [], p, listed, a, w, _, hB, h => by
    have hr : Region.ready md ops listed = [] := by simpa [Region.seqB] using hB
    cases k with
    | zero => exact ⟨hr, h⟩
    | succ k => exact ⟨fun _ => h, fun i hi => by rw [hr] at hi; cases hi⟩
  | o :: l, p, listed, a, w, hl, hB, h => by
    have h0 : ops[p]? = some o := by simpa using (hl 0).symm
    simp only [List.length_cons, Region.seqB, Bool.and_eq_true, decide_eq_true_eq] at hB
    rw [show (o :: l).length + k = (l.length + k) + 1 by simp; omega]
    refine ⟨fun h1 => (by rw [hB.1] at h1; cases h1), fun i hi => ?_⟩
    rw [hB.1] at hi
    obtain rfl : i = p := by simpa using hi
    have hw : wpOp P ops Q i (wpList P ops Q l) a w := by unfold wpOp; simp only [h0]; exact h
    exact wpOp_mono (fun a' w' h' => wpAny_more k l (i + 1) _ a' w' (fun j => by have := hl (j + 1); simpa [Nat.add_assoc, Nat.add_comm 1 j] using this) hB.2 h') hw

/-- who is listed when the head is done; who counts as listed while the head goes -/
def doneHead (m n : Nat) : Array Bool := ((List.range m).map fun i => decide (i < n)).toArray
def startHead (m n : Nat) : Array Bool := ((List.range m).map fun i => decide (n ≤ i)).toArray
def headB (md : Region.Mode) (ops : Array Oper) (n : Nat) : Bool :=
  decide (n < ops.size) && ((List.range ops.size).all fun j => match ops[j]? with | some o => o.after.all fun e => decide (e.on < j) | none => true) &&
  ((List.range n).all fun i => Region.waitsFor md ops n i) && ((List.range ops.size).all fun t => decide (t ≤ n) || Region.waitsFor md ops t (t - 1)) && Region.seqB md ops (ops.size - n) n (doneHead ops.size n)

structure Heads (ops : Array Oper) (n : Nat) (listed listedT : Array Bool) : Prop where
  s1 : listed.size = ops.size
  s2 : listedT.size = ops.size
  same : ∀ j, j < n → listed[j]? = listedT[j]?
  tail : ∀ j, n ≤ j → j < ops.size → listed[j]? = some false ∧ listedT[j]? = some true
theorem Heads.set {n i : Nat} {listed listedT : Array Bool} (h : Heads ops n listed listedT) (hi : i < n) : Heads ops n (listed.setIfInBounds i true) (listedT.setIfInBounds i true) := by
  refine ⟨by simp [h.s1], by simp [h.s2], fun j hj => ?_, fun j h1 h2 => ?_⟩
  · rw [Array.getElem?_setIfInBounds, Array.getElem?_setIfInBounds, h.same j hj, h.s1, h.s2]
  · rw [Array.getElem?_setIfInBounds_ne (by omega), Array.getElem?_setIfInBounds_ne (by omega)]
    exact h.tail j h1 h2
theorem getD_of {l : Array Bool} {j : Nat} {b d : Bool} (h : l[j]? = some b) : l.getD j d = b := by
  rw [Array.getD_eq_getD_getElem?, h]; rfl

theorem wpAny_of_headH {l : List Oper} {n : Nat} (hl : ops = l.toArray) (hB : headB md ops n = true) :
    ∀ (fuel : Nat) (listed listedT : Array Bool) (a : Act) (w : World), Heads ops n listed listedT → wpAnyH P md ops (HeadPost P l n Q) S fuel listedT a w → wpAny P md ops Q (fuel + (ops.size - n)) listed a w := by
  simp only [headB, Bool.and_eq_true, decide_eq_true_eq] at hB
  obtain ⟨⟨⟨⟨hn, hback⟩, hwait⟩, hchain⟩, hseq⟩ := hB
  have back : ∀ (j : Nat) (o : Oper), ops[j]? = some o → ∀ e ∈ o.after, e.on < j := fun j o ho e he => by
    have hj : j < ops.size := (Array.getElem?_eq_some_iff.1 ho).1
    have h1 := List.all_eq_true.1 hback j (List.mem_range.2 hj)
    rw [ho] at h1
    simpa using (Array.all_eq_true_iff_forall_mem.1 h1) e he
  -- where no operation of the head is ready all are listed
  have full : ∀ (listed listedT : Array Bool), Heads ops n listed listedT → Region.ready md ops listedT = [] → listed = doneHead ops.size n := by
    intro listed listedT hh hr
    have all : ∀ i, i < n → listedT[i]? = some true := by
      intro i
      induction i using Nat.strongRecOn with
      | _ i ih =>
        intro hi
        have hs : i < listedT.size := by rw [hh.s2]; omega
        cases hv : listedT[i]? with
        | none => rw [Array.getElem?_eq_getElem hs] at hv; cases hv
        | some b =>
          cases b with
          | true => rfl
          | false =>
            have hm : i ∈ Region.ready md ops listedT := mem_ready.2 ⟨getD_of hv, ops[i]'(by omega), Array.getElem?_eq_getElem (by omega), fun e he _ => getD_of (ih e.on (back i _ (Array.getElem?_eq_getElem (by omega)) e he) (by have := back i _ (Array.getElem?_eq_getElem (by omega)) e he; omega))⟩
            rw [hr] at hm
            cases hm
    apply Array.ext_getElem?
    intro i
    by_cases h1 : i < n
    · rw [hh.same i h1, all i h1]
      simp [doneHead, h1, show i < ops.size by omega]
    · by_cases h2 : i < ops.size
      · rw [(hh.tail i (by omega) h2).1]
        simp [doneHead, h1, h2]
      · rw [Array.getElem?_eq_none (by rw [hh.s1]; omega), Array.getElem?_eq_none (by simp [doneHead]; omega)]
  -- the tail
  have rest : ∀ (fuel : Nat) (listed listedT : Array Bool) (a : Act) (w : World), Heads ops n listed listedT → Region.ready md ops listedT = [] → HeadPost P l n Q .normal a w → wpAny P md ops Q (fuel + (ops.size - n)) listed a w := by
    intro fuel listed listedT a w hh hr hq
    rw [full listed listedT hh hr]
    have hlen : (l.drop n).length = ops.size - n := by rw [hl]; simp
    have := wpAny_more (P := P) (ops := ops) (md := md) (Q := Q) fuel (l.drop n) n (doneHead ops.size n) a w (fun j => by rw [hl, List.getElem?_drop]; simp) (by rw [hlen]; exact hseq) (by rw [hl]; exact hq)
    rw [hlen, Nat.add_comm] at this
    exact this
  intro fuel
  induction fuel with
  | zero => intro listed listedT a w hh h; exact rest 0 listed listedT a w hh h.1 h.2
  | succ fuel ih =>
    intro listed listedT a w hh h
    by_cases hr : Region.ready md ops listedT = []
    · exact rest (fuel + 1) listed listedT a w hh hr (h.1 hr)
    · -- an operation of the head that isn't listed
      have hsome : ∃ i, i < n ∧ listedT[i]? = some false := by
        obtain ⟨i, hi⟩ := List.exists_mem_of_ne_nil _ hr
        obtain ⟨h1, o, ho, _⟩ := mem_ready.1 hi
        have hs : i < ops.size := (Array.getElem?_eq_some_iff.1 ho).1
        have hv : listedT[i]? = some false := by
          cases hv : listedT[i]? with
          | none => rw [Array.getElem?_eq_getElem (by rw [hh.s2]; exact hs)] at hv; cases hv
          | some b => rw [getD_of hv] at h1; rw [h1]
        refine ⟨i, ?_, hv⟩
        rcases Nat.lt_or_ge i n with h2 | h2
        · exact h2
        · rw [(hh.tail i h2 hs).2] at hv; cases hv
      obtain ⟨k, hkn, hkv⟩ := hsome
      have only : ∀ i ∈ Region.ready md ops listed, i < n ∧ i ∈ Region.ready md ops listedT := by
        intro i hi
        obtain ⟨h1, o, ho, h2⟩ := mem_ready.1 hi
        have hs : i < ops.size := (Array.getElem?_eq_some_iff.1 ho).1
        have hin : i < n := by
          rcases Nat.lt_or_ge i n with h3 | h3
          · exact h3
          · rcases Nat.eq_or_lt_of_le h3 with h4 | h4
            · subst h4
              obtain ⟨o', ho', e, he, hb, hon⟩ := Region.waitsFor_spec (List.all_eq_true.1 hwait k (List.mem_range.2 hkn))
              obtain rfl : o' = o := Option.some.inj (ho'.symm.trans ho)
              have := h2 e he hb
              rw [hon, getD_of ((hh.same k hkn).trans hkv)] at this
              cases this
            · have h5 := List.all_eq_true.1 hchain i (List.mem_range.2 hs)
              simp only [Bool.or_eq_true, decide_eq_true_eq] at h5
              rcases h5 with h5 | h5
              · omega
              · obtain ⟨o', ho', e, he, hb, hon⟩ := Region.waitsFor_spec h5
                obtain rfl : o' = o := Option.some.inj (ho'.symm.trans ho)
                have := h2 e he hb
                rw [hon, getD_of (hh.tail (i - 1) (by omega) (by omega)).1] at this
                cases this
        refine ⟨hin, mem_ready.2 ⟨?_, o, ho, fun e he hb => ?_⟩⟩
        · rw [Array.getD_eq_getD_getElem?, ← hh.same i hin, ← Array.getD_eq_getD_getElem?]; exact h1
        · rw [Array.getD_eq_getD_getElem?, ← hh.same e.on (by have := back i o ho e he; omega), ← Array.getD_eq_getD_getElem?]; exact h2 e he hb
      rw [show fuel + 1 + (ops.size - n) = (fuel + (ops.size - n)) + 1 by omega]
      refine ⟨fun h0 => ?_, fun i hi => ?_⟩
      · -- the least one that isn't listed is ready
        have least : ∀ i, i < n → listed[i]? = some false → ∃ j, j ∈ Region.ready md ops listed := by
          intro i
          induction i using Nat.strongRecOn with
          | _ i ihi =>
            intro hin hv
            have hs : i < ops.size := by omega
            by_cases hall : ∀ e ∈ (ops[i]).after, Region.binds md e = true → listed.getD e.on false = true
            · exact ⟨i, mem_ready.2 ⟨getD_of hv, ops[i], Array.getElem?_eq_getElem hs, hall⟩⟩
            · have hex : ∃ e, e ∈ (ops[i]).after ∧ Region.binds md e = true ∧ ¬ listed.getD e.on false = true := by
                refine Classical.byContradiction fun hno => hall fun e he hb => ?_
                exact Classical.byContradiction fun hx => hno ⟨e, he, hb, hx⟩
              obtain ⟨e, he, _, hx⟩ := hex
              have hlt := back i _ (Array.getElem?_eq_getElem hs) e he
              have hes : e.on < listed.size := by rw [hh.s1]; omega
              cases hve : listed[e.on]? with
              | none => rw [Array.getElem?_eq_getElem hes] at hve; cases hve
              | some b =>
                cases b with
                | true => exact absurd (getD_of hve) hx
                | false => exact ihi e.on hlt (by omega) hve
        obtain ⟨j, hj⟩ := least k hkn ((hh.same k hkn).trans hkv)
        rw [h0] at hj
        cases hj
      · obtain ⟨hin, hiT⟩ := only i hi
        exact wpOp_mono (fun a' w' h' => ih _ _ a' w' (hh.set hin) h'.2) (wpOp_post (h.2 i hiT))

/-- THE LAW -/
theorem wp_region_head {id : Nat} {a : Act} {w : World} {l : List Oper} (S : World → Prop) (n : Nat) (hm : P.follows .mixedOrders = true) (hB : headB .any l.toArray n = true)
    (h : ∀ w1, Hid (w1 = w.drew) → wpAnyH P .any l.toArray (HeadPost P l n Q) S n (startHead l.toArray.size n) a w1) : (Code.region id l.toArray true).wp P Q a w := by
  refine wp_region_any hm ?_
  have hn : n < l.toArray.size := by
    simp only [headB, Bool.and_eq_true, decide_eq_true_eq] at hB
    exact hB.1.1.1.1
  have hh : Heads l.toArray n (Array.replicate l.toArray.size false) (startHead l.toArray.size n) := by
    refine ⟨by simp, by simp [startHead], fun j hj => ?_, fun j h1 h2 => ?_⟩
    · have h3 : j < l.length := by simp at hn; omega
      simp [startHead, h3, show ¬ n ≤ j by omega]
    · have h3 : j < l.length := by simpa using h2
      simp [startHead, h3, h1]
  have := wpAny_of_headH (Q := Q) (S := S) rfl hB n _ _ a _ hh (h _ rfl)
  rw [show n + (l.toArray.size - n) = l.toArray.size by omega] at this
  exact this
/-- an operation that yields is taken first; its slot by its number -/
theorem takeH {i : Nat} (t : Nat) {oi : Oper} {v : Value} {fuel : Nat} {listed : Array Bool} {a : Act} {w : World} (hi : ops[i]? = some oi)
    (hs : Region.noSelect ops = true) (hf : Region.free md ops listed i = true) (hr : (Region.ready md ops listed).contains i = true) (hd : oi.dst = some t)
    (hQ : ∀ c a w, Q (.panic c) (a.put (some t) v) w → Q (.panic c) a w) (hy : YieldsIf P ops S oi v a) (hS : S w)
    (h : wpAnyH P md ops Q S fuel (listed.setIfInBounds i true) (a.put (some t) v) w) : wpAnyH P md ops Q S (fuel + 1) listed a w :=
  wpAnyH_take hi hs hf hr (by rw [hd]; exact hQ) hy hS (by rw [hd]; exact h)
/-- one operation comes up -/
theorem oneH {i : Nat} {oi : Oper} {fuel : Nat} {listed : Array Bool} {a : Act} {w : World} (hi : ops[i]? = some oi) (hr : Region.ready md ops listed = [i])
    (h : ∀ K : Act → World → Prop, Hid (∀ a w, S w → wpAnyH P md ops Q S fuel (listed.setIfInBounds i true) a w → K a w) → if Region.wanted oi (yielded ops a.tmps) = true then Oper.wp P oi a w K Q else K (a.put oi.dst undef) w) : wpAnyH P md ops Q S (fuel + 1) listed a w :=
  wpAnyH_ready hr (by simp) (AllReadyH.cons hi (fun K hK => h K (fun a w h1 h2 => hK.out a w h1 fun _ => h2)) AllReadyH.nil)
end
end Go.Proofs.YtiffgmgefpoblaaDoor
