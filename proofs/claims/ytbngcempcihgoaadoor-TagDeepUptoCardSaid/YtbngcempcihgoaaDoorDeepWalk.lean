/-
  The walk of the statement TagDeep: for every number and two lists of at most 40 tags it answers true, and no memory that was there has turned. Conditions: the package variable errors.errorType holds the handle of the type error; the tags together have at most 1048576 bytes.
-/
import Derived.Test.YtbngcempcihgoaaDoorMoreWalk
import Derived.Laws.AppendOwnNone
import Derived.Laws.AppendOwn
namespace Go.Proofs.YtbngcempcihgoaaDoor
open Go.RowKit Go.Extern.Stop Go.Stop Go.Extern

theorem own_strs {w : World} {base n : Nat} {v : Value} {l : List ByteArray} (h : w.ownsRow base 9 1 v n (l.map Value.string)) : ∃ A cap, v = .slice A n cap ∧ Strs w A n l := by
  have hn : l.length = n := by have := h.1; simpa using this
  rcases h.2 with ⟨hv, hx⟩ | ⟨gg, cap, cur, hv, hg, hh, r⟩
  · subst hx
    have hl : l = [] := List.eq_nil_of_length_eq_zero hn
    subst hl
    exact ⟨none, 0, hv, ⟨rfl, fun h => absurd h (by simp)⟩⟩
  · refine ⟨some ⟨gg, 0, none⟩, cap, hv, ⟨hn, fun hp => ⟨_, rfl, ?_, fun i s hs => ?_⟩⟩⟩
    · rcases Nat.lt_or_ge gg w.heap.size with h' | h'
      · exact h'
      · simp [Array.getElem?_eq_none h'] at hh
    · subst hv
      exact h.cells (g := gg) rfl i _ (by rw [List.getElem?_map, hs]; rfl)

/-- append of a slice of strings, nil or not, onto one of the call's own -/
theorem wpList_append_strs (w : World) {ops : Array Oper} {rest : List Oper} {o : Oper} {a : Act} {Q : Exit → Act → World → Prop} (hgd : o.guard = none) (s x : Operand)
    (ho : o.op = .call { callee := .builtin .append, args := #[s, x], argTypes := #[22, 22] }) (base : Nat) (v : Value) (n : Nat) (xs : List ByteArray) (hs : a.eval s = v) (hown : w.ownsRow base 9 1 v n (xs.map Value.string))
    (A : Option Addr) (m c : Nat) (ss : List ByteArray) (hx : a.eval x = .slice A m c) (hstr : Strs w A m ss) (hnil : A = none → c = 0) (hle : n + m ≤ 1000) (hbase : base ≤ w.heap.size)
    (h : ∀ v' w', w'.ownsRow base 9 1 v' (n + m) ((xs ++ ss).map Value.string) → w.grownBy w' v.ownBlock → wpList Tryd.prog ops Q rest (a.put o.dst v') w') : wpList Tryd.prog ops Q (o :: rest) a w := by
  obtain ⟨i0, hi0, hz0, hz1, hz2⟩ := info_parts Tryd.info9
  cases A with
  | none =>
    have hm : m = 0 := by
      rcases Nat.eq_zero_or_pos m with h0 | h0
      · exact h0
      · obtain ⟨a, e, _⟩ := hstr.2 h0
        cases e
    have hc := hnil rfl
    subst hm hc
    have hss : ss = [] := List.eq_nil_of_length_eq_zero hstr.1
    subst hss
    exact wpList_append_own_none hgd s x 22 ho base 9 i0 1 Tryd.underlying22 hi0 v n _ hs hown hx (h v w (by simpa using hown) (World.grownBy.refl w _))
  | some ad =>
    have hnews : ∀ j u, (ss.map Value.string)[j]? = some u → w.cell? (ad.add j) = some u := fun j u hu => by
      rw [List.getElem?_map] at hu
      obtain ⟨s', hs', rfl⟩ := Option.map_eq_some_iff.1 hu
      have hpos : 0 < m := by
        have := (List.getElem?_eq_some_iff.1 hs').1
        have := hstr.1
        omega
      obtain ⟨a', e, _, hc⟩ := hstr.2 hpos
      cases e
      exact hc j s' hs'
    exact wpList_append_own w hgd s x 22 ho base 9 i0 _ 1 16 Tryd.underlying22 hi0 hz0 hz1 hz2 rfl (by omega) v n _ hs hown ad m c (ss.map Value.string) hx (by simp; exact hstr.1) hnews
      (fun u hu => by obtain ⟨s', _, rfl⟩ := List.mem_map.1 hu; rfl) (by unfold maxLen; omega) (by omega) hbase (fun v' w' h1 h2 _ => h v' w' (by rw [List.map_append]; exact h1) h2)

theorem textB_size_eq (n : Int) (l : List ByteArray) : (textB n l).size = bulk l + (numText n).size := by
  have h := lenS (textB n l)
  have e : (textB n l).data.toList = chainText n l := by simp [textB]
  rw [e, chainText_length] at h
  omega

set_option maxHeartbeats 4000000 in
set_option maxRecDepth 100000 in
theorem deep_short (n : Int) (A B : Option Addr) (la ca lb cb : Nat) (xa xb : List ByteArray) (w : World) (ha : Strs w A la xa) (hb0 : Strs w B lb xb) (hna : A = none → ca = 0) (hnb : B = none → cb = 0) (h1 : ¬ 40 < la) (h2 : ¬ 40 < lb) (hg : Laid w)
    (hbk : bulk xa + bulk xb ≤ 2000000) :
    Calls Tryd.prog 8 #[.int .i64 n, .slice A la ca, .slice B lb cb] w fun e w' => e = .returned (.bool true) ∧ Below w.heap.size w w' := by
  have m1 := Tryd.methodErrTag
  have m2 := Tryd.methodErrno
  have HG := Lib.hid hg
  have HA := Lib.hid ha
  have HB := Lib.hid hb0
  have HK := Lib.hid hbk
  have HNA := Lib.hid hna
  have HNB := Lib.hid hnb
  have hd1 : decide ((40 : Int) < (la : Int)) = false := by simp; omega
  have hd2 : decide ((40 : Int) < (lb : Int)) = false := by simp; omega
  clear hg ha hb0 hbk hna hnb
  go_enter Tryd.func8, Tryd.ntmps8
  go_wp2_with fail
  refine (awake_any _ HG.out).mono ?_
  rintro e w1 ⟨rfl, hb⟩
  have HG1 := Lib.hid (HG.out.carry hb)
  have HA1 := Lib.hid (HA.out.carry hb)
  have HB1 := Lib.hid (HB.out.carry hb)
  have HW1 := Lib.hid hb
  clear hb HG HA HB
  have hbw0 : Below w1.heap.size w1 (w1.alloc (.cells #[] 9)) := (Below.refl _ _).alloc (Nat.le_refl _) _
  have HA2 := Lib.hid (HA1.out.carry hbw0)
  have HB2 := Lib.hid (HB1.out.carry hbw0)
  have HW2 := Lib.hid hbw0
  have HO : Hid ((w1.alloc (.cells #[] 9)).ownsRow w1.heap.size 9 1 (.slice (some ⟨w1.heap.size, 0, none⟩) 0 0) 0 (([] : List ByteArray).map Value.string)) :=
    ⟨rfl, .inr ⟨w1.heap.size, 0, #[], rfl, Nat.le_refl _, heap_alloc_new w1 _, Nat.le_refl _, Nat.zero_le _, rfl, rfl⟩⟩
  clear hbw0
  go_wp2_with (first
    | (at_builtin; refine wpList_append_strs _ rfl (.tmp 23) (.tmp 24) rfl w1.heap.size (.slice (some ⟨w1.heap.size, 0, none⟩) 0 0) 0 [] rfl HO.out A la ca xa rfl HA2.out HNA.out (by omega) (by simp) ?_; intro v1 w2 hown1 hgrow1; have HX1 := Lib.hid (HW2.out.grown hgrow1 (by simp) (fun k hk => by simp [Value.ownBlock] at hk; omega)); have HO1 := Lib.hid hown1; clear hown1 hgrow1)
    | (at_builtin; refine wpList_append_strs _ rfl (.tmp 25) (.tmp 26) rfl w1.heap.size v1 (0 + la) ([] ++ xa) rfl HO1.out B lb cb xb rfl (HB1.out.carry HX1.out) HNB.out (by omega) HX1.out.size ?_; intro v2 w3 hown2 hgrow2; have HX2 := Lib.hid (HX1.out.grown hgrow2 HX1.out.size (fun k hk => (HO1.out.lt k hk).1)); have HO2 := Lib.hid hown2; clear hown2 hgrow2))
  obtain ⟨A3, cap3, rfl, hstr3⟩ := own_strs HO2.out
  have HG3 := Lib.hid (HG1.out.carry HX2.out)
  have HA3 := Lib.hid (HA1.out.carry HX2.out)
  have HW3 := Lib.hid (HW1.out.trans (HX2.out.mono HW1.out.size))
  have HS3 := Lib.hid hstr3
  clear HO HO1 HO2 HX1 HX2 HW2 HA2 HB2 HG1 HB1 HW1 hstr3
  obtain ⟨L, hL⟩ : ∃ L, L = ([] ++ xa ++ xb).reverse := ⟨_, rfl⟩
  obtain ⟨M, hM⟩ : ∃ M, M = xa.reverse := ⟨_, rfl⟩
  have hbL : bulk L = bulk xa + bulk xb := by rw [hL, bulk_reverse, List.nil_append]; simp [bulk]
  have hbM : bulk M = bulk xa := by rw [hM, bulk_reverse]
  have HLM : Hid (bulk M ≤ bulk L ∧ bulk L ≤ 2000000) := by have := HK.out; exact (⟨by omega, by omega⟩ : bulk M ≤ bulk L ∧ bulk L ≤ 2000000)
  have HLN : Hid (L.length = la + lb ∧ M.length = la) := by
    have e1 := HS3.out.1
    have e2 := HA3.out.1
    refine (⟨?_, ?_⟩ : L.length = la + lb ∧ M.length = la)
    · rw [hL, List.length_reverse]; omega
    · rw [hM, List.length_reverse]; exact e2
  have HL := Lib.hid hL
  have HM := Lib.hid hM
  clear hbL hbM hL hM
  refine (tagged_any n A3 (0 + la + lb) cap3 _ w3 HS3.out (by omega)).mono ?_
  rintro e w4 ⟨v, rfl, hc, hb⟩
  rw [← HL.out] at hc
  have HC4 := Lib.hid hc
  have HG4 := Lib.hid (HG3.out.carry hb)
  have HA4 := Lib.hid (HA3.out.carry hb)
  have HW4 := Lib.hid (HW3.out.trans (hb.mono HW3.out.size))
  clear hc hb HG3 HA3 HW3 HS3
  go_wp2_with fail
  refine (tagged_any n A la ca xa w4 HA4.out (by omega)).mono ?_
  rintro e w5 ⟨u, rfl, hc, hb⟩
  rw [← HM.out] at hc
  have HD5 := Lib.hid hc
  have HC5 := Lib.hid (HC4.out.carry rfl hb)
  have HG5 := Lib.hid (HG4.out.carry hb)
  have HW5 := Lib.hid (HW4.out.trans (hb.mono HW4.out.size))
  clear hc hb HG4 HA4 HW4 HC4
  obtain ⟨k1, hk1⟩ := HC5.out.links
  have HK1 := Lib.hid hk1
  clear hk1
  go_wp2_with fail
  refine (Tags_any k1 _ _ w5 HK1.out (by have := HLN.out; omega)).mono ?_
  rintro e w6 ⟨A6, cap6, rfl, _, hb⟩
  have HC6 := Lib.hid (HC5.out.carry rfl hb)
  have HD6 := Lib.hid (HD5.out.carry rfl hb)
  have HG6 := Lib.hid (HG5.out.carry hb)
  have HW6 := Lib.hid (HW5.out.trans (hb.mono HW5.out.size))
  clear hb HG5 HW5 HC5 HD5 HK1
  obtain ⟨k2, hk2⟩ := HD6.out.links
  have HK2 := Lib.hid hk2
  clear hk2
  rw [HLN.out.1]
  go_wp2_with fail
  refine (Tags_any k2 _ _ w6 HK2.out (by have := HLN.out; omega)).mono ?_
  rintro e w7 ⟨A7, cap7, rfl, _, hb⟩
  have HC7 := Lib.hid (HC6.out.carry rfl hb)
  have HD7 := Lib.hid (HD6.out.carry rfl hb)
  have HG7 := Lib.hid (HG6.out.carry hb)
  have HW7 := Lib.hid (HW6.out.trans (hb.mono HW6.out.size))
  clear hb HG6 HW6 HC6 HD6 HK2
  rw [HLN.out.2]
  go_wp2_with fail
  refine (Num_chain n _ _ w7 HC7.out HG7.out).mono ?_
  rintro e w8 ⟨rfl, hb⟩
  have HC8 := Lib.hid (HC7.out.carry rfl hb)
  have HD8 := Lib.hid (HD7.out.carry rfl hb)
  have HG8 := Lib.hid (HG7.out.carry hb)
  have HW8 := Lib.hid (HW7.out.trans (hb.mono HW7.out.size))
  clear hb HG7 HW7 HC7 HD7
  go_wp2_with fail
  refine (Num_chain n _ _ w8 HD8.out HG8.out).mono ?_
  rintro e w9 ⟨rfl, hb⟩
  have HC9 := Lib.hid (HC8.out.carry rfl hb)
  have HD9 := Lib.hid (HD8.out.carry rfl hb)
  have HW9 := Lib.hid (HW8.out.trans (hb.mono HW8.out.size))
  clear hb HG8 HW8 HC8 HD8
  have hge : (textB n M).size ≤ (textB n L).size := by rw [textB_size_eq, textB_size_eq]; have := HLM.out; omega
  have hsm : (textB n L).size ≤ 3000000 := by have := textB_size n L; have := HLM.out; omega
  clear HLN HL HM
  have hcv := HC9.out
  have hdv := HD9.out
  clear HC9 HD9
  cases hcv with
  | base =>
    cases hdv with
    | base =>
      go_wp2_with fail
      refine (errno_text n w9).mono ?_
      rintro e w10 ⟨rfl, hb⟩
      have HW10 := Lib.hid (HW9.out.trans (hb.mono HW9.out.size))
      clear hb HW9
      go_wp2_with fail
      refine (errno_text n w10).mono ?_
      rintro e w11 ⟨rfl, hb⟩
      have HW11 := Lib.hid (HW10.out.trans (hb.mono HW10.out.size))
      clear hb HW10
      go_wp2
      go_ret
      exact ⟨rfl, HW11.out⟩
    | tag b s' t x l g0 g1 glt gch =>
      exact absurd hge (by rw [textB_size_eq, textB_size_eq, bulk_cons]; simp [bulk]; omega)
  | tag b s' t x l g0 g1 glt gch =>
    have HT := Lib.hid (Chain.tag b s' t x l g0 g1 glt gch)
    clear g0 g1 glt gch
    cases hdv with
    | base =>
      go_wp2_with fail
      refine (error_text n b _ w9 HT.out (by have := HLM.out; omega)).mono ?_
      rintro e w10 ⟨rfl, hb⟩
      have HW10 := Lib.hid (HW9.out.trans (hb.mono HW9.out.size))
      clear hb HW9
      go_wp2_with fail
      refine (errno_text n w10).mono ?_
      rintro e w11 ⟨rfl, hb⟩
      have HW11 := Lib.hid (HW10.out.trans (hb.mono HW10.out.size))
      clear hb HW10
      go_wp2
      go_ret
      exact ⟨rfl, HW11.out⟩
    | tag b' s'' t' x' l' g0 g1 glt gch =>
      have HU := Lib.hid (Chain.tag b' s'' t' x' l' g0 g1 glt gch)
      clear g0 g1 glt gch
      go_wp2_with fail
      refine (error_text n b _ w9 HT.out (by have := HLM.out; omega)).mono ?_
      rintro e w10 ⟨rfl, hb⟩
      have HU10 := Lib.hid (HU.out.carry rfl hb)
      have HW10 := Lib.hid (HW9.out.trans (hb.mono HW9.out.size))
      clear hb HW9
      go_wp2_with fail
      refine (error_text n b' _ w10 HU10.out (by have := HLM.out; omega)).mono ?_
      rintro e w11 ⟨rfl, hb⟩
      have HW11 := Lib.hid (HW10.out.trans (hb.mono HW10.out.size))
      clear hb HW10
      go_wp2
      go_ret
      exact ⟨rfl, HW11.out⟩

set_option maxHeartbeats 4000000 in
theorem deep_long (n : Int) (A B : Option Addr) (la ca lb cb : Nat) (w : World) (h : 40 < la ∨ 40 < lb) (hg : Laid w) :
    Calls Tryd.prog 8 #[.int .i64 n, .slice A la ca, .slice B lb cb] w fun e w' => e = .returned (.bool true) ∧ Below w.heap.size w w' := by
  have HG := Lib.hid hg
  clear hg
  by_cases h1 : 40 < la
  · clear h
    go_enter Tryd.func8, Tryd.ntmps8
    go_wp2_with fail
    refine (awake_any _ HG.out).mono ?_
    rintro e w1 ⟨rfl, hb⟩
    have HG1 := Lib.hid (HG.out.carry hb)
    have HB := Lib.hid hb
    clear hb
    go_wp2_with fail
    refine (awake_any _ HG1.out).mono ?_
    rintro e w2 ⟨rfl, hb2⟩
    have HB2 := Lib.hid hb2
    clear hb2
    go_wp2
    go_ret
    exact ⟨rfl, HB.out.trans (HB2.out.mono HB.out.size)⟩
  · have h2 : 40 < lb := h.resolve_left h1
    clear h
    go_enter Tryd.func8, Tryd.ntmps8
    go_wp2_with fail
    refine (awake_any _ HG.out).mono ?_
    rintro e w1 ⟨rfl, hb⟩
    have HG1 := Lib.hid (HG.out.carry hb)
    have HB := Lib.hid hb
    clear hb
    go_wp2_with fail
    refine (awake_any _ HG1.out).mono ?_
    rintro e w2 ⟨rfl, hb2⟩
    have HB2 := Lib.hid hb2
    clear hb2
    go_wp2
    go_ret
    exact ⟨rfl, HB.out.trans (HB2.out.mono HB.out.size)⟩
end Go.Proofs.YtbngcempcihgoaaDoor
