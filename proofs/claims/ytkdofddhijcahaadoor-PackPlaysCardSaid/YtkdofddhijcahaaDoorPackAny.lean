/-
  The contracts of pack.Put, pack.Get, pack.Size, pack.Fields and pack.Parse at whatever arguments, one each: what is answered is told by functions of plain data. Conditions: none beyond the premises of each theorem.
-/
import Derived.Test.YtkdofddhijcahaaDoorPackParse
namespace Go.Proofs.YtkdofddhijcahaaDoor
open Go.RowKit

/-- an error that has this number; nil has 0 -/
def ErrIs (w : World) (c : Int) (v : Value) : Prop := (c = 0 ∧ v = .nilIface) ∨ ∃ l, Chain w c v l
theorem ErrIs.nil (w : World) : ErrIs w 0 .nilIface := .inl ⟨rfl, rfl⟩
theorem ErrIs.carry {w w' : World} {c : Int} {v : Value} (h : ErrIs w c v) (hb : Below w.heap.size w w') : ErrIs w' c v := by
  rcases h with h | ⟨l, h⟩
  · exact .inl h
  · exact .inr ⟨l, h.carry rfl hb⟩
theorem Num_any (c : Int) (v : Value) (w : World) (h : ErrIs w c v) (hg : Laid w) : Calls Tryd.prog 10 #[v] w fun e w' => e = .returned (.int .i64 c) ∧ Below w.heap.size w w' := by
  rcases h with ⟨rfl, rfl⟩ | ⟨l, h⟩
  · exact (Num_nil w).mono fun _ _ h => ⟨h.1, by rw [← h.2]; exact Below.refl _ _⟩
  · exact Num_chain c v l w h hg

/-- does a number fit a width? -/
def fitZ (w n : Int) : Bool := decide (1 ≤ w) && (decide (w ≤ 4) && fitB w.toNat n)
theorem fitZ_nat {k : Nat} {n : Int} (h1 : 1 ≤ k) (h4 : k ≤ 4) : fitZ k n = fitB k n := by
  have e1 : decide ((1 : Int) ≤ (k : Int)) = true := by simp; omega
  have e2 : decide ((k : Int) ≤ 4) = true := by simp; omega
  rw [fitZ, e1, e2]
  rfl
theorem fitZ_width {w n : Int} (h : w < 1 ∨ 4 < w) : fitZ w n = false := by
  simp [fitZ]
  intro h1 h2
  omega
theorem fitZ_true {w n : Int} (h : fitZ w n = true) : ∃ k m : Nat, w = k ∧ n = m ∧ 1 ≤ k ∧ k ≤ 4 ∧ m < 256 ^ k := by
  simp only [fitZ, Bool.and_eq_true, decide_eq_true_eq, fitB_true] at h
  obtain ⟨h1, h2, h3, h4⟩ := h
  have e := cast_pow w.toNat
  exact ⟨w.toNat, n.toNat, by omega, by omega, by omega, by omega, by omega⟩
/-- a number's bytes; none, if it doesn't fit -/
def putZ (w n : Int) : ByteArray := if fitZ w n = true then ⟨(be w.toNat n.toNat).toArray⟩ else ⟨#[]⟩
theorem putZ_nat {k n : Nat} (h : fitZ k n = true) : putZ k n = ⟨(be k n).toArray⟩ := by
  unfold putZ
  rw [if_pos h]
  rfl
theorem putZ_no {w n : Int} (h : fitZ w n = false) : putZ w n = ⟨#[]⟩ := by
  unfold putZ
  rw [if_neg (by rw [h]; decide)]
theorem Put_any (m n : Int) (w : World) : Calls Tryd.prog 15 #[.int .i64 m, .int .i64 n] w fun e w' => e = .returned (.string (putZ m n)) ∧ Below w.heap.size w w' := by
  by_cases hm : m < 1 ∨ 4 < m
  · rw [putZ_no (fitZ_width hm)]
    exact (Put_width m n w hm).mono fun _ _ h => ⟨h.1, by rw [← h.2]; exact Below.refl _ _⟩
  · obtain ⟨k, rfl⟩ : ∃ k : Nat, m = k := ⟨m.toNat, by omega⟩
    cases hf : fitZ k n with
    | true =>
      obtain ⟨k', n', e1, rfl, h1, h4, hn⟩ := fitZ_true hf
      obtain rfl : k = k' := by omega
      rw [putZ_nat hf]
      exact Put_yes k n' w h1 h4 hn
    | false =>
      rw [putZ_no hf]
      exact (Put_unfit k n w (by omega) (by omega) (by rw [← fitZ_nat (by omega) (by omega)]; exact hf)).mono fun _ _ h => ⟨h.1, by rw [← h.2]; exact Below.refl _ _⟩

/-- which error Get answers, and the number -/
def getC (s : ByteArray) (w : Int) : Int := if 1 ≤ w ∧ w ≤ 4 then (if (s.size : Int) < w then 2 else 0) else 1
def getX (s : ByteArray) (w : Int) : Int := if getC s w = 0 then (num (s.data.toList.take w.toNat) : Int) else 0
def GetPost (s : ByteArray) (m : Int) (w : World) (e : Ending) (w' : World) : Prop := ∃ v, e = .returned (.tuple #[.int .i64 (getX s m), v]) ∧ ErrIs w' (getC s m) v ∧ Below w.heap.size w w'
theorem Get_any (s : ByteArray) (m : Int) (w : World) : Calls Tryd.prog 14 #[.string s, .int .i64 m] w (GetPost s m w) := by
  by_cases hm : 1 ≤ m ∧ m ≤ 4
  · obtain ⟨k, rfl⟩ : ∃ k : Nat, m = k := ⟨m.toNat, by omega⟩
    by_cases hs : s.size < k
    · have e1 : getC s k = 2 := by unfold getC; rw [if_pos hm, if_pos (by omega)]
      have e2 : getX s k = 0 := by unfold getX; rw [e1]; rfl
      refine (Get_short s k w (by omega) (by omega) hs).mono ?_
      rintro e w' ⟨v, l, rfl, hc, hb⟩
      exact ⟨v, by rw [e2], .inr ⟨l, by rw [e1]; exact hc⟩, hb⟩
    · have e1 : getC s k = 0 := by unfold getC; rw [if_pos hm, if_neg (by omega)]
      have e2 : getX s k = (num (s.data.toList.take k) : Int) := by unfold getX; rw [e1]; rfl
      refine (Get_yes s k w (by omega) (by omega) (by omega)).mono ?_
      rintro e w' ⟨rfl, rfl⟩
      exact ⟨.nilIface, by rw [e2], by rw [e1]; exact ErrIs.nil w, Below.refl _ _⟩
  · have e1 : getC s m = 1 := by unfold getC; rw [if_neg hm]
    have e2 : getX s m = 0 := by unfold getX; rw [e1]; rfl
    refine (Get_width s m w (by omega)).mono ?_
    rintro e w' ⟨v, l, rfl, hc, hb⟩
    exact ⟨v, by rw [e2], .inr ⟨l, by rw [e1]; exact hc⟩, hb⟩

/-- widths that may be -/
def okW (zs : List Int) : Bool := decide (zs.length ≤ 40) && zs.all (fun z => decide (1 ≤ z) && decide (z ≤ 4))
theorem okW_true {zs : List Int} (h : okW zs = true) : ∃ ws, zs = ints ws ∧ Widths ws := by
  simp only [okW, Bool.and_eq_true, decide_eq_true_eq, List.all_eq_true] at h
  rcases widths_or zs with ⟨ws, rfl, hw⟩ | ⟨q, hq, _, z, hz, hzz⟩
  · exact ⟨ws, rfl, by rw [← ints_length]; exact h.1, hw⟩
  · have := h.2 z (List.mem_of_getElem? hz)
    omega
theorem okW_ints {ws : List Nat} (h : Widths ws) : okW (ints ws) = true := by
  simp only [okW, Bool.and_eq_true, decide_eq_true_eq, List.all_eq_true]
  refine ⟨by rw [ints_length]; exact h.1, fun z hz => ?_⟩
  obtain ⟨n, hn, rfl⟩ := List.mem_map.1 hz
  have := h.2 n hn
  omega
theorem okW_false {w : World} {A : Option Addr} {zs : List Int} (h : okW zs = false) (hn : Nums w .i64 A zs) : BadWidths w A zs := by
  by_cases hl : zs.length ≤ 40
  · rcases widths_or zs with ⟨ws, rfl, hw⟩ | hq
    · rw [okW_ints ⟨by rw [← ints_length]; exact hl, hw⟩] at h
      cases h
    · exact .inr ⟨hl, hn, hq⟩
  · exact .inl (by omega)
def sizeZ (zs : List Int) : Int := if okW zs = true then zs.sum else -1
theorem sum_ints (ws : List Nat) : (ints ws).sum = (ws.sum : Int) := by
  induction ws with
  | nil => rfl
  | cons a r ih =>
    show (a : Int) + (ints r).sum = _
    rw [ih, List.sum_cons]
    omega
theorem sizeZ_ints {ws : List Nat} (h : Widths ws) : sizeZ (ints ws) = (ws.sum : Int) := by
  unfold sizeZ
  rw [if_pos (okW_ints h), sum_ints]
theorem sizeZ_bad {zs : List Int} (h : okW zs = false) : sizeZ zs = -1 := by
  unfold sizeZ
  rw [if_neg (by rw [h]; decide)]
theorem Size_any (zs : List Int) (A : Option Addr) (cap : Nat) (w : World) (hn : Nums w .i64 A zs) : Calls Tryd.prog 11 #[.slice A zs.length cap] w fun e w' => e = .returned (.int .i64 (sizeZ zs)) ∧ w = w' := by
  cases h : okW zs with
  | true =>
    obtain ⟨ws, rfl, hw⟩ := okW_true h
    rw [sizeZ_ints hw, ints_length]
    exact Size_yes ws A cap w hw hn
  | false =>
    rw [sizeZ_bad h]
    exact Size_bad zs A cap w (okW_false h hn)

/-- the numbers fit their widths, or one doesn't -/
theorem fit_or : ∀ (ws : List Nat) (ms : List Int), ms.length = ws.length → (∃ ns, ms = ints ns ∧ FitAll ws ns) ∨ ∃ ns z r, ms = ints ns ++ z :: r ∧ FitAll ws ns ∧ ∀ h : ns.length < ws.length, fitB ws[ns.length] z = false
  | [], [], _ => .inl ⟨[], rfl, fun i h => by simp at h⟩
  | [], _ :: _, h => by simp at h
  | _ :: _, [], h => by simp at h
  | k :: ws, z :: ms, h => by
    cases hz : fitB k z with
    | false => exact .inr ⟨[], z, ms, rfl, fun i _ h2 => by simp at h2, fun _ => hz⟩
    | true =>
      rw [fitB_true] at hz
      obtain ⟨n, rfl⟩ : ∃ n : Nat, z = n := ⟨z.toNat, by omega⟩
      have hn : n < 256 ^ k := by have := cast_pow k; omega
      rcases fit_or ws ms (by simpa using h) with ⟨ns, rfl, hf⟩ | ⟨ns, y, r, rfl, hf, hy⟩
      · refine .inl ⟨n :: ns, rfl, fun i h1 h2 => ?_⟩
        cases i with
        | zero => exact hn
        | succ i => exact hf i (Nat.lt_of_succ_lt_succ h1) (Nat.lt_of_succ_lt_succ h2)
      · refine .inr ⟨n :: ns, y, r, rfl, fun i h1 h2 => ?_, fun h1 => hy (Nat.lt_of_succ_lt_succ h1)⟩
        cases i with
        | zero => exact hn
        | succ i => exact hf i (Nat.lt_of_succ_lt_succ h1) (Nat.lt_of_succ_lt_succ h2)
def fitA (zs ms : List Int) : Bool := (zs.zip ms).all fun x => fitZ x.1 x.2
def laidZ (zs ms : List Int) : List UInt8 := lays ((zs.zip ms).map fun x => (x.1.toNat, x.2.toNat))
def codeZ (zs ms : List Int) : Int := if okW zs = true ∧ ms.length = zs.length then (if fitA zs ms = true then 0 else 8) else 1
def textZ (zs ms : List Int) : ByteArray := if codeZ zs ms = 0 then ⟨(laidZ zs ms).toArray⟩ else ⟨#[]⟩
theorem fitA_ints {ws ns : List Nat} (hw : Widths ws) (hf : FitAll ws ns) : fitA (ints ws) (ints ns) = true := by
  rw [fitA, List.all_eq_true]
  intro x hx
  obtain ⟨i, hi⟩ := List.getElem?_of_mem hx
  obtain ⟨h1, h2⟩ := List.getElem?_eq_some_iff.1 hi
  have h3 : i < ws.length ∧ i < ns.length := by simp [ints] at h1; omega
  have e : x = ((ws[i] : Int), (ns[i] : Int)) := by rw [← h2]; simp [ints]
  subst e
  show fitZ (ws[i] : Int) (ns[i] : Int) = true
  rw [fitZ_nat (hw.at_ h3.1).1 (hw.at_ h3.1).2]
  exact fitB_nat (hf i h3.1 h3.2)
theorem fitA_not {ws ns : List Nat} {z : Int} {r : List Int} (hw : Widths ws) (hq : ns.length < ws.length) (hz : fitB ws[ns.length] z = false) : fitA (ints ws) (ints ns ++ z :: r) = false := by
  rw [← Bool.not_eq_true]
  intro h
  rw [fitA, List.all_eq_true] at h
  have h9 := h ((ws[ns.length] : Int), z) (List.mem_of_getElem? (i := ns.length) (by
    rw [List.getElem?_zip_eq_some]
    exact ⟨ints_at hq, by rw [List.getElem?_append_right (by rw [ints_length]; exact Nat.le_refl _), ints_length, Nat.sub_self]; rfl⟩))
  have h8 : fitZ (ws[ns.length] : Int) z = true := h9
  rw [fitZ_nat (hw.at_ hq).1 (hw.at_ hq).2, hz] at h8
  cases h8
theorem laidZ_ints (ws ns : List Nat) : laidZ (ints ws) (ints ns) = lays (ws.zip ns) := by
  unfold laidZ
  congr 1
  simp only [ints, List.zip_map, List.map_map]
  exact (List.map_congr_left (g := id) (fun x _ => rfl)).trans (List.map_id _)
def FieldsAny (zs ms : List Int) (w : World) (e : Ending) (w' : World) : Prop := ∃ v, e = .returned (.tuple #[.string (textZ zs ms), v]) ∧ ErrIs w' (codeZ zs ms) v ∧ Below w.heap.size w w'
theorem fields_fault {zs ms : List Int} {c : Int} {w : World} (hc : codeZ zs ms = c) (h0 : c ≠ 0) (e : Ending) (w' : World) (h : GetFault (.string ⟨#[]⟩) c w e w') : FieldsAny zs ms w e w' := by
  obtain ⟨v, l, rfl, hch, hb⟩ := h
  have e1 : textZ zs ms = ⟨#[]⟩ := by unfold textZ; rw [if_neg (by rw [hc]; exact h0)]
  exact ⟨v, by rw [e1], .inr ⟨l, by rw [hc]; exact hch⟩, hb⟩
theorem Fields_any (zs ms : List Int) (A A2 : Option Addr) (cap cap2 : Nat) (w : World) (hn : Nums w .i64 A zs) (hm : Nums w .i64 A2 ms) :
    Calls Tryd.prog 8 #[.slice A zs.length cap, .slice A2 ms.length cap2] w (FieldsAny zs ms w) := by
  cases h : okW zs with
  | false =>
    have e1 : codeZ zs ms = 1 := by unfold codeZ; rw [if_neg (by rw [h]; simp)]
    exact (Fields_bad zs ms A A2 cap cap2 w (okW_false h hn)).mono (fields_fault e1 (by decide))
  | true =>
    obtain ⟨ws, rfl, hw⟩ := okW_true h
    by_cases hl : ms.length = ws.length
    · rcases fit_or ws ms hl with ⟨ns, rfl, hf⟩ | ⟨ns, z, r, rfl, hf, hz⟩
      · have e1 : codeZ (ints ws) (ints ns) = 0 := by unfold codeZ; rw [if_pos ⟨h, by rw [hl, ints_length]⟩, if_pos (fitA_ints hw hf)]
        have e2 : textZ (ints ws) (ints ns) = ⟨(lays (ws.zip ns)).toArray⟩ := by unfold textZ; rw [if_pos e1, laidZ_ints]
        rw [ints_length] at hl
        rw [ints_length, ints_length]
        refine (Fields_yes ws ns A A2 cap cap2 w hw hn hm hl hf).mono ?_
        rintro e w' ⟨rfl, hb⟩
        exact ⟨.nilIface, by rw [e2], by rw [e1]; exact ErrIs.nil w', hb⟩
      · have hq : ns.length < ws.length := by rw [← hl, List.length_append, ints_length, List.length_cons]; omega
        have e1 : codeZ (ints ws) (ints ns ++ z :: r) = 8 := by unfold codeZ; rw [if_pos ⟨h, by rw [hl, ints_length]⟩, if_neg (by rw [fitA_not hw hq (hz hq)]; decide)]
        have h9 := Fields_unfit ws ns z r A A2 cap cap2 w hw hn hm hl hf hz
        rw [← ints_length ws] at h9
        exact h9.mono (fields_fault e1 (by decide))
    · have e1 : codeZ (ints ws) ms = 1 := by unfold codeZ; rw [if_neg (by rw [ints_length]; exact fun h => hl h.2)]
      have h9 := Fields_count ws ms A A2 cap cap2 w hw hn hl
      rw [← ints_length ws] at h9
      exact h9.mono (fields_fault e1 (by decide))

def badZ (zs : List Int) (s : ByteArray) : Int := if okW zs = true then (if sizeZ zs = (s.size : Int) then 0 else 2) else 1
def ParseAny (zs : List Int) (s : ByteArray) (w : World) (e : Ending) (w' : World) : Prop :=
  ∃ v A n c, e = .returned (.tuple #[.slice A n c, v]) ∧ n = (if badZ zs s = 0 then zs.length else 0) ∧ ErrIs w' (badZ zs s) v ∧ Below w.heap.size w w'
theorem parse_fault {zs : List Int} {s : ByteArray} {c : Int} {w : World} (hc : badZ zs s = c) (h0 : c ≠ 0) (e : Ending) (w' : World) (h : GetFault (.slice none 0 0) c w e w') : ParseAny zs s w e w' := by
  obtain ⟨v, l, rfl, hch, hb⟩ := h
  exact ⟨v, none, 0, 0, rfl, by rw [if_neg (by rw [hc]; exact h0)], .inr ⟨l, by rw [hc]; exact hch⟩, hb⟩
theorem Parse_any (zs : List Int) (s : ByteArray) (A : Option Addr) (cap : Nat) (w : World) (hn : Nums w .i64 A zs) : Calls Tryd.prog 9 #[.slice A zs.length cap, .string s] w (ParseAny zs s w) := by
  cases h : okW zs with
  | false =>
    have e1 : badZ zs s = 1 := by unfold badZ; rw [if_neg (by rw [h]; decide)]
    exact (Parse_bad zs s A cap w (okW_false h hn)).mono (parse_fault e1 (by decide))
  | true =>
    obtain ⟨ws, rfl, hw⟩ := okW_true h
    by_cases hs : s.size = ws.sum
    · have e1 : badZ (ints ws) s = 0 := by unfold badZ; rw [if_pos h, sizeZ_ints hw, if_pos (by omega)]
      have h9 := Parse_yes ws s A cap w hw hn hs
      rw [← ints_length ws] at h9
      refine h9.mono ?_
      rintro e w' ⟨A', c', rfl, _, hb⟩
      exact ⟨.nilIface, A', _, c', rfl, by rw [if_pos e1, splits_length, ints_length], by rw [e1]; exact ErrIs.nil w', hb⟩
    · have e1 : badZ (ints ws) s = 2 := by unfold badZ; rw [if_pos h, sizeZ_ints hw, if_neg (by omega)]
      have h9 := Parse_form ws s A cap w hw hn hs
      rw [← ints_length ws] at h9
      exact h9.mono (parse_fault e1 (by decide))
end Go.Proofs.YtkdofddhijcahaaDoor
