/-
  Td: several texts in one file. Conditions: as each part says.
-/
import Derived.Test.YtafclmbecmgbnaaGreatDoorTm
import Derived.Test.YtafclmbecmgbnaaGreatDoorTa
/-
 TrCommMath. Conditions: as each theorem says.
-/
namespace Go.Proofs.YtafclmbecmgbnaaGreatDoor
def Dc (x : Sb) (firm : Nat → List UInt8) (k : Int) : Option Nd := if hasI x.used k = true then readN (firm k.toNat) else none
theorem Dc_Dm {n : Nat} {S : TS} {firm : Nat → List UInt8} (h : OkT n S firm) {k : Int} (hk : hasI S.s.sup.used k = true) : Dm S k = Dc S.s.sup firm k := by
 obtain ⟨j, rfl, hj, hh⟩ := hasI_yes hk
 unfold Dm Dc
 rw [if_pos hk, Int.toNat_natCast, inZ_nat hj, if_pos (by unfold Pst.isIn; rw [hh, Bool.true_or]), h.same j hj hh]
structure ComT (x : Sb) (firm : Nat → List UInt8) (root : Int) (ps : List Pr) (qs : List Int) : Prop where
 rt : Rt (Dc x firm) root ps qs
 nodup : qs.Nodup
 used : ∀ q ∈ qs, hasI x.used q = true
theorem ComT.here {n : Nat} {S : TS} {firm : Nat → List UInt8} {root : Int} {ps : List Pr} {qs : List Int} (hc : ComT S.s.sup firm root ps qs) (h : OkT n S firm) : Rt (Dm S) root ps qs :=
 hc.rt.imp fun q hq => Dc_Dm h (hc.used q hq)
theorem used_plain {n : Nat} {S : TS} {firm : Nat → List UInt8} (h : OkT n S firm) (hg : S.s.gone = noSt) {k : Int} (hk : hasI S.s.sup.used k = true) : usd S k := by
 obtain ⟨j, rfl, hj, hh⟩ := hasI_yes hk
 rw [usd_nat hj, h.has_used hj, hg, has_noSt]
 unfold Pst.isIn
 rw [hh]
 rfl
def TS.commit (S : TS) (r : Int) : TS := ⟨switchD S.d (S.s.next r), S.s.commit r, S.data⟩
def TS.abort (S : TS) : TS := ⟨S.d, S.s.abort, S.data⟩
theorem comT_commit {S : TS} {r : Int} {ps : List Pr} {qs : List Int} (ht : Rt (Dm S) r ps qs) (hu : ∀ q ∈ qs, usd S q) (hn : qs.Nodup) {n : Nat} {firm : Nat → List UInt8} (h : OkT n S firm) : ComT (S.commit r).s.sup S.data r ps qs := by
 refine ⟨ht.imp fun q hq => ?_, hn, hu⟩
 have h1 := hu q hq
 unfold Dc Dm
 rw [if_pos (usd_in h h1), if_pos (show hasI (S.commit r).s.sup.used q = true from h1)]
theorem comT_none (x : Sb) (firm : Nat → List UInt8) : ComT x firm 0 [] [] := ⟨.inl ⟨rfl, rfl, rfl⟩, List.nodup_nil, fun _ h => by cases h⟩
theorem Rt.rootOk {S : TS} {r : Int} {ps : List Pr} {qs : List Int} (ht : Rt (Dm S) r ps qs) (hu : ∀ q ∈ qs, usd S q) : rootOk S.s r = true := by
 unfold Go.Proofs.YtafclmbecmgbnaaGreatDoor.rootOk
 rcases ht with ⟨rfl, _, _⟩ | ⟨hh, ht⟩
 ·simp
 ·obtain ⟨x, qt, _, rfl⟩ := ht.head
  have := hu r List.mem_cons_self
  simp [show hasI S.s.used r = true from this]
end Go.Proofs.YtafclmbecmgbnaaGreatDoor

/-
 TrFullMath. Conditions: as each theorem says.
-/
namespace Go.Proofs.YtafclmbecmgbnaaGreatDoor
open Go.RowKit
theorem first_put {n : Nat} {S : TS} {firm : Nat → List UInt8} (h : OkT n S firm) {k : Nat} (hf : S.s.first n = some k) {key : Int} (hk : 0 ≤ key ∧ key ≤ 4294967295) {val : ByteArray} (hv : val.size = 12) : ∃ S', putTop n S 0 key val = (.ok (k : Int), S') ∧ OkT n S' firm ∧ Tr (Dm S') 0 1 0 4294967296 k [(key, val)] [(k : Int)] ∧ usd S' (k : Int) ∧ getTop S' k key = .ok val := by
 have hn : Nv (Dm S) 0 0 4294967296 ⟨[key], [val], []⟩ (insP [] key val) [] := ⟨rfl, rfl, by simp, fun z hz => by obtain rfl := List.mem_singleton.1 hz; omega, fun v hv2 => by rw [List.mem_singleton.1 hv2]; exact hv, by simp [insP], rfl⟩
 have hpt : putTop n S 0 key val = addM n S ⟨[key], [val], []⟩ := by unfold putTop; rw [if_neg (by omega), if_pos rfl]
 have hr : rightN ⟨[key], [val], []⟩ = true := hn.right (by simp) (by simp) (Int.le_refl _) (Int.le_refl _) (by simp) fun k y hk => Dm_range h hk
 obtain ⟨S', he⟩ : ∃ S', addM n S ⟨[key], [val], []⟩ = (.ok (k : Int), S') := by
  unfold addM
  rw [if_neg (by rw [hr]; decide), hf]
  exact ⟨_, rfl⟩
 obtain ⟨_, ho, _, hu, hd⟩ := addM_ok h he
 have ht : Tr (Dm S') 0 1 0 4294967296 k [(key, val)] [(k : Int)] := by
  have := hn.laid (mn := 1) hd (fun _ h => by cases h) (Nat.le_refl _) (by simp)
  simpa [insP] using this
 have hk0 : ¬ (k : Int) = 0 := by have := (Dm_range ho hd).1; omega
 refine ⟨S', by rw [hpt, he], ho, ht, hu, ?_⟩
 unfold getTop
 rw [if_neg hk0]
 exact get_ok 0 ht (List.mem_singleton.2 rfl) (by decide) (Nat.le_refl _)
end Go.Proofs.YtafclmbecmgbnaaGreatDoor

/-
 TrTwoMath. Conditions: as each theorem says.
-/
namespace Go.Proofs.YtafclmbecmgbnaaGreatDoor
open Go.RowKit Bits
theorem nodup_len {l : List Int} : ∀ {m : List Int}, l.Nodup → (∀ x ∈ l, x ∈ m) → l.length ≤ m.length := by
 induction l with
 | nil => intro m _ _; exact Nat.zero_le _
 | cons a l ih =>
  intro m hn hs
  obtain ⟨h1, h2⟩ := List.nodup_cons.1 hn
  have ha := hs a List.mem_cons_self
  have := ih (m := m.erase a) h2 fun x hx => (List.mem_erase_of_ne (by rintro rfl; exact h1 hx)).2 (hs x (List.mem_cons_of_mem _ hx))
  rw [List.length_erase_of_mem ha] at this
  have := List.length_pos_of_mem ha
  rw [List.length_cons]
  omega
def allP (V : Int → ByteArray) (l : List Int) (ps : List Pr) : Prop := Rise ps ∧ ps.length ≤ l.length ∧ ∀ q, q ∈ ps ↔ ∃ k ∈ l, q = (k, V k)
theorem allP.nil (V : Int → ByteArray) : allP V [] [] := ⟨List.Pairwise.nil, Nat.zero_le _, fun q => ⟨fun h => (by cases h), fun ⟨_, h, _⟩ => by cases h⟩⟩
end Go.Proofs.YtafclmbecmgbnaaGreatDoor
