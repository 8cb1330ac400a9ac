/-
  Td: several texts in one file. Conditions: as each part says.
-/
import Derived.Test.YticbgbngookmnaaGreatDoorTm
import Derived.Test.YticbgbngookmnaaGreatDoorTa
/-
 TrCommMath. Conditions: as each theorem says.
-/
namespace Go.Proofs.YticbgbngookmnaaGreatDoor
def Dc (x : Sb) (firm : Nat → List UInt8) (k : Int) : Option Nd := if hasI x.used k = true then readN (firm k.toNat) else none
theorem Dc_Dm {n : Nat} {S : TS} {firm : Nat → List UInt8} (h : OkT n S firm) {k : Int} (hk : hasI S.s.sup.used k = true) : Dm S k = Dc S.s.sup firm k := by
 obtain ⟨j, rfl, hj, hh⟩ := hasI_yes hk
 unfold Dm Dc
 rw [if_pos hk, Int.toNat_natCast, inZ_nat hj, if_pos (by unfold Pst.isIn; rw [hh, Bool.true_or]), h.same j hj hh]
structure ComT (x : Sb) (firm : Nat → List UInt8) (root : Int) (ps : List Pr) (qs : List Int) : Prop where
 rt : Rt (Dc x firm) root ps qs
 nodup : qs.Nodup
 used : ∀ q ∈ qs, hasI x.used q = true
theorem ComT.here {n : Nat} {S : TS} {firm : Nat → List UInt8} {root : Int} {ps : List Pr} {qs : List Int} (hc : ComT S.s.sup firm root ps qs) (h : OkT n S firm) : Rt (Dm S) root ps qs :=
 hc.rt.imp fun q hq => Dc_Dm h (hc.used q hq)
def TS.commit (S : TS) (r : Int) : TS := ⟨switchD S.d (S.s.next r), S.s.commit r, S.data⟩
def TS.abort (S : TS) : TS := ⟨S.d, S.s.abort, S.data⟩
theorem comT_commit {S : TS} {r : Int} {ps : List Pr} {qs : List Int} (ht : Rt (Dm S) r ps qs) (hu : ∀ q ∈ qs, usd S q) (hn : qs.Nodup) {n : Nat} {firm : Nat → List UInt8} (h : OkT n S firm) : ComT (S.commit r).s.sup S.data r ps qs := by
 refine ⟨ht.imp fun q hq => ?_, hn, hu⟩
 have h1 := hu q hq
 unfold Dc Dm
 rw [if_pos (usd_in h h1), if_pos (show hasI (S.commit r).s.sup.used q = true from h1)]
theorem Rt.rootOk {S : TS} {r : Int} {ps : List Pr} {qs : List Int} (ht : Rt (Dm S) r ps qs) (hu : ∀ q ∈ qs, usd S q) : rootOk S.s r = true := by
 unfold Go.Proofs.YticbgbngookmnaaGreatDoor.rootOk
 rcases ht with ⟨rfl, _, _⟩ | ⟨hh, ht⟩
 ·simp
 ·obtain ⟨x, qt, _, rfl⟩ := ht.head
  have := hu r List.mem_cons_self
  simp [show hasI S.s.used r = true from this]
end Go.Proofs.YticbgbngookmnaaGreatDoor

/-
 TrFullMath. Conditions: as each theorem says.
-/
namespace Go.Proofs.YticbgbngookmnaaGreatDoor
open Go.RowKit
structure FuM (n : Nat) (S : TS) (firm : Nat → List UInt8) (ps : List Pr) (qs : List Int) (k : Nat) : Prop where
 new : S.s.new = noSt
 gone : S.s.gone = noSt
 com : ComT S.s.sup firm S.s.sup.root ps qs
 rise : Rise ps
 low : ∀ p ∈ ps, 0 ≤ p.1 ∧ p.1 < 256
 few : ps.length ≤ k
 gen : S.s.sup.gen ≤ k + 1
 soft : S.d.soft.length ≤ 30 * k + 30
theorem FuM.rt {n : Nat} {S : TS} {firm : Nat → List UInt8} {ps : List Pr} {qs : List Int} {k : Nat} (hm : FuM n S firm ps qs k) (h : OkT n S firm) : Rt (Dm S) S.s.sup.root ps qs := hm.com.here h
theorem insP_low {ps : List Pr} (h : ∀ p ∈ ps, 0 ≤ p.1 ∧ p.1 < 256) {key : Int} (hk : 0 ≤ key ∧ key < 256) (val : ByteArray) : ∀ p ∈ insP ps key val, 0 ≤ p.1 ∧ p.1 < 256 := fun p hp => by
 rcases (insP_mem_iff p).1 hp with rfl | ⟨h1, _⟩
 ·exact hk
 ·exact h p h1
theorem first_put {n : Nat} {S : TS} {firm : Nat → List UInt8} (h : OkT n S firm) {k : Nat} (hf : S.s.first n = some k) {key : Int} (hk : 0 ≤ key ∧ key ≤ 4294967295) {val : ByteArray} (hv : val.size = 12) : ∃ S', putTop n S 0 key val = (.ok (k : Int), S') ∧ OkT n S' firm ∧ Tr (Dm S') 0 1 0 4294967296 k [(key, val)] [(k : Int)] ∧ usd S' (k : Int) ∧ getTop S' k key = .ok val := by
 have hn : Nv (Dm S) 0 0 4294967296 ⟨[key], [val], []⟩ (insP [] key val) [] := ⟨rfl, rfl, by simp, fun z hz => by obtain rfl := List.mem_singleton.1 hz; omega, fun v hv2 => by rw [List.mem_singleton.1 hv2]; exact hv, by simp [insP], rfl⟩
 have hpt : putTop n S 0 key val = addM n S ⟨[key], [val], []⟩ := by unfold putTop; rw [if_neg (by omega), if_pos rfl]
 have hr : rightN ⟨[key], [val], []⟩ = true := hn.right (by simp) (Int.le_refl _) (Int.le_refl _) (by simp) fun k y hk => Dm_range h hk
 obtain ⟨S', he⟩ : ∃ S', addM n S ⟨[key], [val], []⟩ = (.ok (k : Int), S') := by
  unfold addM
  rw [if_neg (by rw [hr]; decide), hf]
  exact ⟨_, rfl⟩
 obtain ⟨_, ho, _, hu, hd⟩ := addM_ok h he
 have ht : Tr (Dm S') 0 1 0 4294967296 k [(key, val)] [(k : Int)] := by
  have := hn.laid (mn := 1) hd (fun _ h => by cases h) fun _ => Nat.le_refl _
  simpa [insP] using this
 have hk0 : ¬ (k : Int) = 0 := by have := (Dm_range ho hd).1; omega
 refine ⟨S', by rw [hpt, he], ho, ht, hu, ?_⟩
 unfold getTop
 rw [if_neg hk0]
 exact get_ok 0 ht (List.mem_singleton.2 rfl) (by decide) (Nat.le_refl _)
end Go.Proofs.YticbgbngookmnaaGreatDoor

/-
 TrTwoMath. Conditions: as each theorem says.
-/
namespace Go.Proofs.YticbgbngookmnaaGreatDoor
open Go.RowKit Bits
theorem nodup_len {l : List Int} : ∀ {m : List Int}, l.Nodup → (∀ x ∈ l, x ∈ m) → l.length ≤ m.length := by
 induction l with
 | nil => intro m _ _; exact Nat.zero_le _
 | cons a l ih =>
  intro m hn hs
  obtain ⟨h1, h2⟩ := List.nodup_cons.1 hn
  have ha := hs a List.mem_cons_self
  have := ih (m := m.erase a) h2 fun x hx => (List.mem_erase_of_ne (by rintro rfl; exact h1 hx)).2 (hs x (List.mem_cons_of_mem _ hx))
  rw [List.length_erase_of_mem ha] at this
  have := List.length_pos_of_mem ha
  rw [List.length_cons]
  omega
structure TwT (n : Nat) (firm : Nat → List UInt8) (S : TS) (a b : Int) (pa pb : List Pr) (qa qb : List Int) : Prop where
 ok : OkT n S firm
 ra : Rt (Dm S) a pa qa
 rb : Rt (Dm S) b pb qb
 na : qa.Nodup
 nb : qb.Nodup
 ua : ∀ q ∈ qa, usd S q
 ub : ∀ q ∈ qb, usd S q
 dis : ∀ q ∈ qa, q ∉ qb
 only : ∀ j, usd S j → j ∈ qa ∨ j ∈ qb
 plain : ∀ k, k < 240 → has S.s.sup.used k = false
theorem TwT.in_used {n : Nat} {firm : Nat → List UInt8} {S : TS} {a b : Int} {pa pb : List Pr} {qa qb : List Int} (h : TwT n firm S a b pa pb qa qb) {i : Int} (hi : inZ S.s i = true) : usd S i := by
 obtain ⟨k, rfl, hk, hin⟩ := inZ_out hi
 rw [usd_nat hk, h.ok.has_used hk, hin]
 cases hg : has S.s.gone k with
 | false => rfl
 | true => have := h.ok.goes k hk hg; rw [h.plain k hk] at this; cases this
theorem TwT.put {firm : Nat → List UInt8} {S : TS} {a b : Int} {pa pb : List Pr} {qa qb : List Int} (h : TwT 240 firm S a b pa pb qa qb) (hpa : pa.length ≤ 90) (hpb : pb.length ≤ 90) {key : Int} (hk : 0 ≤ key ∧ key < 256) {val : ByteArray} (hv : val.size = 12) :
  ∃ r S' qs', putTop 240 S a key val = (.ok r, S') ∧ TwT 240 firm S' r b (insP pa key val) pb qs' qb ∧ S'.d.soft.length ≤ S.d.soft.length + 27 := by
 have hst := putTop_stay h.ok a key val
 rcases putTop_ok (key := key) h.ok hv ⟨by omega, by omega⟩ h.ra h.ua h.na (by omega) with ⟨S', he, E, hE1, hE2⟩ | ⟨r, S', qs', he, hp⟩
 ·exfalso
  have hl := nodup_len (l := (List.range 238).map fun k => ((k + 2 : Nat) : Int)) (m := qa ++ qb ++ E) (by
   refine List.Pairwise.map _ (fun x y hxy => ?_) (List.nodup_range (n := 238))
   intro e
   exact hxy (by have e' : ((x + 2 : Nat) : Int) = ((y + 2 : Nat) : Int) := e; omega)) (fun x hx => by
   obtain ⟨k, hk2, rfl⟩ := List.mem_map.1 hx
   have hk3 := List.mem_range.1 hk2
   rcases hE2 (k + 2) (by omega) (by omega) with h1 | h1
   ·rcases h.only _ (h.in_used h1) with h2 | h2
    ·exact List.mem_append_left _ (List.mem_append_left _ h2)
    ·exact List.mem_append_left _ (List.mem_append_right _ h2)
   ·exact List.mem_append_right _ h1)
  rw [List.length_map, List.length_range, List.length_append, List.length_append] at hl
  have := h.ra.count
  have := h.rb.count
  omega
 ·rw [he] at hst
  have hs1 : S'.s.sup = S.s.sup := hst.sup
  refine ⟨r, S', qs', he, ⟨hp.ok, hp.rt, h.rb.imp fun q hq => (hp.page q (h.ub q hq) fun h2 => h.dis q h2 hq).2, hp.nodup, h.nb, hp.used, fun q hq => (hp.page q (h.ub q hq) fun h2 => h.dis q h2 hq).1, fun q hq h2 => ?_, fun j hj => ?_, fun k hk => by rw [hs1]; exact h.plain k hk⟩, hst.soft⟩
  ·rcases hp.new q hq with h3 | h3
   ·exact h.dis q h3 h2
   ·rw [usd_in h.ok (h.ub q h2)] at h3
    cases h3
  ·rcases hp.only j hj with ⟨h1, h2⟩ | h1
   ·exact .inr ((h.only j h1).resolve_left h2)
   ·exact .inl h1
theorem TwT.start {n : Nat} (h3 : 3 ≤ n) (hn : n ≤ 240) : TwT n (fun _ => []) ⟨switchD (Dk.new n) (Sb.bare 1), Pst.opened (Sb.bare 1), fun _ => []⟩ 0 0 [] [] [] [] := by
 have hok := PInv.start h3 hn (fun _ => ([] : List UInt8))
 have hu : ∀ k, has (Pst.opened (Sb.bare 1)).sup.used k = false := fun k => has_none k
 refine ⟨hok, .inl ⟨rfl, rfl, rfl⟩, .inl ⟨rfl, rfl, rfl⟩, List.nodup_nil, List.nodup_nil, (fun _ h => by cases h), (fun _ h => by cases h), (fun _ h => by cases h), fun j hj => ?_, fun k _ => hu k⟩
 exfalso
 obtain ⟨k, rfl, hk, hh⟩ := usd_out hj
 have hh2 := hok.has_used hk
 have hh3 : has (Pst.opened (Sb.bare 1)).used k = true := hh
 rw [hh3] at hh2
 unfold Pst.isIn at hh2
 rw [hu, show (Pst.opened (Sb.bare 1)).new = noSt from rfl, has_noSt] at hh2
 simp at hh2
def allP (V : Int → ByteArray) (l : List Int) (ps : List Pr) : Prop := Rise ps ∧ ps.length ≤ l.length ∧ ∀ q, q ∈ ps ↔ ∃ k ∈ l, q = (k, V k)
theorem allP.put {V : Int → ByteArray} {l : List Int} {ps : List Pr} (h : allP V l ps) (k : Int) : allP V (l ++ [k]) (insP ps k (V k)) := by
 obtain ⟨h1, h2, h3⟩ := h
 refine ⟨insP_rise h1 _ _, by have := (insP_length (ps := ps) (key := k) (val := V k)).1; rw [List.length_append, List.length_singleton]; omega, fun q => ?_⟩
 rw [insP_mem_iff, h3]
 constructor
 ·rintro (h | ⟨⟨j, hj, rfl⟩, _⟩)
  ·exact ⟨k, List.mem_append_right _ (List.mem_singleton.2 rfl), h⟩
  ·exact ⟨j, List.mem_append_left _ hj, rfl⟩
 ·rintro ⟨j, hj, rfl⟩
  rcases List.mem_append.1 hj with hj | hj
  ·by_cases e : j = k
   ·exact .inl (by rw [e])
   ·exact .inr ⟨⟨j, hj, rfl⟩, e⟩
  ·exact .inl (by rw [List.mem_singleton.1 hj])
theorem allP.nil (V : Int → ByteArray) : allP V [] [] := ⟨List.Pairwise.nil, Nat.zero_le _, fun q => ⟨fun h => (by cases h), fun ⟨_, h, _⟩ => by cases h⟩⟩
theorem allP.same {V : Int → ByteArray} {l m : List Int} {ps qs : List Pr} (h : allP V l ps) (g : allP V m qs) (hlm : ∀ k, k ∈ l ↔ k ∈ m) : ps = qs :=
 rise_ext h.1 g.1 fun q => by
  rw [h.2.2, g.2.2]
  exact ⟨fun ⟨k, h1, h2⟩ => ⟨k, (hlm k).1 h1, h2⟩, fun ⟨k, h1, h2⟩ => ⟨k, (hlm k).2 h1, h2⟩⟩
theorem allP.low {V : Int → ByteArray} {l : List Int} {ps : List Pr} (h : allP V l ps) (hl : ∀ k ∈ l, 0 ≤ k ∧ k < 256) : ∀ p ∈ ps, 0 ≤ p.1 ∧ p.1 < 256 := fun p hp => by
 obtain ⟨k, hk, rfl⟩ := (h.2.2 p).1 hp
 exact hl k hk
end Go.Proofs.YticbgbngookmnaaGreatDoor
