/-
 BtMath. Conditions: as each theorem says.
-/
import Derived.Test.YtafclmbecmgbnaaGreatDoorTrDelMath
import Derived.Test.YtafclmbecmgbnaaGreatDoorTd
namespace Go.Proofs.YtafclmbecmgbnaaGreatDoor
open Go.RowKit Bits
structure BtM (n : Nat) (S : TS) (firm : Nat → List UInt8) (X : Sb) (ps0 : List Pr) (qs0 : List Int) (r : Int) (ps : List Pr) (qs : List Int) (m : Nat) : Prop where
 ok : OkT n S firm
 sup : S.s.sup = X
 com : ComT X firm X.root ps0 qs0
 all : ∀ j, hasI X.used j = true → j ∈ qs0
 rt : Rt (Dm S) r ps qs
 nodup : qs.Nodup
 used : ∀ q ∈ qs, usd S q
 only : ∀ j, usd S j → j ∈ qs
 soft : S.d.soft.length ≤ 27 * m
section
variable {n : Nat} {S S' : TS} {firm : Nat → List UInt8} {X : Sb} {ps0 ps ps' : List Pr} {qs0 qs qs' : List Int} {r r' : Int} {m k : Nat}
theorem WhM.begin (h : WhM n S firm ps qs k) : BtM n S firm S.s.sup ps qs S.s.sup.root ps qs k :=
 ⟨h.ok, rfl, h.com, h.all, h.rt, h.com.nodup, h.used.1, h.used.2, h.soft⟩
theorem BtM.made (h : BtM n S firm X ps0 qs0 r ps qs m) (hs : Stay n firm S S' 27) (hp : PutTop n firm S S' r' ps' qs qs') : BtM n S' firm X ps0 qs0 r' ps' qs' (m + 1) :=
 ⟨hp.ok, hs.sup.trans h.sup, h.com, h.all, hp.rt, hp.nodup, hp.used, fun j hj => by
  rcases hp.only j hj with ⟨h1, h2⟩ | h1
  ·exact absurd (h.only j h1) h2
  ·exact h1, by have := hs.soft; have := h.soft; omega⟩
theorem BtM.inz (h : BtM n S firm X ps0 qs0 r ps qs m) {j : Int} (hj : inZ S.s j = true) : j ∈ qs0 ∨ j ∈ qs := by
 obtain ⟨k, rfl, hk, hin⟩ := inZ_out hj
 by_cases hs : Bits.has S.s.sup.used k = true
 ·refine .inl (h.all _ ?_)
  rw [← h.sup]
  unfold hasI
  rw [decide_eq_true (by omega), Bool.true_and, Int.toNat_natCast]
  exact hs
 ·refine .inr (h.only _ ?_)
  rw [usd_nat hk, h.ok.has_used hk, hin]
  cases hg : Bits.has S.s.gone k with
  | false => rfl
  | true => exact absurd (h.ok.goes k hk hg) hs
theorem BtM.room (h : BtM n S firm X ps0 qs0 r ps qs m) {e : Nat} (hn : ps0.length + ps.length + e + 2 < n) : ¬ NoRoom n S e := by
 rintro ⟨E, hE1, hE2⟩
 have hl := nodup_len (l := (List.range (n - 2)).map fun k => ((k + 2 : Nat) : Int)) (m := qs0 ++ qs ++ E) (by
  refine List.Pairwise.map _ (fun x y hxy => ?_) (List.nodup_range (n := n - 2))
  intro e
  exact hxy (by have e' : ((x + 2 : Nat) : Int) = ((y + 2 : Nat) : Int) := e; omega)) (fun x hx => by
  obtain ⟨k, hk2, rfl⟩ := List.mem_map.1 hx
  have hk3 := List.mem_range.1 hk2
  rcases hE2 (k + 2) (by omega) (by omega) with h1 | h1
  ·rcases h.inz h1 with h2 | h2
   ·exact List.mem_append_left _ (List.mem_append_left _ h2)
   ·exact List.mem_append_left _ (List.mem_append_right _ h2)
  ·exact List.mem_append_right _ h1)
 rw [List.length_map, List.length_range, List.length_append, List.length_append] at hl
 have := h.com.rt.count
 have := h.rt.count
 omega
theorem BtM.put (h : BtM n S firm X ps0 qs0 r ps qs m) (hn : ps0.length + ps.length + 29 < n) (hps : ps.length ≤ 500) {key : Int} (hk : 0 ≤ key ∧ key ≤ 4294967295) {val : ByteArray} (hv : val.size = 12) :
  ∃ r' S' qs', putTop n S r key val = (.ok r', S') ∧ BtM n S' firm X ps0 qs0 r' (insP ps key val) qs' (m + 1) := by
 have hst := putTop_stay h.ok r key val
 rcases putTop_ok h.ok hv hk h.rt h.used h.nodup hps with ⟨S', he, hnr⟩ | ⟨r', S', qs', he, hp⟩
 ·exact absurd hnr (h.room (by omega))
 ·rw [he] at hst
  exact ⟨r', S', qs', he, h.made hst hp⟩
theorem BtM.commit (h : BtM n S firm X ps0 qs0 r ps qs m) {k : Nat} (hps : ps.length ≤ k + 1) (hg : X.gen ≤ k + 1) (hg2 : k + 2 < 4294967296) : rootOk S.s r = true ∧ S.s.sup.gen + 1 < 4294967296 ∧ WhM n (S.commit r) S.data ps qs (k + 1) := by
 have hr := h.rt.rootOk h.used
 have hgen : S.s.sup.gen + 1 < 4294967296 := by rw [h.sup]; omega
 refine ⟨hr, hgen, h.ok.committed hgen hr, rfl, rfl, comT_commit h.rt h.used h.nodup h.ok, h.only, hps, ?_, Nat.zero_le _⟩
 show S.s.sup.gen + 1 ≤ _
 rw [h.sup]
 omega
theorem countBelow_list {s : List Nat} : ∀ (k : Nat) {l : List Int}, l.Nodup → (∀ q ∈ l, 0 ≤ q ∧ q < (k : Int)) → (∀ j, j < k → (Bits.has s j = true ↔ (j : Int) ∈ l)) → countBelow s k = l.length
 | 0, l, _, h2, _ => by
  cases l with
  | nil => rfl
  | cons q l => have := h2 q List.mem_cons_self; omega
 | k + 1, l, h1, h2, h3 => by
  rw [countBelow]
  by_cases hk : (k : Int) ∈ l
  ·rw [if_pos ((h3 k (by omega)).2 hk)]
   have hne : ∀ q ∈ l.erase (k : Int), q ≠ (k : Int) := fun q hq e => by
    subst e
    exact absurd hq (List.Nodup.not_mem_erase h1)
   have ih := countBelow_list (s := s) k (l := l.erase (k : Int)) (h1.erase _) (fun q hq => by
    have := h2 q (List.mem_of_mem_erase hq)
    have := hne q hq
    omega) (fun j hj => by
    rw [h3 j (by omega)]
    constructor
    ·intro h; exact (List.mem_erase_of_ne (by omega)).2 h
    ·intro h; exact List.mem_of_mem_erase h)
   rw [ih, List.length_erase_of_mem hk]
   have := List.length_pos_of_mem hk
   omega
  ·rw [if_neg (fun h => hk ((h3 k (by omega)).1 h)), Nat.add_zero]
   refine countBelow_list k h1 (fun q hq => ?_) (fun j hj => h3 j (by omega))
   have := h2 q hq
   have : q ≠ (k : Int) := fun e => hk (by rw [← e]; exact hq)
   omega
theorem BtM.count (h : BtM n S firm X ps0 qs0 r ps qs m) : Bits.count S.s.used = qs.length := by
 refine countBelow_list 240 h.nodup (fun q hq => ?_) fun j hj => ?_
 ·obtain ⟨k, rfl, hk, _⟩ := usd_out (h.used q hq)
  omega
 ·rw [← usd_nat hj]
  exact ⟨h.only _, h.used _⟩
end
end Go.Proofs.YtafclmbecmgbnaaGreatDoor
