/-
 BtMath. Conditions: as each theorem says.
-/
import Derived.Test.YtafclmbecmgbnaaGreatDoorTrDelMath
open List renaming mem_append_left -> zdF
namespace Go.Proofs.YtafclmbecmgbnaaGreatDoor
open Go.RowKit Bits
structure BtM (n : Nat) (S : TS) (firm : Nat -> List UInt8) (X : Sb) (ps0 : List Pr) (qs0 : List Int) (r : Int) (ps : List Pr) (qs : List Int) (m : Nat) : Prop where
 ok : OkT n S firm
 sup : S.s.sup = X
 com : J2 X firm X.root ps0 qs0
 all : ∀ j, vV X.used j = true -> j ∈ qs0
 rt : Rt (Dm S) r ps qs
 nodup : qs.Nodup
 used : ∀ q ∈ qs, usd S q
 only : ∀ j, usd S j -> j ∈ qs
 soft : S.d.soft.length <= 27 * m
section
variable {n : Nat} {S S' : TS} {firm : Nat -> List UInt8} {X : Sb} {ps0 ps ps' : List Pr} {qs0 qs qs' : List Int} {r r' : Int} {m k : Nat}
theorem WhM.begin (h : WhM n S firm ps qs k) : BtM n S firm S.s.sup ps qs S.s.sup.root ps qs k :=
 ⟨h.ok, rfl, h.com, h.all, h.rt, h.com.nodup, h.used.1, h.used.2, h.soft⟩
theorem BtM.made (h : BtM n S firm X ps0 qs0 r ps qs m) (hs : xL n firm S S' 27) (hp : Xg n firm S S' r' ps' qs qs') : BtM n S' firm X ps0 qs0 r' ps' qs' (m + 1) :=
 ⟨hp.ok, hs.sup.trans h.sup, h.com, h.all, hp.rt, hp.nodup, hp.used, fun j hj => by
  rcases hp.only j hj with ⟨h1, h2⟩ | h1
  ·exact absurd (h.only j h1) h2
  ·exact h1, by have := hs.soft; have := h.soft; omega⟩
theorem BtM.inz (h : BtM n S firm X ps0 qs0 r ps qs m) {j : Int} (hj : inZ S.s j = true) : j ∈ qs0 \/ j ∈ qs := by
 obtain ⟨k, rfl, hk, hin⟩ := qL hj;by_cases hs : Bits.has S.s.sup.used k = true
 ·refine .inl (h.all _ ?_);rw [<- h.sup];unfold vV;rw [decide_eq_true (by omega), Bool.true_and, Int.toNat_natCast];exact hs
 ·refine .inr (h.only _ ?_);rw [jF hk, h.ok.has_used hk, hin];cases hg : Bits.has S.s.gone k with
  | false => rfl
  | true => exact absurd (h.ok.goes k hk hg) hs
theorem BtM.room (h : BtM n S firm X ps0 qs0 r ps qs m) {e : Nat} (hn : ps0.length + ps.length + e + 2 < n) : ¬ va n S e := by
 rintro ⟨E, hE1, hE2⟩;have hl := QP (l := (List.range (n - 2)).map fun k => ((k + 2 : Nat) : Int)) (m := qs0 ++ qs ++ E) (by
  refine List.Pairwise.map _ (fun x y hxy => ?_) (List.nodup_range (n := n - 2));intro e;exact hxy (by have e' : ((x + 2 : Nat) : Int) = ((y + 2 : Nat) : Int) := e; omega)) (fun x hx => by
  obtain ⟨k, hk2, rfl⟩ := List.mem_map.1 hx;have hk3 := List.mem_range.1 hk2;rcases hE2 (k + 2) (by omega) (by omega) with h1 | h1
  ·rcases h.inz h1 with h2 | h2
   ·exact zdF _ (zdF _ h2)
   ·exact zdF _ (List.mem_append_right _ h2)
  ·exact List.mem_append_right _ h1)
 rw [List.length_map, List.length_range, List.length_append, List.length_append] at hl;have := h.com.rt.count;have := h.rt.count;omega
theorem BtM.put (h : BtM n S firm X ps0 qs0 r ps qs m) (hn : ps0.length + ps.length + 29 < n) (hps : ps.length <= 500) {key : Int} (hk : 0 <= key /\ key <= 4294967295) {val : ByteArray} (hv : val.size = 12) :
  ∃ r' S' qs', xb n S r key val = (.ok r', S') /\ BtM n S' firm X ps0 qs0 r' (xt ps key val) qs' (m + 1) := by
 have hst := YJ h.ok r key val;rcases WJ h.ok hv hk h.rt h.used h.nodup hps with ⟨S', he, hnr⟩ | ⟨r', S', qs', he, hp⟩
 ·exact absurd hnr (h.room (by omega))
 ·rw [he] at hst;exact ⟨r', S', qs', he, h.made hst hp⟩
theorem BtM.del (h : BtM n S firm X ps0 qs0 r ps qs m) (hn : ps0.length + ps.length + 28 < n) (hps : ps.length <= 500) {key : Int} (hk : 0 <= key /\ key <= 4294967295) (hin : ∃ p ∈ ps, p.1 = key) :
  ∃ r' S' qs', xO n S r key = (.ok r', S') /\ BtM n S' firm X ps0 qs0 r' (wM ps key) qs' (m + 1) := by
 have hst := (VH h.ok r key).more (m' := 27) (by decide);rcases Qv h.ok hk h.rt h.used h.nodup hps with ⟨h1, _⟩ | ⟨_, ⟨S', he, hnr⟩ | ⟨r', S', qs', he, hp⟩⟩
 ·obtain ⟨p, hp, e⟩ := hin;exact absurd e (h1 p hp)
 ·exact absurd hnr (h.room (by omega))
 ·rw [he] at hst;exact ⟨r', S', qs', he, h.made hst hp⟩
theorem BtM.commit (h : BtM n S firm X ps0 qs0 r ps qs m) {k : Nat} (hps : ps.length <= k + 1) (hg : X.gen <= k + 1) (hg2 : k + 2 < 4294967296) : rootOk S.s r = true /\ S.s.sup.gen + 1 < 4294967296 /\ WhM n (S.commit r) S.data ps qs (k + 1) := by
 have hr := h.rt.rootOk h.used;have hgen : S.s.sup.gen + 1 < 4294967296 := by rw [h.sup]; omega
 refine ⟨hr, hgen, h.ok.committed hgen hr, rfl, rfl, YA h.rt h.used h.nodup h.ok, h.only, hps, ?_, Nat.zero_le _⟩;show S.s.sup.gen + 1 <= _;rw [h.sup];omega
end
end Go.Proofs.YtafclmbecmgbnaaGreatDoor
