/-
  Tm: several texts in one file. Conditions: as each part says.
-/
import Derived.Test.YtafclmbecmgbnaaGreatDoorTrModel
/-
 TrMath. Conditions: as each theorem says.
-/
namespace Go.Proofs.YtafclmbecmgbnaaGreatDoor
abbrev Pr := Int × ByteArray
def Fo (R : Int → Int → Int → List Pr → List Int → Prop) : Int → Int → List Int → List Int → List Pr → List Int → Prop
 | lo, hi, [], kids, ps, qs => ∃ k, kids = [k] ∧ R lo hi k ps qs
 | lo, hi, m :: keys, kids, ps, qs => ∃ k kids' p1 q1 p2 q2, kids = k :: kids' ∧ ps = p1 ++ p2 ∧ qs = q1 ++ q2 ∧ R lo m k p1 q1 ∧ Fo R m hi keys kids' p2 q2
def Tr (D : Int → Option Nd) : Nat → Nat → Int → Int → Int → List Pr → List Int → Prop
 | 0, mn, lo, hi, k, ps, qs => ∃ keys vals, D k = some ⟨keys, vals, []⟩ ∧ vals.length = keys.length ∧ mn ≤ keys.length ∧ keys.Pairwise (· < ·) ∧ (∀ z ∈ keys, lo ≤ z ∧ z < hi) ∧ ps = keys.zip vals ∧ qs = [k]
 | h + 1, mn, lo, hi, k, ps, qs => ∃ keys kids qs', D k = some ⟨keys, [], kids⟩ ∧ (keys ≠ [] ∧ mn ≤ keys.length) ∧ Fo (Tr D h 3) lo hi keys kids ps qs' ∧ qs = k :: qs'
theorem Fo.imp {R R' : Int → Int → Int → List Pr → List Int → Prop} {keys : List Int} : ∀ {lo hi : Int} {kids : List Int} {ps : List Pr} {qs : List Int}, Fo R lo hi keys kids ps qs →
  (∀ lo hi k ps' qs', R lo hi k ps' qs' → (∀ q ∈ qs', q ∈ qs) → R' lo hi k ps' qs') → Fo R' lo hi keys kids ps qs := by
 induction keys with
 | nil =>
  rintro lo hi kids ps qs ⟨k, h1, h2⟩ hi2
  exact ⟨k, h1, hi2 _ _ _ _ _ h2 fun q hq => hq⟩
 | cons m keys ih =>
  rintro lo hi kids ps qs ⟨k, kids', p1, q1, p2, q2, h1, h2, h3, h4, h5⟩ hi2
  subst h3
  exact ⟨k, kids', p1, q1, p2, q2, h1, h2, rfl, hi2 _ _ _ _ _ h4 fun q hq => List.mem_append_left _ hq, ih h5 fun _ _ _ _ _ h hq => hi2 _ _ _ _ _ h fun q h => List.mem_append_right _ (hq q h)⟩
theorem Fo.len {R : Int → Int → Int → List Pr → List Int → Prop} {keys : List Int} : ∀ {lo hi : Int} {kids : List Int} {ps : List Pr} {qs : List Int}, Fo R lo hi keys kids ps qs → kids.length = keys.length + 1 := by
 induction keys with
 | nil => rintro lo hi kids ps qs ⟨k, rfl, _⟩; rfl
 | cons m keys ih =>
  rintro lo hi kids ps qs ⟨k, kids', p1, q1, p2, q2, rfl, _, _, _, h5⟩
  simp [ih h5]
theorem Fo.of_mem {R : Int → Int → Int → List Pr → List Int → Prop} {keys : List Int} : ∀ {lo hi : Int} {kids : List Int} {ps : List Pr} {qs : List Int}, Fo R lo hi keys kids ps qs →
  ∀ p ∈ ps, ∃ lo2 hi2 k2 ps2 qs2, R lo2 hi2 k2 ps2 qs2 ∧ p ∈ ps2 ∧ lo2 ∈ lo :: keys ∧ hi2 ∈ keys ++ [hi] := by
 induction keys with
 | nil =>
  rintro lo hi kids ps qs ⟨k, _, h2⟩ p hp
  exact ⟨lo, hi, k, ps, qs, h2, hp, by simp, by simp⟩
 | cons m keys ih =>
  rintro lo hi kids ps qs ⟨k, kids', p1, q1, p2, q2, _, rfl, _, h4, h5⟩ p hp
  rcases List.mem_append.1 hp with hp | hp
  ·exact ⟨lo, m, k, p1, q1, h4, hp, by simp, by simp⟩
  ·obtain ⟨lo2, hi2, k2, ps2, qs2, h6, h7, h8, h9⟩ := ih h5 p hp
   exact ⟨lo2, hi2, k2, ps2, qs2, h6, h7, List.mem_cons_of_mem _ h8, by simp only [List.cons_append, List.mem_cons]; exact .inr h9⟩
theorem Fo.app {R : Int → Int → Int → List Pr → List Int → Prop} {ks : List Int} : ∀ {lo m hi : Int} {cs b d : List Int} {p1 p2 : List Pr} {q1 q2 : List Int}, Fo R lo m ks cs p1 q1 → Fo R m hi b d p2 q2 → Fo R lo hi (ks ++ m :: b) (cs ++ d) (p1 ++ p2) (q1 ++ q2) := by
 induction ks with
 | nil =>
  rintro lo m hi cs b d p1 p2 q1 q2 ⟨k, rfl, h2⟩ h3
  exact ⟨k, d, p1, q1, p2, q2, rfl, rfl, rfl, h2, h3⟩
 | cons x ks ih =>
  rintro lo m hi cs b d p1 p2 q1 q2 ⟨k, kids', p3, q3, p4, q4, rfl, rfl, rfl, h4, h5⟩ h3
  exact ⟨k, kids' ++ d, p3, q3, p4 ++ p2, q4 ++ q2, by simp, by simp, by simp, h4, ih h5 h3⟩
theorem Fo.split {R : Int → Int → Int → List Pr → List Int → Prop} {a : List Int} : ∀ {lo hi : Int} {b c d : List Int} {k : Int} {ps : List Pr} {qs : List Int}, c.length = a.length → Fo R lo hi (a ++ b) (c ++ k :: d) ps qs →
  ∃ lo' hi' p0 p1 p2 q0 q1 q2, ps = p0 ++ p1 ++ p2 ∧ qs = q0 ++ q1 ++ q2 ∧ R lo' hi' k p1 q1 ∧ lo' = (lo :: a).getLast (by simp) ∧ hi' = (b ++ [hi]).head (by simp) ∧
   (∀ p ∈ p0, ∃ lo2 hi2 k2 ps2 qs2, R lo2 hi2 k2 ps2 qs2 ∧ p ∈ ps2 ∧ hi2 ∈ a) ∧ (∀ p ∈ p2, ∃ lo2 hi2 k2 ps2 qs2, R lo2 hi2 k2 ps2 qs2 ∧ p ∈ ps2 ∧ lo2 ∈ b) ∧
   ∀ (R' : Int → Int → Int → List Pr → List Int → Prop) (ks cs : List Int) (p1' : List Pr) (q1' : List Int), (∀ lo hi k ps' qs', R lo hi k ps' qs' → (∀ q ∈ qs', q ∈ q0 ∨ q ∈ q2) → R' lo hi k ps' qs') →
    Fo R' lo' hi' ks cs p1' q1' → Fo R' lo hi (a ++ ks ++ b) (c ++ cs ++ d) (p0 ++ p1' ++ p2) (q0 ++ q1' ++ q2) := by
 induction a with
 | nil =>
  intro lo hi b c d k ps qs hl h
  obtain rfl := List.length_eq_zero_iff.1 hl
  cases b with
  | nil =>
   obtain ⟨k', h1, h2⟩ := h
   simp only [List.nil_append, List.cons.injEq] at h1
   obtain ⟨rfl, rfl⟩ := h1
   refine ⟨lo, hi, [], ps, [], [], qs, [], by simp, by simp, h2, rfl, rfl, (fun _ h => by cases h), (fun _ h => by cases h), fun R' ks cs p1' q1' _ hf => ?_⟩
   simpa using hf
  | cons m b =>
   obtain ⟨k', kids', p1, q1, p2, q2, h1, h2, h3, h4, h5⟩ := h
   simp only [List.nil_append, List.cons.injEq] at h1
   obtain ⟨rfl, rfl⟩ := h1
   refine ⟨lo, m, [], p1, p2, [], q1, q2, by simpa using h2, by simpa using h3, h4, rfl, rfl, (fun _ h => by cases h), ?_, fun R' ks cs p1' q1' hR hf => ?_⟩
   ·intro p hp
    obtain ⟨lo2, hi2, k2, ps2, qs2, h6, h7, h8, _⟩ := h5.of_mem p hp
    exact ⟨lo2, hi2, k2, ps2, qs2, h6, h7, h8⟩
   ·have := hf.app (h5.imp fun lo hi k ps' qs' h hq => hR lo hi k ps' qs' h fun q hq2 => .inr (hq q hq2))
    simpa using this
 | cons m a ih =>
  intro lo hi b c d k ps qs hl h
  cases c with
  | nil => cases hl
  | cons k0 c =>
   obtain ⟨k', kids', p1, q1, p2, q2, h1, h2, h3, h4, h5⟩ := h
   simp only [List.cons_append, List.cons.injEq] at h1
   obtain ⟨rfl, rfl⟩ := h1
   obtain ⟨lo', hi', p3, p4, p5, q3, q4, q5, e1, e2, e3, e4, e5, e6, e7, e8⟩ := ih (by simpa using hl) h5
   refine ⟨lo', hi', p1 ++ p3, p4, p5, q1 ++ q3, q4, q5, by rw [h2, e1]; simp, by rw [h3, e2]; simp, e3, by rw [e4]; simp, e5, ?_, e7, fun R' ks cs p1' q1' hR hf => ?_⟩
   ·intro p hp
    rcases List.mem_append.1 hp with hp | hp
    ·exact ⟨lo, m, k0, p1, q1, h4, hp, by simp⟩
    ·obtain ⟨lo2, hi2, k2, ps2, qs2, h6, h7, h8⟩ := e6 p hp
     exact ⟨lo2, hi2, k2, ps2, qs2, h6, h7, List.mem_cons_of_mem _ h8⟩
   ·have h9 := e8 R' ks cs p1' q1' (fun lo hi k ps' qs' h hq => hR lo hi k ps' qs' h fun q hq2 => by
     rcases hq q hq2 with h | h
     ·exact .inl (List.mem_append_right _ h)
     ·exact .inr h) hf
    refine ⟨k0, c ++ cs ++ d, p1, q1, p3 ++ p1' ++ p5, q3 ++ q1' ++ q5, by simp, by simp, by simp, hR _ _ _ _ _ h4 fun q hq => .inl (List.mem_append_left _ hq), by simpa using h9⟩
theorem Tr.imp {D D' : Int → Option Nd} {h : Nat} : ∀ {mn : Nat} {lo hi k : Int} {ps : List Pr} {qs : List Int}, Tr D h mn lo hi k ps qs → (∀ q ∈ qs, D' q = D q) → Tr D' h mn lo hi k ps qs := by
 induction h with
 | zero =>
  rintro mn lo hi k ps qs ⟨keys, vals, h1, h2, h3, h4, h5, h6, h7⟩ hq
  exact ⟨keys, vals, by rw [hq k (by rw [h7]; simp)]; exact h1, h2, h3, h4, h5, h6, h7⟩
 | succ h ih =>
  rintro mn lo hi k ps qs ⟨keys, kids, qs', h1, h2, h3, h4⟩ hq
  refine ⟨keys, kids, qs', by rw [hq k (by rw [h4]; simp)]; exact h1, h2, h3.imp fun _ _ _ _ _ h5 h6 => ih h5 fun q hq2 => hq q (by rw [h4]; exact List.mem_cons_of_mem _ (h6 q hq2)), h4⟩
theorem Tr.bounds {D : Int → Option Nd} {h : Nat} : ∀ {mn : Nat} {lo hi k : Int} {ps : List Pr} {qs : List Int}, Tr D h mn lo hi k ps qs → (0 < mn ∨ 0 < h) → lo < hi ∧ ∀ p ∈ ps, lo ≤ p.1 ∧ p.1 < hi := by
 induction h with
 | zero =>
  rintro mn lo hi k ps qs ⟨keys, vals, h1, h2, h3, h4, h5, rfl, h7⟩ h0
  have h0' : 0 < keys.length := by omega
  have := h5 _ (List.getElem_mem h0')
  refine ⟨by omega, fun p hp => h5 _ (List.of_mem_zip hp).1⟩
 | succ h ih =>
  rintro mn lo hi k ps qs ⟨keys, kids, qs', h1, h2, h3, h4⟩ _
  clear h1 h2 h4
  induction keys generalizing lo kids ps qs' with
  | nil =>
   obtain ⟨k2, _, h6⟩ := h3
   exact ih h6 (.inl (by decide))
  | cons m keys ih2 =>
   obtain ⟨k2, kids', p1, q1, p2, q2, _, rfl, _, h8, h9⟩ := h3
   obtain ⟨b1, b2⟩ := ih h8 (.inl (by decide))
   obtain ⟨b3, b4⟩ := ih2 _ _ h9
   refine ⟨by omega, fun p hp => ?_⟩
   rcases List.mem_append.1 hp with hp | hp
   ·have := b2 p hp; omega
   ·have := b4 p hp; omega
theorem Tr.head {D : Int → Option Nd} {h mn : Nat} {lo hi k : Int} {ps : List Pr} {qs : List Int} (ht : Tr D h mn lo hi k ps qs) : ∃ x qs', D k = some x ∧ qs = k :: qs' := by
 cases h with
 | zero => obtain ⟨keys, vals, h1, _, _, _, _, _, h7⟩ := ht; exact ⟨_, [], h1, h7⟩
 | succ h => obtain ⟨keys, kids, qs', h1, _, _, h4⟩ := ht; exact ⟨_, qs', h1, h4⟩
theorem Fo.kids {D : Int → Option Nd} {h : Nat} {keys : List Int} : ∀ {lo hi : Int} {kids : List Int} {ps : List Pr} {qs : List Int}, Fo (Tr D h 3) lo hi keys kids ps qs →
  (∀ k ∈ kids, k ∈ qs ∧ ∃ x, D k = some x) ∧ (qs.Nodup → kids.Nodup) ∧ keys.Pairwise (· < ·) ∧ (∀ z ∈ keys, lo < z ∧ z < hi) ∧ lo < hi := by
 induction keys with
 | nil =>
  rintro lo hi kids ps qs ⟨k, rfl, h2⟩
  obtain ⟨x, qs', h3, rfl⟩ := h2.head
  have h4 := (h2.bounds (.inl (by decide))).1
  exact ⟨fun k2 hk => by obtain rfl := List.mem_singleton.1 hk; exact ⟨by simp, x, h3⟩, fun _ => by simp, List.Pairwise.nil, (fun _ hz => by cases hz), h4⟩
 | cons m keys ih =>
  rintro lo hi kids ps qs ⟨k, kids', p1, q1, p2, q2, rfl, rfl, rfl, h4, h5⟩
  obtain ⟨x, qs', h6, rfl⟩ := h4.head
  have h7 := (h4.bounds (.inl (by decide))).1
  obtain ⟨i1, i2, i3, i4, i5⟩ := ih h5
  refine ⟨fun k2 hk => ?_, fun hn => ?_, List.pairwise_cons.2 ⟨fun z hz => (i4 z hz).1, i3⟩, fun z hz => ?_, by omega⟩
  ·rcases List.mem_cons.1 hk with rfl | hk
   ·exact ⟨by simp, x, h6⟩
   ·exact ⟨List.mem_append_right _ (i1 k2 hk).1, (i1 k2 hk).2⟩
  ·obtain ⟨n1, n2, n3⟩ := List.nodup_append.1 hn
   refine List.nodup_cons.2 ⟨fun hk => ?_, i2 n2⟩
   exact n3 k (by simp) k (i1 k hk).1 rfl
  ·rcases List.mem_cons.1 hz with rfl | hz
   ·exact ⟨h7, i5⟩
   ·have := i4 z hz; exact ⟨by omega, this.2⟩
def Nv (D : Int → Option Nd) : Nat → Int → Int → Nd → List Pr → List Int → Prop
 | 0, lo, hi, x, ps, qs => x.kids = [] ∧ x.vals.length = x.keys.length ∧ x.keys.Pairwise (· < ·) ∧ (∀ z ∈ x.keys, lo ≤ z ∧ z < hi) ∧ (∀ v ∈ x.vals, v.size = 12) ∧ ps = x.keys.zip x.vals ∧ qs = []
 | h + 1, lo, hi, x, ps, qs => x.vals = [] ∧ Fo (Tr D h 3) lo hi x.keys x.kids ps qs
theorem Nv.laid {D D' : Int → Option Nd} {h mn : Nat} {lo hi k : Int} {x : Nd} {ps : List Pr} {qs : List Int} (hn : Nv D h lo hi x ps qs) (hk : D' k = some x) (hq : ∀ q ∈ qs, D' q = D q) (hm : mn ≤ x.keys.length) (h0 : x.keys ≠ []) : Tr D' h mn lo hi k ps (k :: qs) := by
 cases h with
 | zero =>
  obtain ⟨h1, h2, h3, h4, h5, h6, h7⟩ := hn
  obtain ⟨keys, vals, kids⟩ := x
  simp only at h1 h2 h3 h4 h6 hm
  subst h1 h7
  exact ⟨keys, vals, hk, h2, hm, h3, h4, h6, rfl⟩
 | succ h =>
  obtain ⟨h1, h3⟩ := hn
  obtain ⟨keys, vals, kids⟩ := x
  simp only at h1 h3 hm h0
  subst h1
  exact ⟨keys, kids, qs, hk, ⟨h0, hm⟩, h3.imp fun _ _ _ _ _ h5 h6 => h5.imp fun q hq2 => hq q (h6 q hq2), rfl⟩
theorem Nv.right {D : Int → Option Nd} {h : Nat} {lo hi : Int} {x : Nd} {ps : List Pr} {qs : List Int} (hn : Nv D h lo hi x ps qs) (h7 : x.keys.length ≤ 7) (hk0 : 0 < x.keys.length) (hlo : 0 ≤ lo) (hhi : hi ≤ 4294967296) (hnd : qs.Nodup) (hD : ∀ k y, D k = some y → 2 ≤ k ∧ k ≤ 239) : rightN x = true := by
 cases h with
 | zero =>
  obtain ⟨h1, h2, h3, h4, h5, h6, h7'⟩ := hn
  obtain ⟨keys, vals, kids⟩ := x
  simp only at h1 h2 h3 h4 h5 h7
  subst h1
  refine right_leaf (keysB_iff.2 ⟨fun z hz => ?_, h3⟩) h7 (List.all_eq_true.2 fun v hv => decide_eq_true (h5 v hv)) h2
  have := h4 z hz
  omega
 | succ h =>
  obtain ⟨h1, h3⟩ := hn
  obtain ⟨keys, vals, kids⟩ := x
  simp only at h1 h3 h7 hk0
  subst h1
  obtain ⟨k1, k2, k3, k4, k5⟩ := h3.kids
  have hl := h3.len
  have hkb : kidsB kids = true := kidsB_iff.2 ⟨fun z hz => by
   obtain ⟨_, y, hy⟩ := k1 z hz
   exact hD z y hy, k2 hnd⟩
  unfold rightN
  simp only [keysB_iff.2 ⟨fun z hz => by have := k4 z hz; omega, k3⟩, decide_eq_true h7, Bool.and_self, Bool.true_and]
  rw [if_neg (by omega), hkb]
  simp only [List.length_nil, decide_true, Bool.true_and, Bool.and_eq_true, decide_eq_true_eq]
  omega
def insP (ps : List Pr) (key : Int) (val : ByteArray) : List Pr := ps.filter (fun p => decide (p.1 < key)) ++ (key, val) :: ps.filter (fun p => decide (key < p.1))
end Go.Proofs.YtafclmbecmgbnaaGreatDoor

/-
 TrStep. Conditions: as each theorem says.
-/
namespace Go.Proofs.YtafclmbecmgbnaaGreatDoor
open Bits (Ok has with_ without both minus first)
def Dm (S : TS) (k : Int) : Option Nd := if inZ S.s k = true then readN (S.data k.toNat) else none
abbrev usd (S : TS) (k : Int) : Prop := hasI S.s.used k = true
abbrev OkT (n : Nat) (S : TS) (firm : Nat → List UInt8) : Prop := PInv n S.d S.s S.data firm
theorem inZ_nat {s : Pst} {k : Nat} (hk : k < 240) : inZ s (k : Int) = s.isIn k := by
 unfold inZ
 rw [decide_eq_true (by omega), Bool.true_and]
 rfl
theorem inZ_out {s : Pst} {i : Int} (h : inZ s i = true) : ∃ k : Nat, i = (k : Int) ∧ k < 240 ∧ s.isIn k = true := by
 unfold inZ at h
 simp only [Bool.and_eq_true, decide_eq_true_eq] at h
 exact ⟨i.toNat, by omega, by omega, h.2⟩
theorem usd_out {S : TS} {i : Int} (h : usd S i) : ∃ k : Nat, i = (k : Int) ∧ k < 240 ∧ has S.s.used k = true := by
 unfold usd hasI at h
 simp only [Bool.and_eq_true, decide_eq_true_eq] at h
 exact ⟨i.toNat, by omega, by omega, h.2⟩
theorem usd_nat {S : TS} {k : Nat} (hk : k < 240) : usd S (k : Int) ↔ has S.s.used k = true := by
 unfold usd hasI
 rw [decide_eq_true (by omega), Bool.true_and]
 rfl
theorem Dm_range {n : Nat} {S : TS} {firm : Nat → List UInt8} (h : OkT n S firm) {i : Int} {x : Nd} (hx : Dm S i = some x) : 2 ≤ i ∧ i ≤ 239 := by
 unfold Dm at hx
 split at hx
 ·rename_i h1
  obtain ⟨k, rfl, hk, h2⟩ := inZ_out h1
  have := h.in_range hk h2
  have := h.le
  omega
 ·cases hx
structure Step (S S' : TS) (m : Nat) (new old : List Int) : Prop where
 sup : S'.s.sup = S.s.sup
 down : S'.d.down = S.d.down
 soft : S'.d.soft.length ≤ S.d.soft.length + m
 page : ∀ j, usd S j → j ∉ old → usd S' j ∧ Dm S' j = Dm S j
 used : ∀ j, usd S' j → (usd S j ∧ j ∉ old) ∨ j ∈ new
 fresh : ∀ j ∈ new, inZ S.s j = false
 inz : ∃ E : List Int, E.length ≤ m ∧ ∀ j, inZ S'.s j = true → inZ S.s j = true ∨ j ∈ E
theorem addM_ok {n : Nat} {S S' : TS} {firm : Nat → List UInt8} (h : OkT n S firm) {x : Nd} {k : Int} (ha : addM n S x = (.ok k, S')) : rightN x = true ∧ OkT n S' firm ∧ Step S S' 1 [k] [] ∧ usd S' k ∧ Dm S' k = some x := by
 unfold addM at ha
 split at ha
 ·cases ha
 ·rename_i hr
  have hr' : rightN x = true := by simpa using hr
  split at ha
  ·cases ha
  ·rename_i k' hf
   simp only [Prod.mk.injEq, Except.ok.injEq] at ha
   obtain ⟨rfl, rfl⟩ := ha
   obtain ⟨h2, hn, hin, _⟩ := h.first_some hf
   have hle := h.le
   have hk : k' < 240 := by omega
   have h120 : (layN x).length ≤ 120 := by
    have h1 := layN_length hr'
    have h2 := (right_parts hr').2.1
    unfold sizeN at h1
    split at h1 <;> omega
   have hok : OkT n ⟨S.d.write k' (pgB (pageP (layN x))), S.s.at_ k', upd S.data k' (layN x)⟩ firm := h.laid hf h120
   have hin' : ∀ j, j < 240 → (S.s.at_ k').isIn j = (S.s.isIn j || decide (j = k')) := fun j hj => by
    unfold Pst.isIn
    rw [show (S.s.at_ k').new = with_ S.s.new k' from rfl, Bits.has_with h.newOk hk]
    show (has S.s.sup.used j || _) = _
    by_cases e : j = k'
    ·simp [e]
    ·simp [e]
   have hgk : has S.s.gone k' = false := by
    cases hg : has S.s.gone k' with
    | false => rfl
    | true =>
     have := h.goes k' hk hg
     unfold Pst.isIn at hin
     rw [this] at hin
     cases hin
   have hus : ∀ j, j < 240 → has (S.s.at_ k').used j = (has S.s.used j || decide (j = k')) := fun j hj => by
    rw [hok.has_used hj, h.has_used hj, hin' j hj]
    show (_ && !has S.s.gone j) = _
    by_cases e : j = k'
    ·subst e; simp [hgk]
    ·simp [e]
   refine ⟨hr', hok, ⟨rfl, rfl, ?_, fun j hj _ => ?_, fun j hj => ?_, fun j hj => ?_, [(k' : Int)], Nat.le_refl _, fun j hj => ?_⟩, ?_, ?_⟩
   ·show (S.d.soft ++ [_]).length ≤ _
    simp
   ·obtain ⟨j', rfl, hj2, hj3⟩ := usd_out hj
    have hne : j' ≠ k' := by
     rintro rfl
     have := h.used_in hj2 hj3
     rw [this] at hin
     cases hin
    refine ⟨(usd_nat hj2).2 (by show has (S.s.at_ k').used j' = true; rw [hus j' hj2, hj3]; rfl), ?_⟩
    unfold Dm
    show (if inZ (S.s.at_ k') (j' : Int) = true then readN (upd S.data k' (layN x) (j' : Int).toNat) else none) = _
    rw [inZ_nat hj2, inZ_nat hj2, hin' j' hj2, decide_eq_false hne, Bool.or_false]
    have e : upd S.data k' (layN x) ((j' : Int).toNat) = S.data ((j' : Int).toNat) := by unfold upd; rw [if_neg (by simpa using hne)]
    rw [e]
   ·obtain ⟨j', rfl, hj2, hj3⟩ := usd_out hj
    have hj4 : has (S.s.at_ k').used j' = true := hj3
    rw [hus j' hj2] at hj4
    rcases Bool.or_eq_true_iff.1 hj4 with h5 | h5
    ·exact .inl ⟨(usd_nat hj2).2 h5, by simp⟩
    ·exact .inr (by rw [of_decide_eq_true h5]; simp)
   ·obtain rfl := List.mem_singleton.1 hj
    rw [inZ_nat hk]; exact hin
   ·obtain ⟨j', rfl, hj2, hj3⟩ := inZ_out hj
    have hj4 : (S.s.at_ k').isIn j' = true := hj3
    rw [hin' j' hj2] at hj4
    rcases Bool.or_eq_true_iff.1 hj4 with h5 | h5
    ·exact .inl (by rw [inZ_nat hj2]; exact h5)
    ·exact .inr (by rw [of_decide_eq_true h5]; simp)
   ·exact (usd_nat hk).2 (by show has (S.s.at_ k').used k' = true; rw [hus k' hk]; simp)
   ·unfold Dm
    show (if inZ (S.s.at_ k') (k' : Int) = true then readN (upd S.data k' (layN x) (k' : Int).toNat) else none) = _
    rw [inZ_nat hk, hin' k' hk]
    simp only [decide_true, Bool.or_true, if_true]
    unfold upd
    rw [if_pos (by simp)]
    exact readN_lay hr'
theorem addM_err {n : Nat} {S S' : TS} {firm : Nat → List UInt8} (h : OkT n S firm) {x : Nd} {c : Int} (ha : addM n S x = (.error c, S')) : S' = S ∧ ((c = 2 ∧ rightN x = false) ∨ (c = 6 ∧ ∀ m : Nat, 2 ≤ m → m < n → inZ S.s (m : Int) = true)) := by
 unfold addM at ha
 split at ha
 ·rename_i hr
  simp only [Prod.mk.injEq, Except.error.injEq] at ha
  exact ⟨ha.2.symm, .inl ⟨ha.1.symm, hr⟩⟩
 ·split at ha
  ·rename_i hf
   simp only [Prod.mk.injEq, Except.error.injEq] at ha
   refine ⟨ha.2.symm, .inr ⟨ha.1.symm, fun m h1 h2 => ?_⟩⟩
   have hle := h.le
   rw [inZ_nat (by omega)]
   exact h.first_none hf m h1 h2
  ·cases ha
theorem dropM_ok {n : Nat} {S : TS} {firm : Nat → List UInt8} (h : OkT n S firm) {k : Int} (hu : usd S k) : ∃ S', dropM S k = (0, S') ∧ OkT n S' firm ∧ Step S S' 0 [] [k] ∧ ¬ usd S' k := by
 obtain ⟨k', rfl, hk, h1⟩ := usd_out hu
 have hd : dropM S (k' : Int) = (0, ⟨S.d, S.s.drop k', S.data⟩) := by
  unfold dropM
  rw [if_pos hu]
  rfl
 have hok : OkT n ⟨S.d, S.s.drop k', S.data⟩ firm := h.dropped hk h1
 have hi := h.used_in hk h1
 have hg0 : has S.s.gone k' = false := by
  have := h.has_used hk
  rw [h1, hi] at this
  simpa using this.symm
 have hsup : (S.s.drop k').sup = S.s.sup := by unfold Pst.drop; split <;> rfl
 have hin : ∀ j, j < 240 → j ≠ k' → (S.s.drop k').isIn j = S.s.isIn j := fun j hj hne => by
  unfold Pst.isIn Pst.drop
  split
  ·show (has S.s.sup.used j || has (without S.s.new k') j) = _
   rw [Bits.has_without h.newOk hk, if_neg hne]
  ·rfl
 have hinl : ∀ j, j < 240 → (S.s.drop k').isIn j = true → S.s.isIn j = true := fun j hj hj2 => by
  by_cases e : j = k'
  ·rw [e]; exact hi
  ·rw [← hin j hj e]; exact hj2
 have hus : ∀ j, j < 240 → j ≠ k' → has (S.s.drop k').used j = has S.s.used j := fun j hj hne => by
  rw [hok.has_used hj, h.has_used hj]
  show ((S.s.drop k').isIn j && !has (S.s.drop k').gone j) = _
  rw [hin j hj hne]
  unfold Pst.drop
  split
  ·rfl
  ·show (S.s.isIn j && !has (with_ S.s.gone k') j) = _
   rw [Bits.has_with h.goneOk hk, if_neg hne]
 have hno : has (S.s.drop k').used k' = false := by
  rw [hok.has_used hk]
  show ((S.s.drop k').isIn k' && !has (S.s.drop k').gone k') = false
  unfold Pst.isIn Pst.drop
  split
  ·rename_i hn
   show ((has S.s.sup.used k' || has (without S.s.new k') k') && _) = false
   rw [Bits.has_without h.newOk hk, if_pos rfl, (h.fresh k' hk hn).2.2.1]
   rfl
  ·show (_ && !has (with_ S.s.gone k') k') = false
   rw [Bits.has_with h.goneOk hk, if_pos rfl]
   simp
 refine ⟨_, hd, hok, ⟨hsup, rfl, Nat.le_refl _, fun j hj hne => ?_, fun j hj => ?_, (fun _ h => by cases h), [], Nat.le_refl _, fun j hj => ?_⟩, fun hu2 => ?_⟩
 ·obtain ⟨j', rfl, hj2, hj3⟩ := usd_out hj
  have hne' : j' ≠ k' := fun e => hne (by rw [e]; simp)
  refine ⟨(usd_nat hj2).2 (by show has (S.s.drop k').used j' = true; rw [hus j' hj2 hne']; exact hj3), ?_⟩
  unfold Dm
  show (if inZ (S.s.drop k') (j' : Int) = true then _ else none) = _
  rw [inZ_nat hj2, inZ_nat hj2, hin j' hj2 hne']
 ·obtain ⟨j', rfl, hj2, hj3⟩ := usd_out hj
  have hj4 : has (S.s.drop k').used j' = true := hj3
  have hne' : j' ≠ k' := by
   rintro rfl
   rw [hno] at hj4
   cases hj4
  rw [hus j' hj2 hne'] at hj4
  exact .inl ⟨(usd_nat hj2).2 hj4, by simp only [List.mem_singleton]; omega⟩
 ·obtain ⟨j', rfl, hj2, hj3⟩ := inZ_out hj
  exact .inl (by rw [inZ_nat hj2]; exact hinl j' hj2 hj3)
 ·obtain ⟨j', e, hj2, hj3⟩ := usd_out hu2
  have : j' = k' := by omega
  subst this
  have hj4 : has (S.s.drop j').used j' = true := hj3
  rw [hno] at hj4
  cases hj4
structure Stay (n : Nat) (firm : Nat → List UInt8) (S S' : TS) (m : Nat) : Prop where
 ok : OkT n S' firm
 sup : S'.s.sup = S.s.sup
 down : S'.d.down = S.d.down
 soft : S'.d.soft.length ≤ S.d.soft.length + m
 inz : ∃ E : List Int, E.length ≤ m ∧ ∀ j, inZ S'.s j = true → inZ S.s j = true ∨ j ∈ E
theorem Stay.refl {n : Nat} {firm : Nat → List UInt8} {S : TS} (h : OkT n S firm) : Stay n firm S S 0 := ⟨h, rfl, rfl, Nat.le_refl _, [], Nat.le_refl _, fun _ h => .inl h⟩
theorem Stay.trans {n : Nat} {firm : Nat → List UInt8} {S S1 S2 : TS} {m1 m2 : Nat} (h1 : Stay n firm S S1 m1) (h2 : Stay n firm S1 S2 m2) : Stay n firm S S2 (m1 + m2) := by
 obtain ⟨E1, a1, a2⟩ := h1.inz
 obtain ⟨E2, b1, b2⟩ := h2.inz
 refine ⟨h2.ok, h2.sup.trans h1.sup, h2.down.trans h1.down, by have := h1.soft; have := h2.soft; omega, E1 ++ E2, by rw [List.length_append]; omega, fun j hj => ?_⟩
 rcases b2 j hj with h | h
 ·rcases a2 j h with h | h
  ·exact .inl h
  ·exact .inr (List.mem_append_left _ h)
 ·exact .inr (List.mem_append_right _ h)
theorem Stay.more {n : Nat} {firm : Nat → List UInt8} {S S' : TS} {m m' : Nat} (h : Stay n firm S S' m) (hm : m ≤ m') : Stay n firm S S' m' := by
 obtain ⟨E, a1, a2⟩ := h.inz
 exact ⟨h.ok, h.sup, h.down, by have := h.soft; omega, E, by omega, a2⟩
theorem Step.stay {n : Nat} {firm : Nat → List UInt8} {S S' : TS} {m : Nat} {a b : List Int} (h : Step S S' m a b) (ho : OkT n S' firm) : Stay n firm S S' m := ⟨ho, h.sup, h.down, h.soft, h.inz⟩
theorem addM_stay {n : Nat} {S : TS} {firm : Nat → List UInt8} (h : OkT n S firm) (x : Nd) : Stay n firm S (addM n S x).2 1 := by
 cases ha : addM n S x with
 | mk r S' =>
  cases r with
  | error c => obtain ⟨rfl, _⟩ := addM_err h ha; exact (Stay.refl h).more (by decide)
  | ok k => obtain ⟨_, h2, h3, _⟩ := addM_ok h ha; exact h3.stay h2
theorem dropM_stay {n : Nat} {S : TS} {firm : Nat → List UInt8} (h : OkT n S firm) (k : Int) : Stay n firm S (dropM S k).2 0 := by
 by_cases hu : usd S k
 ·obtain ⟨S', h1, h2, h3, _⟩ := dropM_ok h hu
  rw [h1]
  exact h3.stay h2
 ·unfold dropM
  rw [if_neg hu]
  exact Stay.refl h
theorem addAllM_stay {n : Nat} {firm : Nat → List UInt8} (l : List Nd) : ∀ {S : TS}, OkT n S firm → Stay n firm S (addAllM n S l).2 l.length := by
 induction l with
 | nil => intro S h; exact Stay.refl h
 | cons x r ih =>
  intro S h
  have h1 := addM_stay h x
  unfold addAllM
  cases ha : addM n S x with
  | mk o S1 =>
   rw [ha] at h1
   cases o with
   | error c => exact h1.more (by simp)
   | ok k =>
    have h2 := ih h1.ok
    simp only
    cases hb : addAllM n S1 r with
    | mk o2 S2 =>
     rw [hb] at h2
     cases o2 with
     | error c => exact (h1.trans h2).more (by show 1 + r.length ≤ r.length + 1; omega)
     | ok l2 => exact (h1.trans h2).more (by show 1 + r.length ≤ r.length + 1; omega)
theorem dropAllM_stay {n : Nat} {firm : Nat → List UInt8} (l : List Int) : ∀ {S : TS}, OkT n S firm → Stay n firm S (dropAllM S l).2 0 := by
 induction l with
 | nil => intro S h; exact Stay.refl h
 | cons k r ih =>
  intro S h
  have h1 := dropM_stay h k
  unfold dropAllM
  cases hd : dropM S k with
  | mk c S1 =>
   rw [hd] at h1
   by_cases hc : c = 0
   ·simp only [if_pos hc]
    exact (h1.trans (ih h1.ok)).more (Nat.le_refl _)
   ·simp only [if_neg hc]
    exact h1
theorem partsN_few (x : Nd) : (partsN x).1.length ≤ 2 := by
 unfold partsN
 split
 ·exact (by decide : (1 : Nat) ≤ 2)
 ·split <;> exact Nat.le_refl 2
theorem changeM_stay {n : Nat} {S : TS} {firm : Nat → List UInt8} (h : OkT n S firm) (x : Nd) (old : List Int) : Stay n firm S (changeM n S x old).2 2 := by
 have h1 := (addAllM_stay (partsN x).1 h).more (partsN_few x)
 unfold changeM
 cases ha : addAllM n S (partsN x).1 with
 | mk o S1 =>
  rw [ha] at h1
  cases o with
  | error c => exact h1
  | ok ks =>
   have h2 := dropAllM_stay old h1.ok
   cases hd : dropAllM S1 old with
   | mk c S2 =>
    rw [hd] at h2
    by_cases hc : c = 0
    ·simp only [hd, if_pos hc]
     exact (h1.trans h2).more (Nat.le_refl _)
    ·simp only [hd, if_neg hc]
     exact (h1.trans h2).more (Nat.le_refl _)
theorem replaceM_stay {n : Nat} {S : TS} {firm : Nat → List UInt8} (h : OkT n S firm) (x : Nd) (a m : Nat) (kid : Nd) : Stay n firm S (replaceM n S x a m kid).2 2 := by
 have h1 := changeM_stay h kid ((x.kids.drop a).take m)
 unfold replaceM
 cases hc : changeM n S kid ((x.kids.drop a).take m) with
 | mk o S1 =>
  rw [hc] at h1
  cases o with
  | error c => exact h1
  | ok r => exact h1
theorem putM_stay {n : Nat} {firm : Nat → List UInt8} (f : Nat) : ∀ {S : TS}, OkT n S firm → ∀ (i key : Int) (val : ByteArray), Stay n firm S (putM n f S i key val).2 (2 * f) := by
 induction f with
 | zero => intro S h i key val; exact Stay.refl h
 | succ f ih =>
  intro S h i key val
  unfold putM
  cases hl : loadM S i (12 - f : Int) with
  | error c => exact (Stay.refl h).more (Nat.zero_le _)
  | ok x =>
   by_cases hk : x.kids.length = 0
   ·simp only [if_pos hk]
    exact (Stay.refl h).more (Nat.zero_le _)
   ·simp only [if_neg hk]
    have h1 := ih h (x.kids.getD (kidAtN x key) 0) key val
    cases hp : putM n f S (x.kids.getD (kidAtN x key) 0) key val with
    | mk o S1 =>
     rw [hp] at h1
     cases o with
     | error c => exact h1.more (by omega)
     | ok kid => exact (h1.trans (replaceM_stay h1.ok x (kidAtN x key) 1 kid)).more (by omega)
end Go.Proofs.YtafclmbecmgbnaaGreatDoor

/-
 TrChange. Conditions: as each theorem says.
-/
namespace Go.Proofs.YtafclmbecmgbnaaGreatDoor
end Go.Proofs.YtafclmbecmgbnaaGreatDoor

/-
 TrPutMath. Conditions: as each theorem says.
-/
namespace Go.Proofs.YtafclmbecmgbnaaGreatDoor
theorem Dm_right {S : TS} {i : Int} {x : Nd} (h : Dm S i = some x) : inZ S.s i = true ∧ rightN x = true := by
 unfold Dm at h
 split at h
 ·rename_i h1; exact ⟨h1, readN_right h⟩
 ·cases h
theorem loadM_Dm {S : TS} {i level : Int} {x : Nd} (h : Dm S i = some x) (hl : level ≤ 12) : loadM S i level = .ok x := by
 have h1 := (Dm_right h).1
 unfold Dm at h
 rw [if_pos h1] at h
 unfold loadM
 rw [if_neg (by omega), if_pos h1, h]
theorem kidAt_split {x : Nd} (hr : rightN x = true) (key : Int) : (∀ z ∈ x.keys.take (kidAtN x key), z ≤ key) ∧ (∀ z ∈ x.keys.drop (kidAtN x key), key < z) ∧ kidAtN x key ≤ x.keys.length := by
 have hs := (keysB_iff.1 (right_parts hr).1).2
 have hle := less_le x.keys key
 have hat : ∀ i (hi : i < x.keys.length), x.keys[i] < key ↔ i < less x.keys key := fun i hi => less_at hs key hi
 have hpw := List.pairwise_iff_getElem.1 hs
 unfold kidAtN seekN
 rw [if_pos hr]
 simp only
 by_cases hf : x.keys[less x.keys key]? = some key
 ·obtain ⟨hal, hae⟩ := List.getElem?_eq_some_iff.1 hf
  rw [decide_eq_true hf, if_pos rfl]
  refine ⟨fun z hz => ?_, fun z hz => ?_, hal⟩
  ·obtain ⟨i, hi, rfl⟩ := List.mem_iff_getElem.1 hz
   rw [List.getElem_take]
   rw [List.length_take] at hi
   rcases Nat.lt_or_ge i (less x.keys key) with h | h
   ·exact Int.le_of_lt ((hat i (by omega)).2 h)
   ·have : i = less x.keys key := by omega
    subst this
    exact Int.le_of_eq hae
  ·obtain ⟨i, hi, rfl⟩ := List.mem_iff_getElem.1 hz
   rw [List.getElem_drop]
   rw [List.length_drop] at hi
   have := hpw (less x.keys key) (less x.keys key + 1 + i) hal (by omega) (by omega)
   omega
 ·rw [decide_eq_false hf, if_neg (by decide)]
  refine ⟨fun z hz => ?_, fun z hz => ?_, hle⟩
  ·obtain ⟨i, hi, rfl⟩ := List.mem_iff_getElem.1 hz
   rw [List.getElem_take]
   rw [List.length_take] at hi
   exact Int.le_of_lt ((hat i (by omega)).2 (by omega))
  ·obtain ⟨i, hi, rfl⟩ := List.mem_iff_getElem.1 hz
   rw [List.getElem_drop]
   rw [List.length_drop] at hi
   have h0 : ¬ x.keys[less x.keys key + i]'(by omega) < key := fun h => by have := (hat _ (by omega)).1 h; omega
   have h1 : x.keys[less x.keys key + i]'(by omega) ≠ key := fun e => by
    rcases Nat.eq_zero_or_pos i with rfl | h2
    ·exact hf (by rw [List.getElem?_eq_getElem (by omega)]; exact congrArg some e)
    ·have := hpw (less x.keys key) (less x.keys key + i) (by omega) (by omega) (by omega)
     have := (hat (less x.keys key) (by omega)).1 (by omega)
     omega
   omega
end Go.Proofs.YtafclmbecmgbnaaGreatDoor

/-
 TrTopMath. Conditions: as each theorem says.
-/
namespace Go.Proofs.YtafclmbecmgbnaaGreatDoor
theorem kid_of {D : Int → Option Nd} {hh : Nat} {lo hi key : Int} {keys kids : List Int} {ps : List Pr} {qs : List Int} {k : Nat} (h3 : Fo (Tr D hh 3) lo hi keys kids ps qs) (s1 : ∀ z ∈ keys.take k, z ≤ key) (s2 : ∀ z ∈ keys.drop k, key < z) (hk : k ≤ keys.length) :
  ∃ lo' hi' p0 p1 p2 q1, Tr D hh 3 lo' hi' (kids.getD k 0) p1 q1 ∧ ps = p0 ++ p1 ++ p2 ∧ (∀ p ∈ p0, p.1 < key) ∧ ∀ p ∈ p2, key < p.1 := by
 have hl := h3.len
 have hkl : k < kids.length := by omega
 obtain ⟨kid, hkid⟩ : ∃ kid, kid = kids[k]'hkl := ⟨_, rfl⟩
 have ek : kids = kids.take k ++ kid :: kids.drop (k + 1) := by rw [hkid]; simp
 have ekk : keys = keys.take k ++ keys.drop k := (List.take_append_drop k keys).symm
 have h3' : Fo (Tr D hh 3) lo hi (keys.take k ++ keys.drop k) (kids.take k ++ kid :: kids.drop (k + 1)) ps qs := by rw [← ek, ← ekk]; exact h3
 obtain ⟨lo', hi', p0, p1, p2, q0, q1, q2, e1, e2, t1, _, _, e6, e7, _⟩ := Fo.split (by rw [List.length_take, List.length_take]; omega) h3'
 refine ⟨lo', hi', p0, p1, p2, q1, by rw [List.getD_eq_getElem?_getD, List.getElem?_eq_getElem hkl]; rw [← hkid]; exact t1, e1, fun p hp2 => ?_, fun p hp2 => ?_⟩
 ·obtain ⟨_, _, _, _, _, g1, g2, g3⟩ := e6 p hp2
  have := (g1.bounds (.inl (by decide))).2 p g2
  have := s1 _ g3
  omega
 ·obtain ⟨_, _, _, _, _, g1, g2, g3⟩ := e7 p hp2
  have := (g1.bounds (.inl (by decide))).2 p g2
  have := s2 _ g3
  omega
theorem get_ok {key : Int} {v : ByteArray} (hh : Nat) : ∀ {S : TS} {mn f : Nat} {lo hi i : Int} {ps : List Pr} {qs : List Int}, Tr (Dm S) hh mn lo hi i ps qs → (key, v) ∈ ps → hh + 1 ≤ f → f ≤ 12 → getM f S i key = .ok v := by
 induction hh with
 | zero =>
  intro S mn f lo hi i ps qs ht hm hf hf2
  obtain ⟨f, rfl⟩ : ∃ g, f = g + 1 := ⟨f - 1, by omega⟩
  obtain ⟨keys, vals, h1, h2, h3, h4, h5, rfl, rfl⟩ := ht
  have hr := (Dm_right h1).2
  have hld := loadM_Dm h1 (level := 12 - (f : Int)) (by omega)
  obtain ⟨j, hj, he⟩ := List.mem_iff_getElem.1 hm
  simp only [List.length_zip] at hj
  rw [List.getElem_zip] at he
  simp only [Prod.mk.injEq] at he
  have hl : less keys key = j := less_of h4 key (by omega) (fun a ha => by rw [← he.1]; exact List.pairwise_iff_getElem.1 h4 a j (by omega) (by omega) ha) (fun ha => by rw [he.1]; omega)
  have hs : seekN ⟨keys, vals, []⟩ key = (j, true) := by
   unfold seekN
   rw [if_pos hr]
   simp only [hl]
   rw [List.getElem?_eq_getElem (by omega), he.1]
   simp
  unfold getM
  rw [hld]
  simp only [hs, List.length_nil, if_true]
  rw [List.getD_eq_getElem?_getD, List.getElem?_eq_getElem (by omega)]
  exact congrArg Except.ok he.2
 | succ hh ih =>
  intro S mn f lo hi i ps qs ht hm hf hf2
  obtain ⟨f, rfl⟩ : ∃ g, f = g + 1 := ⟨f - 1, by omega⟩
  obtain ⟨keys, kids, qt, h1, h2, h3, rfl⟩ := ht
  have hr := (Dm_right h1).2
  have hld := loadM_Dm h1 (level := 12 - (f : Int)) (by omega)
  obtain ⟨s1, s2, s3⟩ := kidAt_split hr key
  obtain ⟨lo', hi', p0, p1, p2, q1, t1, rfl, hp0, hp2⟩ := kid_of h3 s1 s2 s3
  have hl := h3.len
  have hm1 : (key, v) ∈ p1 := by
   rcases List.mem_append.1 hm with h | h
   ·rcases List.mem_append.1 h with h | h
    ·have := hp0 _ h; simp only at this; omega
    ·exact h
   ·have := hp2 _ h; simp only at this; omega
  unfold getM
  rw [hld]
  simp only
  rw [if_neg (by omega)]
  exact ih t1 hm1 (by omega) (by omega)
end Go.Proofs.YtafclmbecmgbnaaGreatDoor

/-
 TrLawMath. Conditions: as each theorem says.
-/
namespace Go.Proofs.YtafclmbecmgbnaaGreatDoor
end Go.Proofs.YtafclmbecmgbnaaGreatDoor
