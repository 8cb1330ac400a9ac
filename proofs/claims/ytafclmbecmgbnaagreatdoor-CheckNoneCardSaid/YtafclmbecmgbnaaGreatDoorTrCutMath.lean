/-
 TrCutMath. Conditions: as each theorem says.
-/
import Derived.Test.YtafclmbecmgbnaaGreatDoorTrDelModel
import Derived.Test.YtafclmbecmgbnaaGreatDoorTm
namespace Go.Proofs.YtafclmbecmgbnaaGreatDoor
def delP (ps : List Pr) (key : Int) : List Pr := ps.filter fun p => decide (p.1 ≠ key)
theorem delP_app (p q : List Pr) (key : Int) : delP (p ++ q) key = delP p key ++ delP q key := by simp [delP]
theorem delP_none {ps : List Pr} {key : Int} (h : ∀ p ∈ ps, p.1 ≠ key) : delP ps key = ps := List.filter_eq_self.2 fun p hp => decide_eq_true (h p hp)
theorem Nv.without {D : Int → Option Nd} {lo hi : Int} {x : Nd} {ps : List Pr} {qs : List Int} (hn : Nv D 0 lo hi x ps qs) (hr : rightN x = true) (key : Int) :
  ((∀ p ∈ ps, p.1 ≠ key) ∧ withoutN x key = .error 4) ∨ ((∃ p ∈ ps, p.1 = key) ∧ ∃ y, withoutN x key = .ok y ∧ Nv D 0 lo hi y (delP ps key) [] ∧ x.keys.length = y.keys.length + 1) := by
 obtain ⟨h1, h2, h3, h4, h5, h6, h7⟩ := hn
 obtain ⟨keys, vals, kids⟩ := x
 simp only at h1 h2 h3 h4 h5 h6
 subst h1
 have hs : seekN ⟨keys, vals, []⟩ key = (less keys key, decide (keys[less keys key]? = some key)) := by unfold seekN; rw [if_pos hr]
 obtain ⟨a, ha⟩ : ∃ a, a = less keys key := ⟨_, rfl⟩
 have hat : ∀ i (hi : i < keys.length), keys[i] < key ↔ i < a := fun i hi => by rw [ha]; exact less_at h3 key hi
 rw [← ha] at hs
 unfold withoutN
 rw [hs]
 by_cases hf : keys[a]? = some key
 ·refine .inr ?_
  obtain ⟨hal, hae⟩ := List.getElem?_eq_some_iff.1 hf
  simp only [hf, decide_true, if_true]
  have hlt : ∀ z ∈ keys.take a, z < key := fun z hz => by
   obtain ⟨i, hi, rfl⟩ := List.mem_iff_getElem.1 hz
   rw [List.getElem_take]
   rw [List.length_take] at hi
   exact (hat i (by omega)).2 (by omega)
  have hgt : ∀ z ∈ keys.drop (a + 1), key < z := fun z hz => by
   obtain ⟨i, hi, rfl⟩ := List.mem_iff_getElem.1 hz
   rw [List.getElem_drop]
   rw [List.length_drop] at hi
   have := List.pairwise_iff_getElem.1 h3 a (a + 1 + i) hal (by omega) (by omega)
   omega
  have hl : (keys.take a).length = (vals.take a).length := by rw [List.length_take, List.length_take, h2]
  have e1 : keys = keys.take a ++ key :: keys.drop (a + 1) := by rw [← hae]; simp
  have e2 : vals = vals.take a ++ vals[a]'(by omega) :: vals.drop (a + 1) := by simp
  have e4 : keys.zip vals = (keys.take a).zip (vals.take a) ++ (key, vals[a]'(by omega)) :: (keys.drop (a + 1)).zip (vals.drop (a + 1)) := by
   conv => lhs; rw [e1, e2]
   rw [List.zip_append hl]
   rfl
  refine ⟨⟨(key, vals[a]'(by omega)), by rw [h6, e4]; simp, rfl⟩, _, rfl, ⟨rfl, by simp; omega, ?_, fun z hz => ?_, fun v hv => ?_, ?_, rfl⟩, by simp; omega⟩
  ·refine List.pairwise_append.2 ⟨h3.sublist (List.take_sublist _ _), h3.sublist (List.drop_sublist _ _), fun x hx y hy => ?_⟩
   have := hlt x hx
   have := hgt y hy
   omega
  ·rcases List.mem_append.1 hz with h | h
   ·exact h4 z (List.mem_of_mem_take h)
   ·exact h4 z (List.mem_of_mem_drop h)
  ·rcases List.mem_append.1 hv with h | h
   ·exact h5 v (List.mem_of_mem_take h)
   ·exact h5 v (List.mem_of_mem_drop h)
  ·show delP ps key = (keys.take a ++ keys.drop (a + 1)).zip (vals.take a ++ vals.drop (a + 1))
   rw [h6, e4, delP_app, List.zip_append hl]
   congr 1
   ·refine delP_none fun p hp => ?_
    have := hlt _ (List.of_mem_zip hp).1
    omega
   ·rw [show (key, vals[a]'(by omega)) :: (keys.drop (a + 1)).zip (vals.drop (a + 1)) = [(key, vals[a]'(by omega))] ++ (keys.drop (a + 1)).zip (vals.drop (a + 1)) from rfl, delP_app, delP_none (ps := (keys.drop (a + 1)).zip _) fun p hp => ?_]
    ·simp [delP]
    ·have := hgt _ (List.of_mem_zip hp).1
     omega
 ·refine .inl ⟨fun p hp e => ?_, ?_⟩
  ·rw [h6] at hp
   have hk : key ∈ keys := by rw [← e]; exact (List.of_mem_zip hp).1
   obtain ⟨i, hi, hie⟩ := List.mem_iff_getElem.1 hk
   have h8 : less keys key = i := less_of h3 key (by omega) (fun b hb => by rw [← hie]; exact List.pairwise_iff_getElem.1 h3 b i (by omega) (by omega) hb) (fun hb => by rw [hie]; omega)
   rw [ha, h8, List.getElem?_eq_getElem hi, hie] at hf
   exact hf rfl
  ·simp only [hf, decide_false, Bool.false_eq_true, if_false]
theorem Tr.node {S : TS} {h mn : Nat} {lo hi k : Int} {ps : List Pr} {qs : List Int} (ht : Tr (Dm S) h mn lo hi k ps qs) : ∃ x qs', Dm S k = some x ∧ qs = k :: qs' ∧ Nv (Dm S) h lo hi x ps qs' ∧ mn ≤ x.keys.length ∧ (x.kids.length = 0 ↔ h = 0) ∧ (0 < h → x.kids.length = x.keys.length + 1 ∧ x.keys ≠ []) ∧ x.keys.length ≤ 7 := by
 cases h with
 | zero =>
  obtain ⟨keys, vals, h1, h2, h3, h4, h5, h6, h7⟩ := ht
  have hr := (Dm_right h1).2
  have h12 : ∀ v ∈ vals, v.size = 12 := fun v hv2 => by
   rcases (right_parts hr).2.2 with ⟨_, h6, _⟩ | ⟨h6, _⟩
   ·exact of_decide_eq_true (List.all_eq_true.1 h6 v hv2)
   ·exact absurd rfl h6
  exact ⟨_, [], h1, h7, ⟨rfl, h2, h4, h5, h12, h6, rfl⟩, h3, by simp, (fun h => by omega), (right_parts hr).2.1⟩
 | succ h =>
  obtain ⟨keys, kids, qs', h1, h2, h3, h4⟩ := ht
  have hr := (Dm_right h1).2
  have hl := h3.len
  exact ⟨_, qs', h1, h4, ⟨rfl, h3⟩, h2.2, by simp only; omega, fun _ => ⟨hl, h2.1⟩, (right_parts hr).2.1⟩
structure Mid (n : Nat) (firm : Nat → List UInt8) (S S' : TS) (A C : List Int) : Prop where
 ok : OkT n S' firm
 nodup : C.Nodup
 used : ∀ q ∈ C, usd S' q
 new : ∀ q ∈ C, q ∈ A ∨ inZ S.s q = false
 page : ∀ j, usd S j → j ∉ A → usd S' j ∧ Dm S' j = Dm S j
 only : ∀ j, usd S' j → (usd S j ∧ j ∉ A) ∨ j ∈ C
 keep : ∀ j, inZ S.s j = true → j ∉ A → inZ S'.s j = true
section
variable {n : Nat} {firm : Nat → List UInt8} {S S1 S2 : TS} {A B C : List Int}
theorem Mid.refl (h : OkT n S firm) : Mid n firm S S [] [] := ⟨h, List.nodup_nil, (fun _ h => by cases h), (fun _ h => by cases h), fun j hj _ => ⟨hj, rfl⟩, fun j hj => .inl ⟨hj, by simp⟩, fun j hj _ => hj⟩
theorem Mid.trans (h : OkT n S firm) (h1 : Mid n firm S S1 A B) (h2 : Mid n firm S1 S2 B C) : Mid n firm S S2 A C := by
 have hB : ∀ j, inZ S.s j = true → j ∉ A → j ∉ B := fun j hj hn hb => by
  rcases h1.new j hb with h | h
  ·exact hn h
  ·rw [hj] at h; cases h
 refine ⟨h2.ok, h2.nodup, h2.used, fun q hq => ?_, fun j hj hn => ?_, fun j hj => ?_, fun j hj hn => h2.keep j (h1.keep j hj hn) (hB j hj hn)⟩
 ·rcases h2.new q hq with h3 | h3
  ·exact h1.new q h3
  ·by_cases hA : q ∈ A
   ·exact .inl hA
   ·cases h4 : inZ S.s q with
    | false => exact .inr rfl
    | true => have := h1.keep q h4 hA; rw [h3] at this; cases this
 ·obtain ⟨a1, a2⟩ := h1.page j hj hn
  obtain ⟨b1, b2⟩ := h2.page j a1 (hB j (usd_in h hj) hn)
  exact ⟨b1, b2.trans a2⟩
 ·rcases h2.only j hj with ⟨h3, h4⟩ | h3
  ·rcases h1.only j h3 with h5 | h5
   ·exact .inl h5
   ·exact absurd h5 h4
  ·exact .inr h3
theorem Mid.frame (h : OkT n S firm) (h1 : Mid n firm S S2 A C) {F : List Int} (hu : ∀ q ∈ F, usd S q) (hn : F.Nodup) (hd : ∀ q ∈ F, q ∉ A) : Mid n firm S S2 (F ++ A) (F ++ C) := by
 refine ⟨h1.ok, List.nodup_append.2 ⟨hn, h1.nodup, fun a ha b hb e => ?_⟩, fun q hq => ?_, fun q hq => ?_, fun j hj hne => ?_, fun j hj => ?_, fun j hj hne => ?_⟩
 ·subst e
  rcases h1.new a hb with h2 | h2
  ·exact hd a ha h2
  ·have := usd_in h (hu a ha); rw [h2] at this; cases this
 ·rcases List.mem_append.1 hq with hq | hq
  ·exact (h1.page q (hu q hq) (hd q hq)).1
  ·exact h1.used q hq
 ·rcases List.mem_append.1 hq with hq | hq
  ·exact .inl (List.mem_append_left _ hq)
  ·exact (h1.new q hq).imp (List.mem_append_right _) id
 ·exact h1.page j hj fun hm => hne (List.mem_append_right _ hm)
 ·by_cases hf : j ∈ F
  ·exact .inr (List.mem_append_left _ hf)
  ·rcases h1.only j hj with ⟨h2, h3⟩ | h2
   ·exact .inl ⟨h2, fun hm => by rcases List.mem_append.1 hm with hm | hm; exact hf hm; exact h3 hm⟩
   ·exact .inr (List.mem_append_right _ h2)
 ·exact h1.keep j hj fun hm => hne (List.mem_append_right _ hm)
theorem Mid.perm (h1 : Mid n firm S S2 A C) {A' C' : List Int} (hA : ∀ q, q ∈ A ↔ q ∈ A') (hC : C.Perm C') : Mid n firm S S2 A' C' :=
 ⟨h1.ok, hC.nodup_iff.1 h1.nodup, fun q hq => h1.used q (hC.mem_iff.2 hq), fun q hq => (h1.new q (hC.mem_iff.2 hq)).imp (hA q).1 id, fun j hj hn => h1.page j hj fun hm => hn ((hA j).1 hm),
  fun j hj => (h1.only j hj).imp (fun h => ⟨h.1, fun hm => h.2 ((hA j).2 hm)⟩) hC.mem_iff.1, fun j hj hn => h1.keep j hj fun hm => hn ((hA j).1 hm)⟩
theorem Chgs.mid {os qs qn : List Int} (h : Chgs n firm S S1 os qs qn) : Mid n firm S S1 (os ++ qs) qn :=
 ⟨h.ok, h.nodup, h.used, fun q hq => (h.new q hq).imp (List.mem_append_right _) id, fun j hj hn => h.page j hj fun hm => hn (List.mem_append_left _ hm),
  fun j hj => by
  by_cases hq : j ∈ qs
  ·exact .inr (h.sub j hq)
  ·rcases h.only j hj with ⟨h1, h2⟩ | h1
   ·exact .inl ⟨h1, fun hm => by rcases List.mem_append.1 hm with hm | hm; exact h2 hm; exact hq hm⟩
   ·exact .inr h1,
  fun j hj hn => h.keep j hj fun hm => hn (List.mem_append_left _ hm)⟩
end
structure CutOk (n : Nat) (firm : Nat → List UInt8) (S S' : TS) (hh mn : Nat) (lo hi i : Int) (x : Nd) (ps : List Pr) (qs qs' : List Int) : Prop where
 nv : Nv (Dm S') hh lo hi x ps qs'
 few : x.keys.length ≤ 7
 least : mn ≤ x.keys.length + 1
 kids : 0 < hh → x.kids.length = x.keys.length + 1
 mid : Mid n firm S S' qs.tail qs'
theorem CutOk.at_ {n : Nat} {firm : Nat → List UInt8} {S S' : TS} {hh mn : Nat} {lo hi i : Int} {x : Nd} {ps : List Pr} {qt qs' : List Int} (h : OkT n S firm) (hc : CutOk n firm S S' hh mn lo hi i x ps (i :: qt) qs') (hu : usd S i) (hi0 : i ∉ qt) : Mid n firm S S' (i :: qt) (i :: qs') :=
 Mid.frame h hc.mid (F := [i]) (fun q hq => by rw [List.mem_singleton.1 hq]; exact hu) (by simp) (fun q hq => by rw [List.mem_singleton.1 hq]; exact hi0)
end Go.Proofs.YtafclmbecmgbnaaGreatDoor
