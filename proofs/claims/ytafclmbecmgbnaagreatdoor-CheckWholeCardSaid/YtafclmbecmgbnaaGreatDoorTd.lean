/-
  Td: several texts in one file. Conditions: as each part says.
-/
import Derived.Test.YtafclmbecmgbnaaGreatDoorTm
import Derived.Test.YtafclmbecmgbnaaGreatDoorTa
/-
 TrCommMath. Conditions: as each theorem says.
-/
namespace Go.Proofs.YtafclmbecmgbnaaGreatDoor
section
def Dc (x : Sb) (firm : Nat -> List UInt8) (k : Int) : Option Nd := if vJ x.used k = true then yc (firm k.toNat) else none
theorem zdU {n : Nat} {S : TS} {firm : Nat -> List UInt8} (h : OkT n S firm) {k : Int} (hk : vJ S.s.sup.used k = true) : Dm S k = Dc S.s.sup firm k := by
 obtain ⟨j, rfl, hj, hh⟩ := ZU hk;unfold Dm Dc;rw [if_pos hk, Int.toNat_natCast, wF hj, if_pos (by unfold Pst.isIn; rw [hh, Bool.true_or]), h.same j hj hh]
structure zaM (x : Sb) (firm : Nat -> List UInt8) (root : Int) (ps : List Pr) (qs : List Int) : Prop where
 rt : Rt (Dc x firm) root ps qs
 nodup : qs.Nodup
 used : ∀ q ∈ qs, vJ x.used q = true
theorem zaM.here {n : Nat} {S : TS} {firm : Nat -> List UInt8} {root : Int} {ps : List Pr} {qs : List Int} (hc : zaM S.s.sup firm root ps qs) (h : OkT n S firm) : Rt (Dm S) root ps qs :=
 hc.rt.imp fun q hq => zdU h (hc.used q hq)
theorem J5 {n : Nat} {S : TS} {firm : Nat -> List UInt8} (h : OkT n S firm) (hg : S.s.gone = vp) {k : Int} (hk : vJ S.s.sup.used k = true) : usd S k := by
 obtain ⟨j, rfl, hj, hh⟩ := ZU hk;rw [je hj, h.has_used hj, hg, xF];unfold Pst.isIn;rw [hh];rfl
def TS.commit (S : TS) (r : Int) : TS := ⟨xz S.d (S.s.next r), S.s.commit r, S.data⟩
def TS.abort (S : TS) : TS := ⟨S.d, S.s.abort, S.data⟩
theorem V5 {S : TS} {r : Int} {ps : List Pr} {qs : List Int} (ht : Rt (Dm S) r ps qs) (hu : ∀ q ∈ qs, usd S q) (hn : qs.Nodup) {n : Nat} {firm : Nat -> List UInt8} (h : OkT n S firm) : zaM (S.commit r).s.sup S.data r ps qs := by
 refine ⟨ht.imp fun q hq => ?_, hn, hu⟩;have h1 := hu q hq;unfold Dc Dm;rw [if_pos (wX h h1), if_pos (show vJ (S.commit r).s.sup.used q = true from h1)]
theorem QR (x : Sb) (firm : Nat -> List UInt8) : zaM x firm 0 [] [] := ⟨.inl ⟨rfl, rfl, rfl⟩, List.nodup_nil, fun _ h => by cases h⟩
theorem Rt.rootOk {S : TS} {r : Int} {ps : List Pr} {qs : List Int} (ht : Rt (Dm S) r ps qs) (hu : ∀ q ∈ qs, usd S q) : rootOk S.s r = true := by
 unfold Go.Proofs.YtafclmbecmgbnaaGreatDoor.rootOk;rcases ht with ⟨rfl, _, _⟩ | ⟨hh, ht⟩
 ·simp
 ·obtain ⟨x, qt, _, rfl⟩ := ht.head;have := hu r List.mem_cons_self;simp [show vJ S.s.used r = true from this]
end
section
open Go.RowKit
theorem QU {n : Nat} {S : TS} {firm : Nat -> List UInt8} (h : OkT n S firm) {k : Nat} (hf : S.s.first n = some k) {key : Int} (hk : 0 <= key /\ key <= 4294967295) {val : ByteArray} (hv : val.size = 12) : ∃ S', xa n S 0 key val = (.ok (k : Int), S') /\ OkT n S' firm /\ Tr (Dm S') 0 1 0 4294967296 k [(key, val)] [(k : Int)] /\ usd S' (k : Int) /\ wV S' k key = .ok val := by
 have hn : Nv (Dm S) 0 0 4294967296 ⟨[key], [val], []⟩ (kU [] key val) [] := ⟨rfl, rfl, by simp, fun z hz => by obtain rfl := List.mem_singleton.1 hz; omega, fun v hv2 => by rw [List.mem_singleton.1 hv2]; exact hv, by simp [kU], rfl⟩
 have hpt : xa n S 0 key val = xw n S ⟨[key], [val], []⟩ := by unfold xa; rw [if_neg (by omega), if_pos rfl]
 have hr : zJ ⟨[key], [val], []⟩ = true := hn.right (by simp) (by simp) (Int.le_refl _) (Int.le_refl _) (by simp) fun k y hk => jl h hk
 obtain ⟨S', he⟩ : ∃ S', xw n S ⟨[key], [val], []⟩ = (.ok (k : Int), S') := by
  unfold xw;rw [if_neg (by rw [hr]; decide), hf];exact ⟨_, rfl⟩
 obtain ⟨_, ho, _, hu, hd⟩ := Y8 h he;have ht : Tr (Dm S') 0 1 0 4294967296 k [(key, val)] [(k : Int)] := by
  have := hn.laid (mn := 1) hd (fun _ h => by cases h) (Nat.le_refl _) (by simp);simpa [kU] using this
 have hk0 : ¬ (k : Int) = 0 := by have := (jl ho hd).1; omega
 refine ⟨S', by rw [hpt, he], ho, ht, hu, ?_⟩;unfold wV;rw [if_neg hk0];exact zbl 0 ht (List.mem_singleton.2 rfl) (by decide) (Nat.le_refl _)
end
section
open Go.RowKit Bits
def zd0 (V : Int -> ByteArray) (l : List Int) (ps : List Pr) : Prop := zd9 ps /\ ps.length <= l.length /\ ∀ q, q ∈ ps ↔ ∃ k ∈ l, q = (k, V k)
theorem zd0.nil (V : Int -> ByteArray) : zd0 V [] [] := ⟨List.Pairwise.nil, Nat.zero_le _, fun q => ⟨fun h => (by cases h), fun ⟨_, h, _⟩ => by cases h⟩⟩
end
end Go.Proofs.YtafclmbecmgbnaaGreatDoor
