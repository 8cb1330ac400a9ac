/-
 ChkWrMath. Conditions: as each theorem says.
-/
import Derived.Test.YtafclmbecmgbnaaGreatDoorChkLeaf
namespace Go.Proofs.YtafclmbecmgbnaaGreatDoor
open Go.RowKit
theorem lvN_right {x c : Nat} (hx : x ≤ 200) (hc : 1 ≤ c ∧ c ≤ 7) : rightN (lvN x c) = true := by
 unfold rightN
 rw [Bool.and_eq_true, Bool.and_eq_true, if_pos (show (lvN x c).kids.length = 0 from rfl), Bool.and_eq_true]
 refine ⟨⟨keysB_iff.2 ⟨fun z hz => ?_, ?_⟩, ?_⟩, ?_, ?_⟩
 ·obtain ⟨m, hm, rfl⟩ := List.mem_map.1 hz
  have := List.mem_range.1 hm
  omega
 ·show List.Pairwise _ (List.map _ _)
  rw [List.pairwise_map]
  refine List.pairwise_lt_range.imp fun {a b} h => ?_
  omega
 ·rw [decide_eq_true]
  rw [show (lvN x c).keys.length = c from lvK_len x c]
  omega
 ·rw [List.all_eq_true]
  intro v hv
  rw [List.eq_of_mem_replicate hv]
  decide
 ·rw [decide_eq_true]
  rw [show (lvN x c).keys.length = c from lvK_len x c]
  exact List.length_replicate
theorem lvK_first {x c : Nat} (hc : 1 ≤ c) : (lvK x c).getD 0 0 = (x : Int) := by
 obtain ⟨m, rfl⟩ : ∃ m, c = m + 1 := ⟨c - 1, by omega⟩
 unfold lvK
 rw [List.range_succ_eq_map]
 simp
theorem lvK_last {x c : Nat} (hc : 1 ≤ c) : (lvK x c).getD (c - 1) 0 = ((x + (c - 1) : Nat) : Int) := by
 unfold lvK
 rw [List.getD_eq_getElem?_getD, List.getElem?_map, List.getElem?_range (by omega)]
 rfl
theorem lvN_fits {x c : Nat} (hc : 1 ≤ c) (lo hi : Int) : fitsN (lvN x c) 2 lo hi = (decide (3 ≤ c) && (decide (lo ≤ (x : Int)) && decide (((x + (c - 1) : Nat) : Int) < hi))) := by
 unfold fitsN
 rw [show (lvN x c).keys = lvK x c from rfl, lvK_len, lvK_first hc, lvK_last hc]
 rfl
section
variable {S : TS} {r p q key : Int} {L1 : Nd}
theorem sv_two (hl : loadM S r 1 = .ok ⟨[key], [], [p, q]⟩) (hk : 0 ≤ key ∧ key < 4294967296) (hu : hasI S.s.used r = true) (h2 : loadM S p 2 = .ok L1) (k1 : L1.kids = []) (u2 : hasI S.s.used p = true) (hrp : p ≠ r) :
  svRun S 2 (svBegin r) = ⟨[⟨q, 2, key, 4294967296⟩], [r, p], 2, if fitsN L1 2 0 key = true then [] else [2]⟩ := by
 have h1 : svStep S (svBegin r) = ⟨[⟨p, 2, 0, key⟩, ⟨q, 2, key, 4294967296⟩], [r], 0, []⟩ := by
  unfold svStep svBegin
  simp only [List.not_mem_nil, if_false]
  rw [hl]
  have ho : svOk S ⟨r, 1, 0, 4294967296⟩ ⟨[key], [], [p, q]⟩ 0 = true := by
   unfold svOk fitsN
   simp [hu, hk.1, hk.2]
  simp only [ho, if_true]
  rfl
 show svStep S (svStep S (svBegin r)) = _
 rw [h1]
 unfold svStep
 simp only [List.mem_singleton, hrp, if_false]
 rw [h2]
 have hd : svDep L1 2 0 = 2 := by unfold svDep; rw [k1]; rfl
 have ho : svOk S ⟨p, 2, 0, key⟩ L1 0 = fitsN L1 2 0 key := by
  unfold svOk
  simp only [hd, u2, k1]
  simp
 have hb : belowN L1 2 0 key = [] := by unfold belowN; rw [k1]; rfl
 simp only [hd, ho, hb]
 simp
theorem sv_three (hl : loadM S r 1 = .ok ⟨[key], [], [p, q]⟩) (hk : 0 ≤ key ∧ key < 4294967296) (hu : hasI S.s.used r = true) (h2 : loadM S p 2 = .ok L1) (k1 : L1.kids = []) (u2 : hasI S.s.used p = true) (hrp : p ≠ r) (hqr : q ≠ r) (hqp : q ≠ p)
  {L2 : Nd} (h3 : loadM S q 2 = .ok L2) (k2 : L2.kids = []) (u3 : hasI S.s.used q = true) :
  svRun S 3 (svBegin r) = ⟨[], [r, p, q], 2, (if fitsN L1 2 0 key = true then [] else [2]) ++ (if fitsN L2 2 key 4294967296 = true then [] else [2])⟩ := by
 rw [svRun_snoc, sv_two hl hk hu h2 k1 u2 hrp]
 unfold svStep
 simp only [List.mem_cons, List.not_mem_nil, hqr, hqp, or_self, if_false]
 rw [h3]
 have hd : svDep L2 2 2 = 2 := by unfold svDep; rw [if_neg (by omega)]
 have ho : svOk S ⟨q, 2, key, 4294967296⟩ L2 2 = fitsN L2 2 key 4294967296 := by
  unfold svOk
  simp only [hd, u3, k2]
  simp
 have hb : belowN L2 2 key 4294967296 = [] := by unfold belowN; rw [k2]; rfl
 simp only [hd, ho, hb]
 split <;> simp
theorem sv_none (hl : loadM S r 1 = .ok ⟨[key], [], [p, q]⟩) (hk : 0 ≤ key ∧ key < 4294967296) (hu : hasI S.s.used r = true) (h2 : loadM S p 2 = .ok L1) (k1 : L1.kids = []) (u2 : hasI S.s.used p = true) (hrp : p ≠ r) (hqr : q ≠ r) (hqp : q ≠ p)
  {c : Int} (h3 : loadM S q 2 = .error c) :
  svRun S 3 (svBegin r) = ⟨[], [r, p, q], 2, (if fitsN L1 2 0 key = true then [] else [2]) ++ [c]⟩ := by
 rw [svRun_snoc, sv_two hl hk hu h2 k1 u2 hrp]
 unfold svStep
 simp only [List.mem_cons, List.not_mem_nil, hqr, hqp, or_self, if_false]
 rw [h3]
 rfl
end
theorem load_laid {S : TS} {i : Nat} {lv : Int} {x : Nd} (hlv : lv ≤ 12) (hi : inZ S.s (i : Int) = true) (hx : rightN x = true) (hd : S.data i = layN x) : loadM S (i : Int) lv = .ok x := by
 unfold loadM
 rw [if_neg (by omega), if_pos hi, Int.toNat_natCast, hd, readN_lay hx]
theorem wr_two {S : TS} {k q x c y e : Nat} {key : Int} (hk : 0 ≤ key ∧ key ≤ 4294967295) (hx : x ≤ 200) (hc : 1 ≤ c ∧ c ≤ 7) (hy : y ≤ 200) (he : 1 ≤ e ∧ e ≤ 7) (k2 : k ≠ 0 ∧ k < 240 ∧ (2 : Int) ≠ (k : Int) ∧ (q : Int) ≠ (k : Int) ∧ (q : Int) ≠ 2)
  (ik : inZ S.s (k : Int) = true) (i2 : inZ S.s 2 = true) (iq : inZ S.s (q : Int) = true) (uk : hasI S.s.used (k : Int) = true) (u2 : hasI S.s.used 2 = true) (uq : hasI S.s.used (q : Int) = true)
  (hr : rightN ⟨[key], [], [2, (q : Int)]⟩ = true) (dk : S.data k = layN ⟨[key], [], [2, (q : Int)]⟩) (d2 : S.data 2 = layN (lvN x c)) (dq : S.data q = layN (lvN y e)) {F : List Int}
  (hF : (if (decide (3 ≤ c) && (decide ((0 : Int) ≤ (x : Int)) && decide (((x + (c - 1) : Nat) : Int) < key))) = true then [] else [2]) ++ (if (decide (3 ≤ e) && (decide (key ≤ (y : Int)) && decide (((y + (e - 1) : Nat) : Int) < 4294967296))) = true then [] else [(2 : Int)]) = F) (hl : F.length ≤ 1) :
  Svd S (k : Int) ⟨[], [(k : Int), 2, (q : Int)], 2, F⟩ := by
 have h := sv_three (load_laid (by decide) ik hr dk) ⟨hk.1, by omega⟩ uk (load_laid (i := 2) (by decide) i2 (lvN_right hx hc) d2) rfl u2 k2.2.2.1 k2.2.2.2.1 k2.2.2.2.2 (load_laid (by decide) iq (lvN_right hy he) dq) rfl uq
 rw [lvN_fits hc.1, lvN_fits he.1, hF] at h
 refine .inr ⟨by omega, by omega, rfl, hl, fun _ => ?_, 3, by decide, h⟩
 have := k2.2.2.1
 have := k2.2.2.2.1
 have := k2.2.2.2.2
 simp only [List.nodup_cons, List.mem_cons, List.not_mem_nil, or_false, not_or, not_false_eq_true, List.nodup_nil, and_true]
 omega
theorem wr_one {S : TS} {k q x c : Nat} {key : Int} (hk : 0 ≤ key ∧ key ≤ 4294967295) (hx : x ≤ 200) (hc : 3 ≤ c ∧ c ≤ 7) (hxk : ((x + (c - 1) : Nat) : Int) < key) (k2 : k ≠ 0 ∧ k < 240 ∧ (2 : Int) ≠ (k : Int) ∧ (q : Int) ≠ (k : Int) ∧ (q : Int) ≠ 2)
  (ik : inZ S.s (k : Int) = true) (i2 : inZ S.s 2 = true) (iq : inZ S.s (q : Int) = false) (uk : hasI S.s.used (k : Int) = true) (u2 : hasI S.s.used 2 = true)
  (hr : rightN ⟨[key], [], [2, (q : Int)]⟩ = true) (dk : S.data k = layN ⟨[key], [], [2, (q : Int)]⟩) (d2 : S.data 2 = layN (lvN x c)) :
  Svd S (k : Int) ⟨[], [(k : Int), 2, (q : Int)], 2, [4]⟩ := by
 have h3 : loadM S (q : Int) 2 = .error 4 := by unfold loadM; rw [if_neg (by decide), iq]; rfl
 have h := sv_none (load_laid (by decide) ik hr dk) ⟨hk.1, by omega⟩ uk (load_laid (i := 2) (by decide) i2 (lvN_right hx ⟨by omega, hc.2⟩) d2) rfl u2 k2.2.2.1 k2.2.2.2.1 k2.2.2.2.2 h3
 rw [lvN_fits (by omega), decide_eq_true hc.1, decide_eq_true (show (0 : Int) ≤ (x : Int) by omega), decide_eq_true hxk] at h
 refine .inr ⟨by omega, by omega, rfl, Nat.le_refl _, (fun h => by cases h), 3, by decide, h⟩
theorem wr_twoF {d : Dk} {s : Pst} {G : Nat → List UInt8} {k q x c y e : Nat} {key : Int} (hk : 0 ≤ key ∧ key ≤ 4294967295) (hx : x ≤ 200) (hc : 1 ≤ c ∧ c ≤ 7) (hy : y ≤ 200) (he : 1 ≤ e ∧ e ≤ 7) (k2 : k ≠ 0 ∧ k < 240 ∧ (2 : Int) ≠ (k : Int) ∧ (q : Int) ≠ (k : Int) ∧ (q : Int) ≠ 2)
  (ik : inZ s (k : Int) = true) (i2 : inZ s 2 = true) (iq : inZ s (q : Int) = true) (uk : hasI s.used (k : Int) = true) (u2 : hasI s.used 2 = true) (uq : hasI s.used (q : Int) = true)
  (hr : rightN ⟨[key], [], [2, (q : Int)]⟩ = true) (dk : G k = layN ⟨[key], [], [2, (q : Int)]⟩) (d2 : G 2 = layN (lvN x c)) (dq : G q = layN (lvN y e)) {F : List Int}
  (hF : (if (decide (3 ≤ c) && (decide ((0 : Int) ≤ (x : Int)) && decide (((x + (c - 1) : Nat) : Int) < key))) = true then [] else [2]) ++ (if (decide (3 ≤ e) && (decide (key ≤ (y : Int)) && decide (((y + (e - 1) : Nat) : Int) < 4294967296))) = true then [] else [(2 : Int)]) = F) (hl : F.length ≤ 1) :
  Svd ⟨d, s, G⟩ (k : Int) ⟨[], [(k : Int), 2, (q : Int)], 2, F⟩ := wr_two (S := ⟨d, s, G⟩) hk hx hc hy he k2 ik i2 iq uk u2 uq hr dk d2 dq hF hl
theorem wr_oneF {d : Dk} {s : Pst} {G : Nat → List UInt8} {k q x c : Nat} {key : Int} (hk : 0 ≤ key ∧ key ≤ 4294967295) (hx : x ≤ 200) (hc : 3 ≤ c ∧ c ≤ 7) (hxk : ((x + (c - 1) : Nat) : Int) < key) (k2 : k ≠ 0 ∧ k < 240 ∧ (2 : Int) ≠ (k : Int) ∧ (q : Int) ≠ (k : Int) ∧ (q : Int) ≠ 2)
  (ik : inZ s (k : Int) = true) (i2 : inZ s 2 = true) (iq : inZ s (q : Int) = false) (uk : hasI s.used (k : Int) = true) (u2 : hasI s.used 2 = true)
  (hr : rightN ⟨[key], [], [2, (q : Int)]⟩ = true) (dk : G k = layN ⟨[key], [], [2, (q : Int)]⟩) (d2 : G 2 = layN (lvN x c)) :
  Svd ⟨d, s, G⟩ (k : Int) ⟨[], [(k : Int), 2, (q : Int)], 2, [4]⟩ := wr_one (S := ⟨d, s, G⟩) hk hx hc hxk k2 ik i2 iq uk u2 hr dk d2
def pw0 : Pst := Pst.opened (Sb.bare 1)
theorem pw_first : pw0.first 30 = some 2 ∧ (pw0.at_ 2).first 30 = some 3 ∧ ((pw0.at_ 2).at_ 3).first 30 = some 4 ∧ (((pw0.at_ 2).at_ 3).at_ 4).first 30 = some 5 := by decide
theorem pw_in4 : ∀ s, s = ((pw0.at_ 2).at_ 3).at_ 4 → inZ s 2 = true ∧ inZ s ((3 : Nat) : Int) = true ∧ inZ s ((4 : Nat) : Int) = true ∧ inZ s ((29 : Nat) : Int) = false ∧ hasI s.used 2 = true ∧ hasI s.used ((3 : Nat) : Int) = true ∧ hasI s.used ((4 : Nat) : Int) = true ∧ rootOk s ((4 : Nat) : Int) = true ∧ s.sup.gen + 1 < 4294967296 := by
 rintro s rfl
 decide +kernel
theorem pw_in5 : ∀ s, s = (((pw0.at_ 2).at_ 3).at_ 4).at_ 5 → inZ s 2 = true ∧ inZ s ((4 : Nat) : Int) = true ∧ inZ s ((5 : Nat) : Int) = true ∧ hasI s.used 2 = true ∧ hasI s.used ((4 : Nat) : Int) = true ∧ hasI s.used ((5 : Nat) : Int) = true := by
 rintro s rfl
 decide +kernel
theorem pw_com : ∀ s, s = (((pw0.at_ 2).at_ 3).at_ 4).commit ((4 : Nat) : Int) → inZ s 2 = true ∧ inZ s ((3 : Nat) : Int) = true ∧ inZ s ((4 : Nat) : Int) = true ∧ hasI s.used 2 = true ∧ hasI s.used ((3 : Nat) : Int) = true ∧ hasI s.used ((4 : Nat) : Int) = true ∧ s.sup.root = ((4 : Nat) : Int) := by
 rintro s rfl
 decide +kernel
theorem pw_used : ((((pw0.at_ 2).at_ 3).at_ 4).commit ((4 : Nat) : Int)).used = setOfL (sortZ [((4 : Nat) : Int), 2, ((3 : Nat) : Int)]) := by
 rw [show sortZ [((4 : Nat) : Int), 2, ((3 : Nat) : Int)] = [2, 3, 4] by simp [sortZ, List.mergeSort]]
 decide +kernel
end Go.Proofs.YtafclmbecmgbnaaGreatDoor
