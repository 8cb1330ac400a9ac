/-
 ChkAwake. Conditions: as each theorem says.
-/
import Derived.Test.YtafclmbecmgbnaaGreatDoorSm
import Derived.Test.YtafclmbecmgbnaaGreatDoorTc
import Derived.Test.YtafclmbecmgbnaaGreatDoorTd
import Derived.Test.YtafclmbecmgbnaaGreatDoorChkCalls
import Derived.Test.YtafclmbecmgbnaaGreatDoorChkMath
namespace Go.Proofs.YtafclmbecmgbnaaGreatDoor
open Go.RowKit
abbrev S0 (n : Nat) : TS := ⟨switchD (Dk.new n) (Sb.bare 1), Pst.opened (Sb.bare 1), fun _ => []⟩
theorem first_free {n : Nat} (h3 : 3 ≤ n) (hn : n ≤ 240) : (S0 n).s.first n = some 2 := (StIs.opened_bare 1).first_some (PInv.start h3 hn (fun _ => [])) (by decide) (by omega) rfl fun m h1 h2 => absurd h2 (by omega)
def val12 : ByteArray := ⟨#[49, 50, 51, 52, 53, 54, 55, 56, 57, 48, 49, 50]⟩
theorem nodup_few {l : List Int} (h : l.Nodup) (hb : ∀ q ∈ l, 2 ≤ q ∧ q ≤ 239) : l.length ≤ 240 := by
 have h1 : (l.map Int.toNat).Nodup := by
  refine List.pairwise_map.2 (h.imp_of_mem fun {a b} ha hb2 hne e => hne ?_)
  have := hb a ha
  have := hb b hb2
  omega
 have h3 : (l.map Int.toNat) ⊆ List.range 240 := fun x hx => by
  obtain ⟨q, hq, rfl⟩ := List.mem_map.1 hx
  have := hb q hq
  exact List.mem_range.2 (by omega)
 have h4 := h1.length_le_of_subset h3
 simpa using h4
theorem usd_range {n : Nat} {S : TS} {firm : Nat → List UInt8} (h : OkT n S firm) {q : Int} (hq : usd S q) : 2 ≤ q ∧ q ≤ 239 := by
 obtain ⟨k, rfl, hk, hh⟩ := usd_out hq
 have := h.in_range hk (h.used_in hk hh)
 omega
theorem svd_tree {n : Nat} {S : TS} {firm : Nat → List UInt8} (ho : OkT n S firm) {h : Nat} {root : Int} {ps : List Pr} {qs : List Int} (ht : Tr (Dm S) h 1 0 4294967296 root ps qs) (hu : ∀ q ∈ qs, usd S q) (hn : qs.Nodup) (hh : h + 1 ≤ 12) : ∃ met, Svd S root ⟨[], met, (h : Int) + 1, []⟩ ∧ met.Perm qs := by
 obtain ⟨met, h1, h2⟩ := sv_sound ht hu hn hh
 obtain ⟨x, qt, hx, rfl⟩ := ht.head
 have hr := usd_range ho (hu root List.mem_cons_self)
 refine ⟨met, .inr ⟨by omega, by omega, rfl, by simp, fun _ => h2.nodup_iff.2 hn, _, ?_, h1⟩, h2⟩
 have := nodup_few hn fun q hq => usd_range ho (hu q hq)
 omega
section
variable {O : PgOwn} (H : PgSpec O)
include H
set_option maxRecDepth 100000 in
set_option maxHeartbeats 2000000 in
theorem awake11_any (w : World) (hg : Laid2 w) : Calls Tryz.prog 14 #[] w fun e w' => e = .returned (.bool true) ∧ Below w.heap.size w w' := by
 have HG := Hi hg
 clear hg
 go_enter Tryz.func14, Tryz.ntmps14
 go_wp2_with fail
 refine (New_yes 10 (by decide) (by decide) w).mono ?_
 rintro e w1 ⟨D, rfl, hd, hb⟩
 have HF := Hi (Format_new H (n := 10) (by decide) (by decide) (fun _ => []) (Below.refl w.heap.size w) hd hb HG.out)
 clear hd hb
 go_wp2_with fail
 refine HF.out.mono ?_
 rintro e w2 ⟨P, rfl, hl⟩
 have HL : Hid (LawT O w (· < w.heap.size) w2 P D 10 (S0 10) (fun _ => [])) := Hi hl
 obtain ⟨S1, hput, ho1, ht1, hu1, -⟩ := first_put (n := 10) (S := S0 10) (firm := fun _ => []) (PInv.start (by decide) (by decide) _) (first_free (by decide) (by decide)) (key := 1) (by decide) (val := val12) rfl
 obtain ⟨met, hsv, -⟩ := svd_tree ho1 ht1 (fun q hq => by rw [List.mem_singleton.1 hq]; exact hu1) (by simp) (by decide)
 have HPU := Hi (Put_any H HL.out HG.out (Nat.zero_le _) 0 (key := 1) (by decide) (val := val12) (by unfold maxLen; decide))
 rw [hput] at HPU
 have HSV := Hi hsv
 clear hl HF hput ho1 ht1 hu1 hsv
 unfold val12 at HPU
 go_wp2_with fail
 refine HPU.out.mono ?_
 rintro e w3 ⟨hl, -, rfl⟩
 have HL3 := Hi hl
 clear hl HPU
 rw [show ((2 : Nat) : Int) = 2 from rfl]
 rw [show ((2 : Nat) : Int) = 2 from rfl] at HSV
 go_wp2_with fail
 refine (chkDepth_is H HL3.out HG.out HSV.out).mono ?_
 rintro e w4 ⟨u, rfl, he, hb⟩
 obtain rfl : u = .nilIface := ErrFrom.zero (show ErrFrom w4 w3.heap.size 0 u from he)
 have HB4 : Hid (Below w.heap.size w w4) := Hi (HL3.out.below.trans (hb.mono HL3.out.below.size))
 have HL4 := Hi (HL3.out.carry H hb)
 rw [show depZ ⟨[], met, ((0 : Nat) : Int) + 1, []⟩ = 1 from rfl]
 clear hb he
 go_wp2_with fail
 refine (Num_nil _).mono ?_
 rintro e w' ⟨rfl, rfl⟩
 go_wp2_with fail
 refine (Num_nil _).mono ?_
 rintro e w' ⟨rfl, rfl⟩
 go_wp2_with fail
 refine (Num_nil _).mono ?_
 rintro e w' ⟨rfl, rfl⟩
 go_wp2_with fail
 refine (Num_nil _).mono ?_
 rintro e w' ⟨rfl, rfl⟩
 go_wp2_with fail
 refine (chkSound_is H HL4.out HG.out (root := 0) (s := ⟨[], [], 0, []⟩) (.inl ⟨rfl, rfl⟩)).mono ?_
 rintro e w5 ⟨u, rfl, he, hb⟩
 obtain rfl : u = .nilIface := ErrFrom.zero (show ErrFrom w5 w4.heap.size 0 u from he)
 have HB5 : Hid (Below w.heap.size w w5) := Hi (HB4.out.trans (hb.mono HB4.out.size))
 clear hb he
 go_wp2_with fail
 refine (Num_nil _).mono ?_
 rintro e w' ⟨rfl, rfl⟩
 go_wp2_with fail
 go_ret
 exact ⟨rfl, HB5.out⟩
end
end Go.Proofs.YtafclmbecmgbnaaGreatDoor
