/-
 TrAwake. Conditions: as each theorem says.
-/
import Derived.Test.YticbgbngookmnaaGreatDoorSm
import Derived.Test.YticbgbngookmnaaGreatDoorTc
import Derived.Test.YticbgbngookmnaaGreatDoorTrTopRange
import Derived.Test.YticbgbngookmnaaGreatDoorTe
import Derived.Test.YticbgbngookmnaaGreatDoorTrVal
import Derived.Test.YticbgbngookmnaaGreatDoorTd
namespace Go.Proofs.YticbgbngookmnaaGreatDoor
open Go.RowKit
abbrev S0 (n : Nat) : TS := ⟨switchD (Dk.new n) (Sb.bare 1), Pst.opened (Sb.bare 1), fun _ => []⟩
theorem first_free {n : Nat} (h3 : 3 ≤ n) (hn : n ≤ 240) : (S0 n).s.first n = some 2 := (StIs.opened_bare 1).first_some (PInv.start h3 hn (fun _ => [])) (by decide) (by omega) rfl fun m h1 h2 => absurd h2 (by omega)
def val12 : ByteArray := ⟨#[49, 50, 51, 52, 53, 54, 55, 56, 57, 48, 49, 50]⟩
section
variable {O : PgOwn} (H : PgSpec O)
include H
theorem LawT.here {w0 : World} {K : Nat → Prop} {w w' : World} {P D n : Nat} {S : TS} {firm : Nat → List UInt8} (h : LawT O w0 K w P D n S firm) (hb : Below w.heap.size w w') : LawT O w0 K w' P D n S firm := h.carry H hb
set_option maxRecDepth 100000 in
set_option maxHeartbeats 2000000 in
theorem awake10_any (w : World) (hg : Laid2 w) : Calls Tryz.prog 10 #[] w fun e w' => e = .returned (.bool true) ∧ Below w.heap.size w w' := by
 have HG := Hi hg
 clear hg
 go_enter Tryz.func10, Tryz.ntmps10
 go_wp2_with fail
 refine (New_yes 20 (by decide) (by decide) w).mono ?_
 rintro e w1 ⟨D, rfl, hd, hb⟩
 have HF := Hi (Format_new H (n := 20) (by decide) (by decide) (fun _ => []) (Below.refl w.heap.size w) hd hb HG.out)
 clear hd hb
 go_wp2_with fail
 refine HF.out.mono ?_
 rintro e w2 ⟨P, rfl, hl⟩
 have HL : Hid (LawT O w (· < w.heap.size) w2 P D 20 (S0 20) (fun _ => [])) := Hi hl
 obtain ⟨S1, hput, ho1, ht1, -, hget⟩ := first_put (n := 20) (S := S0 20) (firm := fun _ => []) (PInv.start (by decide) (by decide) _) (first_free (by decide) (by decide)) (key := 5) (by decide) (val := val12) rfl
 have HPU := Hi (Put_any H HL.out HG.out (Nat.zero_le _) 0 (key := 5) (by decide) (val := val12) (by unfold maxLen; decide))
 rw [hput] at HPU
 have HGT := Hi hget
 clear hl HF hput ho1 ht1 hget
 unfold val12 at HPU
 go_wp2_with fail
 refine HPU.out.mono ?_
 rintro e w3 ⟨hl, -, rfl⟩
 have HL3 := Hi hl
 have HGA := Hi (Get_any H HG.out hl 2 5)
 rw [show ((2 : Nat) : Int) = 2 from rfl] at HGT
 rw [HGT.out] at HGA
 clear hl HPU
 unfold val12 at HGA
 rw [show ((2 : Nat) : Int) = 2 from rfl]
 go_wp2_with fail
 refine HGA.out.mono ?_
 rintro e w4 ⟨rfl, hb⟩
 have HB4 : Hid (Below w.heap.size w w4) := Hi (HL3.out.below.trans (hb.mono HL3.out.below.size))
 clear hb HGA
 go_wp2_with fail
 refine (Num_nil _).mono ?_
 rintro e w' ⟨rfl, rfl⟩
 go_wp2_with fail
 refine (Num_nil _).mono ?_
 rintro e w' ⟨rfl, rfl⟩
 go_wp2_with fail
 refine (Num_nil _).mono ?_
 rintro e w' ⟨rfl, rfl⟩
 go_wp2_with fail
 refine (Num_nil _).mono ?_
 rintro e w' ⟨rfl, rfl⟩
 go_wp2_with fail
 go_ret
 exact ⟨rfl, HB4.out⟩
end
end Go.Proofs.YticbgbngookmnaaGreatDoor
