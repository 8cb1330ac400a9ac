/-
 ChkSoundNil. Conditions: as each theorem says.
-/
import Derived.Test.YtafclmbecmgbnaaGreatDoorSm
import Derived.Test.YtafclmbecmgbnaaGreatDoorChkSurveyZ
import Derived.Test.YtafclmbecmgbnaaGreatDoorChkWrong
namespace Go.Proofs.YtafclmbecmgbnaaGreatDoor
open Go.RowKit
section
variable {O : PgOwn} (H : PgSpec O)
include H
theorem chkSound_nil (w : World) : Calls Tryz.prog 31 #[.pointer none, .int .i64 5] w (FromPost 9 w.heap.size w) := by
 have HC := Hi (Nz.survey_nil H (w := w) (S := S0 3) 5 (by decide) (by decide) 1 (by decide) rfl (by decide) (fun h => by cases h))
 go_enter Tryz.func31, Tryz.ntmps31
 go_wp2_with fail
 refine HC.out.mono ?_
 rintro e w' ⟨hb, u, rfl, he⟩
 have HE : Hid (ErrFrom w' w.heap.size 9 u) := Hi he
 have HB := Hi hb
 clear he hb HC
 dsimp only
 go_wp2_with fail
 go_ret
 exact ⟨u, rfl, HE.out, HB.out⟩
theorem chkWrong_walk (na nb nc nh : Nat) (ha : na < 256) (hb : nb < 256) (hc : nc < 256) (hh : nh < 256) (w : World) (hg : Laid2 w) :
  Calls Tryz.prog 4 #[.int .u8 (na : Int), .int .u8 (nb : Int), .int .u8 (nc : Int), .int .u8 (nh : Int)] w fun e w' => e = .returned (.bool true) ∧ Below w.heap.size w w' := chkWrong_walk0 H (chkSound_nil H) na nb nc nh ha hb hc hh w hg
end
end Go.Proofs.YtafclmbecmgbnaaGreatDoor
