/-
  What the walks of layer 9 ask of the program's Leaf, Right, Lay, Read, Seek. Conditions: none; it is proved of the code itself in another text.
-/
import Derived.Test.YtakpjphgkpaipaaDoorNodeRef
namespace Go.Proofs.YtakpjphgkpaipaaDoor
open Go.RowKit

structure NodeSpec : Prop where
  leaf : ∀ {w l x}, NdIs w l x → Calls Tryd.prog 16 #[ndV l x] w fun e w' => e = .returned (.bool (decide (x.kids.length = 0))) ∧ Below w.heap.size w w'
  right : ∀ {w l x}, NdIs w l x → Calls Tryd.prog 13 #[ndV l x] w fun e w' => e = .returned (.bool (rightN x)) ∧ Below w.heap.size w w'
  layNo : ∀ {w l x}, NdIs w l x → Laid w → rightN x = false → Calls Tryd.prog 10 #[ndV l x] w fun e w' => ∃ v, e = .returned (.tuple #[.string ⟨#[]⟩, v]) ∧ ErrFrom w' w.heap.size 1 v ∧ Below w.heap.size w w'
  layYes : ∀ {w l x}, NdIs w l x → Laid w → rightN x = true → Calls Tryd.prog 10 #[ndV l x] w fun e w' => e = .returned (.tuple #[.string ⟨(layN x).toArray⟩, .nilIface]) ∧ Below w.heap.size w w'
  readNo : ∀ (w : World) (s : ByteArray), Laid w → s.size ≤ maxLen → readN s.data.toList = none → Calls Tryd.prog 14 #[.string s] w fun e w' => ∃ l v, e = .returned (.tuple #[ndV l Nd.empty, v]) ∧ NdIs w' l Nd.empty ∧ ErrFrom w' w.heap.size 2 v ∧ Below w.heap.size w w'
  readYes : ∀ (w : World) (s : ByteArray) (x : Nd), Laid w → s.size ≤ maxLen → readN s.data.toList = some x → Calls Tryd.prog 14 #[.string s] w fun e w' => ∃ l, e = .returned (.tuple #[ndV l x, .nilIface]) ∧ NdIs w' l x ∧ Below w.heap.size w w'
  seek : ∀ {w l x}, NdIs w l x → ∀ key : Int, -9223372036854775808 ≤ key → key ≤ 9223372036854775807 → Calls Tryd.prog 20 #[ndV l x, .int .i64 key] w fun e w' => e = .returned (.tuple #[.int .i64 ((seekN x key).1 : Int), .bool (seekN x key).2]) ∧ Below w.heap.size w w'
end Go.Proofs.YtakpjphgkpaipaaDoor
