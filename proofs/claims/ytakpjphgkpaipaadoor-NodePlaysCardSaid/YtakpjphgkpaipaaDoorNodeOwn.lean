/-
  The program's own Leaf, Right, Lay, Read, Seek are what the walks of layer 9 ask. Conditions: none.
-/
import Derived.Test.YtakpjphgkpaipaaDoorNodeSpec
import Derived.Test.YtakpjphgkpaipaaDoorNdLay
import Derived.Test.YtakpjphgkpaipaaDoorNdSeek
import Derived.Test.YtakpjphgkpaipaaDoorNdRead
namespace Go.Proofs.YtakpjphgkpaipaaDoor
open Go.RowKit

theorem nodeSpec : NodeSpec where
  leaf := fun {_ _ x} _ => Leaf_any x
  right := fun h => Right_any h
  layNo := fun h _ hr => Lay_no h hr
  layYes := fun h _ hr => Lay_yes h hr
  readNo := fun w s _ _ hr => (Read_any w s).mono (by
    rintro e w' (⟨_, v, h1, h2, h3⟩ | ⟨x, l, h1, _⟩)
    · exact ⟨Lay3.none_, v, h1, NdIs.empty _, h2, h3⟩
    · rw [hr] at h1; cases h1)
  readYes := fun w s x _ _ hr => (Read_any w s).mono (by
    rintro e w' (⟨h1, _⟩ | ⟨y, l, h1, h2, h3, h4⟩)
    · rw [hr] at h1; cases h1
    · rw [hr] at h1
      cases h1
      exact ⟨l, h2, h3, h4⟩)
  seek := fun h key _ _ => Seek_any h key
end Go.Proofs.YtakpjphgkpaipaaDoor
