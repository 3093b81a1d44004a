
/- A class of worlds: all blocks that hold no bytes are as they were. -/
import Derived.Test.YthepejljgolcoaaSf2
import Derived.Test.YthepejljgolcoaaTree
namespace Go.Proofs.Ythepejljgolcoaa
open Go.RowKit
structure KeptW (W : World) where
  val : World
  is : Kept W val
instance (W : World) : Nonempty (KeptW W) := ⟨⟨W, Kept.refl W⟩⟩
theorem kept_start (W : World) : ∃ p : KeptW W, W.drew = p.val := ⟨⟨W.drew, Kept.below (bdrew1 (brefl W))⟩, rfl⟩
theorem kept_of {W W' : World} (h : Kept W W') : ∃ p : KeptW W, W' = p.val := ⟨⟨W', h⟩, rfl⟩
end Go.Proofs.Ythepejljgolcoaa
