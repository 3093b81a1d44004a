
/- swashlaw05.speaks returns true. No condition. -/
import Derived.Test.YthjnpfhcjacibaaSRead
import Derived.Test.YthjnpfhcjacibaaSPlace
namespace Go.Proofs.Ythjnpfhcjacibaa
open Go.RowKit

def two16 : List UInt8 := [0, 2, 0, 3, 0, 0, 0, 0, 0, 0, 0, 7, 0, 9, 255, 255]
theorem two16_ok : skOk two16 0 2 ∧ skM two16 0 1 = 2 ∧ skS two16 0 = 2 ∧ rowB two16 (0 + 10 + 1 * 2) 2 = [0, 9] := by
  refine ⟨⟨by decide, by decide, by decide⟩, by decide, by decide, by decide⟩
end Go.Proofs.Ythjnpfhcjacibaa
