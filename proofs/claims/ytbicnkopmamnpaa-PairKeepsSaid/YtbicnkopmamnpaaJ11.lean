/- Joined from: GBase GOps IV GNew GIns GIns2 GOrd GJoin. -/
import Derived.Test.YtbicnkopmamnpaaJ01
import Derived.Test.YtbicnkopmamnpaaJ04
import Derived.Laws.CopyRow
import Derived.Laws.CopyOwn
import Derived.Lib.AppendZerosOnto
import Derived.Deep.AppendSrc
import Derived.Lib.Overlaps
import Derived.Lib.JoinLaws
import Derived.Laws.Externs
section

/- Glyphs as cells; copy between rows of elements of more cells than one; a line in memory. Conditions: sizes, as the lemmas say. -/
namespace Go.Proofs.Ytbicnkopmamnpaa
open Go.RowKit

end Go.Proofs.Ytbicnkopmamnpaa
end
section

/- Contracts of package line's small functions: Clone at glyphs, New, Of, Len, Glyphs, has, At, Set. Conditions: a line in memory; sizes. -/
namespace Go.Proofs.Ytbicnkopmamnpaa
open Go.RowKit Go.Lib

end Go.Proofs.Ytbicnkopmamnpaa
end
section

/- Rows of numbers as cells. No condition of its own. -/
namespace Go.Proofs.Ytbicnkopmamnpaa
open Go.RowKit

end Go.Proofs.Ytbicnkopmamnpaa
end
section

/- Contracts of line.New, and of the document's New, Turn, Clean, Set and Same of glyphs. Conditions: as many cells as the slices say; sizes. -/
namespace Go.Proofs.Ytbicnkopmamnpaa
open Go.RowKit Go.Lib

end Go.Proofs.Ytbicnkopmamnpaa
end
section

/- slices.Insert at glyphs, onto a row of the call's own; (*line.Line).Insert. Conditions: rows of their own, apart; a place that is there; sizes. -/
namespace Go.Proofs.Ytbicnkopmamnpaa
open Go.RowKit Go.Lib

end Go.Proofs.Ytbicnkopmamnpaa
end
section

/- slices.Insert at glyphs, whatever place; (*line.Line).Insert. Conditions: rows of their own, apart; sizes. -/
namespace Go.Proofs.Ytbicnkopmamnpaa
open Go.RowKit Go.Lib

end Go.Proofs.Ytbicnkopmamnpaa
end
section

/- line.isOrder; (*line.Line).Order; the document's Order. Conditions: a line in memory; as many numbers as the slice says; sizes. -/
namespace Go.Proofs.Ytbicnkopmamnpaa
open Go.RowKit Go.Lib

/-- The numbers from 0 on, below how many they are, each once. -/
def IsOrd (o : List Int) : Prop := (∀ z ∈ o, 0 ≤ z ∧ z < (o.length : Int)) ∧ o.Nodup
instance (o : List Int) : Decidable (IsOrd o) := inferInstanceAs (Decidable (_ ∧ _))
end Go.Proofs.Ytbicnkopmamnpaa
end
section

/- (*line.Line).Join, and the document's Join. Conditions: a line in memory; as many numbers as the slice says; sizes. -/
namespace Go.Proofs.Ytbicnkopmamnpaa
open Go.RowKit Go.Lib

end Go.Proofs.Ytbicnkopmamnpaa
end
