/- Joined from: GBase GOps IV GNew GIns. -/
import Derived.Test.YtaladlaffglkeaaJ01
import Derived.Test.YtaladlaffglkeaaJ04
import Derived.Laws.CopyRow
import Derived.Laws.CopyOwn
import Derived.Lib.AppendZerosOnto
import Derived.Deep.AppendSrc
import Derived.Lib.Overlaps
import Derived.Lib.JoinLaws
import Derived.Laws.Externs
section

/- Glyphs as cells; copy between rows of elements of more cells than one; a line in memory. Conditions: sizes, as the lemmas say. -/
namespace Go.Proofs.Ytaladlaffglkeaa
open Go.RowKit

end Go.Proofs.Ytaladlaffglkeaa
end
section

/- Contracts of package line's small functions: Clone at glyphs, New, Of, Len, Glyphs, has, At, Set. Conditions: a line in memory; sizes. -/
namespace Go.Proofs.Ytaladlaffglkeaa
open Go.RowKit Go.Lib

end Go.Proofs.Ytaladlaffglkeaa
end
section

/- Rows of numbers as cells. No condition of its own. -/
namespace Go.Proofs.Ytaladlaffglkeaa
open Go.RowKit

end Go.Proofs.Ytaladlaffglkeaa
end
section

/- Contracts of line.New, and of the document's New, Turn, Clean, Set and Same of glyphs. Conditions: as many cells as the slices say; sizes. -/
namespace Go.Proofs.Ytaladlaffglkeaa
open Go.RowKit Go.Lib

end Go.Proofs.Ytaladlaffglkeaa
end
section

/- slices.Insert at glyphs, onto a row of the call's own; (*line.Line).Insert. Conditions: rows of their own, apart; a place that is there; sizes. -/
namespace Go.Proofs.Ytaladlaffglkeaa
open Go.RowKit Go.Lib

end Go.Proofs.Ytaladlaffglkeaa
end
