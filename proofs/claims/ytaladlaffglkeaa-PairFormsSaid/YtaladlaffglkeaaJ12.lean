/- Joined from: XRun CWrite XRead CEight. -/
import Derived.Test.YtaladlaffglkeaaJ01
import Derived.Test.YtaladlaffglkeaaJ10
import Derived.Test.YtaladlaffglkeaaJ08
import Derived.Test.YtaladlaffglkeaaJ09
import Derived.Test.YtaladlaffglkeaaJ04
import Derived.Test.YtaladlaffglkeaaJ03
section

/- A lookup's glyphs in the places of a line's: what Run of a subtable of single glyphs does. Conditions: a subtable and a line in memory; sizes. -/
namespace Go.Proofs.Ytaladlaffglkeaa
open Go.RowKit Go.Lib

/-- What a lookup gives a glyph. -/
abbrev LkF := Int → Nat × Bool
def lkR (bs : List UInt8) (rs : List RP) : LkF := fun id => getL (tabR bs rs).1 (tabR bs rs).2 id
end Go.Proofs.Ytaladlaffglkeaa
end
section

/- The bytes of a subtable of layer 15 as its law writes them: swashlaw15.Write. Conditions: a machine's plan and lookups in memory; sizes. -/
namespace Go.Proofs.Ytaladlaffglkeaa
open Go.RowKit Go.Lib

end Go.Proofs.Ytaladlaffglkeaa
end
section

/- Read of a subtable of single glyphs, and what its law asks first. Conditions: bytes as the slice says. -/
namespace Go.Proofs.Ytaladlaffglkeaa
open Go.RowKit Go.Lib

end Go.Proofs.Ytaladlaffglkeaa
end
section

/- A lookup of glyphs from 0 on, in a row: what it is, and what it gives. Conditions: numbers of two bytes; no more than 65535 glyphs. -/
namespace Go.Proofs.Ytaladlaffglkeaa
open Go.RowKit Go.Lib

end Go.Proofs.Ytaladlaffglkeaa
end
