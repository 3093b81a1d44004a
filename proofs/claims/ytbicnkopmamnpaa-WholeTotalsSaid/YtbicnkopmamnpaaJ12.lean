/- Joined from: XRun. -/
import Derived.Test.YtbicnkopmamnpaaJ01
import Derived.Test.YtbicnkopmamnpaaJ10
import Derived.Test.YtbicnkopmamnpaaJ08
section

/- A lookup's glyphs in the places of a line's: what Run of a subtable of single glyphs does. Conditions: a subtable and a line in memory; sizes. -/
namespace Go.Proofs.Ytbicnkopmamnpaa
open Go.RowKit Go.Lib

/-- What a lookup gives a glyph. -/
abbrev LkF := Int → Nat × Bool
def lkR (bs : List UInt8) (rs : List RP) : LkF := fun id => getL (tabR bs rs).1 (tabR bs rs).2 id
end Go.Proofs.Ytbicnkopmamnpaa
end
