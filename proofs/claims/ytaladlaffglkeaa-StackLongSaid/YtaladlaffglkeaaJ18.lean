/- Joined from: ISome ITake ITake2 IRead IIns IAct IDo IPure IRun. -/
import Derived.Test.YtaladlaffglkeaaJ01
import Derived.Test.YtaladlaffglkeaaJ17
import Derived.Test.YtaladlaffglkeaaJ15
import Derived.Test.YtaladlaffglkeaaJ16
import Derived.Test.YtaladlaffglkeaaJ13
import Derived.Test.YtaladlaffglkeaaJ03
section

/- ins: glyphs of the list, so many from one on. Conditions: a list as the slice says; numbers of an entry. -/
namespace Go.Proofs.Ytaladlaffglkeaa
open Go.RowKit Go.Lib

end Go.Proofs.Ytaladlaffglkeaa
end
section

/- ins.Take: such a subtable that a View begins with, or it throws. Conditions: as many bytes as the slice says. -/
namespace Go.Proofs.Ytaladlaffglkeaa
open Go.RowKit Go.Lib

end Go.Proofs.Ytaladlaffglkeaa
end
section

/- ins.Take: such a subtable that a View begins with, or it throws. Conditions: as many bytes as the slice says. -/
namespace Go.Proofs.Ytaladlaffglkeaa
open Go.RowKit Go.Lib

end Go.Proofs.Ytaladlaffglkeaa
end
section

/- ins.Read: such a subtable that bytes begin with, upon bytes of its own. Conditions: as many bytes as the slice says, no more than a hundred million; glyphs as an int. -/
namespace Go.Proofs.Ytaladlaffglkeaa
open Go.RowKit Go.Lib

end Go.Proofs.Ytaladlaffglkeaa
end
section

/- ins: glyphs are put ahead of a place, unless they are too many. Conditions: a line in memory; what is remembered along it in a block of the call's own; sizes. -/
namespace Go.Proofs.Ytaladlaffglkeaa
open Go.RowKit Go.Lib

end Go.Proofs.Ytaladlaffglkeaa
end
section

/- ins: what an entry puts at the mark; what it does at a place. Conditions: a subtable, a line and what is remembered along it, in memory; sizes. -/
namespace Go.Proofs.Ytaladlaffglkeaa
open Go.RowKit Go.Lib

end Go.Proofs.Ytaladlaffglkeaa
end
section

/- ins: what an entry does at a place. Conditions: a subtable, a line and what is remembered along it, in memory; sizes. -/
namespace Go.Proofs.Ytaladlaffglkeaa
open Go.RowKit Go.Lib

end Go.Proofs.Ytaladlaffglkeaa
end
section

/- ins: what an entry does at a place, as its walk tells it, is what the lists say. No walk; condition: flags of two bytes. -/
namespace Go.Proofs.Ytaladlaffglkeaa
open Go.RowKit Go.Lib

end Go.Proofs.Ytaladlaffglkeaa
end
section

/- ins.Run: what a subtable that puts glyphs between others does to a line. Conditions: a subtable and a line in memory; no more than half a million glyphs, with those that may be put. -/
namespace Go.Proofs.Ytaladlaffglkeaa
open Go.RowKit Go.Lib

end Go.Proofs.Ytaladlaffglkeaa
end
