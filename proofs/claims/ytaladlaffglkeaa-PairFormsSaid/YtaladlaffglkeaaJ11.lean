/- Joined from: PlA. -/
import Derived.Test.YtaladlaffglkeaaJ01
import Derived.Test.YtaladlaffglkeaaJ10
section

/- Places as cells; Clamp and Add, the code's and the document's; what Along, Across, Level and Shift make of a list of places. Conditions: sizes. -/
namespace Go.Proofs.Ytaladlaffglkeaa
open Go.RowKit Go.Lib

/-- A place: how far it moves on, and how far it stands off. -/
abbrev Pl := Int × Int × Int
end Go.Proofs.Ytaladlaffglkeaa
end
