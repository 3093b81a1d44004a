
/- Contract of the reference's Rows. Conditions: sizes as the law hands them in. -/
import Derived.Test.YthjnpfhcjacibaaCut
namespace Go.Proofs.Ythjnpfhcjacibaa
open Go.RowKit

end Go.Proofs.Ythjnpfhcjacibaa
