/- Joined from: VRow. -/
import Derived.Test.YtaladlaffglkeaaJ13
import Derived.Test.YtaladlaffglkeaaJ01
import Derived.Test.YtaladlaffglkeaaJ04
section

/- Rows of numbers that a call makes: append, make. Conditions: sizes. -/
namespace Go.Proofs.Ytaladlaffglkeaa
open Go.RowKit Go.Lib

theorem info_int : (Try.prog.info? 3).map (fun i => (i.zero, i.size, i.bytes)) = some (some (.int .i64 0), 1, 8) := by kernel_rfl
end Go.Proofs.Ytaladlaffglkeaa
end
