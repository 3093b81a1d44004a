/- Contracts of Go's library at this program: generic functions at structs. -/
import Derived.Shelf.SlicesE.Clone
import Derived.Ground.SlgnProg
import Derived.Test.YtaladlaffglkeaaProg
namespace Go.Proofs
open Go.Shelf
def Try.cloneEntries_ren : Go.Shelf.Ren := ⟨fun | 41 => 154 | n => n, fun | 22 => 49 | 23 => 88 | 4 => 4 | n => n, fun | n => n⟩
theorem Try.cloneEntries : Go.Proofs.SlLaysE0.n41 Try.prog Try.cloneEntries_ren := {
  mixed := by kernel_rfl
  f41 := ⟨Try.f154.name, by decide, Try.func154.trans (congrArg some (by kernel_rfl))⟩
  t4 := Try.underlying4
  a4 := Try.isAgg4
  z4 := Try.sizeOf4
  v4 := Try.zeroValue4
  t22 := Try.underlying49
  a22 := Try.isAgg49
  z22 := Try.sizeOf49
  v22 := Try.zeroValue49 }
end Go.Proofs
