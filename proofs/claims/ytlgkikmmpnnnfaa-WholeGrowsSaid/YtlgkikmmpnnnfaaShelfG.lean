/- Contracts of Go's library at this program: generic functions at structs. -/
import Derived.Shelf.SlicesE.Clone
import Derived.Ground.SlgnProg
import Derived.Test.YtlgkikmmpnnnfaaProg
namespace Go.Proofs
open Go.Shelf
def Try.cloneEntries_ren : Go.Shelf.Ren := ⟨fun | 41 => 102 | n => n, fun | 22 => 49 | 23 => 64 | 4 => 4 | n => n, fun | n => n⟩
theorem Try.cloneEntries : Go.Proofs.SlLaysE0.n41 Try.prog Try.cloneEntries_ren := {
  mixed := by kernel_rfl
  f41 := ⟨Try.f102.name, by decide, Try.func102.trans (congrArg some (by kernel_rfl))⟩
  t4 := Try.underlying4
  a4 := Try.isAgg4
  z4 := Try.sizeOf4
  v4 := Try.zeroValue4
  t22 := Try.underlying49
  a22 := Try.isAgg49
  z22 := Try.sizeOf49
  v22 := Try.zeroValue49 }
def Try.revGlyphs_ren : Go.Shelf.Ren := ⟨fun | 35 => 136 | n => n, fun | 22 => 41 | 23 => 59 | 3 => 3 | 4 => 4 | 0 => 0 | n => n, fun | n => n⟩
theorem Try.revGlyphs : Go.Proofs.SlLaysE0.n35 Try.prog Try.revGlyphs_ren := {
  mixed := by kernel_rfl
  f35 := ⟨Try.f136.name, by decide, Try.func136.trans (congrArg some (by kernel_rfl))⟩
  t0 := Try.underlying0
  a0 := Try.isAgg0
  z0 := Try.sizeOf0
  v0 := Try.zeroValue0
  t3 := Try.underlying3
  a3 := Try.isAgg3
  z3 := Try.sizeOf3
  v3 := Try.zeroValue3
  t4 := Try.underlying4
  a4 := Try.isAgg4
  z4 := Try.sizeOf4
  v4 := Try.zeroValue4
  t22 := Try.underlying41
  a22 := Try.isAgg41
  z22 := Try.sizeOf41
  v22 := Try.zeroValue41 }
end Go.Proofs
