/- Contracts of Go's library at this program: generic functions at structs. -/
import Derived.Shelf.SlicesE.Clone
import Derived.Ground.SlgnProg
import Derived.Test.YtbicnkopmamnpaaProg
namespace Go.Proofs
open Go.Shelf
def Try.cloneEntries_ren : Go.Shelf.Ren := ⟨fun | 41 => 154 | n => n, fun | 22 => 24 | 23 => 34 | 4 => 4 | n => n, fun | n => n⟩
theorem Try.cloneEntries : Go.Proofs.SlLaysE0.n41 Try.prog Try.cloneEntries_ren := {
  mixed := by kernel_rfl
  f41 := ⟨Try.f154.name, by decide, Try.func154.trans (congrArg some (by kernel_rfl))⟩
  t4 := Try.underlying4
  a4 := Try.isAgg4
  z4 := Try.sizeOf4
  v4 := Try.zeroValue4
  t22 := Try.underlying24
  a22 := Try.isAgg24
  z22 := Try.sizeOf24
  v22 := Try.zeroValue24 }
def Try.revGlyphs_ren : Go.Shelf.Ren := ⟨fun | 35 => 181 | n => n, fun | 22 => 54 | 23 => 130 | 3 => 3 | 4 => 4 | 0 => 0 | n => n, fun | n => n⟩
theorem Try.revGlyphs : Go.Proofs.SlLaysE0.n35 Try.prog Try.revGlyphs_ren := {
  mixed := by kernel_rfl
  f35 := ⟨Try.f181.name, by decide, Try.func181.trans (congrArg some (by kernel_rfl))⟩
  t0 := Try.underlying0
  a0 := Try.isAgg0
  z0 := Try.sizeOf0
  v0 := Try.zeroValue0
  t3 := Try.underlying3
  a3 := Try.isAgg3
  z3 := Try.sizeOf3
  v3 := Try.zeroValue3
  t4 := Try.underlying4
  a4 := Try.isAgg4
  z4 := Try.sizeOf4
  v4 := Try.zeroValue4
  t22 := Try.underlying54
  a22 := Try.isAgg54
  z22 := Try.sizeOf54
  v22 := Try.zeroValue54 }
def Try.revPlaces_ren : Go.Shelf.Ren := ⟨fun | 35 => 94 | n => n, fun | 22 => 80 | 23 => 97 | 3 => 3 | 4 => 4 | 0 => 0 | n => n, fun | n => n⟩
theorem Try.revPlaces : Go.Proofs.SlLaysE0.n35 Try.prog Try.revPlaces_ren := {
  mixed := by kernel_rfl
  f35 := ⟨Try.f94.name, by decide, Try.func94.trans (congrArg some (by kernel_rfl))⟩
  t0 := Try.underlying0
  a0 := Try.isAgg0
  z0 := Try.sizeOf0
  v0 := Try.zeroValue0
  t3 := Try.underlying3
  a3 := Try.isAgg3
  z3 := Try.sizeOf3
  v3 := Try.zeroValue3
  t4 := Try.underlying4
  a4 := Try.isAgg4
  z4 := Try.sizeOf4
  v4 := Try.zeroValue4
  t22 := Try.underlying80
  a22 := Try.isAgg80
  z22 := Try.sizeOf80
  v22 := Try.zeroValue80 }
end Go.Proofs
