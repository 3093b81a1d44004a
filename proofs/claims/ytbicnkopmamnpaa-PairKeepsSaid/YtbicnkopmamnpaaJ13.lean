/- Joined from: XRun CWrite XRead DBits DSpec KSwap KSpec KRead KLaw KReadW CEight DEnt CMap CList CAsk CTake DRef DWay KRef DRun CRun CRead CSpk KRun CIdleP XBytes XLig XLong XIns XPair. -/
import Derived.Test.YtbicnkopmamnpaaJ11
import Derived.Test.YtbicnkopmamnpaaJ08
import Derived.Test.YtbicnkopmamnpaaJ10
import Derived.Test.YtbicnkopmamnpaaJ04
import Derived.Test.YtbicnkopmamnpaaJ03
import Derived.Test.YtbicnkopmamnpaaJ01
import Derived.Deep.WholeRow
import Derived.Maps.OwnOps
import Derived.Maps.OwnSet
import Derived.Test.YtbicnkopmamnpaaJ09
section

/- A lookup's glyphs in the places of a line's: what Run of a subtable of single glyphs does. Conditions: a subtable and a line in memory; sizes. -/
namespace Go.Proofs.Ytbicnkopmamnpaa
open Go.RowKit Go.Lib

/-- What a lookup gives a glyph. -/
abbrev LkF := Int → Nat × Bool
def lkR (bs : List UInt8) (rs : List RP) : LkF := fun id => getL (tabR bs rs).1 (tabR bs rs).2 id
end Go.Proofs.Ytbicnkopmamnpaa
end
section

/- The bytes of a subtable of layer 15 as its law writes them: swashlaw15.Write. Conditions: a machine's plan and lookups in memory; sizes. -/
namespace Go.Proofs.Ytbicnkopmamnpaa
open Go.RowKit Go.Lib

end Go.Proofs.Ytbicnkopmamnpaa
end
section

/- Read of a subtable of single glyphs, and what its law asks first. Conditions: bytes as the slice says. -/
namespace Go.Proofs.Ytbicnkopmamnpaa
open Go.RowKit Go.Lib

end Go.Proofs.Ytbicnkopmamnpaa
end
section

/- Flags of an entry, as bits. Condition: numbers of two bytes. -/
namespace Go.Proofs.Ytbicnkopmamnpaa
open Go.RowKit

end Go.Proofs.Ytbicnkopmamnpaa
end
section

/- A machine on its way along a line, as a function; drive's classAt at any place. Conditions: a machine and a line in memory; sizes. -/
namespace Go.Proofs.Ytbicnkopmamnpaa
open Go.RowKit Go.Lib

end Go.Proofs.Ytbicnkopmamnpaa
end
section

/- Lookups of a subtable that changes glyphs by what stands around them, as the document has them, and what its swap does. Conditions: the lookups in memory; sizes. -/
namespace Go.Proofs.Ytbicnkopmamnpaa
open Go.RowKit Go.Lib

end Go.Proofs.Ytbicnkopmamnpaa
end
section

/- Such a subtable of layer 15, as its bytes tell it. No condition. -/
namespace Go.Proofs.Ytbicnkopmamnpaa
open Go.RowKit Go.Lib

end Go.Proofs.Ytbicnkopmamnpaa
end
section

/- The document's Read of layer 15. Conditions: bytes as the slice says; sizes. -/
namespace Go.Proofs.Ytbicnkopmamnpaa
open Go.RowKit Go.Lib

theorem heap10_at {W : World} {g : Nat} {x0 x1 x2 x3 x4 x5 x6 x7 x8 x9 : Value} {t : TypeId} (h : W.heap[g]? = some (.cells #[x0, x1, x2, x3, x4, x5, x6, x7, x8, x9] t (0, 0))) (v0 v1 v2 v3 v4 v5 v6 v7 v8 v9 : Value) :
    ((((((((((W.setCell ⟨g, 0, none⟩ v0).setCell ⟨g, 1, none⟩ v1).setCell ⟨g, 2, none⟩ v2).setCell ⟨g, 3, none⟩ v3).setCell ⟨g, 4, none⟩ v4).setCell ⟨g, 5, none⟩ v5).setCell ⟨g, 6, none⟩ v6).setCell ⟨g, 7, none⟩ v7).setCell ⟨g, 8, none⟩ v8).setCell ⟨g, 9, none⟩ v9).heap[g]? = some (.cells #[v0, v1, v2, v3, v4, v5, v6, v7, v8, v9] t (0, 0)) := by
  have h := set_heap_at (o := 0) v0 h
  have h := set_heap_at (o := 1) v1 h
  have h := set_heap_at (o := 2) v2 h
  have h := set_heap_at (o := 3) v3 h
  have h := set_heap_at (o := 4) v4 h
  have h := set_heap_at (o := 5) v5 h
  have h := set_heap_at (o := 6) v6 h
  have h := set_heap_at (o := 7) v7 h
  have h := set_heap_at (o := 8) v8 h
  have h := set_heap_at (o := 9) v9 h
  simpa using h
theorem below10 {B : Nat} {w W : World} (h : Below B w W) {g : Nat} (hg : B ≤ g) (v0 v1 v2 v3 v4 v5 v6 v7 v8 v9 : Value) :
    Below B w ((((((((((W.setCell ⟨g, 0, none⟩ v0).setCell ⟨g, 1, none⟩ v1).setCell ⟨g, 2, none⟩ v2).setCell ⟨g, 3, none⟩ v3).setCell ⟨g, 4, none⟩ v4).setCell ⟨g, 5, none⟩ v5).setCell ⟨g, 6, none⟩ v6).setCell ⟨g, 7, none⟩ v7).setCell ⟨g, 8, none⟩ v8).setCell ⟨g, 9, none⟩ v9) := by
  exact ((((((((((h.setCell (p := ⟨g, 0, none⟩) hg v0).setCell (p := ⟨g, 1, none⟩) hg v1).setCell (p := ⟨g, 2, none⟩) hg v2).setCell (p := ⟨g, 3, none⟩) hg v3).setCell (p := ⟨g, 4, none⟩) hg v4).setCell (p := ⟨g, 5, none⟩) hg v5).setCell (p := ⟨g, 6, none⟩) hg v6).setCell (p := ⟨g, 7, none⟩) hg v7).setCell (p := ⟨g, 8, none⟩) hg v8).setCell (p := ⟨g, 9, none⟩) hg v9)
end Go.Proofs.Ytbicnkopmamnpaa
end
section

/- Laws for a struct of some cells: loaded, stored, made anew, in one step each. Conditions: the block is known whole. -/
namespace Go.Proofs.Ytbicnkopmamnpaa
open Go.RowKit Go.Lib

end Go.Proofs.Ytbicnkopmamnpaa
end
section

/- The document's Read of layer 15: of bytes that begin with a machine. Conditions: bytes as the slice says; sizes. -/
namespace Go.Proofs.Ytbicnkopmamnpaa
open Go.RowKit Go.Lib

end Go.Proofs.Ytbicnkopmamnpaa
end
section

/- A lookup of glyphs from 0 on, in a row: what it is, and what it gives. Conditions: numbers of two bytes; no more than 65535 glyphs. -/
namespace Go.Proofs.Ytbicnkopmamnpaa
open Go.RowKit Go.Lib

end Go.Proofs.Ytbicnkopmamnpaa
end
section

/- What a plan's bytes tell of its entries' flags; entries as cells. No walk. -/
namespace Go.Proofs.Ytbicnkopmamnpaa
open Go.RowKit Go.Lib

end Go.Proofs.Ytbicnkopmamnpaa
end
section

/- A map of lookups by where they stand, and a row of them. Conditions: as each says. -/
namespace Go.Proofs.Ytbicnkopmamnpaa
open Go.RowKit Go.Lib

end Go.Proofs.Ytbicnkopmamnpaa
end
section

/- ctx.take: so many lookups whose places stand in a list. Conditions: as many bytes as the slice says; sizes. -/
namespace Go.Proofs.Ytbicnkopmamnpaa
open Go.RowKit Go.Lib

end Go.Proofs.Ytbicnkopmamnpaa
end
section

/- ctx.asked: how many lookups some entries ask for. Conditions: entries as their bytes tell them. -/
namespace Go.Proofs.Ytbicnkopmamnpaa
open Go.RowKit Go.Lib

end Go.Proofs.Ytbicnkopmamnpaa
end
section

/- ctx.Take: such a subtable that a View begins with, or it throws. Conditions: as many bytes as the slice says. -/
namespace Go.Proofs.Ytbicnkopmamnpaa
open Go.RowKit Go.Lib

end Go.Proofs.Ytbicnkopmamnpaa
end
section

/- The document's Begin, Next and Go: where a machine is on its way. Conditions: a machine in memory; sizes. -/
namespace Go.Proofs.Ytbicnkopmamnpaa
open Go.RowKit Go.Lib

end Go.Proofs.Ytbicnkopmamnpaa
end
section

/- The document's way of a machine, told of the machine along a line as a function; seven stores into one block. No condition. -/
namespace Go.Proofs.Ytbicnkopmamnpaa
open Go.RowKit Go.Lib

end Go.Proofs.Ytbicnkopmamnpaa
end
section

/- The document's Run of layer 15. Conditions: a machine and lookups in memory; sizes. -/
namespace Go.Proofs.Ytbicnkopmamnpaa
open Go.RowKit Go.Lib

end Go.Proofs.Ytbicnkopmamnpaa
end
section

/- drive.Run, with an act made by Plain: a machine goes along a line, whatever the act does by its own contract. Conditions: a machine and a line in memory; the act keeps the machine, and what else is known; sizes. -/
namespace Go.Proofs.Ytbicnkopmamnpaa
open Go.RowKit Go.Lib

end Go.Proofs.Ytbicnkopmamnpaa
end
section

/- ctx.Run: what a subtable that changes glyphs by what stands around them does to a line. Conditions: a subtable and a line in memory; sizes. -/
namespace Go.Proofs.Ytbicnkopmamnpaa
open Go.RowKit Go.Lib

end Go.Proofs.Ytbicnkopmamnpaa
end
section

/- ctx.Read: such a subtable that bytes begin with. Conditions: as many bytes as the slice says; glyphs as an int. -/
namespace Go.Proofs.Ytbicnkopmamnpaa
open Go.RowKit Go.Lib

end Go.Proofs.Ytbicnkopmamnpaa
end
section

/- What law 15 asks first: a mark, and a change there. No condition. -/
namespace Go.Proofs.Ytbicnkopmamnpaa
open Go.RowKit Go.Lib

end Go.Proofs.Ytbicnkopmamnpaa
end
section

/- The document's subtable of layer 15 beside the code's: what both read of bytes, and what their lookups give; clusters stay. Conditions: as each says. -/
namespace Go.Proofs.Ytbicnkopmamnpaa
open Go.RowKit Go.Lib


end Go.Proofs.Ytbicnkopmamnpaa
end
section

/- A subtable of layer 15 whose entries name no lookup, or whose lookups have no glyph: its bytes, and that it changes no line. Conditions: a plan of a machine; the bytes' places below 65536. No walk. -/
namespace Go.Proofs.Ytbicnkopmamnpaa
open Go.RowKit Go.Lib

end Go.Proofs.Ytbicnkopmamnpaa
end
section

/- The bytes of subtables of layers 17 and 18, as their laws write them: where the lists stand, what is in them, the entries. No walk. Conditions: the bytes' places below 65536. -/
namespace Go.Proofs.Ytbicnkopmamnpaa
open Go.RowKit Go.Lib

section
variable {p : PlanL}
end
end Go.Proofs.Ytbicnkopmamnpaa
end
section

/- What a subtable of layer 17 does to a line, as lists: places that are kept, actions, glyphs that become one. No walk, no condition: places that are kept are places of the line; clusters grow no greater than their place; without Perform, or without Push, the line stays. -/
namespace Go.Proofs.Ytbicnkopmamnpaa
open Go.RowKit Go.Lib

end Go.Proofs.Ytbicnkopmamnpaa
end
section

/- Layer 17: of however many glyphs that are kept one behind the other, no more than sixty-four become one. No walk; what the bytes tell of the machine and its lists is laid down as it is asked for. -/
namespace Go.Proofs.Ytbicnkopmamnpaa
open Go.RowKit Go.Lib

end Go.Proofs.Ytbicnkopmamnpaa
end
section

/- What a subtable of layer 18 does to a line, as lists: what is put, where the mark and the step's own glyph come to stand, how many are left. No walk: the line's own glyphs stay, in their order; as many more as it says, and no more than may be; with just as many left it is the same, with fewer it runs out; without lists it stays. -/
namespace Go.Proofs.Ytbicnkopmamnpaa
open Go.RowKit Go.Lib

end Go.Proofs.Ytbicnkopmamnpaa
end
section

/- What a subtable of layer 17, or 18, is, as its bytes tell it; and the plan that makes one glyph of two: what its bytes tell, and what it does to a line of glyphs 0 and a last one 1. No walk. Conditions: actions of four bytes, no more than two hundred. -/
namespace Go.Proofs.Ytbicnkopmamnpaa
open Go.RowKit Go.Lib

section
variable (acts : List Nat)
end
end Go.Proofs.Ytbicnkopmamnpaa
end
