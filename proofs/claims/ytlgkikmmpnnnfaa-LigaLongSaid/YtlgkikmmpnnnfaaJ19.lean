/- Joined from: ISome ITake ITake2 IRead IIns IAct IDo IPure IRun IWrite. -/
import Derived.Test.YtlgkikmmpnnnfaaJ01
import Derived.Test.YtlgkikmmpnnnfaaJ17
import Derived.Test.YtlgkikmmpnnnfaaJ13
import Derived.Test.YtlgkikmmpnnnfaaJ14
import Derived.Test.YtlgkikmmpnnnfaaJ12
import Derived.Test.YtlgkikmmpnnnfaaJ02
section

/- ins: glyphs of the list, so many from one on. Conditions: a list as the slice says; numbers of an entry. -/
namespace Go.Proofs.Ytlgkikmmpnnnfaa
open Go.RowKit Go.Lib

end Go.Proofs.Ytlgkikmmpnnnfaa
end
section

/- ins.Take: such a subtable that a View begins with, or it throws. Conditions: as many bytes as the slice says. -/
namespace Go.Proofs.Ytlgkikmmpnnnfaa
open Go.RowKit Go.Lib

end Go.Proofs.Ytlgkikmmpnnnfaa
end
section

/- ins.Take: such a subtable that a View begins with, or it throws. Conditions: as many bytes as the slice says. -/
namespace Go.Proofs.Ytlgkikmmpnnnfaa
open Go.RowKit Go.Lib

end Go.Proofs.Ytlgkikmmpnnnfaa
end
section

/- ins.Read: such a subtable that bytes begin with, upon bytes of its own. Conditions: as many bytes as the slice says, no more than a hundred million; glyphs as an int. -/
namespace Go.Proofs.Ytlgkikmmpnnnfaa
open Go.RowKit Go.Lib

end Go.Proofs.Ytlgkikmmpnnnfaa
end
section

/- ins: glyphs are put ahead of a place, unless they are too many. Conditions: a line in memory; what is remembered along it in a block of the call's own; sizes. -/
namespace Go.Proofs.Ytlgkikmmpnnnfaa
open Go.RowKit Go.Lib

/-- What is remembered along a line: the own glyph's place, the mark, how many are put, how many are left, whether they were too many. -/
structure RS where
  own : Int
  mark : Int
  put : Int
  lf : Int
  ov : Bool
def runC (gt gl : Nat) (s : RS) : Array Value := #[.pointer (some ⟨gt, 0, none⟩), .pointer (some ⟨gl, 0, none⟩), .int .i64 s.own, .int .i64 s.mark, .int .i64 s.put, .int .i64 s.lf, .bool s.ov]
/-- The line's row is the one at first, or a new one. -/
def RowOf (bk : Option Nat) (N : Nat) (a : Option Addr) : Prop := ∀ k, a.map (·.block) = some k → bk = some k ∨ N ≤ k
/-- The line, and what is remembered. -/
structure LR (bk : Option Nat) (B gt gl gr N : Nat) (l : List (Int × Int)) (s : RS) (w : World) : Prop where
  line : ∃ a c, GIs B gl a c l w ∧ RowOf bk N a
  run : w.heap[gr]? = some (.cells (runC gt gl s) 133 (0, 0))
end Go.Proofs.Ytlgkikmmpnnnfaa
end
section

/- ins: what an entry puts at the mark; what it does at a place. Conditions: a subtable, a line and what is remembered along it, in memory; sizes. -/
namespace Go.Proofs.Ytlgkikmmpnnnfaa
open Go.RowKit Go.Lib

end Go.Proofs.Ytlgkikmmpnnnfaa
end
section

/- ins: what an entry does at a place. Conditions: a subtable, a line and what is remembered along it, in memory; sizes. -/
namespace Go.Proofs.Ytlgkikmmpnnnfaa
open Go.RowKit Go.Lib

end Go.Proofs.Ytlgkikmmpnnnfaa
end
section

/- ins: what an entry does at a place, as its walk tells it, is what the lists say. No walk; condition: flags of two bytes. -/
namespace Go.Proofs.Ytlgkikmmpnnnfaa
open Go.RowKit Go.Lib

end Go.Proofs.Ytlgkikmmpnnnfaa
end
section

/- ins.Run: what a subtable that puts glyphs between others does to a line. Conditions: a subtable and a line in memory; no more than half a million glyphs, with those that may be put. -/
namespace Go.Proofs.Ytlgkikmmpnnnfaa
open Go.RowKit Go.Lib

end Go.Proofs.Ytlgkikmmpnnnfaa
end
section

/- The law's Write of layer 18: a plan's bytes. Conditions: a plan in memory; sizes. -/
namespace Go.Proofs.Ytlgkikmmpnnnfaa
open Go.RowKit Go.Lib

end Go.Proofs.Ytlgkikmmpnnnfaa
end
