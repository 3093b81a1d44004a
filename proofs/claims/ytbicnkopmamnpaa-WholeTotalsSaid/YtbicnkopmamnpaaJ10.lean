/- Joined from: GBase GOps IV GNew. -/
import Derived.Test.YtbicnkopmamnpaaJ01
import Derived.Test.YtbicnkopmamnpaaJ04
import Derived.Laws.CopyRow
import Derived.Laws.CopyOwn
import Derived.Lib.AppendZerosOnto
import Derived.Deep.AppendSrc
import Derived.Lib.Overlaps
import Derived.Lib.JoinLaws
section

/- Glyphs as cells; copy between rows of elements of more cells than one; a line in memory. Conditions: sizes, as the lemmas say. -/
namespace Go.Proofs.Ytbicnkopmamnpaa
open Go.RowKit

def gv (l : List (Int × Int)) : List Value := l.flatMap fun g => [.int .i64 g.1, .int .i64 g.2]
/-- What a change of a line may touch: its block, and its glyphs'. -/
structure GStep (B g : Nat) (a a' : Option Addr) (w w' : World) : Prop where
  below : Below B w w'
  keep : ∀ k, k < w.heap.size → k ≠ g → some k ≠ a.map (·.block) → w'.heap[k]? = w.heap[k]?
  new : ∀ k, a'.map (·.block) = some k → a.map (·.block) = some k ∨ w.heap.size ≤ k
theorem GStep.of_below {B g : Nat} {a : Option Addr} {w w' : World} (h : Below w.heap.size w w') (hB : B ≤ w.heap.size) : GStep B g a a w w' := ⟨h.mono hB, fun k hk _ _ => h.block k hk, fun _ h => .inl h⟩
theorem GStep.trans {B g : Nat} {a b c : Option Addr} {w1 w2 w3 : World} (h : GStep B g a b w1 w2) (k : GStep B g b c w2 w3) : GStep B g a c w1 w3 :=
  ⟨h.below.trans k.below, fun x hx hg ha => by
    have hs := h.below.size
    rw [k.keep x (by omega) hg (fun e => by rcases h.new x e.symm with e | e; exact ha e.symm; omega), h.keep x hx hg ha],
   fun x hx => by
    have hs := h.below.size
    rcases k.new x hx with e | e
    · exact h.new x e
    · exact .inr (by omega)⟩
end Go.Proofs.Ytbicnkopmamnpaa
end
section

/- Contracts of package line's small functions: Clone at glyphs, New, Of, Len, Glyphs, has, At, Set. Conditions: a line in memory; sizes. -/
namespace Go.Proofs.Ytbicnkopmamnpaa
open Go.RowKit Go.Lib

end Go.Proofs.Ytbicnkopmamnpaa
end
section

/- Rows of numbers as cells. No condition of its own. -/
namespace Go.Proofs.Ytbicnkopmamnpaa
open Go.RowKit

def iv (ids : List Int) : List Value := ids.map fun z => .int .i64 z
theorem iv_get {ids : List Int} {j : Nat} {z : Int} (h : ids[j]? = some z) : (iv ids)[j]? = some (.int .i64 z) := by simp [iv, List.getElem?_map, h]
theorem iv_length (ids : List Int) : (iv ids).length = ids.length := by simp [iv]
/-- A number of a slice of numbers. -/
theorem iv_at {w : World} {a : Option Addr} {ids : List Int} (h : Has w a (iv ids)) {k : Nat} (hk : k < ids.length) : ∃ g o z, a = some ⟨g, o, none⟩ ∧ g < w.heap.size ∧ ids[k]? = some z ∧ w.cell? ⟨g, o + k, none⟩ = some (.int .i64 z) := by
  obtain ⟨g, o, ha, hg, hx⟩ := h.get (by rw [iv_length]; omega)
  exact ⟨g, o, ids[k], ha, hg, List.getElem?_eq_getElem hk, hx k _ (iv_get (List.getElem?_eq_getElem hk))⟩
end Go.Proofs.Ytbicnkopmamnpaa
end
section

/- Contracts of line.New, and of the document's New, Turn, Clean, Set and Same of glyphs. Conditions: as many cells as the slices say; sizes. -/
namespace Go.Proofs.Ytbicnkopmamnpaa
open Go.RowKit Go.Lib

end Go.Proofs.Ytbicnkopmamnpaa
end
