/- Joined from: Leaf LTab LGet LAdd LAdd2 LAlike LApart LTrim LGetT LSpec LTake8 LTake2 LTake10 LTake4 LRead LAll LMost LSpeak SRead SSpeak SPlaceLaw SRef LRefS. -/
import Derived.Test.YthehcbbdkiomnaaJ04
import Derived.Test.YthehcbbdkiomnaaJ03
import Derived.Test.YthehcbbdkiomnaaJ01
import Derived.RangeFuncNested
import Derived.RangeFuncBound
import Derived.RangeFuncCalls
import Derived.RangeFuncLeaves
import Derived.Shelf.Abstract
import Derived.WalkKit
import Derived.OwnWalkIn
import Derived.TacticsInMore
import Derived.LoopNIn
import Derived.LoopIn
import Derived.Test.YthehcbbdkiomnaaJ02
section

/- What several orders come to where the addresses of two new blocks hang on the order. No condition of its own. -/
namespace Go.Proofs.Ythehcbbdkiomnaa
open Go.RowKit

theorem fill_blank (ts : Array Value) (js : List Nat) (h : ∀ j ∈ js, j < ts.size) : fill (fun j => ts.getD j undef) js (blank js ts) = ts := by
  apply Array.ext_getElem?
  intro k
  rw [fill_get, blank_get, blank_size]
  by_cases hk : k ∈ js
  · have hl := h k hk
    simp [hk, hl, Array.getD]
  · simp [hk]
/-- What several orders come to where the values of some slots hang on the order. -/
theorem leaf_vals {Q : Exit → Act → World → Prop} {ts us : Array Value} {ds : List Deferred} {W : World} (js : List Nat) (P : (Nat → Value) → World → Prop) (hj : js.all (fun j => decide (j < ts.size)) = true) (hus : blank js ts = us)
    (hfin : ∀ (x : Nat → Value) (W' : World), P x W' → Q .normal ⟨fill x js us, ds⟩ W') (hP : P (fun j => ts.getD j undef) W) : Q .normal ⟨ts, ds⟩ W := by
  have e := fill_blank ts js (fun j hm => by simpa using (List.all_eq_true.1 hj) j hm)
  rw [hus] at e
  have := hfin _ W hP
  rw [e] at this
  exact this
theorem str_wld' {w : World} {base n c : Nat} {a : Option Addr} {bs : List UInt8} (h : w.ownsRow base 5 1 (.slice a n c) n (bytesV bs)) (hl : bs.length = n) (X : List Nat) (hX : ∀ x, x ∈ X → x < base) (p : Wld w X) :
    (convert 22 9 (.slice a n c)).run Try.prog p.val = .ok (.string (str bs)) p.val := by
  refine run_str Try.underlying22 Try.underlying5 Try.underlying9 ?_ hl
  intro j u hu
  obtain ⟨q, hq, hc⟩ := has_of_owns h j u hu
  refine ⟨q, hq, ?_⟩
  rw [World.cell?_of_block (p.is.block _ (cell_lt hc) ?_)]
  · exact hc
  · intro hm
    have h1 := hX _ hm
    rw [add_block] at h1
    rcases h.2 with ⟨hv, _⟩ | ⟨g, cap, cur, hv, hg, _⟩
    · cases hv; cases hq
    · injection hv with h2
      rw [h2] at hq
      cases hq
      simp only at h1
      omega
end Go.Proofs.Ythehcbbdkiomnaa
end
section

/- A lookup's table in memory, and the contract of (*Table).of. Conditions: as the lemmas say. -/
namespace Go.Proofs.Ythehcbbdkiomnaa
open Go.RowKit Go.Lib

end Go.Proofs.Ythehcbbdkiomnaa
end
section

/- The closure of (*Table).Get. Condition: a table in memory, the closure's two cells. -/
namespace Go.Proofs.Ythehcbbdkiomnaa
open Go.RowKit Go.Lib

end Go.Proofs.Ythehcbbdkiomnaa
end
section

/- (*Table).add throws where the part isn't above those that there are. Conditions: a table in memory, numbers within bounds. -/
namespace Go.Proofs.Ythehcbbdkiomnaa
open Go.RowKit Go.Lib

end Go.Proofs.Ythehcbbdkiomnaa
end
section

/- (*Table).add: a part above those that there are is put behind them. Conditions: a table in memory whose block is above the base; numbers within bounds. -/
namespace Go.Proofs.Ythehcbbdkiomnaa
open Go.RowKit Go.Lib

end Go.Proofs.Ythehcbbdkiomnaa
end
section

/- (*Table).alike. Conditions: a table in memory whose block is above the base; numbers within bounds. -/
namespace Go.Proofs.Ythehcbbdkiomnaa
open Go.RowKit Go.Lib

end Go.Proofs.Ythehcbbdkiomnaa
end
section

/- (*Table).apart. Conditions: a table in memory whose block is above the base, bytes below it; numbers within bounds. -/
namespace Go.Proofs.Ythehcbbdkiomnaa
open Go.RowKit Go.Lib

end Go.Proofs.Ythehcbbdkiomnaa
end
section

/- (*Table).trim of an empty table. Conditions: a table in memory whose block is above the base, bytes below it. -/
namespace Go.Proofs.Ythehcbbdkiomnaa
open Go.RowKit Go.Lib

end Go.Proofs.Ythehcbbdkiomnaa
end
section

/- The contract of (*Table).Get. Conditions: a table in memory, its parts rising, its numbers there. -/
namespace Go.Proofs.Ythehcbbdkiomnaa
open Go.RowKit Go.Lib

end Go.Proofs.Ythehcbbdkiomnaa
end
section

/- What a lookup is, by its bytes: parts, and the table that they make. Conditions: as the lemmas say. -/
namespace Go.Proofs.Ythehcbbdkiomnaa
open Go.RowKit Go.Lib

end Go.Proofs.Ythehcbbdkiomnaa
end
section

/- lookup.Take of the forms 8 and 10, of one that has too few bytes, and of others. Conditions: as many bytes as the slice says; a font's glyphs, numbers of two or four bytes. -/
namespace Go.Proofs.Ythehcbbdkiomnaa
open Go.RowKit Go.Lib

end Go.Proofs.Ythehcbbdkiomnaa
end
section

/- lookup.Take of the forms 2 and 6. Conditions: as many bytes as the slice says; numbers of two or four bytes. -/
namespace Go.Proofs.Ythehcbbdkiomnaa
open Go.RowKit Go.Lib

end Go.Proofs.Ythehcbbdkiomnaa
end
section

/- lookup.Take of the forms 0 and 10, of one that has too few bytes, and of others. Conditions: as many bytes as the slice says; a font's glyphs, numbers of two or four bytes. -/
namespace Go.Proofs.Ythehcbbdkiomnaa
open Go.RowKit Go.Lib

end Go.Proofs.Ythehcbbdkiomnaa
end
section

/- lookup.Take of the form 4, and the whole contract of lookup.Take. Conditions: as many bytes as the slice says; a font's glyphs, numbers of two or four bytes. -/
namespace Go.Proofs.Ythehcbbdkiomnaa
open Go.RowKit Go.Lib

end Go.Proofs.Ythehcbbdkiomnaa
end
section

/- The contract of lookup.Read. Conditions: as many bytes as the slice says; all numbers within 64 bits. -/
namespace Go.Proofs.Ythehcbbdkiomnaa
open Go.RowKit Go.Lib

end Go.Proofs.Ythehcbbdkiomnaa
end
section

/- (*Table).All: the contract of its iterator. Conditions: a table in memory, its parts rising, its numbers there; a body of the loop that keeps what it holds. -/
namespace Go.Proofs.Ythehcbbdkiomnaa
open Go.RowKit Go.Lib Go.Shelf
attribute [local go_sem] Oper.semAt_some

end Go.Proofs.Ythehcbbdkiomnaa
end
section

/- (*Table).Most. Conditions: a table in memory, its parts rising, its numbers there. -/
namespace Go.Proofs.Ythehcbbdkiomnaa
open Go.RowKit Go.Lib Go.Shelf
attribute [local go_sem] Oper.semAt_some

end Go.Proofs.Ythehcbbdkiomnaa
end
section

/- What a table answers, as a function; lookup.Read where a lookup is told of, and where none is; the call speaks. Conditions: as the lemmas say. -/
namespace Go.Proofs.Ythehcbbdkiomnaa
open Go.RowKit Go.Lib

end Go.Proofs.Ythehcbbdkiomnaa
end
section

/- The contract of seek.Read. Conditions: as many bytes as the slice says; all numbers within 64 bits. -/
namespace Go.Proofs.Ythehcbbdkiomnaa
open Go.RowKit

end Go.Proofs.Ythehcbbdkiomnaa
end
section

/- swashlaw05.speaks returns true. No condition. -/
namespace Go.Proofs.Ythehcbbdkiomnaa
open Go.RowKit

end Go.Proofs.Ythehcbbdkiomnaa
end
section

/- The walk of SeekPlace. Condition: as many steps as the slice says. -/
namespace Go.Proofs.Ythehcbbdkiomnaa
open Go.RowKit

end Go.Proofs.Ythehcbbdkiomnaa
end
section

/- The contract of the reference's rows of layer 5. Conditions: no more than 4000 bytes; need at least 2, keys at least 1, and need at least twice keys. -/
namespace Go.Proofs.Ythehcbbdkiomnaa
open Go.RowKit

end Go.Proofs.Ythehcbbdkiomnaa
end
section

/- The reference's parts of layer 6: segments. Conditions: no more than 4000 bytes. The reference's parts of layer 6: segments whose glyphs have numbers of their own. Conditions: no more than 4000 bytes. The reference's parts of layer 6: those of a row of numbers. Conditions: no more than 4000 bytes. The reference's parts of layer 6, whatever the form. Conditions: no more than 4000 bytes; a font's glyphs, numbers of two or four bytes. The reference's parts of layer 6 of the forms 6 and 10, all forms, and the reference's Read. Conditions: no more than 4000 bytes; a font's glyphs, numbers of two or four bytes. The reference's Read of layer 6. Conditions: no more than 4000 bytes; a font's glyphs, numbers of two or four bytes. -/
namespace Go.Proofs.Ythehcbbdkiomnaa
open Go.RowKit Go.Lib

end Go.Proofs.Ythehcbbdkiomnaa
end
