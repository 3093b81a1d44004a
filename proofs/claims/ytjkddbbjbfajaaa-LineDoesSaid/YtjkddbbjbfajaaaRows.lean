/-
  No cell of these rows narrows 'for every input' (looked for: loops, veiled, ifaces, maps, wideKeys, modest, calm, conditions, laid).
  DERIVED. THE GIVEN ROWS OF THIS SEAT. 4 by the template 'for every input the law returns true; each argument reads behind the call as it read before'; 0 by the template 'total and deterministic' (their statements: YtjkddbbjbfajaaaTotals.lean).
  GIVEN WITH THE SEED: the statements are not yours to turn. If you find one false, say at which input.
  Laid BY PROGRAM, IN A SANDBOX (cutbox-rows.mjs): the forced cells as the released guide's own fill.sh prints them over the translation 88dcd0282708f5cd… (all of the seat's roots in one cut). By AI agents, Wed Nov 11 2026. No macro, syntax, notation, axiom, sorry.
-/
import Derived.Test.YtjkddbbjbfajaaaChecked
import GoSem.Claim
import GoSem.ClaimJoined
import GoSem.ClaimMapViews
import Derived.JoinedTies
import Derived.KernelRfl
namespace Go.Proofs.Ytjkddbbjbfajaaa
/- THE CELL 'sum', in the pinned program and in every row, IS THE sha256 OF THE DUMP (.gsa) THAT YtjkddbbjbfajaaaProg.lean LOADS. Nothing in Lean hashes anything: it is a label: what it is worth is what the hold of that sum in a sandbox is worth. -/
noncomputable def Try.pinned : Pinned := { name := "ytjkddbbjbfajaaa", sum := "88dcd0282708f5cdc6dae5a2339d984031dc45f44e93c77eb4fc213c0729c710", checked := Try.checked }
namespace Rows
def none {H : Type} : Left H := { results := [], args := [] }

/-- 'swashlaw11.LineDoes': WHATEVER THE INPUT: true; the input reads as it did. -/
def lineDoesSpec : ChangeSpec := { name := "lineDoes", fn := fun _ => fun
  | [d1, d2, d3] => { results := [.lit (.bool true)], args := [d1, d2, d3] }
  | _ => none }
def lineDoesRow : OpenClaim := { program := "ytjkddbbjbfajaaa", sum := "88dcd0282708f5cdc6dae5a2339d984031dc45f44e93c77eb4fc213c0729c710", func := "swash/swashlaw11.LineDoes", spec := "lineDoes", inPlace := ["slices.overlaps[swash/api.Glyph]"], unfollowed := true, recurses := true, apart := false }
def LineDoesSaid : Prop := lineDoesRow.holds Try.pinned (OpenSpec.ofChange lineDoesSpec)

/-- ITS FALSE NEIGHBOUR: 'it returns false'. Refute it at one input. -/
def lineDoesWrong : ChangeSpec := { name := "lineDoes", fn := fun _ => fun
  | [d1, d2, d3] => { results := [.lit (.bool false)], args := [d1, d2, d3] }
  | _ => none }
def LineDoesWrongFalsely : Prop := lineDoesRow.holds Try.pinned (OpenSpec.ofChange lineDoesWrong)

/-- 'swashlaw11.LineTwice': WHATEVER THE INPUT: true; the input reads as it did. -/
def lineTwiceSpec : ChangeSpec := { name := "lineTwice", fn := fun _ => fun
  | [d1, d2, d3] => { results := [.lit (.bool true)], args := [d1, d2, d3] }
  | _ => none }
def lineTwiceRow : OpenClaim := { program := "ytjkddbbjbfajaaa", sum := "88dcd0282708f5cdc6dae5a2339d984031dc45f44e93c77eb4fc213c0729c710", func := "swash/swashlaw11.LineTwice", spec := "lineTwice", inPlace := ["slices.overlaps[swash/api.Glyph]"], unfollowed := true, recurses := true, apart := false }
def LineTwiceSaid : Prop := lineTwiceRow.holds Try.pinned (OpenSpec.ofChange lineTwiceSpec)

/-- ITS FALSE NEIGHBOUR: 'it returns false'. Refute it at one input. -/
def lineTwiceWrong : ChangeSpec := { name := "lineTwice", fn := fun _ => fun
  | [d1, d2, d3] => { results := [.lit (.bool false)], args := [d1, d2, d3] }
  | _ => none }
def LineTwiceWrongFalsely : Prop := lineTwiceRow.holds Try.pinned (OpenSpec.ofChange lineTwiceWrong)

/-- 'swashlaw11.LineOwn': WHATEVER THE INPUT: true; the input reads as it did. -/
def lineOwnSpec : ChangeSpec := { name := "lineOwn", fn := fun _ => fun
  | [d] => { results := [.lit (.bool true)], args := [d] }
  | _ => none }
def lineOwnRow : OpenClaim := { program := "ytjkddbbjbfajaaa", sum := "88dcd0282708f5cdc6dae5a2339d984031dc45f44e93c77eb4fc213c0729c710", func := "swash/swashlaw11.LineOwn", spec := "lineOwn", inPlace := ["slices.overlaps[swash/api.Glyph]"], apart := false }
def LineOwnSaid : Prop := lineOwnRow.holds Try.pinned (OpenSpec.ofChange lineOwnSpec)

/-- ITS FALSE NEIGHBOUR: 'it returns false'. Refute it at one input. -/
def lineOwnWrong : ChangeSpec := { name := "lineOwn", fn := fun _ => fun
  | [d] => { results := [.lit (.bool false)], args := [d] }
  | _ => none }
def LineOwnWrongFalsely : Prop := lineOwnRow.holds Try.pinned (OpenSpec.ofChange lineOwnWrong)

/-- 'swashlaw11.LineInserts': WHATEVER THE INPUT: true; the input reads as it did. -/
def lineInsertsSpec : ChangeSpec := { name := "lineInserts", fn := fun _ => fun
  | [d1, d2, d3] => { results := [.lit (.bool true)], args := [d1, d2, d3] }
  | _ => none }
def lineInsertsRow : OpenClaim := { program := "ytjkddbbjbfajaaa", sum := "88dcd0282708f5cdc6dae5a2339d984031dc45f44e93c77eb4fc213c0729c710", func := "swash/swashlaw11.LineInserts", spec := "lineInserts", inPlace := ["slices.overlaps[swash/api.Glyph]"], apart := false }
def LineInsertsSaid : Prop := lineInsertsRow.holds Try.pinned (OpenSpec.ofChange lineInsertsSpec)

/-- ITS FALSE NEIGHBOUR: 'it returns false'. Refute it at one input. -/
def lineInsertsWrong : ChangeSpec := { name := "lineInserts", fn := fun _ => fun
  | [d1, d2, d3] => { results := [.lit (.bool false)], args := [d1, d2, d3] }
  | _ => none }
def LineInsertsWrongFalsely : Prop := lineInsertsRow.holds Try.pinned (OpenSpec.ofChange lineInsertsWrong)

/- THE SECOND FORM. 'bulk': how many values and letters a reading holds, each counted each time it is reached (what is shared counts as often as it is met; a slice's spare places count too). A statement '..UptoSaid' is the law's where the arguments, and the package variables that the reading takes, are together of bulk at most 1048576: NARROWER than '..Said'. Prove '..Said' where nothing that the law and all that it calls make is longer than what came in: it says more and counts as full. Else prove '..UptoSaid'. A law counts once. -/
mutual
def uptoBulk {H : Type} : DataW H → Nat
  | .lit (.string bytes) => bytes.length + 1
  | .lit _ => 1
  | .nil => 1
  | .ptr d => uptoBulk d + 1
  | .slice elems spare => uptoBulkAll elems + uptoBulkAll spare + 1
  | .agg parts => uptoBulkAll parts + 1
  | .iface _ d => uptoBulk d + 1
  | .map entries => uptoBulkEntries entries + 1
  | .held _ => 1
def uptoBulkAll {H : Type} : List (DataW H) → Nat
  | [] => 0
  | d :: r => uptoBulk d + uptoBulkAll r
def uptoBulkEntries {H : Type} : List (Lit × DataW H) → Nat
  | [] => 0
  | x :: r => uptoBulkEntry x + uptoBulkEntries r
def uptoBulkEntry {H : Type} : Lit × DataW H → Nat
  | (.string bytes, d) => bytes.length + uptoBulk d + 1
  | (_, d) => uptoBulk d + 1
 end
def uptoSmall : (H : Type) → List (DataW H) → Bool := fun _ ds => decide (uptoBulkAll ds ≤ 1048576)
def OpenSpec.upto (s : _root_.Go.ChangeSpec) : _root_.Go.OpenSpec := { _root_.Go.OpenSpec.ofChange s with cond := some uptoSmall }

/-- 'swashlaw11.LineDoes', WHERE WHAT IT READS IS OF BULK AT MOST 1048576: true; the input reads as it did. -/
def lineDoesUptoRow : OpenClaim := { program := "ytjkddbbjbfajaaa", sum := "88dcd0282708f5cdc6dae5a2339d984031dc45f44e93c77eb4fc213c0729c710", func := "swash/swashlaw11.LineDoes", spec := "lineDoes", inPlace := ["slices.overlaps[swash/api.Glyph]"], unfollowed := true, recurses := true, apart := false, narrowed := true }
def LineDoesUptoSaid : Prop := lineDoesUptoRow.holds Try.pinned (OpenSpec.upto lineDoesSpec)

/-- 'swashlaw11.LineTwice', WHERE WHAT IT READS IS OF BULK AT MOST 1048576: true; the input reads as it did. -/
def lineTwiceUptoRow : OpenClaim := { program := "ytjkddbbjbfajaaa", sum := "88dcd0282708f5cdc6dae5a2339d984031dc45f44e93c77eb4fc213c0729c710", func := "swash/swashlaw11.LineTwice", spec := "lineTwice", inPlace := ["slices.overlaps[swash/api.Glyph]"], unfollowed := true, recurses := true, apart := false, narrowed := true }
def LineTwiceUptoSaid : Prop := lineTwiceUptoRow.holds Try.pinned (OpenSpec.upto lineTwiceSpec)

/-- 'swashlaw11.LineOwn', WHERE WHAT IT READS IS OF BULK AT MOST 1048576: true; the input reads as it did. -/
def lineOwnUptoRow : OpenClaim := { program := "ytjkddbbjbfajaaa", sum := "88dcd0282708f5cdc6dae5a2339d984031dc45f44e93c77eb4fc213c0729c710", func := "swash/swashlaw11.LineOwn", spec := "lineOwn", inPlace := ["slices.overlaps[swash/api.Glyph]"], apart := false, narrowed := true }
def LineOwnUptoSaid : Prop := lineOwnUptoRow.holds Try.pinned (OpenSpec.upto lineOwnSpec)

/-- 'swashlaw11.LineInserts', WHERE WHAT IT READS IS OF BULK AT MOST 1048576: true; the input reads as it did. -/
def lineInsertsUptoRow : OpenClaim := { program := "ytjkddbbjbfajaaa", sum := "88dcd0282708f5cdc6dae5a2339d984031dc45f44e93c77eb4fc213c0729c710", func := "swash/swashlaw11.LineInserts", spec := "lineInserts", inPlace := ["slices.overlaps[swash/api.Glyph]"], apart := false, narrowed := true }
def LineInsertsUptoSaid : Prop := lineInsertsUptoRow.holds Try.pinned (OpenSpec.upto lineInsertsSpec)

end Rows
end Go.Proofs.Ytjkddbbjbfajaaa
