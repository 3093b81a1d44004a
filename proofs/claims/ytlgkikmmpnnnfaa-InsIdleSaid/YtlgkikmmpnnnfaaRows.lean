/-
  No cell of these rows narrows 'for every input' (looked for: loops, veiled, ifaces, maps, wideKeys, modest, calm, conditions, laid).
  DERIVED. THE GIVEN ROWS OF THIS SEAT. 11 by the template 'for every input the law returns true; each argument reads behind the call as it read before'; 0 by the template 'total and deterministic' (their statements: YtlgkikmmpnnnfaaTotals.lean).
  GIVEN WITH THE SEED: the statements are not yours to turn. If you find one false, say at which input.
  Laid BY PROGRAM, IN A SANDBOX (cutbox-rows.mjs): the forced cells as the released guide's own fill.sh prints them over the translation df2744d0a90df8e9… (all of the seat's roots in one cut). By AI agents, Wed Nov 11 2026. No macro, syntax, notation, axiom, sorry.
-/
import Derived.Test.YtlgkikmmpnnnfaaChecked
import GoSem.Claim
import GoSem.ClaimJoined
import GoSem.ClaimMapViews
import Derived.JoinedTies
import Derived.KernelRfl
namespace Go.Proofs.Ytlgkikmmpnnnfaa
/- THE CELL 'sum', in the pinned program and in every row, IS THE sha256 OF THE DUMP (.gsa) THAT YtlgkikmmpnnnfaaProg.lean LOADS. Nothing in Lean hashes anything: it is a label: what it is worth is what the hold of that sum in a sandbox is worth. -/
noncomputable def Try.pinned : Pinned := { name := "ytlgkikmmpnnnfaa", sum := "df2744d0a90df8e92edf2e0dc2f98e20f315d2752a01e86dfc351162b3c9a445", checked := Try.checked }
namespace Rows
def none {H : Type} : Left H := { results := [], args := [] }

/-- 'swashlaw17.LigaReads': WHATEVER THE INPUT: true; the input reads as it did. -/
def ligaReadsSpec : ChangeSpec := { name := "ligaReads", fn := fun _ => fun
  | [d1, d2, d3] => { results := [.lit (.bool true)], args := [d1, d2, d3] }
  | _ => none }
def ligaReadsRow : OpenClaim := { program := "ytlgkikmmpnnnfaa", sum := "df2744d0a90df8e92edf2e0dc2f98e20f315d2752a01e86dfc351162b3c9a445", func := "swash/swashlaw17.LigaReads", spec := "ligaReads", unfollowed := true, recurses := true, apart := false }
def LigaReadsSaid : Prop := ligaReadsRow.holds Try.pinned (OpenSpec.ofChange ligaReadsSpec)

/-- ITS FALSE NEIGHBOUR: 'it returns false'. Refute it at one input. -/
def ligaReadsWrong : ChangeSpec := { name := "ligaReads", fn := fun _ => fun
  | [d1, d2, d3] => { results := [.lit (.bool false)], args := [d1, d2, d3] }
  | _ => none }
def LigaReadsWrongFalsely : Prop := ligaReadsRow.holds Try.pinned (OpenSpec.ofChange ligaReadsWrong)

/-- 'swashlaw17.LigaRuns': WHATEVER THE INPUT: true; the input reads as it did. -/
def ligaRunsSpec : ChangeSpec := { name := "ligaRuns", fn := fun _ => fun
  | [d1, d2] => { results := [.lit (.bool true)], args := [d1, d2] }
  | _ => none }
def ligaRunsRow : OpenClaim := { program := "ytlgkikmmpnnnfaa", sum := "df2744d0a90df8e92edf2e0dc2f98e20f315d2752a01e86dfc351162b3c9a445", func := "swash/swashlaw17.LigaRuns", spec := "ligaRuns", unfollowed := true, recurses := true, apart := false }
def LigaRunsSaid : Prop := ligaRunsRow.holds Try.pinned (OpenSpec.ofChange ligaRunsSpec)

/-- ITS FALSE NEIGHBOUR: 'it returns false'. Refute it at one input. -/
def ligaRunsWrong : ChangeSpec := { name := "ligaRuns", fn := fun _ => fun
  | [d1, d2] => { results := [.lit (.bool false)], args := [d1, d2] }
  | _ => none }
def LigaRunsWrongFalsely : Prop := ligaRunsRow.holds Try.pinned (OpenSpec.ofChange ligaRunsWrong)

/-- 'swashlaw17.LigaLess': WHATEVER THE INPUT: true; the input reads as it did. -/
def ligaLessSpec : ChangeSpec := { name := "ligaLess", fn := fun _ => fun
  | [d1, d2] => { results := [.lit (.bool true)], args := [d1, d2] }
  | _ => none }
def ligaLessRow : OpenClaim := { program := "ytlgkikmmpnnnfaa", sum := "df2744d0a90df8e92edf2e0dc2f98e20f315d2752a01e86dfc351162b3c9a445", func := "swash/swashlaw17.LigaLess", spec := "ligaLess", unfollowed := true, recurses := true, apart := false }
def LigaLessSaid : Prop := ligaLessRow.holds Try.pinned (OpenSpec.ofChange ligaLessSpec)

/-- ITS FALSE NEIGHBOUR: 'it returns false'. Refute it at one input. -/
def ligaLessWrong : ChangeSpec := { name := "ligaLess", fn := fun _ => fun
  | [d1, d2] => { results := [.lit (.bool false)], args := [d1, d2] }
  | _ => none }
def LigaLessWrongFalsely : Prop := ligaLessRow.holds Try.pinned (OpenSpec.ofChange ligaLessWrong)

/-- 'swashlaw17.LigaLong': WHATEVER THE INPUT: true; the input reads as it did. -/
def ligaLongSpec : ChangeSpec := { name := "ligaLong", fn := fun _ => fun
  | [d1, d2] => { results := [.lit (.bool true)], args := [d1, d2] }
  | _ => none }
def ligaLongRow : OpenClaim := { program := "ytlgkikmmpnnnfaa", sum := "df2744d0a90df8e92edf2e0dc2f98e20f315d2752a01e86dfc351162b3c9a445", func := "swash/swashlaw17.LigaLong", spec := "ligaLong", unfollowed := true, recurses := true, apart := false }
def LigaLongSaid : Prop := ligaLongRow.holds Try.pinned (OpenSpec.ofChange ligaLongSpec)

/-- ITS FALSE NEIGHBOUR: 'it returns false'. Refute it at one input. -/
def ligaLongWrong : ChangeSpec := { name := "ligaLong", fn := fun _ => fun
  | [d1, d2] => { results := [.lit (.bool false)], args := [d1, d2] }
  | _ => none }
def LigaLongWrongFalsely : Prop := ligaLongRow.holds Try.pinned (OpenSpec.ofChange ligaLongWrong)

/-- 'swashlaw17.LigaIdle': WHATEVER THE INPUT: true; the input reads as it did. -/
def ligaIdleSpec : ChangeSpec := { name := "ligaIdle", fn := fun _ => fun
  | [d1, d2, d3] => { results := [.lit (.bool true)], args := [d1, d2, d3] }
  | _ => none }
def ligaIdleRow : OpenClaim := { program := "ytlgkikmmpnnnfaa", sum := "df2744d0a90df8e92edf2e0dc2f98e20f315d2752a01e86dfc351162b3c9a445", func := "swash/swashlaw17.LigaIdle", spec := "ligaIdle", unfollowed := true, recurses := true, apart := false }
def LigaIdleSaid : Prop := ligaIdleRow.holds Try.pinned (OpenSpec.ofChange ligaIdleSpec)

/-- ITS FALSE NEIGHBOUR: 'it returns false'. Refute it at one input. -/
def ligaIdleWrong : ChangeSpec := { name := "ligaIdle", fn := fun _ => fun
  | [d1, d2, d3] => { results := [.lit (.bool false)], args := [d1, d2, d3] }
  | _ => none }
def LigaIdleWrongFalsely : Prop := ligaIdleRow.holds Try.pinned (OpenSpec.ofChange ligaIdleWrong)

/-- 'swashlaw17.LigaTakes': WHATEVER THE INPUT: true; the input reads as it did. -/
def ligaTakesSpec : ChangeSpec := { name := "ligaTakes", fn := fun _ => fun
  | [d1, d2] => { results := [.lit (.bool true)], args := [d1, d2] }
  | _ => none }
def ligaTakesRow : OpenClaim := { program := "ytlgkikmmpnnnfaa", sum := "df2744d0a90df8e92edf2e0dc2f98e20f315d2752a01e86dfc351162b3c9a445", func := "swash/swashlaw17.LigaTakes", spec := "ligaTakes", unfollowed := true, recurses := true, apart := false }
def LigaTakesSaid : Prop := ligaTakesRow.holds Try.pinned (OpenSpec.ofChange ligaTakesSpec)

/-- ITS FALSE NEIGHBOUR: 'it returns false'. Refute it at one input. -/
def ligaTakesWrong : ChangeSpec := { name := "ligaTakes", fn := fun _ => fun
  | [d1, d2] => { results := [.lit (.bool false)], args := [d1, d2] }
  | _ => none }
def LigaTakesWrongFalsely : Prop := ligaTakesRow.holds Try.pinned (OpenSpec.ofChange ligaTakesWrong)

/-- 'swashlaw18.InsMore': WHATEVER THE INPUT: true; the input reads as it did. -/
def insMoreSpec : ChangeSpec := { name := "insMore", fn := fun _ => fun
  | [d1, d2, d3] => { results := [.lit (.bool true)], args := [d1, d2, d3] }
  | _ => none }
def insMoreRow : OpenClaim := { program := "ytlgkikmmpnnnfaa", sum := "df2744d0a90df8e92edf2e0dc2f98e20f315d2752a01e86dfc351162b3c9a445", func := "swash/swashlaw18.InsMore", spec := "insMore", inPlace := ["slices.overlaps[swash/api.Glyph]"], unfollowed := true, recurses := true, apart := false }
def InsMoreSaid : Prop := insMoreRow.holds Try.pinned (OpenSpec.ofChange insMoreSpec)

/-- ITS FALSE NEIGHBOUR: 'it returns false'. Refute it at one input. -/
def insMoreWrong : ChangeSpec := { name := "insMore", fn := fun _ => fun
  | [d1, d2, d3] => { results := [.lit (.bool false)], args := [d1, d2, d3] }
  | _ => none }
def InsMoreWrongFalsely : Prop := insMoreRow.holds Try.pinned (OpenSpec.ofChange insMoreWrong)

/-- 'swashlaw18.InsIdle': WHATEVER THE INPUT: true; the input reads as it did. -/
def insIdleSpec : ChangeSpec := { name := "insIdle", fn := fun _ => fun
  | [d1, d2] => { results := [.lit (.bool true)], args := [d1, d2] }
  | _ => none }
def insIdleRow : OpenClaim := { program := "ytlgkikmmpnnnfaa", sum := "df2744d0a90df8e92edf2e0dc2f98e20f315d2752a01e86dfc351162b3c9a445", func := "swash/swashlaw18.InsIdle", spec := "insIdle", inPlace := ["slices.overlaps[swash/api.Glyph]"], unfollowed := true, recurses := true, apart := false }
def InsIdleSaid : Prop := insIdleRow.holds Try.pinned (OpenSpec.ofChange insIdleSpec)

/-- ITS FALSE NEIGHBOUR: 'it returns false'. Refute it at one input. -/
def insIdleWrong : ChangeSpec := { name := "insIdle", fn := fun _ => fun
  | [d1, d2] => { results := [.lit (.bool false)], args := [d1, d2] }
  | _ => none }
def InsIdleWrongFalsely : Prop := insIdleRow.holds Try.pinned (OpenSpec.ofChange insIdleWrong)

/-- 'swashlaw18.InsLeft': WHATEVER THE INPUT: true; the input reads as it did. -/
def insLeftSpec : ChangeSpec := { name := "insLeft", fn := fun _ => fun
  | [d1, d2, d3] => { results := [.lit (.bool true)], args := [d1, d2, d3] }
  | _ => none }
def insLeftRow : OpenClaim := { program := "ytlgkikmmpnnnfaa", sum := "df2744d0a90df8e92edf2e0dc2f98e20f315d2752a01e86dfc351162b3c9a445", func := "swash/swashlaw18.InsLeft", spec := "insLeft", inPlace := ["slices.overlaps[swash/api.Glyph]"], unfollowed := true, recurses := true, apart := false }
def InsLeftSaid : Prop := insLeftRow.holds Try.pinned (OpenSpec.ofChange insLeftSpec)

/-- ITS FALSE NEIGHBOUR: 'it returns false'. Refute it at one input. -/
def insLeftWrong : ChangeSpec := { name := "insLeft", fn := fun _ => fun
  | [d1, d2, d3] => { results := [.lit (.bool false)], args := [d1, d2, d3] }
  | _ => none }
def InsLeftWrongFalsely : Prop := insLeftRow.holds Try.pinned (OpenSpec.ofChange insLeftWrong)

/-- 'swashlaw18.InsTakes': WHATEVER THE INPUT: true; the input reads as it did. -/
def insTakesSpec : ChangeSpec := { name := "insTakes", fn := fun _ => fun
  | [d1, d2] => { results := [.lit (.bool true)], args := [d1, d2] }
  | _ => none }
def insTakesRow : OpenClaim := { program := "ytlgkikmmpnnnfaa", sum := "df2744d0a90df8e92edf2e0dc2f98e20f315d2752a01e86dfc351162b3c9a445", func := "swash/swashlaw18.InsTakes", spec := "insTakes", inPlace := ["slices.overlaps[swash/api.Glyph]"], unfollowed := true, recurses := true, apart := false }
def InsTakesSaid : Prop := insTakesRow.holds Try.pinned (OpenSpec.ofChange insTakesSpec)

/-- ITS FALSE NEIGHBOUR: 'it returns false'. Refute it at one input. -/
def insTakesWrong : ChangeSpec := { name := "insTakes", fn := fun _ => fun
  | [d1, d2] => { results := [.lit (.bool false)], args := [d1, d2] }
  | _ => none }
def InsTakesWrongFalsely : Prop := insTakesRow.holds Try.pinned (OpenSpec.ofChange insTakesWrong)

/-- 'swashtop.WholeGrows': WHATEVER THE INPUT: true; the input reads as it did. -/
def wholeGrowsSpec : ChangeSpec := { name := "wholeGrows", fn := fun _ => fun
  | [d] => { results := [.lit (.bool true)], args := [d] }
  | _ => none }
def wholeGrowsRow : OpenClaim := { program := "ytlgkikmmpnnnfaa", sum := "df2744d0a90df8e92edf2e0dc2f98e20f315d2752a01e86dfc351162b3c9a445", func := "swash/swashtop.WholeGrows", spec := "wholeGrows", inPlace := ["slices.overlaps[swash/api.Glyph]"], unfollowed := true, recurses := true, apart := false }
def WholeGrowsSaid : Prop := wholeGrowsRow.holds Try.pinned (OpenSpec.ofChange wholeGrowsSpec)

/-- ITS FALSE NEIGHBOUR: 'it returns false'. Refute it at one input. -/
def wholeGrowsWrong : ChangeSpec := { name := "wholeGrows", fn := fun _ => fun
  | [d] => { results := [.lit (.bool false)], args := [d] }
  | _ => none }
def WholeGrowsWrongFalsely : Prop := wholeGrowsRow.holds Try.pinned (OpenSpec.ofChange wholeGrowsWrong)

/- THE SECOND FORM. 'bulk': how many values and letters a reading holds, each counted each time it is reached (what is shared counts as often as it is met; a slice's spare places count too). A statement '..UptoSaid' is the law's where the arguments, and the package variables that the reading takes, are together of bulk at most 1048576: NARROWER than '..Said'. Prove '..Said' where nothing that the law and all that it calls make is longer than what came in: it says more and counts as full. Else prove '..UptoSaid'. A law counts once. -/
mutual
def uptoBulk {H : Type} : DataW H → Nat
  | .lit (.string bytes) => bytes.length + 1
  | .lit _ => 1
  | .nil => 1
  | .ptr d => uptoBulk d + 1
  | .slice elems spare => uptoBulkAll elems + uptoBulkAll spare + 1
  | .agg parts => uptoBulkAll parts + 1
  | .iface _ d => uptoBulk d + 1
  | .map entries => uptoBulkEntries entries + 1
  | .held _ => 1
def uptoBulkAll {H : Type} : List (DataW H) → Nat
  | [] => 0
  | d :: r => uptoBulk d + uptoBulkAll r
def uptoBulkEntries {H : Type} : List (Lit × DataW H) → Nat
  | [] => 0
  | x :: r => uptoBulkEntry x + uptoBulkEntries r
def uptoBulkEntry {H : Type} : Lit × DataW H → Nat
  | (.string bytes, d) => bytes.length + uptoBulk d + 1
  | (_, d) => uptoBulk d + 1
 end
def uptoSmall : (H : Type) → List (DataW H) → Bool := fun _ ds => decide (uptoBulkAll ds ≤ 1048576)
def OpenSpec.upto (s : _root_.Go.ChangeSpec) : _root_.Go.OpenSpec := { _root_.Go.OpenSpec.ofChange s with cond := some uptoSmall }

/-- 'swashlaw17.LigaReads', WHERE WHAT IT READS IS OF BULK AT MOST 1048576: true; the input reads as it did. -/
def ligaReadsUptoRow : OpenClaim := { program := "ytlgkikmmpnnnfaa", sum := "df2744d0a90df8e92edf2e0dc2f98e20f315d2752a01e86dfc351162b3c9a445", func := "swash/swashlaw17.LigaReads", spec := "ligaReads", unfollowed := true, recurses := true, apart := false, narrowed := true }
def LigaReadsUptoSaid : Prop := ligaReadsUptoRow.holds Try.pinned (OpenSpec.upto ligaReadsSpec)

/-- 'swashlaw17.LigaRuns', WHERE WHAT IT READS IS OF BULK AT MOST 1048576: true; the input reads as it did. -/
def ligaRunsUptoRow : OpenClaim := { program := "ytlgkikmmpnnnfaa", sum := "df2744d0a90df8e92edf2e0dc2f98e20f315d2752a01e86dfc351162b3c9a445", func := "swash/swashlaw17.LigaRuns", spec := "ligaRuns", unfollowed := true, recurses := true, apart := false, narrowed := true }
def LigaRunsUptoSaid : Prop := ligaRunsUptoRow.holds Try.pinned (OpenSpec.upto ligaRunsSpec)

/-- 'swashlaw17.LigaLess', WHERE WHAT IT READS IS OF BULK AT MOST 1048576: true; the input reads as it did. -/
def ligaLessUptoRow : OpenClaim := { program := "ytlgkikmmpnnnfaa", sum := "df2744d0a90df8e92edf2e0dc2f98e20f315d2752a01e86dfc351162b3c9a445", func := "swash/swashlaw17.LigaLess", spec := "ligaLess", unfollowed := true, recurses := true, apart := false, narrowed := true }
def LigaLessUptoSaid : Prop := ligaLessUptoRow.holds Try.pinned (OpenSpec.upto ligaLessSpec)

/-- 'swashlaw17.LigaLong', WHERE WHAT IT READS IS OF BULK AT MOST 1048576: true; the input reads as it did. -/
def ligaLongUptoRow : OpenClaim := { program := "ytlgkikmmpnnnfaa", sum := "df2744d0a90df8e92edf2e0dc2f98e20f315d2752a01e86dfc351162b3c9a445", func := "swash/swashlaw17.LigaLong", spec := "ligaLong", unfollowed := true, recurses := true, apart := false, narrowed := true }
def LigaLongUptoSaid : Prop := ligaLongUptoRow.holds Try.pinned (OpenSpec.upto ligaLongSpec)

/-- 'swashlaw17.LigaIdle', WHERE WHAT IT READS IS OF BULK AT MOST 1048576: true; the input reads as it did. -/
def ligaIdleUptoRow : OpenClaim := { program := "ytlgkikmmpnnnfaa", sum := "df2744d0a90df8e92edf2e0dc2f98e20f315d2752a01e86dfc351162b3c9a445", func := "swash/swashlaw17.LigaIdle", spec := "ligaIdle", unfollowed := true, recurses := true, apart := false, narrowed := true }
def LigaIdleUptoSaid : Prop := ligaIdleUptoRow.holds Try.pinned (OpenSpec.upto ligaIdleSpec)

/-- 'swashlaw17.LigaTakes', WHERE WHAT IT READS IS OF BULK AT MOST 1048576: true; the input reads as it did. -/
def ligaTakesUptoRow : OpenClaim := { program := "ytlgkikmmpnnnfaa", sum := "df2744d0a90df8e92edf2e0dc2f98e20f315d2752a01e86dfc351162b3c9a445", func := "swash/swashlaw17.LigaTakes", spec := "ligaTakes", unfollowed := true, recurses := true, apart := false, narrowed := true }
def LigaTakesUptoSaid : Prop := ligaTakesUptoRow.holds Try.pinned (OpenSpec.upto ligaTakesSpec)

/-- 'swashlaw18.InsMore', WHERE WHAT IT READS IS OF BULK AT MOST 1048576: true; the input reads as it did. -/
def insMoreUptoRow : OpenClaim := { program := "ytlgkikmmpnnnfaa", sum := "df2744d0a90df8e92edf2e0dc2f98e20f315d2752a01e86dfc351162b3c9a445", func := "swash/swashlaw18.InsMore", spec := "insMore", inPlace := ["slices.overlaps[swash/api.Glyph]"], unfollowed := true, recurses := true, apart := false, narrowed := true }
def InsMoreUptoSaid : Prop := insMoreUptoRow.holds Try.pinned (OpenSpec.upto insMoreSpec)

/-- 'swashlaw18.InsIdle', WHERE WHAT IT READS IS OF BULK AT MOST 1048576: true; the input reads as it did. -/
def insIdleUptoRow : OpenClaim := { program := "ytlgkikmmpnnnfaa", sum := "df2744d0a90df8e92edf2e0dc2f98e20f315d2752a01e86dfc351162b3c9a445", func := "swash/swashlaw18.InsIdle", spec := "insIdle", inPlace := ["slices.overlaps[swash/api.Glyph]"], unfollowed := true, recurses := true, apart := false, narrowed := true }
def InsIdleUptoSaid : Prop := insIdleUptoRow.holds Try.pinned (OpenSpec.upto insIdleSpec)

/-- 'swashlaw18.InsLeft', WHERE WHAT IT READS IS OF BULK AT MOST 1048576: true; the input reads as it did. -/
def insLeftUptoRow : OpenClaim := { program := "ytlgkikmmpnnnfaa", sum := "df2744d0a90df8e92edf2e0dc2f98e20f315d2752a01e86dfc351162b3c9a445", func := "swash/swashlaw18.InsLeft", spec := "insLeft", inPlace := ["slices.overlaps[swash/api.Glyph]"], unfollowed := true, recurses := true, apart := false, narrowed := true }
def InsLeftUptoSaid : Prop := insLeftUptoRow.holds Try.pinned (OpenSpec.upto insLeftSpec)

/-- 'swashlaw18.InsTakes', WHERE WHAT IT READS IS OF BULK AT MOST 1048576: true; the input reads as it did. -/
def insTakesUptoRow : OpenClaim := { program := "ytlgkikmmpnnnfaa", sum := "df2744d0a90df8e92edf2e0dc2f98e20f315d2752a01e86dfc351162b3c9a445", func := "swash/swashlaw18.InsTakes", spec := "insTakes", inPlace := ["slices.overlaps[swash/api.Glyph]"], unfollowed := true, recurses := true, apart := false, narrowed := true }
def InsTakesUptoSaid : Prop := insTakesUptoRow.holds Try.pinned (OpenSpec.upto insTakesSpec)

/-- 'swashtop.WholeGrows', WHERE WHAT IT READS IS OF BULK AT MOST 1048576: true; the input reads as it did. -/
def wholeGrowsUptoRow : OpenClaim := { program := "ytlgkikmmpnnnfaa", sum := "df2744d0a90df8e92edf2e0dc2f98e20f315d2752a01e86dfc351162b3c9a445", func := "swash/swashtop.WholeGrows", spec := "wholeGrows", inPlace := ["slices.overlaps[swash/api.Glyph]"], unfollowed := true, recurses := true, apart := false, narrowed := true }
def WholeGrowsUptoSaid : Prop := wholeGrowsUptoRow.holds Try.pinned (OpenSpec.upto wholeGrowsSpec)

end Rows
end Go.Proofs.Ytlgkikmmpnnnfaa
