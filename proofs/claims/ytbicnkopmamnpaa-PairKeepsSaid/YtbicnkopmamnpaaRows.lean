/-
  No cell of these rows narrows 'for every input' (looked for: loops, veiled, ifaces, maps, wideKeys, modest, calm, conditions, laid).
  DERIVED. THE GIVEN ROWS OF THIS SEAT. 13 by the template 'for every input the law returns true; each argument reads behind the call as it read before'; 0 by the template 'total and deterministic' (their statements: YtbicnkopmamnpaaTotals.lean).
  GIVEN WITH THE SEED: the statements are not yours to turn. If you find one false, say at which input.
  Laid BY PROGRAM, IN A SANDBOX (cutbox-rows.mjs): the forced cells as the released guide's own fill.sh prints them over the translation 2e1dd2eec4398d78… (all of the seat's roots in one cut). By AI agents, Wed Nov 11 2026. No macro, syntax, notation, axiom, sorry.
-/
import Derived.Test.YtbicnkopmamnpaaChecked
import GoSem.Claim
import GoSem.ClaimJoined
import GoSem.ClaimMapViews
import Derived.JoinedTies
import Derived.KernelRfl
namespace Go.Proofs.Ytbicnkopmamnpaa
/- THE CELL 'sum', in the pinned program and in every row, IS THE sha256 OF THE DUMP (.gsa) THAT YtbicnkopmamnpaaProg.lean LOADS. Nothing in Lean hashes anything: it is a label: what it is worth is what the hold of that sum in a sandbox is worth. -/
noncomputable def Try.pinned : Pinned := { name := "ytbicnkopmamnpaa", sum := "2e1dd2eec4398d78f1788aa81065db569493da7df35a00e1bac08263fa936d49", checked := Try.checked }
namespace Rows
def none {H : Type} : Left H := { results := [], args := [] }

/-- 'swashlaw18.InsIdle': WHATEVER THE INPUT: true; the input reads as it did. -/
def insIdleSpec : ChangeSpec := { name := "insIdle", fn := fun _ => fun
  | [d1, d2] => { results := [.lit (.bool true)], args := [d1, d2] }
  | _ => none }
def insIdleRow : OpenClaim := { program := "ytbicnkopmamnpaa", sum := "2e1dd2eec4398d78f1788aa81065db569493da7df35a00e1bac08263fa936d49", func := "swash/swashlaw18.InsIdle", spec := "insIdle", inPlace := ["slices.overlaps[swash/api.Glyph]"], unfollowed := true, recurses := true, apart := false }
def InsIdleSaid : Prop := insIdleRow.holds Try.pinned (OpenSpec.ofChange insIdleSpec)

/-- ITS FALSE NEIGHBOUR: 'it returns false'. Refute it at one input. -/
def insIdleWrong : ChangeSpec := { name := "insIdle", fn := fun _ => fun
  | [d1, d2] => { results := [.lit (.bool false)], args := [d1, d2] }
  | _ => none }
def InsIdleWrongFalsely : Prop := insIdleRow.holds Try.pinned (OpenSpec.ofChange insIdleWrong)

/-- 'swashlaw17.LigaReads': WHATEVER THE INPUT: true; the input reads as it did. -/
def ligaReadsSpec : ChangeSpec := { name := "ligaReads", fn := fun _ => fun
  | [d1, d2, d3] => { results := [.lit (.bool true)], args := [d1, d2, d3] }
  | _ => none }
def ligaReadsRow : OpenClaim := { program := "ytbicnkopmamnpaa", sum := "2e1dd2eec4398d78f1788aa81065db569493da7df35a00e1bac08263fa936d49", func := "swash/swashlaw17.LigaReads", spec := "ligaReads", unfollowed := true, recurses := true, apart := false }
def LigaReadsSaid : Prop := ligaReadsRow.holds Try.pinned (OpenSpec.ofChange ligaReadsSpec)

/-- ITS FALSE NEIGHBOUR: 'it returns false'. Refute it at one input. -/
def ligaReadsWrong : ChangeSpec := { name := "ligaReads", fn := fun _ => fun
  | [d1, d2, d3] => { results := [.lit (.bool false)], args := [d1, d2, d3] }
  | _ => none }
def LigaReadsWrongFalsely : Prop := ligaReadsRow.holds Try.pinned (OpenSpec.ofChange ligaReadsWrong)

/-- 'swashlaw17.LigaRuns': WHATEVER THE INPUT: true; the input reads as it did. -/
def ligaRunsSpec : ChangeSpec := { name := "ligaRuns", fn := fun _ => fun
  | [d1, d2] => { results := [.lit (.bool true)], args := [d1, d2] }
  | _ => none }
def ligaRunsRow : OpenClaim := { program := "ytbicnkopmamnpaa", sum := "2e1dd2eec4398d78f1788aa81065db569493da7df35a00e1bac08263fa936d49", func := "swash/swashlaw17.LigaRuns", spec := "ligaRuns", unfollowed := true, recurses := true, apart := false }
def LigaRunsSaid : Prop := ligaRunsRow.holds Try.pinned (OpenSpec.ofChange ligaRunsSpec)

/-- ITS FALSE NEIGHBOUR: 'it returns false'. Refute it at one input. -/
def ligaRunsWrong : ChangeSpec := { name := "ligaRuns", fn := fun _ => fun
  | [d1, d2] => { results := [.lit (.bool false)], args := [d1, d2] }
  | _ => none }
def LigaRunsWrongFalsely : Prop := ligaRunsRow.holds Try.pinned (OpenSpec.ofChange ligaRunsWrong)

/-- 'swashlaw21.PlaceAdds': WHATEVER THE INPUT: true; the input reads as it did. -/
def placeAddsSpec : ChangeSpec := { name := "placeAdds", fn := fun _ => fun
  | [d1, d2] => { results := [.lit (.bool true)], args := [d1, d2] }
  | _ => none }
def placeAddsRow : OpenClaim := { program := "ytbicnkopmamnpaa", sum := "2e1dd2eec4398d78f1788aa81065db569493da7df35a00e1bac08263fa936d49", func := "swash/swashlaw21.PlaceAdds", spec := "placeAdds", apart := false }
def PlaceAddsSaid : Prop := placeAddsRow.holds Try.pinned (OpenSpec.ofChange placeAddsSpec)

/-- ITS FALSE NEIGHBOUR: 'it returns false'. Refute it at one input. -/
def placeAddsWrong : ChangeSpec := { name := "placeAdds", fn := fun _ => fun
  | [d1, d2] => { results := [.lit (.bool false)], args := [d1, d2] }
  | _ => none }
def PlaceAddsWrongFalsely : Prop := placeAddsRow.holds Try.pinned (OpenSpec.ofChange placeAddsWrong)

/-- 'swashlaw21.PlaceDoes': WHATEVER THE INPUT: true; the input reads as it did. -/
def placeDoesSpec : ChangeSpec := { name := "placeDoes", fn := fun _ => fun
  | [d1, d2, d3] => { results := [.lit (.bool true)], args := [d1, d2, d3] }
  | _ => none }
def placeDoesRow : OpenClaim := { program := "ytbicnkopmamnpaa", sum := "2e1dd2eec4398d78f1788aa81065db569493da7df35a00e1bac08263fa936d49", func := "swash/swashlaw21.PlaceDoes", spec := "placeDoes", apart := false }
def PlaceDoesSaid : Prop := placeDoesRow.holds Try.pinned (OpenSpec.ofChange placeDoesSpec)

/-- ITS FALSE NEIGHBOUR: 'it returns false'. Refute it at one input. -/
def placeDoesWrong : ChangeSpec := { name := "placeDoes", fn := fun _ => fun
  | [d1, d2, d3] => { results := [.lit (.bool false)], args := [d1, d2, d3] }
  | _ => none }
def PlaceDoesWrongFalsely : Prop := placeDoesRow.holds Try.pinned (OpenSpec.ofChange placeDoesWrong)

/-- 'swashlaw21.PlaceNear': WHATEVER THE INPUT: true; the input reads as it did. -/
def placeNearSpec : ChangeSpec := { name := "placeNear", fn := fun _ => fun
  | [d1, d2, d3] => { results := [.lit (.bool true)], args := [d1, d2, d3] }
  | _ => none }
def placeNearRow : OpenClaim := { program := "ytbicnkopmamnpaa", sum := "2e1dd2eec4398d78f1788aa81065db569493da7df35a00e1bac08263fa936d49", func := "swash/swashlaw21.PlaceNear", spec := "placeNear", apart := false }
def PlaceNearSaid : Prop := placeNearRow.holds Try.pinned (OpenSpec.ofChange placeNearSpec)

/-- ITS FALSE NEIGHBOUR: 'it returns false'. Refute it at one input. -/
def placeNearWrong : ChangeSpec := { name := "placeNear", fn := fun _ => fun
  | [d1, d2, d3] => { results := [.lit (.bool false)], args := [d1, d2, d3] }
  | _ => none }
def PlaceNearWrongFalsely : Prop := placeNearRow.holds Try.pinned (OpenSpec.ofChange placeNearWrong)

/-- 'swashlaw21.PlaceOwn': WHATEVER THE INPUT: true; the input reads as it did. -/
def placeOwnSpec : ChangeSpec := { name := "placeOwn", fn := fun _ => fun
  | [d] => { results := [.lit (.bool true)], args := [d] }
  | _ => none }
def placeOwnRow : OpenClaim := { program := "ytbicnkopmamnpaa", sum := "2e1dd2eec4398d78f1788aa81065db569493da7df35a00e1bac08263fa936d49", func := "swash/swashlaw21.PlaceOwn", spec := "placeOwn", apart := false }
def PlaceOwnSaid : Prop := placeOwnRow.holds Try.pinned (OpenSpec.ofChange placeOwnSpec)

/-- ITS FALSE NEIGHBOUR: 'it returns false'. Refute it at one input. -/
def placeOwnWrong : ChangeSpec := { name := "placeOwn", fn := fun _ => fun
  | [d] => { results := [.lit (.bool false)], args := [d] }
  | _ => none }
def PlaceOwnWrongFalsely : Prop := placeOwnRow.holds Try.pinned (OpenSpec.ofChange placeOwnWrong)

/-- 'swashlaw22.PairReads': WHATEVER THE INPUT: true; the input reads as it did. -/
def pairReadsSpec : ChangeSpec := { name := "pairReads", fn := fun _ => fun
  | [d1, d2, d3] => { results := [.lit (.bool true)], args := [d1, d2, d3] }
  | _ => none }
def pairReadsRow : OpenClaim := { program := "ytbicnkopmamnpaa", sum := "2e1dd2eec4398d78f1788aa81065db569493da7df35a00e1bac08263fa936d49", func := "swash/swashlaw22.PairReads", spec := "pairReads", unfollowed := true, recurses := true, apart := false }
def PairReadsSaid : Prop := pairReadsRow.holds Try.pinned (OpenSpec.ofChange pairReadsSpec)

/-- ITS FALSE NEIGHBOUR: 'it returns false'. Refute it at one input. -/
def pairReadsWrong : ChangeSpec := { name := "pairReads", fn := fun _ => fun
  | [d1, d2, d3] => { results := [.lit (.bool false)], args := [d1, d2, d3] }
  | _ => none }
def PairReadsWrongFalsely : Prop := pairReadsRow.holds Try.pinned (OpenSpec.ofChange pairReadsWrong)

/-- 'swashlaw22.PairLists': WHATEVER THE INPUT: true; the input reads as it did. -/
def pairListsSpec : ChangeSpec := { name := "pairLists", fn := fun _ => fun
  | [d1, d2, d3] => { results := [.lit (.bool true)], args := [d1, d2, d3] }
  | _ => none }
def pairListsRow : OpenClaim := { program := "ytbicnkopmamnpaa", sum := "2e1dd2eec4398d78f1788aa81065db569493da7df35a00e1bac08263fa936d49", func := "swash/swashlaw22.PairLists", spec := "pairLists", unfollowed := true, recurses := true, apart := false }
def PairListsSaid : Prop := pairListsRow.holds Try.pinned (OpenSpec.ofChange pairListsSpec)

/-- ITS FALSE NEIGHBOUR: 'it returns false'. Refute it at one input. -/
def pairListsWrong : ChangeSpec := { name := "pairLists", fn := fun _ => fun
  | [d1, d2, d3] => { results := [.lit (.bool false)], args := [d1, d2, d3] }
  | _ => none }
def PairListsWrongFalsely : Prop := pairListsRow.holds Try.pinned (OpenSpec.ofChange pairListsWrong)

/-- 'swashlaw22.PairForms': WHATEVER THE INPUT: true; the input reads as it did. -/
def pairFormsSpec : ChangeSpec := { name := "pairForms", fn := fun _ => fun
  | [d1, d2, d3] => { results := [.lit (.bool true)], args := [d1, d2, d3] }
  | _ => none }
def pairFormsRow : OpenClaim := { program := "ytbicnkopmamnpaa", sum := "2e1dd2eec4398d78f1788aa81065db569493da7df35a00e1bac08263fa936d49", func := "swash/swashlaw22.PairForms", spec := "pairForms", unfollowed := true, recurses := true, apart := false }
def PairFormsSaid : Prop := pairFormsRow.holds Try.pinned (OpenSpec.ofChange pairFormsSpec)

/-- ITS FALSE NEIGHBOUR: 'it returns false'. Refute it at one input. -/
def pairFormsWrong : ChangeSpec := { name := "pairForms", fn := fun _ => fun
  | [d1, d2, d3] => { results := [.lit (.bool false)], args := [d1, d2, d3] }
  | _ => none }
def PairFormsWrongFalsely : Prop := pairFormsRow.holds Try.pinned (OpenSpec.ofChange pairFormsWrong)

/-- 'swashlaw22.PairKeeps': WHATEVER THE INPUT: true; the input reads as it did. -/
def pairKeepsSpec : ChangeSpec := { name := "pairKeeps", fn := fun _ => fun
  | [d1, d2, d3] => { results := [.lit (.bool true)], args := [d1, d2, d3] }
  | _ => none }
def pairKeepsRow : OpenClaim := { program := "ytbicnkopmamnpaa", sum := "2e1dd2eec4398d78f1788aa81065db569493da7df35a00e1bac08263fa936d49", func := "swash/swashlaw22.PairKeeps", spec := "pairKeeps", unfollowed := true, recurses := true, apart := false }
def PairKeepsSaid : Prop := pairKeepsRow.holds Try.pinned (OpenSpec.ofChange pairKeepsSpec)

/-- ITS FALSE NEIGHBOUR: 'it returns false'. Refute it at one input. -/
def pairKeepsWrong : ChangeSpec := { name := "pairKeeps", fn := fun _ => fun
  | [d1, d2, d3] => { results := [.lit (.bool false)], args := [d1, d2, d3] }
  | _ => none }
def PairKeepsWrongFalsely : Prop := pairKeepsRow.holds Try.pinned (OpenSpec.ofChange pairKeepsWrong)

/-- 'swashlaw22.PairTakes': WHATEVER THE INPUT: true; the input reads as it did. -/
def pairTakesSpec : ChangeSpec := { name := "pairTakes", fn := fun _ => fun
  | [d1, d2] => { results := [.lit (.bool true)], args := [d1, d2] }
  | _ => none }
def pairTakesRow : OpenClaim := { program := "ytbicnkopmamnpaa", sum := "2e1dd2eec4398d78f1788aa81065db569493da7df35a00e1bac08263fa936d49", func := "swash/swashlaw22.PairTakes", spec := "pairTakes", unfollowed := true, recurses := true, apart := false }
def PairTakesSaid : Prop := pairTakesRow.holds Try.pinned (OpenSpec.ofChange pairTakesSpec)

/-- ITS FALSE NEIGHBOUR: 'it returns false'. Refute it at one input. -/
def pairTakesWrong : ChangeSpec := { name := "pairTakes", fn := fun _ => fun
  | [d1, d2] => { results := [.lit (.bool false)], args := [d1, d2] }
  | _ => none }
def PairTakesWrongFalsely : Prop := pairTakesRow.holds Try.pinned (OpenSpec.ofChange pairTakesWrong)

/-- 'swashtop.WholeTotals': WHATEVER THE INPUT: true; the input reads as it did. -/
def wholeTotalsSpec : ChangeSpec := { name := "wholeTotals", fn := fun _ => fun
  | [d1, d2, d3] => { results := [.lit (.bool true)], args := [d1, d2, d3] }
  | _ => none }
def wholeTotalsRow : OpenClaim := { program := "ytbicnkopmamnpaa", sum := "2e1dd2eec4398d78f1788aa81065db569493da7df35a00e1bac08263fa936d49", func := "swash/swashtop.WholeTotals", spec := "wholeTotals", unfollowed := true, recurses := true, apart := false }
def WholeTotalsSaid : Prop := wholeTotalsRow.holds Try.pinned (OpenSpec.ofChange wholeTotalsSpec)

/-- ITS FALSE NEIGHBOUR: 'it returns false'. Refute it at one input. -/
def wholeTotalsWrong : ChangeSpec := { name := "wholeTotals", fn := fun _ => fun
  | [d1, d2, d3] => { results := [.lit (.bool false)], args := [d1, d2, d3] }
  | _ => none }
def WholeTotalsWrongFalsely : Prop := wholeTotalsRow.holds Try.pinned (OpenSpec.ofChange wholeTotalsWrong)

/- THE SECOND FORM. 'bulk': how many values and letters a reading holds, each counted each time it is reached (what is shared counts as often as it is met; a slice's spare places count too). A statement '..UptoSaid' is the law's where the arguments, and the package variables that the reading takes, are together of bulk at most 1048576: NARROWER than '..Said'. Prove '..Said' where nothing that the law and all that it calls make is longer than what came in: it says more and counts as full. Else prove '..UptoSaid'. A law counts once. -/
mutual
def uptoBulk {H : Type} : DataW H → Nat
  | .lit (.string bytes) => bytes.length + 1
  | .lit _ => 1
  | .nil => 1
  | .ptr d => uptoBulk d + 1
  | .slice elems spare => uptoBulkAll elems + uptoBulkAll spare + 1
  | .agg parts => uptoBulkAll parts + 1
  | .iface _ d => uptoBulk d + 1
  | .map entries => uptoBulkEntries entries + 1
  | .held _ => 1
def uptoBulkAll {H : Type} : List (DataW H) → Nat
  | [] => 0
  | d :: r => uptoBulk d + uptoBulkAll r
def uptoBulkEntries {H : Type} : List (Lit × DataW H) → Nat
  | [] => 0
  | x :: r => uptoBulkEntry x + uptoBulkEntries r
def uptoBulkEntry {H : Type} : Lit × DataW H → Nat
  | (.string bytes, d) => bytes.length + uptoBulk d + 1
  | (_, d) => uptoBulk d + 1
 end
def uptoSmall : (H : Type) → List (DataW H) → Bool := fun _ ds => decide (uptoBulkAll ds ≤ 1048576)
def OpenSpec.upto (s : _root_.Go.ChangeSpec) : _root_.Go.OpenSpec := { _root_.Go.OpenSpec.ofChange s with cond := some uptoSmall }

/-- 'swashlaw18.InsIdle', WHERE WHAT IT READS IS OF BULK AT MOST 1048576: true; the input reads as it did. -/
def insIdleUptoRow : OpenClaim := { program := "ytbicnkopmamnpaa", sum := "2e1dd2eec4398d78f1788aa81065db569493da7df35a00e1bac08263fa936d49", func := "swash/swashlaw18.InsIdle", spec := "insIdle", inPlace := ["slices.overlaps[swash/api.Glyph]"], unfollowed := true, recurses := true, apart := false, narrowed := true }
def InsIdleUptoSaid : Prop := insIdleUptoRow.holds Try.pinned (OpenSpec.upto insIdleSpec)

/-- 'swashlaw17.LigaReads', WHERE WHAT IT READS IS OF BULK AT MOST 1048576: true; the input reads as it did. -/
def ligaReadsUptoRow : OpenClaim := { program := "ytbicnkopmamnpaa", sum := "2e1dd2eec4398d78f1788aa81065db569493da7df35a00e1bac08263fa936d49", func := "swash/swashlaw17.LigaReads", spec := "ligaReads", unfollowed := true, recurses := true, apart := false, narrowed := true }
def LigaReadsUptoSaid : Prop := ligaReadsUptoRow.holds Try.pinned (OpenSpec.upto ligaReadsSpec)

/-- 'swashlaw17.LigaRuns', WHERE WHAT IT READS IS OF BULK AT MOST 1048576: true; the input reads as it did. -/
def ligaRunsUptoRow : OpenClaim := { program := "ytbicnkopmamnpaa", sum := "2e1dd2eec4398d78f1788aa81065db569493da7df35a00e1bac08263fa936d49", func := "swash/swashlaw17.LigaRuns", spec := "ligaRuns", unfollowed := true, recurses := true, apart := false, narrowed := true }
def LigaRunsUptoSaid : Prop := ligaRunsUptoRow.holds Try.pinned (OpenSpec.upto ligaRunsSpec)

/-- 'swashlaw21.PlaceAdds', WHERE WHAT IT READS IS OF BULK AT MOST 1048576: true; the input reads as it did. -/
def placeAddsUptoRow : OpenClaim := { program := "ytbicnkopmamnpaa", sum := "2e1dd2eec4398d78f1788aa81065db569493da7df35a00e1bac08263fa936d49", func := "swash/swashlaw21.PlaceAdds", spec := "placeAdds", apart := false, narrowed := true }
def PlaceAddsUptoSaid : Prop := placeAddsUptoRow.holds Try.pinned (OpenSpec.upto placeAddsSpec)

/-- 'swashlaw21.PlaceDoes', WHERE WHAT IT READS IS OF BULK AT MOST 1048576: true; the input reads as it did. -/
def placeDoesUptoRow : OpenClaim := { program := "ytbicnkopmamnpaa", sum := "2e1dd2eec4398d78f1788aa81065db569493da7df35a00e1bac08263fa936d49", func := "swash/swashlaw21.PlaceDoes", spec := "placeDoes", apart := false, narrowed := true }
def PlaceDoesUptoSaid : Prop := placeDoesUptoRow.holds Try.pinned (OpenSpec.upto placeDoesSpec)

/-- 'swashlaw21.PlaceNear', WHERE WHAT IT READS IS OF BULK AT MOST 1048576: true; the input reads as it did. -/
def placeNearUptoRow : OpenClaim := { program := "ytbicnkopmamnpaa", sum := "2e1dd2eec4398d78f1788aa81065db569493da7df35a00e1bac08263fa936d49", func := "swash/swashlaw21.PlaceNear", spec := "placeNear", apart := false, narrowed := true }
def PlaceNearUptoSaid : Prop := placeNearUptoRow.holds Try.pinned (OpenSpec.upto placeNearSpec)

/-- 'swashlaw21.PlaceOwn', WHERE WHAT IT READS IS OF BULK AT MOST 1048576: true; the input reads as it did. -/
def placeOwnUptoRow : OpenClaim := { program := "ytbicnkopmamnpaa", sum := "2e1dd2eec4398d78f1788aa81065db569493da7df35a00e1bac08263fa936d49", func := "swash/swashlaw21.PlaceOwn", spec := "placeOwn", apart := false, narrowed := true }
def PlaceOwnUptoSaid : Prop := placeOwnUptoRow.holds Try.pinned (OpenSpec.upto placeOwnSpec)

/-- 'swashlaw22.PairReads', WHERE WHAT IT READS IS OF BULK AT MOST 1048576: true; the input reads as it did. -/
def pairReadsUptoRow : OpenClaim := { program := "ytbicnkopmamnpaa", sum := "2e1dd2eec4398d78f1788aa81065db569493da7df35a00e1bac08263fa936d49", func := "swash/swashlaw22.PairReads", spec := "pairReads", unfollowed := true, recurses := true, apart := false, narrowed := true }
def PairReadsUptoSaid : Prop := pairReadsUptoRow.holds Try.pinned (OpenSpec.upto pairReadsSpec)

/-- 'swashlaw22.PairLists', WHERE WHAT IT READS IS OF BULK AT MOST 1048576: true; the input reads as it did. -/
def pairListsUptoRow : OpenClaim := { program := "ytbicnkopmamnpaa", sum := "2e1dd2eec4398d78f1788aa81065db569493da7df35a00e1bac08263fa936d49", func := "swash/swashlaw22.PairLists", spec := "pairLists", unfollowed := true, recurses := true, apart := false, narrowed := true }
def PairListsUptoSaid : Prop := pairListsUptoRow.holds Try.pinned (OpenSpec.upto pairListsSpec)

/-- 'swashlaw22.PairForms', WHERE WHAT IT READS IS OF BULK AT MOST 1048576: true; the input reads as it did. -/
def pairFormsUptoRow : OpenClaim := { program := "ytbicnkopmamnpaa", sum := "2e1dd2eec4398d78f1788aa81065db569493da7df35a00e1bac08263fa936d49", func := "swash/swashlaw22.PairForms", spec := "pairForms", unfollowed := true, recurses := true, apart := false, narrowed := true }
def PairFormsUptoSaid : Prop := pairFormsUptoRow.holds Try.pinned (OpenSpec.upto pairFormsSpec)

/-- 'swashlaw22.PairKeeps', WHERE WHAT IT READS IS OF BULK AT MOST 1048576: true; the input reads as it did. -/
def pairKeepsUptoRow : OpenClaim := { program := "ytbicnkopmamnpaa", sum := "2e1dd2eec4398d78f1788aa81065db569493da7df35a00e1bac08263fa936d49", func := "swash/swashlaw22.PairKeeps", spec := "pairKeeps", unfollowed := true, recurses := true, apart := false, narrowed := true }
def PairKeepsUptoSaid : Prop := pairKeepsUptoRow.holds Try.pinned (OpenSpec.upto pairKeepsSpec)

/-- 'swashlaw22.PairTakes', WHERE WHAT IT READS IS OF BULK AT MOST 1048576: true; the input reads as it did. -/
def pairTakesUptoRow : OpenClaim := { program := "ytbicnkopmamnpaa", sum := "2e1dd2eec4398d78f1788aa81065db569493da7df35a00e1bac08263fa936d49", func := "swash/swashlaw22.PairTakes", spec := "pairTakes", unfollowed := true, recurses := true, apart := false, narrowed := true }
def PairTakesUptoSaid : Prop := pairTakesUptoRow.holds Try.pinned (OpenSpec.upto pairTakesSpec)

/-- 'swashtop.WholeTotals', WHERE WHAT IT READS IS OF BULK AT MOST 1048576: true; the input reads as it did. -/
def wholeTotalsUptoRow : OpenClaim := { program := "ytbicnkopmamnpaa", sum := "2e1dd2eec4398d78f1788aa81065db569493da7df35a00e1bac08263fa936d49", func := "swash/swashtop.WholeTotals", spec := "wholeTotals", unfollowed := true, recurses := true, apart := false, narrowed := true }
def WholeTotalsUptoSaid : Prop := wholeTotalsUptoRow.holds Try.pinned (OpenSpec.upto wholeTotalsSpec)

end Rows
end Go.Proofs.Ytbicnkopmamnpaa
