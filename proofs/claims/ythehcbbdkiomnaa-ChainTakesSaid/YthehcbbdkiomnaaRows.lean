/-
  No cell of these rows narrows 'for every input' (looked for: loops, veiled, ifaces, maps, wideKeys, modest, calm, conditions, laid).
  DERIVED. THE GIVEN ROWS OF THIS SEAT. 7 by the template 'for every input the law returns true; each argument reads behind the call as it read before'; 0 by the template 'total and deterministic' (their statements: YthehcbbdkiomnaaTotals.lean).
  GIVEN WITH THE SEED: the statements are not yours to turn. If you find one false, say at which input.
  Laid BY PROGRAM, IN A SANDBOX (cutbox-rows.mjs): the forced cells as the released guide's own fill.sh prints them over the translation 1eece619e1f4b391… (all of the seat's roots in one cut). By AI agents, Wed Nov 11 2026. No macro, syntax, notation, axiom, sorry.
-/
import Derived.Test.YthehcbbdkiomnaaChecked
import GoSem.Claim
import GoSem.ClaimJoined
import GoSem.ClaimMapViews
import Derived.JoinedTies
import Derived.KernelRfl
namespace Go.Proofs.Ythehcbbdkiomnaa
/- THE CELL 'sum', in the pinned program and in every row, IS THE sha256 OF THE DUMP (.gsa) THAT YthehcbbdkiomnaaProg.lean LOADS. Nothing in Lean hashes anything: it is a label: what it is worth is what the hold of that sum in a sandbox is worth. -/
noncomputable def Try.pinned : Pinned := { name := "ythehcbbdkiomnaa", sum := "1eece619e1f4b3911d9a7bc03dd6a61d56b0bbde747f2bc89461e8a4b58c0fac", checked := Try.checked }
namespace Rows
def none {H : Type} : Left H := { results := [], args := [] }

/-- 'swashlaw17.LigaReads': WHATEVER THE INPUT: true; the input reads as it did. -/
def ligaReadsSpec : ChangeSpec := { name := "ligaReads", fn := fun _ => fun
  | [d1, d2, d3] => { results := [.lit (.bool true)], args := [d1, d2, d3] }
  | _ => none }
def ligaReadsRow : OpenClaim := { program := "ythehcbbdkiomnaa", sum := "1eece619e1f4b3911d9a7bc03dd6a61d56b0bbde747f2bc89461e8a4b58c0fac", func := "swash/swashlaw17.LigaReads", spec := "ligaReads", unfollowed := true, recurses := true, apart := false }
def LigaReadsSaid : Prop := ligaReadsRow.holds Try.pinned (OpenSpec.ofChange ligaReadsSpec)

/-- ITS FALSE NEIGHBOUR: 'it returns false'. Refute it at one input. -/
def ligaReadsWrong : ChangeSpec := { name := "ligaReads", fn := fun _ => fun
  | [d1, d2, d3] => { results := [.lit (.bool false)], args := [d1, d2, d3] }
  | _ => none }
def LigaReadsWrongFalsely : Prop := ligaReadsRow.holds Try.pinned (OpenSpec.ofChange ligaReadsWrong)

/-- 'swashlaw17.LigaRuns': WHATEVER THE INPUT: true; the input reads as it did. -/
def ligaRunsSpec : ChangeSpec := { name := "ligaRuns", fn := fun _ => fun
  | [d1, d2] => { results := [.lit (.bool true)], args := [d1, d2] }
  | _ => none }
def ligaRunsRow : OpenClaim := { program := "ythehcbbdkiomnaa", sum := "1eece619e1f4b3911d9a7bc03dd6a61d56b0bbde747f2bc89461e8a4b58c0fac", func := "swash/swashlaw17.LigaRuns", spec := "ligaRuns", unfollowed := true, recurses := true, apart := false }
def LigaRunsSaid : Prop := ligaRunsRow.holds Try.pinned (OpenSpec.ofChange ligaRunsSpec)

/-- ITS FALSE NEIGHBOUR: 'it returns false'. Refute it at one input. -/
def ligaRunsWrong : ChangeSpec := { name := "ligaRuns", fn := fun _ => fun
  | [d1, d2] => { results := [.lit (.bool false)], args := [d1, d2] }
  | _ => none }
def LigaRunsWrongFalsely : Prop := ligaRunsRow.holds Try.pinned (OpenSpec.ofChange ligaRunsWrong)

/-- 'swashlaw17.LigaIdle': WHATEVER THE INPUT: true; the input reads as it did. -/
def ligaIdleSpec : ChangeSpec := { name := "ligaIdle", fn := fun _ => fun
  | [d1, d2, d3] => { results := [.lit (.bool true)], args := [d1, d2, d3] }
  | _ => none }
def ligaIdleRow : OpenClaim := { program := "ythehcbbdkiomnaa", sum := "1eece619e1f4b3911d9a7bc03dd6a61d56b0bbde747f2bc89461e8a4b58c0fac", func := "swash/swashlaw17.LigaIdle", spec := "ligaIdle", unfollowed := true, recurses := true, apart := false }
def LigaIdleSaid : Prop := ligaIdleRow.holds Try.pinned (OpenSpec.ofChange ligaIdleSpec)

/-- ITS FALSE NEIGHBOUR: 'it returns false'. Refute it at one input. -/
def ligaIdleWrong : ChangeSpec := { name := "ligaIdle", fn := fun _ => fun
  | [d1, d2, d3] => { results := [.lit (.bool false)], args := [d1, d2, d3] }
  | _ => none }
def LigaIdleWrongFalsely : Prop := ligaIdleRow.holds Try.pinned (OpenSpec.ofChange ligaIdleWrong)

/-- 'swashlaw19.ChainReads': WHATEVER THE INPUT: true; the input reads as it did. -/
def chainReadsSpec : ChangeSpec := { name := "chainReads", fn := fun _ => fun
  | [d] => { results := [.lit (.bool true)], args := [d] }
  | _ => none }
def chainReadsRow : OpenClaim := { program := "ythehcbbdkiomnaa", sum := "1eece619e1f4b3911d9a7bc03dd6a61d56b0bbde747f2bc89461e8a4b58c0fac", func := "swash/swashlaw19.ChainReads", spec := "chainReads", unfollowed := true, recurses := true, apart := false }
def ChainReadsSaid : Prop := chainReadsRow.holds Try.pinned (OpenSpec.ofChange chainReadsSpec)

/-- ITS FALSE NEIGHBOUR: 'it returns false'. Refute it at one input. -/
def chainReadsWrong : ChangeSpec := { name := "chainReads", fn := fun _ => fun
  | [d] => { results := [.lit (.bool false)], args := [d] }
  | _ => none }
def ChainReadsWrongFalsely : Prop := chainReadsRow.holds Try.pinned (OpenSpec.ofChange chainReadsWrong)

/-- 'swashlaw19.ChainBack': WHATEVER THE INPUT: true; the input reads as it did. -/
def chainBackSpec : ChangeSpec := { name := "chainBack", fn := fun _ => fun
  | [d1, d2] => { results := [.lit (.bool true)], args := [d1, d2] }
  | _ => none }
def chainBackRow : OpenClaim := { program := "ythehcbbdkiomnaa", sum := "1eece619e1f4b3911d9a7bc03dd6a61d56b0bbde747f2bc89461e8a4b58c0fac", func := "swash/swashlaw19.ChainBack", spec := "chainBack", unfollowed := true, recurses := true, apart := false }
def ChainBackSaid : Prop := chainBackRow.holds Try.pinned (OpenSpec.ofChange chainBackSpec)

/-- ITS FALSE NEIGHBOUR: 'it returns false'. Refute it at one input. -/
def chainBackWrong : ChangeSpec := { name := "chainBack", fn := fun _ => fun
  | [d1, d2] => { results := [.lit (.bool false)], args := [d1, d2] }
  | _ => none }
def ChainBackWrongFalsely : Prop := chainBackRow.holds Try.pinned (OpenSpec.ofChange chainBackWrong)

/-- 'swashlaw19.ChainCuts': WHATEVER THE INPUT: true; the input reads as it did. -/
def chainCutsSpec : ChangeSpec := { name := "chainCuts", fn := fun _ => fun
  | [d1, d2] => { results := [.lit (.bool true)], args := [d1, d2] }
  | _ => none }
def chainCutsRow : OpenClaim := { program := "ythehcbbdkiomnaa", sum := "1eece619e1f4b3911d9a7bc03dd6a61d56b0bbde747f2bc89461e8a4b58c0fac", func := "swash/swashlaw19.ChainCuts", spec := "chainCuts", unfollowed := true, recurses := true, apart := false }
def ChainCutsSaid : Prop := chainCutsRow.holds Try.pinned (OpenSpec.ofChange chainCutsSpec)

/-- ITS FALSE NEIGHBOUR: 'it returns false'. Refute it at one input. -/
def chainCutsWrong : ChangeSpec := { name := "chainCuts", fn := fun _ => fun
  | [d1, d2] => { results := [.lit (.bool false)], args := [d1, d2] }
  | _ => none }
def ChainCutsWrongFalsely : Prop := chainCutsRow.holds Try.pinned (OpenSpec.ofChange chainCutsWrong)

/-- 'swashlaw19.ChainTakes': WHATEVER THE INPUT: true; the input reads as it did. -/
def chainTakesSpec : ChangeSpec := { name := "chainTakes", fn := fun _ => fun
  | [d] => { results := [.lit (.bool true)], args := [d] }
  | _ => none }
def chainTakesRow : OpenClaim := { program := "ythehcbbdkiomnaa", sum := "1eece619e1f4b3911d9a7bc03dd6a61d56b0bbde747f2bc89461e8a4b58c0fac", func := "swash/swashlaw19.ChainTakes", spec := "chainTakes", unfollowed := true, recurses := true, apart := false }
def ChainTakesSaid : Prop := chainTakesRow.holds Try.pinned (OpenSpec.ofChange chainTakesSpec)

/-- ITS FALSE NEIGHBOUR: 'it returns false'. Refute it at one input. -/
def chainTakesWrong : ChangeSpec := { name := "chainTakes", fn := fun _ => fun
  | [d] => { results := [.lit (.bool false)], args := [d] }
  | _ => none }
def ChainTakesWrongFalsely : Prop := chainTakesRow.holds Try.pinned (OpenSpec.ofChange chainTakesWrong)

/- THE SECOND FORM. 'bulk': how many values and letters a reading holds, each counted each time it is reached (what is shared counts as often as it is met; a slice's spare places count too). A statement '..UptoSaid' is the law's where the arguments, and the package variables that the reading takes, are together of bulk at most 1048576: NARROWER than '..Said'. Prove '..Said' where nothing that the law and all that it calls make is longer than what came in: it says more and counts as full. Else prove '..UptoSaid'. A law counts once. -/
mutual
def uptoBulk {H : Type} : DataW H → Nat
  | .lit (.string bytes) => bytes.length + 1
  | .lit _ => 1
  | .nil => 1
  | .ptr d => uptoBulk d + 1
  | .slice elems spare => uptoBulkAll elems + uptoBulkAll spare + 1
  | .agg parts => uptoBulkAll parts + 1
  | .iface _ d => uptoBulk d + 1
  | .map entries => uptoBulkEntries entries + 1
  | .held _ => 1
def uptoBulkAll {H : Type} : List (DataW H) → Nat
  | [] => 0
  | d :: r => uptoBulk d + uptoBulkAll r
def uptoBulkEntries {H : Type} : List (Lit × DataW H) → Nat
  | [] => 0
  | x :: r => uptoBulkEntry x + uptoBulkEntries r
def uptoBulkEntry {H : Type} : Lit × DataW H → Nat
  | (.string bytes, d) => bytes.length + uptoBulk d + 1
  | (_, d) => uptoBulk d + 1
 end
def uptoSmall : (H : Type) → List (DataW H) → Bool := fun _ ds => decide (uptoBulkAll ds ≤ 1048576)
def OpenSpec.upto (s : _root_.Go.ChangeSpec) : _root_.Go.OpenSpec := { _root_.Go.OpenSpec.ofChange s with cond := some uptoSmall }

/-- 'swashlaw17.LigaReads', WHERE WHAT IT READS IS OF BULK AT MOST 1048576: true; the input reads as it did. -/
def ligaReadsUptoRow : OpenClaim := { program := "ythehcbbdkiomnaa", sum := "1eece619e1f4b3911d9a7bc03dd6a61d56b0bbde747f2bc89461e8a4b58c0fac", func := "swash/swashlaw17.LigaReads", spec := "ligaReads", unfollowed := true, recurses := true, apart := false, narrowed := true }
def LigaReadsUptoSaid : Prop := ligaReadsUptoRow.holds Try.pinned (OpenSpec.upto ligaReadsSpec)

/-- 'swashlaw17.LigaRuns', WHERE WHAT IT READS IS OF BULK AT MOST 1048576: true; the input reads as it did. -/
def ligaRunsUptoRow : OpenClaim := { program := "ythehcbbdkiomnaa", sum := "1eece619e1f4b3911d9a7bc03dd6a61d56b0bbde747f2bc89461e8a4b58c0fac", func := "swash/swashlaw17.LigaRuns", spec := "ligaRuns", unfollowed := true, recurses := true, apart := false, narrowed := true }
def LigaRunsUptoSaid : Prop := ligaRunsUptoRow.holds Try.pinned (OpenSpec.upto ligaRunsSpec)

/-- 'swashlaw17.LigaIdle', WHERE WHAT IT READS IS OF BULK AT MOST 1048576: true; the input reads as it did. -/
def ligaIdleUptoRow : OpenClaim := { program := "ythehcbbdkiomnaa", sum := "1eece619e1f4b3911d9a7bc03dd6a61d56b0bbde747f2bc89461e8a4b58c0fac", func := "swash/swashlaw17.LigaIdle", spec := "ligaIdle", unfollowed := true, recurses := true, apart := false, narrowed := true }
def LigaIdleUptoSaid : Prop := ligaIdleUptoRow.holds Try.pinned (OpenSpec.upto ligaIdleSpec)

/-- 'swashlaw19.ChainReads', WHERE WHAT IT READS IS OF BULK AT MOST 1048576: true; the input reads as it did. -/
def chainReadsUptoRow : OpenClaim := { program := "ythehcbbdkiomnaa", sum := "1eece619e1f4b3911d9a7bc03dd6a61d56b0bbde747f2bc89461e8a4b58c0fac", func := "swash/swashlaw19.ChainReads", spec := "chainReads", unfollowed := true, recurses := true, apart := false, narrowed := true }
def ChainReadsUptoSaid : Prop := chainReadsUptoRow.holds Try.pinned (OpenSpec.upto chainReadsSpec)

/-- 'swashlaw19.ChainBack', WHERE WHAT IT READS IS OF BULK AT MOST 1048576: true; the input reads as it did. -/
def chainBackUptoRow : OpenClaim := { program := "ythehcbbdkiomnaa", sum := "1eece619e1f4b3911d9a7bc03dd6a61d56b0bbde747f2bc89461e8a4b58c0fac", func := "swash/swashlaw19.ChainBack", spec := "chainBack", unfollowed := true, recurses := true, apart := false, narrowed := true }
def ChainBackUptoSaid : Prop := chainBackUptoRow.holds Try.pinned (OpenSpec.upto chainBackSpec)

/-- 'swashlaw19.ChainCuts', WHERE WHAT IT READS IS OF BULK AT MOST 1048576: true; the input reads as it did. -/
def chainCutsUptoRow : OpenClaim := { program := "ythehcbbdkiomnaa", sum := "1eece619e1f4b3911d9a7bc03dd6a61d56b0bbde747f2bc89461e8a4b58c0fac", func := "swash/swashlaw19.ChainCuts", spec := "chainCuts", unfollowed := true, recurses := true, apart := false, narrowed := true }
def ChainCutsUptoSaid : Prop := chainCutsUptoRow.holds Try.pinned (OpenSpec.upto chainCutsSpec)

/-- 'swashlaw19.ChainTakes', WHERE WHAT IT READS IS OF BULK AT MOST 1048576: true; the input reads as it did. -/
def chainTakesUptoRow : OpenClaim := { program := "ythehcbbdkiomnaa", sum := "1eece619e1f4b3911d9a7bc03dd6a61d56b0bbde747f2bc89461e8a4b58c0fac", func := "swash/swashlaw19.ChainTakes", spec := "chainTakes", unfollowed := true, recurses := true, apart := false, narrowed := true }
def ChainTakesUptoSaid : Prop := chainTakesUptoRow.holds Try.pinned (OpenSpec.upto chainTakesSpec)

end Rows
end Go.Proofs.Ythehcbbdkiomnaa
