/-
  No cell of these rows narrows 'for every input' (looked for: loops, veiled, ifaces, maps, wideKeys, modest, calm, conditions, laid).
  DERIVED. THE GIVEN ROWS OF THIS SEAT. 9 by the template 'for every input the law returns true; each argument reads behind the call as it read before'; 0 by the template 'total and deterministic' (their statements: YtcegoenlajkgfaaTotals.lean).
  GIVEN WITH THE SEED: the statements are not yours to turn. If you find one false, say at which input.
  Laid BY PROGRAM, IN A SANDBOX (cutbox-rows.mjs): the forced cells as the released guide's own fill.sh prints them over the translation 2021950b796ec55e… (all of the seat's roots in one cut). By AI agents, Wed Nov 11 2026. No macro, syntax, notation, axiom, sorry.
-/
import Derived.Test.YtcegoenlajkgfaaChecked
import GoSem.Claim
import GoSem.ClaimJoined
import GoSem.ClaimMapViews
import Derived.JoinedTies
import Derived.KernelRfl
namespace Go.Proofs.Ytcegoenlajkgfaa
/- THE CELL 'sum', in the pinned program and in every row, IS THE sha256 OF THE DUMP (.gsa) THAT YtcegoenlajkgfaaProg.lean LOADS. Nothing in Lean hashes anything: it is a label: what it is worth is what the hold of that sum in a sandbox is worth. -/
noncomputable def Try.pinned : Pinned := { name := "ytcegoenlajkgfaa", sum := "2021950b796ec55eddf481d76e98fd9cc9c3c73096207d73915bb00e37aaad32", checked := Try.checked }
namespace Rows
def none {H : Type} : Left H := { results := [], args := [] }

/-- 'swashlaw15.CtxRuns': WHATEVER THE INPUT: true; the input reads as it did. -/
def ctxRunsSpec : ChangeSpec := { name := "ctxRuns", fn := fun _ => fun
  | [d1, d2] => { results := [.lit (.bool true)], args := [d1, d2] }
  | _ => none }
def ctxRunsRow : OpenClaim := { program := "ytcegoenlajkgfaa", sum := "2021950b796ec55eddf481d76e98fd9cc9c3c73096207d73915bb00e37aaad32", func := "swash/swashlaw15.CtxRuns", spec := "ctxRuns", unfollowed := true, recurses := true, apart := false }
def CtxRunsSaid : Prop := ctxRunsRow.holds Try.pinned (OpenSpec.ofChange ctxRunsSpec)

/-- ITS FALSE NEIGHBOUR: 'it returns false'. Refute it at one input. -/
def ctxRunsWrong : ChangeSpec := { name := "ctxRuns", fn := fun _ => fun
  | [d1, d2] => { results := [.lit (.bool false)], args := [d1, d2] }
  | _ => none }
def CtxRunsWrongFalsely : Prop := ctxRunsRow.holds Try.pinned (OpenSpec.ofChange ctxRunsWrong)

/-- 'swashlaw15.CtxIdle': WHATEVER THE INPUT: true; the input reads as it did. -/
def ctxIdleSpec : ChangeSpec := { name := "ctxIdle", fn := fun _ => fun
  | [d1, d2, d3] => { results := [.lit (.bool true)], args := [d1, d2, d3] }
  | _ => none }
def ctxIdleRow : OpenClaim := { program := "ytcegoenlajkgfaa", sum := "2021950b796ec55eddf481d76e98fd9cc9c3c73096207d73915bb00e37aaad32", func := "swash/swashlaw15.CtxIdle", spec := "ctxIdle", unfollowed := true, recurses := true, apart := false }
def CtxIdleSaid : Prop := ctxIdleRow.holds Try.pinned (OpenSpec.ofChange ctxIdleSpec)

/-- ITS FALSE NEIGHBOUR: 'it returns false'. Refute it at one input. -/
def ctxIdleWrong : ChangeSpec := { name := "ctxIdle", fn := fun _ => fun
  | [d1, d2, d3] => { results := [.lit (.bool false)], args := [d1, d2, d3] }
  | _ => none }
def CtxIdleWrongFalsely : Prop := ctxIdleRow.holds Try.pinned (OpenSpec.ofChange ctxIdleWrong)

/-- 'swashlaw15.CtxSwap': WHATEVER THE INPUT: true; the input reads as it did. -/
def ctxSwapSpec : ChangeSpec := { name := "ctxSwap", fn := fun _ => fun
  | [d1, d2] => { results := [.lit (.bool true)], args := [d1, d2] }
  | _ => none }
def ctxSwapRow : OpenClaim := { program := "ytcegoenlajkgfaa", sum := "2021950b796ec55eddf481d76e98fd9cc9c3c73096207d73915bb00e37aaad32", func := "swash/swashlaw15.CtxSwap", spec := "ctxSwap", unfollowed := true, recurses := true, apart := false }
def CtxSwapSaid : Prop := ctxSwapRow.holds Try.pinned (OpenSpec.ofChange ctxSwapSpec)

/-- ITS FALSE NEIGHBOUR: 'it returns false'. Refute it at one input. -/
def ctxSwapWrong : ChangeSpec := { name := "ctxSwap", fn := fun _ => fun
  | [d1, d2] => { results := [.lit (.bool false)], args := [d1, d2] }
  | _ => none }
def CtxSwapWrongFalsely : Prop := ctxSwapRow.holds Try.pinned (OpenSpec.ofChange ctxSwapWrong)

/-- 'swashlaw15.CtxTakes': WHATEVER THE INPUT: true; the input reads as it did. -/
def ctxTakesSpec : ChangeSpec := { name := "ctxTakes", fn := fun _ => fun
  | [d1, d2] => { results := [.lit (.bool true)], args := [d1, d2] }
  | _ => none }
def ctxTakesRow : OpenClaim := { program := "ytcegoenlajkgfaa", sum := "2021950b796ec55eddf481d76e98fd9cc9c3c73096207d73915bb00e37aaad32", func := "swash/swashlaw15.CtxTakes", spec := "ctxTakes", unfollowed := true, recurses := true, apart := false }
def CtxTakesSaid : Prop := ctxTakesRow.holds Try.pinned (OpenSpec.ofChange ctxTakesSpec)

/-- ITS FALSE NEIGHBOUR: 'it returns false'. Refute it at one input. -/
def ctxTakesWrong : ChangeSpec := { name := "ctxTakes", fn := fun _ => fun
  | [d1, d2] => { results := [.lit (.bool false)], args := [d1, d2] }
  | _ => none }
def CtxTakesWrongFalsely : Prop := ctxTakesRow.holds Try.pinned (OpenSpec.ofChange ctxTakesWrong)

/-- 'swashlaw16.SwapRuns': WHATEVER THE INPUT: true; the input reads as it did. -/
def swapRunsSpec : ChangeSpec := { name := "swapRuns", fn := fun _ => fun
  | [d1, d2, d3] => { results := [.lit (.bool true)], args := [d1, d2, d3] }
  | _ => none }
def swapRunsRow : OpenClaim := { program := "ytcegoenlajkgfaa", sum := "2021950b796ec55eddf481d76e98fd9cc9c3c73096207d73915bb00e37aaad32", func := "swash/swashlaw16.SwapRuns", spec := "swapRuns", unfollowed := true, recurses := true, apart := false }
def SwapRunsSaid : Prop := swapRunsRow.holds Try.pinned (OpenSpec.ofChange swapRunsSpec)

/-- ITS FALSE NEIGHBOUR: 'it returns false'. Refute it at one input. -/
def swapRunsWrong : ChangeSpec := { name := "swapRuns", fn := fun _ => fun
  | [d1, d2, d3] => { results := [.lit (.bool false)], args := [d1, d2, d3] }
  | _ => none }
def SwapRunsWrongFalsely : Prop := swapRunsRow.holds Try.pinned (OpenSpec.ofChange swapRunsWrong)

/-- 'swashlaw16.SwapParts': WHATEVER THE INPUT: true; the input reads as it did. -/
def swapPartsSpec : ChangeSpec := { name := "swapParts", fn := fun _ => fun
  | [d1, d2, d3] => { results := [.lit (.bool true)], args := [d1, d2, d3] }
  | _ => none }
def swapPartsRow : OpenClaim := { program := "ytcegoenlajkgfaa", sum := "2021950b796ec55eddf481d76e98fd9cc9c3c73096207d73915bb00e37aaad32", func := "swash/swashlaw16.SwapParts", spec := "swapParts", unfollowed := true, recurses := true, apart := false }
def SwapPartsSaid : Prop := swapPartsRow.holds Try.pinned (OpenSpec.ofChange swapPartsSpec)

/-- ITS FALSE NEIGHBOUR: 'it returns false'. Refute it at one input. -/
def swapPartsWrong : ChangeSpec := { name := "swapParts", fn := fun _ => fun
  | [d1, d2, d3] => { results := [.lit (.bool false)], args := [d1, d2, d3] }
  | _ => none }
def SwapPartsWrongFalsely : Prop := swapPartsRow.holds Try.pinned (OpenSpec.ofChange swapPartsWrong)

/-- 'swashlaw16.SwapGone': WHATEVER THE INPUT: true; the input reads as it did. -/
def swapGoneSpec : ChangeSpec := { name := "swapGone", fn := fun _ => fun
  | [d1, d2] => { results := [.lit (.bool true)], args := [d1, d2] }
  | _ => none }
def swapGoneRow : OpenClaim := { program := "ytcegoenlajkgfaa", sum := "2021950b796ec55eddf481d76e98fd9cc9c3c73096207d73915bb00e37aaad32", func := "swash/swashlaw16.SwapGone", spec := "swapGone", unfollowed := true, recurses := true, apart := false }
def SwapGoneSaid : Prop := swapGoneRow.holds Try.pinned (OpenSpec.ofChange swapGoneSpec)

/-- ITS FALSE NEIGHBOUR: 'it returns false'. Refute it at one input. -/
def swapGoneWrong : ChangeSpec := { name := "swapGone", fn := fun _ => fun
  | [d1, d2] => { results := [.lit (.bool false)], args := [d1, d2] }
  | _ => none }
def SwapGoneWrongFalsely : Prop := swapGoneRow.holds Try.pinned (OpenSpec.ofChange swapGoneWrong)

/-- 'swashlaw16.SwapTakes': WHATEVER THE INPUT: true; the input reads as it did. -/
def swapTakesSpec : ChangeSpec := { name := "swapTakes", fn := fun _ => fun
  | [d1, d2] => { results := [.lit (.bool true)], args := [d1, d2] }
  | _ => none }
def swapTakesRow : OpenClaim := { program := "ytcegoenlajkgfaa", sum := "2021950b796ec55eddf481d76e98fd9cc9c3c73096207d73915bb00e37aaad32", func := "swash/swashlaw16.SwapTakes", spec := "swapTakes", unfollowed := true, recurses := true, apart := false }
def SwapTakesSaid : Prop := swapTakesRow.holds Try.pinned (OpenSpec.ofChange swapTakesSpec)

/-- ITS FALSE NEIGHBOUR: 'it returns false'. Refute it at one input. -/
def swapTakesWrong : ChangeSpec := { name := "swapTakes", fn := fun _ => fun
  | [d1, d2] => { results := [.lit (.bool false)], args := [d1, d2] }
  | _ => none }
def SwapTakesWrongFalsely : Prop := swapTakesRow.holds Try.pinned (OpenSpec.ofChange swapTakesWrong)

/-- 'swashtop.WholeSwaps': WHATEVER THE INPUT: true; the input reads as it did. -/
def wholeSwapsSpec : ChangeSpec := { name := "wholeSwaps", fn := fun _ => fun
  | [d1, d2, d3] => { results := [.lit (.bool true)], args := [d1, d2, d3] }
  | _ => none }
def wholeSwapsRow : OpenClaim := { program := "ytcegoenlajkgfaa", sum := "2021950b796ec55eddf481d76e98fd9cc9c3c73096207d73915bb00e37aaad32", func := "swash/swashtop.WholeSwaps", spec := "wholeSwaps", unfollowed := true, recurses := true, apart := false }
def WholeSwapsSaid : Prop := wholeSwapsRow.holds Try.pinned (OpenSpec.ofChange wholeSwapsSpec)

/-- ITS FALSE NEIGHBOUR: 'it returns false'. Refute it at one input. -/
def wholeSwapsWrong : ChangeSpec := { name := "wholeSwaps", fn := fun _ => fun
  | [d1, d2, d3] => { results := [.lit (.bool false)], args := [d1, d2, d3] }
  | _ => none }
def WholeSwapsWrongFalsely : Prop := wholeSwapsRow.holds Try.pinned (OpenSpec.ofChange wholeSwapsWrong)

/- THE SECOND FORM. 'bulk': how many values and letters a reading holds, each counted each time it is reached (what is shared counts as often as it is met; a slice's spare places count too). A statement '..UptoSaid' is the law's where the arguments, and the package variables that the reading takes, are together of bulk at most 1048576: NARROWER than '..Said'. Prove '..Said' where nothing that the law and all that it calls make is longer than what came in: it says more and counts as full. Else prove '..UptoSaid'. A law counts once. -/
mutual
def uptoBulk {H : Type} : DataW H → Nat
  | .lit (.string bytes) => bytes.length + 1
  | .lit _ => 1
  | .nil => 1
  | .ptr d => uptoBulk d + 1
  | .slice elems spare => uptoBulkAll elems + uptoBulkAll spare + 1
  | .agg parts => uptoBulkAll parts + 1
  | .iface _ d => uptoBulk d + 1
  | .map entries => uptoBulkEntries entries + 1
  | .held _ => 1
def uptoBulkAll {H : Type} : List (DataW H) → Nat
  | [] => 0
  | d :: r => uptoBulk d + uptoBulkAll r
def uptoBulkEntries {H : Type} : List (Lit × DataW H) → Nat
  | [] => 0
  | x :: r => uptoBulkEntry x + uptoBulkEntries r
def uptoBulkEntry {H : Type} : Lit × DataW H → Nat
  | (.string bytes, d) => bytes.length + uptoBulk d + 1
  | (_, d) => uptoBulk d + 1
 end
def uptoSmall : (H : Type) → List (DataW H) → Bool := fun _ ds => decide (uptoBulkAll ds ≤ 1048576)
def OpenSpec.upto (s : _root_.Go.ChangeSpec) : _root_.Go.OpenSpec := { _root_.Go.OpenSpec.ofChange s with cond := some uptoSmall }

/-- 'swashlaw15.CtxRuns', WHERE WHAT IT READS IS OF BULK AT MOST 1048576: true; the input reads as it did. -/
def ctxRunsUptoRow : OpenClaim := { program := "ytcegoenlajkgfaa", sum := "2021950b796ec55eddf481d76e98fd9cc9c3c73096207d73915bb00e37aaad32", func := "swash/swashlaw15.CtxRuns", spec := "ctxRuns", unfollowed := true, recurses := true, apart := false, narrowed := true }
def CtxRunsUptoSaid : Prop := ctxRunsUptoRow.holds Try.pinned (OpenSpec.upto ctxRunsSpec)

/-- 'swashlaw15.CtxIdle', WHERE WHAT IT READS IS OF BULK AT MOST 1048576: true; the input reads as it did. -/
def ctxIdleUptoRow : OpenClaim := { program := "ytcegoenlajkgfaa", sum := "2021950b796ec55eddf481d76e98fd9cc9c3c73096207d73915bb00e37aaad32", func := "swash/swashlaw15.CtxIdle", spec := "ctxIdle", unfollowed := true, recurses := true, apart := false, narrowed := true }
def CtxIdleUptoSaid : Prop := ctxIdleUptoRow.holds Try.pinned (OpenSpec.upto ctxIdleSpec)

/-- 'swashlaw15.CtxSwap', WHERE WHAT IT READS IS OF BULK AT MOST 1048576: true; the input reads as it did. -/
def ctxSwapUptoRow : OpenClaim := { program := "ytcegoenlajkgfaa", sum := "2021950b796ec55eddf481d76e98fd9cc9c3c73096207d73915bb00e37aaad32", func := "swash/swashlaw15.CtxSwap", spec := "ctxSwap", unfollowed := true, recurses := true, apart := false, narrowed := true }
def CtxSwapUptoSaid : Prop := ctxSwapUptoRow.holds Try.pinned (OpenSpec.upto ctxSwapSpec)

/-- 'swashlaw15.CtxTakes', WHERE WHAT IT READS IS OF BULK AT MOST 1048576: true; the input reads as it did. -/
def ctxTakesUptoRow : OpenClaim := { program := "ytcegoenlajkgfaa", sum := "2021950b796ec55eddf481d76e98fd9cc9c3c73096207d73915bb00e37aaad32", func := "swash/swashlaw15.CtxTakes", spec := "ctxTakes", unfollowed := true, recurses := true, apart := false, narrowed := true }
def CtxTakesUptoSaid : Prop := ctxTakesUptoRow.holds Try.pinned (OpenSpec.upto ctxTakesSpec)

/-- 'swashlaw16.SwapRuns', WHERE WHAT IT READS IS OF BULK AT MOST 1048576: true; the input reads as it did. -/
def swapRunsUptoRow : OpenClaim := { program := "ytcegoenlajkgfaa", sum := "2021950b796ec55eddf481d76e98fd9cc9c3c73096207d73915bb00e37aaad32", func := "swash/swashlaw16.SwapRuns", spec := "swapRuns", unfollowed := true, recurses := true, apart := false, narrowed := true }
def SwapRunsUptoSaid : Prop := swapRunsUptoRow.holds Try.pinned (OpenSpec.upto swapRunsSpec)

/-- 'swashlaw16.SwapParts', WHERE WHAT IT READS IS OF BULK AT MOST 1048576: true; the input reads as it did. -/
def swapPartsUptoRow : OpenClaim := { program := "ytcegoenlajkgfaa", sum := "2021950b796ec55eddf481d76e98fd9cc9c3c73096207d73915bb00e37aaad32", func := "swash/swashlaw16.SwapParts", spec := "swapParts", unfollowed := true, recurses := true, apart := false, narrowed := true }
def SwapPartsUptoSaid : Prop := swapPartsUptoRow.holds Try.pinned (OpenSpec.upto swapPartsSpec)

/-- 'swashlaw16.SwapGone', WHERE WHAT IT READS IS OF BULK AT MOST 1048576: true; the input reads as it did. -/
def swapGoneUptoRow : OpenClaim := { program := "ytcegoenlajkgfaa", sum := "2021950b796ec55eddf481d76e98fd9cc9c3c73096207d73915bb00e37aaad32", func := "swash/swashlaw16.SwapGone", spec := "swapGone", unfollowed := true, recurses := true, apart := false, narrowed := true }
def SwapGoneUptoSaid : Prop := swapGoneUptoRow.holds Try.pinned (OpenSpec.upto swapGoneSpec)

/-- 'swashlaw16.SwapTakes', WHERE WHAT IT READS IS OF BULK AT MOST 1048576: true; the input reads as it did. -/
def swapTakesUptoRow : OpenClaim := { program := "ytcegoenlajkgfaa", sum := "2021950b796ec55eddf481d76e98fd9cc9c3c73096207d73915bb00e37aaad32", func := "swash/swashlaw16.SwapTakes", spec := "swapTakes", unfollowed := true, recurses := true, apart := false, narrowed := true }
def SwapTakesUptoSaid : Prop := swapTakesUptoRow.holds Try.pinned (OpenSpec.upto swapTakesSpec)

/-- 'swashtop.WholeSwaps', WHERE WHAT IT READS IS OF BULK AT MOST 1048576: true; the input reads as it did. -/
def wholeSwapsUptoRow : OpenClaim := { program := "ytcegoenlajkgfaa", sum := "2021950b796ec55eddf481d76e98fd9cc9c3c73096207d73915bb00e37aaad32", func := "swash/swashtop.WholeSwaps", spec := "wholeSwaps", unfollowed := true, recurses := true, apart := false, narrowed := true }
def WholeSwapsUptoSaid : Prop := wholeSwapsUptoRow.holds Try.pinned (OpenSpec.upto wholeSwapsSpec)

end Rows
end Go.Proofs.Ytcegoenlajkgfaa
