/-
  No cell of these rows narrows 'for every input' (looked for: loops, veiled, ifaces, maps, wideKeys, modest, calm, conditions, laid).
  DERIVED. THE GIVEN ROWS OF THIS SEAT. 6 by the template 'for every input the law returns true; each argument reads behind the call as it read before'; 0 by the template 'total and deterministic' (their statements: YthacabmnnpibkaaTotals.lean).
  GIVEN WITH THE SEED: the statements are not yours to turn. If you find one false, say at which input.
  Laid BY PROGRAM, IN A SANDBOX (cutbox-rows.mjs): the forced cells as the released guide's own fill.sh prints them over the translation 949ef662e113b6b1… (all of the seat's roots in one cut). By AI agents, Wed Nov 11 2026. No macro, syntax, notation, axiom, sorry.
-/
import Derived.Test.YthacabmnnpibkaaChecked
import GoSem.Claim
import GoSem.ClaimJoined
import GoSem.ClaimMapViews
import Derived.JoinedTies
import Derived.KernelRfl
namespace Go.Proofs.Ythacabmnnpibkaa
/- THE CELL 'sum', in the pinned program and in every row, IS THE sha256 OF THE DUMP (.gsa) THAT YthacabmnnpibkaaProg.lean LOADS. Nothing in Lean hashes anything: it is a label: what it is worth is what the hold of that sum in a sandbox is worth. -/
noncomputable def Try.pinned : Pinned := { name := "ythacabmnnpibkaa", sum := "949ef662e113b6b10116ca7a182f324e4943d1d1468cf92703c359c4496e72cb", checked := Try.checked }
namespace Rows
def none {H : Type} : Left H := { results := [], args := [] }

/-- 'swashlaw03.FaceShort': WHATEVER THE INPUT: true; the input reads as it did. -/
def faceShortSpec : ChangeSpec := { name := "faceShort", fn := fun _ => fun
  | [d1, d2, d3] => { results := [.lit (.bool true)], args := [d1, d2, d3] }
  | _ => none }
def faceShortRow : OpenClaim := { program := "ythacabmnnpibkaa", sum := "949ef662e113b6b10116ca7a182f324e4943d1d1468cf92703c359c4496e72cb", func := "swash/swashlaw03.FaceShort", spec := "faceShort", unfollowed := true, recurses := true, apart := false }
def FaceShortSaid : Prop := faceShortRow.holds Try.pinned (OpenSpec.ofChange faceShortSpec)

/-- ITS FALSE NEIGHBOUR: 'it returns false'. Refute it at one input. -/
def faceShortWrong : ChangeSpec := { name := "faceShort", fn := fun _ => fun
  | [d1, d2, d3] => { results := [.lit (.bool false)], args := [d1, d2, d3] }
  | _ => none }
def FaceShortWrongFalsely : Prop := faceShortRow.holds Try.pinned (OpenSpec.ofChange faceShortWrong)

/-- 'swashlaw03.FaceIdle': WHATEVER THE INPUT: true; the input reads as it did. -/
def faceIdleSpec : ChangeSpec := { name := "faceIdle", fn := fun _ => fun
  | [d1, d2, d3] => { results := [.lit (.bool true)], args := [d1, d2, d3] }
  | _ => none }
def faceIdleRow : OpenClaim := { program := "ythacabmnnpibkaa", sum := "949ef662e113b6b10116ca7a182f324e4943d1d1468cf92703c359c4496e72cb", func := "swash/swashlaw03.FaceIdle", spec := "faceIdle", unfollowed := true, recurses := true, apart := false }
def FaceIdleSaid : Prop := faceIdleRow.holds Try.pinned (OpenSpec.ofChange faceIdleSpec)

/-- ITS FALSE NEIGHBOUR: 'it returns false'. Refute it at one input. -/
def faceIdleWrong : ChangeSpec := { name := "faceIdle", fn := fun _ => fun
  | [d1, d2, d3] => { results := [.lit (.bool false)], args := [d1, d2, d3] }
  | _ => none }
def FaceIdleWrongFalsely : Prop := faceIdleRow.holds Try.pinned (OpenSpec.ofChange faceIdleWrong)

/-- 'swashlaw04.WidthLast': WHATEVER THE INPUT: true; the input reads as it did. -/
def widthLastSpec : ChangeSpec := { name := "widthLast", fn := fun _ => fun
  | [d1, d2] => { results := [.lit (.bool true)], args := [d1, d2] }
  | _ => none }
def widthLastRow : OpenClaim := { program := "ythacabmnnpibkaa", sum := "949ef662e113b6b10116ca7a182f324e4943d1d1468cf92703c359c4496e72cb", func := "swash/swashlaw04.WidthLast", spec := "widthLast", unfollowed := true, recurses := true, apart := false }
def WidthLastSaid : Prop := widthLastRow.holds Try.pinned (OpenSpec.ofChange widthLastSpec)

/-- ITS FALSE NEIGHBOUR: 'it returns false'. Refute it at one input. -/
def widthLastWrong : ChangeSpec := { name := "widthLast", fn := fun _ => fun
  | [d1, d2] => { results := [.lit (.bool false)], args := [d1, d2] }
  | _ => none }
def WidthLastWrongFalsely : Prop := widthLastRow.holds Try.pinned (OpenSpec.ofChange widthLastWrong)

/-- 'swashlaw04.WidthKeeps': WHATEVER THE INPUT: true; the input reads as it did. -/
def widthKeepsSpec : ChangeSpec := { name := "widthKeeps", fn := fun _ => fun
  | [d1, d2] => { results := [.lit (.bool true)], args := [d1, d2] }
  | _ => none }
def widthKeepsRow : OpenClaim := { program := "ythacabmnnpibkaa", sum := "949ef662e113b6b10116ca7a182f324e4943d1d1468cf92703c359c4496e72cb", func := "swash/swashlaw04.WidthKeeps", spec := "widthKeeps", unfollowed := true, recurses := true, apart := false }
def WidthKeepsSaid : Prop := widthKeepsRow.holds Try.pinned (OpenSpec.ofChange widthKeepsSpec)

/-- ITS FALSE NEIGHBOUR: 'it returns false'. Refute it at one input. -/
def widthKeepsWrong : ChangeSpec := { name := "widthKeeps", fn := fun _ => fun
  | [d1, d2] => { results := [.lit (.bool false)], args := [d1, d2] }
  | _ => none }
def WidthKeepsWrongFalsely : Prop := widthKeepsRow.holds Try.pinned (OpenSpec.ofChange widthKeepsWrong)

/-- 'swashlaw04.WidthShort': WHATEVER THE INPUT: true; the input reads as it did. -/
def widthShortSpec : ChangeSpec := { name := "widthShort", fn := fun _ => fun
  | [d1, d2, d3] => { results := [.lit (.bool true)], args := [d1, d2, d3] }
  | _ => none }
def widthShortRow : OpenClaim := { program := "ythacabmnnpibkaa", sum := "949ef662e113b6b10116ca7a182f324e4943d1d1468cf92703c359c4496e72cb", func := "swash/swashlaw04.WidthShort", spec := "widthShort", unfollowed := true, recurses := true, apart := false }
def WidthShortSaid : Prop := widthShortRow.holds Try.pinned (OpenSpec.ofChange widthShortSpec)

/-- ITS FALSE NEIGHBOUR: 'it returns false'. Refute it at one input. -/
def widthShortWrong : ChangeSpec := { name := "widthShort", fn := fun _ => fun
  | [d1, d2, d3] => { results := [.lit (.bool false)], args := [d1, d2, d3] }
  | _ => none }
def WidthShortWrongFalsely : Prop := widthShortRow.holds Try.pinned (OpenSpec.ofChange widthShortWrong)

/-- 'swashtop.WholeWidths': WHATEVER THE INPUT: true; the input reads as it did. -/
def wholeWidthsSpec : ChangeSpec := { name := "wholeWidths", fn := fun _ => fun
  | [d1, d2, d3] => { results := [.lit (.bool true)], args := [d1, d2, d3] }
  | _ => none }
def wholeWidthsRow : OpenClaim := { program := "ythacabmnnpibkaa", sum := "949ef662e113b6b10116ca7a182f324e4943d1d1468cf92703c359c4496e72cb", func := "swash/swashtop.WholeWidths", spec := "wholeWidths", inPlace := ["internal/bytealg.abigen_runtime_cmpstring"], unfollowed := true, recurses := true, apart := false }
def WholeWidthsSaid : Prop := wholeWidthsRow.holds Try.pinned (OpenSpec.ofChange wholeWidthsSpec)

/-- ITS FALSE NEIGHBOUR: 'it returns false'. Refute it at one input. -/
def wholeWidthsWrong : ChangeSpec := { name := "wholeWidths", fn := fun _ => fun
  | [d1, d2, d3] => { results := [.lit (.bool false)], args := [d1, d2, d3] }
  | _ => none }
def WholeWidthsWrongFalsely : Prop := wholeWidthsRow.holds Try.pinned (OpenSpec.ofChange wholeWidthsWrong)

/- THE SECOND FORM. 'bulk': how many values and letters a reading holds, each counted each time it is reached (what is shared counts as often as it is met; a slice's spare places count too). A statement '..UptoSaid' is the law's where the arguments, and the package variables that the reading takes, are together of bulk at most 1048576: NARROWER than '..Said'. Prove '..Said' where nothing that the law and all that it calls make is longer than what came in: it says more and counts as full. Else prove '..UptoSaid'. A law counts once. -/
mutual
def uptoBulk {H : Type} : DataW H → Nat
  | .lit (.string bytes) => bytes.length + 1
  | .lit _ => 1
  | .nil => 1
  | .ptr d => uptoBulk d + 1
  | .slice elems spare => uptoBulkAll elems + uptoBulkAll spare + 1
  | .agg parts => uptoBulkAll parts + 1
  | .iface _ d => uptoBulk d + 1
  | .map entries => uptoBulkEntries entries + 1
  | .held _ => 1
def uptoBulkAll {H : Type} : List (DataW H) → Nat
  | [] => 0
  | d :: r => uptoBulk d + uptoBulkAll r
def uptoBulkEntries {H : Type} : List (Lit × DataW H) → Nat
  | [] => 0
  | x :: r => uptoBulkEntry x + uptoBulkEntries r
def uptoBulkEntry {H : Type} : Lit × DataW H → Nat
  | (.string bytes, d) => bytes.length + uptoBulk d + 1
  | (_, d) => uptoBulk d + 1
 end
def uptoSmall : (H : Type) → List (DataW H) → Bool := fun _ ds => decide (uptoBulkAll ds ≤ 1048576)
def OpenSpec.upto (s : _root_.Go.ChangeSpec) : _root_.Go.OpenSpec := { _root_.Go.OpenSpec.ofChange s with cond := some uptoSmall }

/-- 'swashlaw03.FaceShort', WHERE WHAT IT READS IS OF BULK AT MOST 1048576: true; the input reads as it did. -/
def faceShortUptoRow : OpenClaim := { program := "ythacabmnnpibkaa", sum := "949ef662e113b6b10116ca7a182f324e4943d1d1468cf92703c359c4496e72cb", func := "swash/swashlaw03.FaceShort", spec := "faceShort", unfollowed := true, recurses := true, apart := false, narrowed := true }
def FaceShortUptoSaid : Prop := faceShortUptoRow.holds Try.pinned (OpenSpec.upto faceShortSpec)

/-- 'swashlaw03.FaceIdle', WHERE WHAT IT READS IS OF BULK AT MOST 1048576: true; the input reads as it did. -/
def faceIdleUptoRow : OpenClaim := { program := "ythacabmnnpibkaa", sum := "949ef662e113b6b10116ca7a182f324e4943d1d1468cf92703c359c4496e72cb", func := "swash/swashlaw03.FaceIdle", spec := "faceIdle", unfollowed := true, recurses := true, apart := false, narrowed := true }
def FaceIdleUptoSaid : Prop := faceIdleUptoRow.holds Try.pinned (OpenSpec.upto faceIdleSpec)

/-- 'swashlaw04.WidthLast', WHERE WHAT IT READS IS OF BULK AT MOST 1048576: true; the input reads as it did. -/
def widthLastUptoRow : OpenClaim := { program := "ythacabmnnpibkaa", sum := "949ef662e113b6b10116ca7a182f324e4943d1d1468cf92703c359c4496e72cb", func := "swash/swashlaw04.WidthLast", spec := "widthLast", unfollowed := true, recurses := true, apart := false, narrowed := true }
def WidthLastUptoSaid : Prop := widthLastUptoRow.holds Try.pinned (OpenSpec.upto widthLastSpec)

/-- 'swashlaw04.WidthKeeps', WHERE WHAT IT READS IS OF BULK AT MOST 1048576: true; the input reads as it did. -/
def widthKeepsUptoRow : OpenClaim := { program := "ythacabmnnpibkaa", sum := "949ef662e113b6b10116ca7a182f324e4943d1d1468cf92703c359c4496e72cb", func := "swash/swashlaw04.WidthKeeps", spec := "widthKeeps", unfollowed := true, recurses := true, apart := false, narrowed := true }
def WidthKeepsUptoSaid : Prop := widthKeepsUptoRow.holds Try.pinned (OpenSpec.upto widthKeepsSpec)

/-- 'swashlaw04.WidthShort', WHERE WHAT IT READS IS OF BULK AT MOST 1048576: true; the input reads as it did. -/
def widthShortUptoRow : OpenClaim := { program := "ythacabmnnpibkaa", sum := "949ef662e113b6b10116ca7a182f324e4943d1d1468cf92703c359c4496e72cb", func := "swash/swashlaw04.WidthShort", spec := "widthShort", unfollowed := true, recurses := true, apart := false, narrowed := true }
def WidthShortUptoSaid : Prop := widthShortUptoRow.holds Try.pinned (OpenSpec.upto widthShortSpec)

/-- 'swashtop.WholeWidths', WHERE WHAT IT READS IS OF BULK AT MOST 1048576: true; the input reads as it did. -/
def wholeWidthsUptoRow : OpenClaim := { program := "ythacabmnnpibkaa", sum := "949ef662e113b6b10116ca7a182f324e4943d1d1468cf92703c359c4496e72cb", func := "swash/swashtop.WholeWidths", spec := "wholeWidths", inPlace := ["internal/bytealg.abigen_runtime_cmpstring"], unfollowed := true, recurses := true, apart := false, narrowed := true }
def WholeWidthsUptoSaid : Prop := wholeWidthsUptoRow.holds Try.pinned (OpenSpec.upto wholeWidthsSpec)

end Rows
end Go.Proofs.Ythacabmnnpibkaa
