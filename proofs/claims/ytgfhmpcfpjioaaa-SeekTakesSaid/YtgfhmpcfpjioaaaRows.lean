/-
  No cell of these rows narrows 'for every input' (looked for: loops, veiled, ifaces, maps, wideKeys, modest, calm, conditions, laid).
  DERIVED. THE GIVEN ROWS OF THIS SEAT. 11 by the template 'for every input the law returns true; each argument reads behind the call as it read before'; 0 by the template 'total and deterministic' (their statements: YtgfhmpcfpjioaaaTotals.lean).
  GIVEN WITH THE SEED: the statements are not yours to turn. If you find one false, say at which input.
  Laid BY PROGRAM, IN A SANDBOX (cutbox-rows.mjs): the forced cells as the released guide's own fill.sh prints them over the translation 94ebc6c63359dac1… (all of the seat's roots in one cut). By AI agents, Wed Nov 11 2026. No macro, syntax, notation, axiom, sorry.
-/
import Derived.Test.YtgfhmpcfpjioaaaChecked
import GoSem.Claim
import GoSem.ClaimJoined
import GoSem.ClaimMapViews
import Derived.JoinedTies
import Derived.KernelRfl
namespace Go.Proofs.Ytgfhmpcfpjioaaa
/- THE CELL 'sum', in the pinned program and in every row, IS THE sha256 OF THE DUMP (.gsa) THAT YtgfhmpcfpjioaaaProg.lean LOADS. Nothing in Lean hashes anything: it is a label: what it is worth is what the hold of that sum in a sandbox is worth. -/
noncomputable def Try.pinned : Pinned := { name := "ytgfhmpcfpjioaaa", sum := "94ebc6c63359dac10ad7407da5b354f09d431974b388e8355b752a1eb9454561", checked := Try.checked }
namespace Rows
def none {H : Type} : Left H := { results := [], args := [] }

/-- 'swashlaw05.SeekRows': WHATEVER THE INPUT: true; the input reads as it did. -/
def seekRowsSpec : ChangeSpec := { name := "seekRows", fn := fun _ => fun
  | [d1, d2, d3] => { results := [.lit (.bool true)], args := [d1, d2, d3] }
  | _ => none }
def seekRowsRow : OpenClaim := { program := "ytgfhmpcfpjioaaa", sum := "94ebc6c63359dac10ad7407da5b354f09d431974b388e8355b752a1eb9454561", func := "swash/swashlaw05.SeekRows", spec := "seekRows", unfollowed := true, recurses := true, apart := false }
def SeekRowsSaid : Prop := seekRowsRow.holds Try.pinned (OpenSpec.ofChange seekRowsSpec)

/-- ITS FALSE NEIGHBOUR: 'it returns false'. Refute it at one input. -/
def seekRowsWrong : ChangeSpec := { name := "seekRows", fn := fun _ => fun
  | [d1, d2, d3] => { results := [.lit (.bool false)], args := [d1, d2, d3] }
  | _ => none }
def SeekRowsWrongFalsely : Prop := seekRowsRow.holds Try.pinned (OpenSpec.ofChange seekRowsWrong)

/-- 'swashlaw05.SeekOwn': WHATEVER THE INPUT: true; the input reads as it did. -/
def seekOwnSpec : ChangeSpec := { name := "seekOwn", fn := fun _ => fun
  | [d1, d2] => { results := [.lit (.bool true)], args := [d1, d2] }
  | _ => none }
def seekOwnRow : OpenClaim := { program := "ytgfhmpcfpjioaaa", sum := "94ebc6c63359dac10ad7407da5b354f09d431974b388e8355b752a1eb9454561", func := "swash/swashlaw05.SeekOwn", spec := "seekOwn", unfollowed := true, recurses := true, apart := false }
def SeekOwnSaid : Prop := seekOwnRow.holds Try.pinned (OpenSpec.ofChange seekOwnSpec)

/-- ITS FALSE NEIGHBOUR: 'it returns false'. Refute it at one input. -/
def seekOwnWrong : ChangeSpec := { name := "seekOwn", fn := fun _ => fun
  | [d1, d2] => { results := [.lit (.bool false)], args := [d1, d2] }
  | _ => none }
def SeekOwnWrongFalsely : Prop := seekOwnRow.holds Try.pinned (OpenSpec.ofChange seekOwnWrong)

/-- 'swashlaw05.SeekFirst': WHATEVER THE INPUT: true; the input reads as it did. -/
def seekFirstSpec : ChangeSpec := { name := "seekFirst", fn := fun _ => fun
  | [d1, d2] => { results := [.lit (.bool true)], args := [d1, d2] }
  | _ => none }
def seekFirstRow : OpenClaim := { program := "ytgfhmpcfpjioaaa", sum := "94ebc6c63359dac10ad7407da5b354f09d431974b388e8355b752a1eb9454561", func := "swash/swashlaw05.SeekFirst", spec := "seekFirst", unfollowed := true, recurses := true, apart := false }
def SeekFirstSaid : Prop := seekFirstRow.holds Try.pinned (OpenSpec.ofChange seekFirstSpec)

/-- ITS FALSE NEIGHBOUR: 'it returns false'. Refute it at one input. -/
def seekFirstWrong : ChangeSpec := { name := "seekFirst", fn := fun _ => fun
  | [d1, d2] => { results := [.lit (.bool false)], args := [d1, d2] }
  | _ => none }
def SeekFirstWrongFalsely : Prop := seekFirstRow.holds Try.pinned (OpenSpec.ofChange seekFirstWrong)

/-- 'swashlaw05.SeekPlace': WHATEVER THE INPUT: true; the input reads as it did. -/
def seekPlaceSpec : ChangeSpec := { name := "seekPlace", fn := fun _ => fun
  | [d1, d2] => { results := [.lit (.bool true)], args := [d1, d2] }
  | _ => none }
def seekPlaceRow : OpenClaim := { program := "ytgfhmpcfpjioaaa", sum := "94ebc6c63359dac10ad7407da5b354f09d431974b388e8355b752a1eb9454561", func := "swash/swashlaw05.SeekPlace", spec := "seekPlace", unfollowed := true, recurses := true, apart := false }
def SeekPlaceSaid : Prop := seekPlaceRow.holds Try.pinned (OpenSpec.ofChange seekPlaceSpec)

/-- ITS FALSE NEIGHBOUR: 'it returns false'. Refute it at one input. -/
def seekPlaceWrong : ChangeSpec := { name := "seekPlace", fn := fun _ => fun
  | [d1, d2] => { results := [.lit (.bool false)], args := [d1, d2] }
  | _ => none }
def SeekPlaceWrongFalsely : Prop := seekPlaceRow.holds Try.pinned (OpenSpec.ofChange seekPlaceWrong)

/-- 'swashlaw05.SeekTakes': WHATEVER THE INPUT: true; the input reads as it did. -/
def seekTakesSpec : ChangeSpec := { name := "seekTakes", fn := fun _ => fun
  | [d1, d2, d3] => { results := [.lit (.bool true)], args := [d1, d2, d3] }
  | _ => none }
def seekTakesRow : OpenClaim := { program := "ytgfhmpcfpjioaaa", sum := "94ebc6c63359dac10ad7407da5b354f09d431974b388e8355b752a1eb9454561", func := "swash/swashlaw05.SeekTakes", spec := "seekTakes", unfollowed := true, recurses := true, apart := false }
def SeekTakesSaid : Prop := seekTakesRow.holds Try.pinned (OpenSpec.ofChange seekTakesSpec)

/-- ITS FALSE NEIGHBOUR: 'it returns false'. Refute it at one input. -/
def seekTakesWrong : ChangeSpec := { name := "seekTakes", fn := fun _ => fun
  | [d1, d2, d3] => { results := [.lit (.bool false)], args := [d1, d2, d3] }
  | _ => none }
def SeekTakesWrongFalsely : Prop := seekTakesRow.holds Try.pinned (OpenSpec.ofChange seekTakesWrong)

/-- 'swashlaw06.LookupAll': WHATEVER THE INPUT: true; the input reads as it did. -/
def lookupAllSpec : ChangeSpec := { name := "lookupAll", fn := fun _ => fun
  | [d1, d2] => { results := [.lit (.bool true)], args := [d1, d2] }
  | _ => none }
def lookupAllRow : OpenClaim := { program := "ytgfhmpcfpjioaaa", sum := "94ebc6c63359dac10ad7407da5b354f09d431974b388e8355b752a1eb9454561", func := "swash/swashlaw06.LookupAll", spec := "lookupAll", unfollowed := true, recurses := true, apart := false }
def LookupAllSaid : Prop := lookupAllRow.holds Try.pinned (OpenSpec.ofChange lookupAllSpec)

/-- ITS FALSE NEIGHBOUR: 'it returns false'. Refute it at one input. -/
def lookupAllWrong : ChangeSpec := { name := "lookupAll", fn := fun _ => fun
  | [d1, d2] => { results := [.lit (.bool false)], args := [d1, d2] }
  | _ => none }
def LookupAllWrongFalsely : Prop := lookupAllRow.holds Try.pinned (OpenSpec.ofChange lookupAllWrong)

/-- 'swashlaw06.LookupForms': WHATEVER THE INPUT: true; the input reads as it did. -/
def lookupFormsSpec : ChangeSpec := { name := "lookupForms", fn := fun _ => fun
  | [d1, d2] => { results := [.lit (.bool true)], args := [d1, d2] }
  | _ => none }
def lookupFormsRow : OpenClaim := { program := "ytgfhmpcfpjioaaa", sum := "94ebc6c63359dac10ad7407da5b354f09d431974b388e8355b752a1eb9454561", func := "swash/swashlaw06.LookupForms", spec := "lookupForms", unfollowed := true, recurses := true, apart := false }
def LookupFormsSaid : Prop := lookupFormsRow.holds Try.pinned (OpenSpec.ofChange lookupFormsSpec)

/-- ITS FALSE NEIGHBOUR: 'it returns false'. Refute it at one input. -/
def lookupFormsWrong : ChangeSpec := { name := "lookupForms", fn := fun _ => fun
  | [d1, d2] => { results := [.lit (.bool false)], args := [d1, d2] }
  | _ => none }
def LookupFormsWrongFalsely : Prop := lookupFormsRow.holds Try.pinned (OpenSpec.ofChange lookupFormsWrong)

/-- 'swashlaw06.LookupKeeps': WHATEVER THE INPUT: true; the input reads as it did. -/
def lookupKeepsSpec : ChangeSpec := { name := "lookupKeeps", fn := fun _ => fun
  | [d1, d2] => { results := [.lit (.bool true)], args := [d1, d2] }
  | _ => none }
def lookupKeepsRow : OpenClaim := { program := "ytgfhmpcfpjioaaa", sum := "94ebc6c63359dac10ad7407da5b354f09d431974b388e8355b752a1eb9454561", func := "swash/swashlaw06.LookupKeeps", spec := "lookupKeeps", unfollowed := true, recurses := true, apart := false }
def LookupKeepsSaid : Prop := lookupKeepsRow.holds Try.pinned (OpenSpec.ofChange lookupKeepsSpec)

/-- ITS FALSE NEIGHBOUR: 'it returns false'. Refute it at one input. -/
def lookupKeepsWrong : ChangeSpec := { name := "lookupKeeps", fn := fun _ => fun
  | [d1, d2] => { results := [.lit (.bool false)], args := [d1, d2] }
  | _ => none }
def LookupKeepsWrongFalsely : Prop := lookupKeepsRow.holds Try.pinned (OpenSpec.ofChange lookupKeepsWrong)

/-- 'swashlaw06.LookupSizes': WHATEVER THE INPUT: true; the input reads as it did. -/
def lookupSizesSpec : ChangeSpec := { name := "lookupSizes", fn := fun _ => fun
  | [d1, d2] => { results := [.lit (.bool true)], args := [d1, d2] }
  | _ => none }
def lookupSizesRow : OpenClaim := { program := "ytgfhmpcfpjioaaa", sum := "94ebc6c63359dac10ad7407da5b354f09d431974b388e8355b752a1eb9454561", func := "swash/swashlaw06.LookupSizes", spec := "lookupSizes", unfollowed := true, recurses := true, apart := false }
def LookupSizesSaid : Prop := lookupSizesRow.holds Try.pinned (OpenSpec.ofChange lookupSizesSpec)

/-- ITS FALSE NEIGHBOUR: 'it returns false'. Refute it at one input. -/
def lookupSizesWrong : ChangeSpec := { name := "lookupSizes", fn := fun _ => fun
  | [d1, d2] => { results := [.lit (.bool false)], args := [d1, d2] }
  | _ => none }
def LookupSizesWrongFalsely : Prop := lookupSizesRow.holds Try.pinned (OpenSpec.ofChange lookupSizesWrong)

/-- 'swashlaw06.LookupTakes': WHATEVER THE INPUT: true; the input reads as it did. -/
def lookupTakesSpec : ChangeSpec := { name := "lookupTakes", fn := fun _ => fun
  | [d1, d2] => { results := [.lit (.bool true)], args := [d1, d2] }
  | _ => none }
def lookupTakesRow : OpenClaim := { program := "ytgfhmpcfpjioaaa", sum := "94ebc6c63359dac10ad7407da5b354f09d431974b388e8355b752a1eb9454561", func := "swash/swashlaw06.LookupTakes", spec := "lookupTakes", unfollowed := true, recurses := true, apart := false }
def LookupTakesSaid : Prop := lookupTakesRow.holds Try.pinned (OpenSpec.ofChange lookupTakesSpec)

/-- ITS FALSE NEIGHBOUR: 'it returns false'. Refute it at one input. -/
def lookupTakesWrong : ChangeSpec := { name := "lookupTakes", fn := fun _ => fun
  | [d1, d2] => { results := [.lit (.bool false)], args := [d1, d2] }
  | _ => none }
def LookupTakesWrongFalsely : Prop := lookupTakesRow.holds Try.pinned (OpenSpec.ofChange lookupTakesWrong)

/-- 'swashtop.WholeLookups': WHATEVER THE INPUT: true; the input reads as it did. -/
def wholeLookupsSpec : ChangeSpec := { name := "wholeLookups", fn := fun _ => fun
  | [d1, d2] => { results := [.lit (.bool true)], args := [d1, d2] }
  | _ => none }
def wholeLookupsRow : OpenClaim := { program := "ytgfhmpcfpjioaaa", sum := "94ebc6c63359dac10ad7407da5b354f09d431974b388e8355b752a1eb9454561", func := "swash/swashtop.WholeLookups", spec := "wholeLookups", unfollowed := true, recurses := true, apart := false }
def WholeLookupsSaid : Prop := wholeLookupsRow.holds Try.pinned (OpenSpec.ofChange wholeLookupsSpec)

/-- ITS FALSE NEIGHBOUR: 'it returns false'. Refute it at one input. -/
def wholeLookupsWrong : ChangeSpec := { name := "wholeLookups", fn := fun _ => fun
  | [d1, d2] => { results := [.lit (.bool false)], args := [d1, d2] }
  | _ => none }
def WholeLookupsWrongFalsely : Prop := wholeLookupsRow.holds Try.pinned (OpenSpec.ofChange wholeLookupsWrong)

/- THE SECOND FORM. 'bulk': how many values and letters a reading holds, each counted each time it is reached (what is shared counts as often as it is met; a slice's spare places count too). A statement '..UptoSaid' is the law's where the arguments, and the package variables that the reading takes, are together of bulk at most 1048576: NARROWER than '..Said'. Prove '..Said' where nothing that the law and all that it calls make is longer than what came in: it says more and counts as full. Else prove '..UptoSaid'. A law counts once. -/
mutual
def uptoBulk {H : Type} : DataW H → Nat
  | .lit (.string bytes) => bytes.length + 1
  | .lit _ => 1
  | .nil => 1
  | .ptr d => uptoBulk d + 1
  | .slice elems spare => uptoBulkAll elems + uptoBulkAll spare + 1
  | .agg parts => uptoBulkAll parts + 1
  | .iface _ d => uptoBulk d + 1
  | .map entries => uptoBulkEntries entries + 1
  | .held _ => 1
def uptoBulkAll {H : Type} : List (DataW H) → Nat
  | [] => 0
  | d :: r => uptoBulk d + uptoBulkAll r
def uptoBulkEntries {H : Type} : List (Lit × DataW H) → Nat
  | [] => 0
  | x :: r => uptoBulkEntry x + uptoBulkEntries r
def uptoBulkEntry {H : Type} : Lit × DataW H → Nat
  | (.string bytes, d) => bytes.length + uptoBulk d + 1
  | (_, d) => uptoBulk d + 1
 end
def uptoSmall : (H : Type) → List (DataW H) → Bool := fun _ ds => decide (uptoBulkAll ds ≤ 1048576)
def OpenSpec.upto (s : _root_.Go.ChangeSpec) : _root_.Go.OpenSpec := { _root_.Go.OpenSpec.ofChange s with cond := some uptoSmall }

/-- 'swashlaw05.SeekRows', WHERE WHAT IT READS IS OF BULK AT MOST 1048576: true; the input reads as it did. -/
def seekRowsUptoRow : OpenClaim := { program := "ytgfhmpcfpjioaaa", sum := "94ebc6c63359dac10ad7407da5b354f09d431974b388e8355b752a1eb9454561", func := "swash/swashlaw05.SeekRows", spec := "seekRows", unfollowed := true, recurses := true, apart := false, narrowed := true }
def SeekRowsUptoSaid : Prop := seekRowsUptoRow.holds Try.pinned (OpenSpec.upto seekRowsSpec)

/-- 'swashlaw05.SeekOwn', WHERE WHAT IT READS IS OF BULK AT MOST 1048576: true; the input reads as it did. -/
def seekOwnUptoRow : OpenClaim := { program := "ytgfhmpcfpjioaaa", sum := "94ebc6c63359dac10ad7407da5b354f09d431974b388e8355b752a1eb9454561", func := "swash/swashlaw05.SeekOwn", spec := "seekOwn", unfollowed := true, recurses := true, apart := false, narrowed := true }
def SeekOwnUptoSaid : Prop := seekOwnUptoRow.holds Try.pinned (OpenSpec.upto seekOwnSpec)

/-- 'swashlaw05.SeekFirst', WHERE WHAT IT READS IS OF BULK AT MOST 1048576: true; the input reads as it did. -/
def seekFirstUptoRow : OpenClaim := { program := "ytgfhmpcfpjioaaa", sum := "94ebc6c63359dac10ad7407da5b354f09d431974b388e8355b752a1eb9454561", func := "swash/swashlaw05.SeekFirst", spec := "seekFirst", unfollowed := true, recurses := true, apart := false, narrowed := true }
def SeekFirstUptoSaid : Prop := seekFirstUptoRow.holds Try.pinned (OpenSpec.upto seekFirstSpec)

/-- 'swashlaw05.SeekPlace', WHERE WHAT IT READS IS OF BULK AT MOST 1048576: true; the input reads as it did. -/
def seekPlaceUptoRow : OpenClaim := { program := "ytgfhmpcfpjioaaa", sum := "94ebc6c63359dac10ad7407da5b354f09d431974b388e8355b752a1eb9454561", func := "swash/swashlaw05.SeekPlace", spec := "seekPlace", unfollowed := true, recurses := true, apart := false, narrowed := true }
def SeekPlaceUptoSaid : Prop := seekPlaceUptoRow.holds Try.pinned (OpenSpec.upto seekPlaceSpec)

/-- 'swashlaw05.SeekTakes', WHERE WHAT IT READS IS OF BULK AT MOST 1048576: true; the input reads as it did. -/
def seekTakesUptoRow : OpenClaim := { program := "ytgfhmpcfpjioaaa", sum := "94ebc6c63359dac10ad7407da5b354f09d431974b388e8355b752a1eb9454561", func := "swash/swashlaw05.SeekTakes", spec := "seekTakes", unfollowed := true, recurses := true, apart := false, narrowed := true }
def SeekTakesUptoSaid : Prop := seekTakesUptoRow.holds Try.pinned (OpenSpec.upto seekTakesSpec)

/-- 'swashlaw06.LookupAll', WHERE WHAT IT READS IS OF BULK AT MOST 1048576: true; the input reads as it did. -/
def lookupAllUptoRow : OpenClaim := { program := "ytgfhmpcfpjioaaa", sum := "94ebc6c63359dac10ad7407da5b354f09d431974b388e8355b752a1eb9454561", func := "swash/swashlaw06.LookupAll", spec := "lookupAll", unfollowed := true, recurses := true, apart := false, narrowed := true }
def LookupAllUptoSaid : Prop := lookupAllUptoRow.holds Try.pinned (OpenSpec.upto lookupAllSpec)

/-- 'swashlaw06.LookupForms', WHERE WHAT IT READS IS OF BULK AT MOST 1048576: true; the input reads as it did. -/
def lookupFormsUptoRow : OpenClaim := { program := "ytgfhmpcfpjioaaa", sum := "94ebc6c63359dac10ad7407da5b354f09d431974b388e8355b752a1eb9454561", func := "swash/swashlaw06.LookupForms", spec := "lookupForms", unfollowed := true, recurses := true, apart := false, narrowed := true }
def LookupFormsUptoSaid : Prop := lookupFormsUptoRow.holds Try.pinned (OpenSpec.upto lookupFormsSpec)

/-- 'swashlaw06.LookupKeeps', WHERE WHAT IT READS IS OF BULK AT MOST 1048576: true; the input reads as it did. -/
def lookupKeepsUptoRow : OpenClaim := { program := "ytgfhmpcfpjioaaa", sum := "94ebc6c63359dac10ad7407da5b354f09d431974b388e8355b752a1eb9454561", func := "swash/swashlaw06.LookupKeeps", spec := "lookupKeeps", unfollowed := true, recurses := true, apart := false, narrowed := true }
def LookupKeepsUptoSaid : Prop := lookupKeepsUptoRow.holds Try.pinned (OpenSpec.upto lookupKeepsSpec)

/-- 'swashlaw06.LookupSizes', WHERE WHAT IT READS IS OF BULK AT MOST 1048576: true; the input reads as it did. -/
def lookupSizesUptoRow : OpenClaim := { program := "ytgfhmpcfpjioaaa", sum := "94ebc6c63359dac10ad7407da5b354f09d431974b388e8355b752a1eb9454561", func := "swash/swashlaw06.LookupSizes", spec := "lookupSizes", unfollowed := true, recurses := true, apart := false, narrowed := true }
def LookupSizesUptoSaid : Prop := lookupSizesUptoRow.holds Try.pinned (OpenSpec.upto lookupSizesSpec)

/-- 'swashlaw06.LookupTakes', WHERE WHAT IT READS IS OF BULK AT MOST 1048576: true; the input reads as it did. -/
def lookupTakesUptoRow : OpenClaim := { program := "ytgfhmpcfpjioaaa", sum := "94ebc6c63359dac10ad7407da5b354f09d431974b388e8355b752a1eb9454561", func := "swash/swashlaw06.LookupTakes", spec := "lookupTakes", unfollowed := true, recurses := true, apart := false, narrowed := true }
def LookupTakesUptoSaid : Prop := lookupTakesUptoRow.holds Try.pinned (OpenSpec.upto lookupTakesSpec)

/-- 'swashtop.WholeLookups', WHERE WHAT IT READS IS OF BULK AT MOST 1048576: true; the input reads as it did. -/
def wholeLookupsUptoRow : OpenClaim := { program := "ytgfhmpcfpjioaaa", sum := "94ebc6c63359dac10ad7407da5b354f09d431974b388e8355b752a1eb9454561", func := "swash/swashtop.WholeLookups", spec := "wholeLookups", unfollowed := true, recurses := true, apart := false, narrowed := true }
def WholeLookupsUptoSaid : Prop := wholeLookupsUptoRow.holds Try.pinned (OpenSpec.upto wholeLookupsSpec)

end Rows
end Go.Proofs.Ytgfhmpcfpjioaaa
