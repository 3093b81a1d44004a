/-
  No cell of these rows narrows 'for every input' (looked for: loops, veiled, ifaces, maps, wideKeys, modest, calm, conditions, laid).
  DERIVED. THE GIVEN ROWS OF THIS SEAT. 12 by the template 'for every input the law returns true; each argument reads behind the call as it read before'; 0 by the template 'total and deterministic' (their statements: YtajhljgcbafbcaaTotals.lean).
  GIVEN WITH THE SEED: the statements are not yours to turn. If you find one false, say at which input.
  Laid BY PROGRAM, IN A SANDBOX (cutbox-rows.mjs): the forced cells as the released guide's own fill.sh prints them over the translation 27a2c560fd719e88… (all of the seat's roots in one cut). By AI agents, Wed Nov 11 2026. No macro, syntax, notation, axiom, sorry.
-/
import Derived.Test.YtajhljgcbafbcaaChecked
import GoSem.Claim
import GoSem.ClaimJoined
import GoSem.ClaimMapViews
import Derived.JoinedTies
import Derived.KernelRfl
namespace Go.Proofs.Ytajhljgcbafbcaa
/- THE CELL 'sum', in the pinned program and in every row, IS THE sha256 OF THE DUMP (.gsa) THAT YtajhljgcbafbcaaProg.lean LOADS. Nothing in Lean hashes anything: it is a label: what it is worth is what the hold of that sum in a sandbox is worth. -/
noncomputable def Try.pinned : Pinned := { name := "ytajhljgcbafbcaa", sum := "27a2c560fd719e88d304217a6ec8a92d951ca07d689bf8ecfbd473437bb167cf", checked := Try.checked }
namespace Rows
def none {H : Type} : Left H := { results := [], args := [] }

/-- 'swashlaw06.LookupAll': WHATEVER THE INPUT: true; the input reads as it did. -/
def lookupAllSpec : ChangeSpec := { name := "lookupAll", fn := fun _ => fun
  | [d1, d2] => { results := [.lit (.bool true)], args := [d1, d2] }
  | _ => none }
def lookupAllRow : OpenClaim := { program := "ytajhljgcbafbcaa", sum := "27a2c560fd719e88d304217a6ec8a92d951ca07d689bf8ecfbd473437bb167cf", func := "swash/swashlaw06.LookupAll", spec := "lookupAll", unfollowed := true, recurses := true, apart := false }
def LookupAllSaid : Prop := lookupAllRow.holds Try.pinned (OpenSpec.ofChange lookupAllSpec)

/-- ITS FALSE NEIGHBOUR: 'it returns false'. Refute it at one input. -/
def lookupAllWrong : ChangeSpec := { name := "lookupAll", fn := fun _ => fun
  | [d1, d2] => { results := [.lit (.bool false)], args := [d1, d2] }
  | _ => none }
def LookupAllWrongFalsely : Prop := lookupAllRow.holds Try.pinned (OpenSpec.ofChange lookupAllWrong)

/-- 'swashlaw06.LookupForms': WHATEVER THE INPUT: true; the input reads as it did. -/
def lookupFormsSpec : ChangeSpec := { name := "lookupForms", fn := fun _ => fun
  | [d1, d2] => { results := [.lit (.bool true)], args := [d1, d2] }
  | _ => none }
def lookupFormsRow : OpenClaim := { program := "ytajhljgcbafbcaa", sum := "27a2c560fd719e88d304217a6ec8a92d951ca07d689bf8ecfbd473437bb167cf", func := "swash/swashlaw06.LookupForms", spec := "lookupForms", unfollowed := true, recurses := true, apart := false }
def LookupFormsSaid : Prop := lookupFormsRow.holds Try.pinned (OpenSpec.ofChange lookupFormsSpec)

/-- ITS FALSE NEIGHBOUR: 'it returns false'. Refute it at one input. -/
def lookupFormsWrong : ChangeSpec := { name := "lookupForms", fn := fun _ => fun
  | [d1, d2] => { results := [.lit (.bool false)], args := [d1, d2] }
  | _ => none }
def LookupFormsWrongFalsely : Prop := lookupFormsRow.holds Try.pinned (OpenSpec.ofChange lookupFormsWrong)

/-- 'swashlaw06.LookupKeeps': WHATEVER THE INPUT: true; the input reads as it did. -/
def lookupKeepsSpec : ChangeSpec := { name := "lookupKeeps", fn := fun _ => fun
  | [d1, d2] => { results := [.lit (.bool true)], args := [d1, d2] }
  | _ => none }
def lookupKeepsRow : OpenClaim := { program := "ytajhljgcbafbcaa", sum := "27a2c560fd719e88d304217a6ec8a92d951ca07d689bf8ecfbd473437bb167cf", func := "swash/swashlaw06.LookupKeeps", spec := "lookupKeeps", unfollowed := true, recurses := true, apart := false }
def LookupKeepsSaid : Prop := lookupKeepsRow.holds Try.pinned (OpenSpec.ofChange lookupKeepsSpec)

/-- ITS FALSE NEIGHBOUR: 'it returns false'. Refute it at one input. -/
def lookupKeepsWrong : ChangeSpec := { name := "lookupKeeps", fn := fun _ => fun
  | [d1, d2] => { results := [.lit (.bool false)], args := [d1, d2] }
  | _ => none }
def LookupKeepsWrongFalsely : Prop := lookupKeepsRow.holds Try.pinned (OpenSpec.ofChange lookupKeepsWrong)

/-- 'swashlaw06.LookupSizes': WHATEVER THE INPUT: true; the input reads as it did. -/
def lookupSizesSpec : ChangeSpec := { name := "lookupSizes", fn := fun _ => fun
  | [d1, d2] => { results := [.lit (.bool true)], args := [d1, d2] }
  | _ => none }
def lookupSizesRow : OpenClaim := { program := "ytajhljgcbafbcaa", sum := "27a2c560fd719e88d304217a6ec8a92d951ca07d689bf8ecfbd473437bb167cf", func := "swash/swashlaw06.LookupSizes", spec := "lookupSizes", unfollowed := true, recurses := true, apart := false }
def LookupSizesSaid : Prop := lookupSizesRow.holds Try.pinned (OpenSpec.ofChange lookupSizesSpec)

/-- ITS FALSE NEIGHBOUR: 'it returns false'. Refute it at one input. -/
def lookupSizesWrong : ChangeSpec := { name := "lookupSizes", fn := fun _ => fun
  | [d1, d2] => { results := [.lit (.bool false)], args := [d1, d2] }
  | _ => none }
def LookupSizesWrongFalsely : Prop := lookupSizesRow.holds Try.pinned (OpenSpec.ofChange lookupSizesWrong)

/-- 'swashlaw06.LookupTakes': WHATEVER THE INPUT: true; the input reads as it did. -/
def lookupTakesSpec : ChangeSpec := { name := "lookupTakes", fn := fun _ => fun
  | [d1, d2] => { results := [.lit (.bool true)], args := [d1, d2] }
  | _ => none }
def lookupTakesRow : OpenClaim := { program := "ytajhljgcbafbcaa", sum := "27a2c560fd719e88d304217a6ec8a92d951ca07d689bf8ecfbd473437bb167cf", func := "swash/swashlaw06.LookupTakes", spec := "lookupTakes", unfollowed := true, recurses := true, apart := false }
def LookupTakesSaid : Prop := lookupTakesRow.holds Try.pinned (OpenSpec.ofChange lookupTakesSpec)

/-- ITS FALSE NEIGHBOUR: 'it returns false'. Refute it at one input. -/
def lookupTakesWrong : ChangeSpec := { name := "lookupTakes", fn := fun _ => fun
  | [d1, d2] => { results := [.lit (.bool false)], args := [d1, d2] }
  | _ => none }
def LookupTakesWrongFalsely : Prop := lookupTakesRow.holds Try.pinned (OpenSpec.ofChange lookupTakesWrong)

/-- 'swashlaw07.StateReads': WHATEVER THE INPUT: true; the input reads as it did. -/
def stateReadsSpec : ChangeSpec := { name := "stateReads", fn := fun _ => fun
  | [d1, d2, d3] => { results := [.lit (.bool true)], args := [d1, d2, d3] }
  | _ => none }
def stateReadsRow : OpenClaim := { program := "ytajhljgcbafbcaa", sum := "27a2c560fd719e88d304217a6ec8a92d951ca07d689bf8ecfbd473437bb167cf", func := "swash/swashlaw07.StateReads", spec := "stateReads", unfollowed := true, recurses := true, apart := false }
def StateReadsSaid : Prop := stateReadsRow.holds Try.pinned (OpenSpec.ofChange stateReadsSpec)

/-- ITS FALSE NEIGHBOUR: 'it returns false'. Refute it at one input. -/
def stateReadsWrong : ChangeSpec := { name := "stateReads", fn := fun _ => fun
  | [d1, d2, d3] => { results := [.lit (.bool false)], args := [d1, d2, d3] }
  | _ => none }
def StateReadsWrongFalsely : Prop := stateReadsRow.holds Try.pinned (OpenSpec.ofChange stateReadsWrong)

/-- 'swashlaw07.StateClosed': WHATEVER THE INPUT: true; the input reads as it did. -/
def stateClosedSpec : ChangeSpec := { name := "stateClosed", fn := fun _ => fun
  | [d1, d2] => { results := [.lit (.bool true)], args := [d1, d2] }
  | _ => none }
def stateClosedRow : OpenClaim := { program := "ytajhljgcbafbcaa", sum := "27a2c560fd719e88d304217a6ec8a92d951ca07d689bf8ecfbd473437bb167cf", func := "swash/swashlaw07.StateClosed", spec := "stateClosed", unfollowed := true, recurses := true, apart := false }
def StateClosedSaid : Prop := stateClosedRow.holds Try.pinned (OpenSpec.ofChange stateClosedSpec)

/-- ITS FALSE NEIGHBOUR: 'it returns false'. Refute it at one input. -/
def stateClosedWrong : ChangeSpec := { name := "stateClosed", fn := fun _ => fun
  | [d1, d2] => { results := [.lit (.bool false)], args := [d1, d2] }
  | _ => none }
def StateClosedWrongFalsely : Prop := stateClosedRow.holds Try.pinned (OpenSpec.ofChange stateClosedWrong)

/-- 'swashlaw07.StateMore': WHATEVER THE INPUT: true; the input reads as it did. -/
def stateMoreSpec : ChangeSpec := { name := "stateMore", fn := fun _ => fun
  | [d1, d2] => { results := [.lit (.bool true)], args := [d1, d2] }
  | _ => none }
def stateMoreRow : OpenClaim := { program := "ytajhljgcbafbcaa", sum := "27a2c560fd719e88d304217a6ec8a92d951ca07d689bf8ecfbd473437bb167cf", func := "swash/swashlaw07.StateMore", spec := "stateMore", unfollowed := true, recurses := true, apart := false }
def StateMoreSaid : Prop := stateMoreRow.holds Try.pinned (OpenSpec.ofChange stateMoreSpec)

/-- ITS FALSE NEIGHBOUR: 'it returns false'. Refute it at one input. -/
def stateMoreWrong : ChangeSpec := { name := "stateMore", fn := fun _ => fun
  | [d1, d2] => { results := [.lit (.bool false)], args := [d1, d2] }
  | _ => none }
def StateMoreWrongFalsely : Prop := stateMoreRow.holds Try.pinned (OpenSpec.ofChange stateMoreWrong)

/-- 'swashlaw07.StateOwn': WHATEVER THE INPUT: true; the input reads as it did. -/
def stateOwnSpec : ChangeSpec := { name := "stateOwn", fn := fun _ => fun
  | [d1, d2] => { results := [.lit (.bool true)], args := [d1, d2] }
  | _ => none }
def stateOwnRow : OpenClaim := { program := "ytajhljgcbafbcaa", sum := "27a2c560fd719e88d304217a6ec8a92d951ca07d689bf8ecfbd473437bb167cf", func := "swash/swashlaw07.StateOwn", spec := "stateOwn", unfollowed := true, recurses := true, apart := false }
def StateOwnSaid : Prop := stateOwnRow.holds Try.pinned (OpenSpec.ofChange stateOwnSpec)

/-- ITS FALSE NEIGHBOUR: 'it returns false'. Refute it at one input. -/
def stateOwnWrong : ChangeSpec := { name := "stateOwn", fn := fun _ => fun
  | [d1, d2] => { results := [.lit (.bool false)], args := [d1, d2] }
  | _ => none }
def StateOwnWrongFalsely : Prop := stateOwnRow.holds Try.pinned (OpenSpec.ofChange stateOwnWrong)

/-- 'swashlaw07.StateTakes': WHATEVER THE INPUT: true; the input reads as it did. -/
def stateTakesSpec : ChangeSpec := { name := "stateTakes", fn := fun _ => fun
  | [d1, d2] => { results := [.lit (.bool true)], args := [d1, d2] }
  | _ => none }
def stateTakesRow : OpenClaim := { program := "ytajhljgcbafbcaa", sum := "27a2c560fd719e88d304217a6ec8a92d951ca07d689bf8ecfbd473437bb167cf", func := "swash/swashlaw07.StateTakes", spec := "stateTakes", unfollowed := true, recurses := true, apart := false }
def StateTakesSaid : Prop := stateTakesRow.holds Try.pinned (OpenSpec.ofChange stateTakesSpec)

/-- ITS FALSE NEIGHBOUR: 'it returns false'. Refute it at one input. -/
def stateTakesWrong : ChangeSpec := { name := "stateTakes", fn := fun _ => fun
  | [d1, d2] => { results := [.lit (.bool false)], args := [d1, d2] }
  | _ => none }
def StateTakesWrongFalsely : Prop := stateTakesRow.holds Try.pinned (OpenSpec.ofChange stateTakesWrong)

/-- 'swashtop.WholeLookups': WHATEVER THE INPUT: true; the input reads as it did. -/
def wholeLookupsSpec : ChangeSpec := { name := "wholeLookups", fn := fun _ => fun
  | [d1, d2] => { results := [.lit (.bool true)], args := [d1, d2] }
  | _ => none }
def wholeLookupsRow : OpenClaim := { program := "ytajhljgcbafbcaa", sum := "27a2c560fd719e88d304217a6ec8a92d951ca07d689bf8ecfbd473437bb167cf", func := "swash/swashtop.WholeLookups", spec := "wholeLookups", unfollowed := true, recurses := true, apart := false }
def WholeLookupsSaid : Prop := wholeLookupsRow.holds Try.pinned (OpenSpec.ofChange wholeLookupsSpec)

/-- ITS FALSE NEIGHBOUR: 'it returns false'. Refute it at one input. -/
def wholeLookupsWrong : ChangeSpec := { name := "wholeLookups", fn := fun _ => fun
  | [d1, d2] => { results := [.lit (.bool false)], args := [d1, d2] }
  | _ => none }
def WholeLookupsWrongFalsely : Prop := wholeLookupsRow.holds Try.pinned (OpenSpec.ofChange wholeLookupsWrong)

/-- 'swashtop.WholeMachines': WHATEVER THE INPUT: true; the input reads as it did. -/
def wholeMachinesSpec : ChangeSpec := { name := "wholeMachines", fn := fun _ => fun
  | [d] => { results := [.lit (.bool true)], args := [d] }
  | _ => none }
def wholeMachinesRow : OpenClaim := { program := "ytajhljgcbafbcaa", sum := "27a2c560fd719e88d304217a6ec8a92d951ca07d689bf8ecfbd473437bb167cf", func := "swash/swashtop.WholeMachines", spec := "wholeMachines", unfollowed := true, recurses := true, apart := false }
def WholeMachinesSaid : Prop := wholeMachinesRow.holds Try.pinned (OpenSpec.ofChange wholeMachinesSpec)

/-- ITS FALSE NEIGHBOUR: 'it returns false'. Refute it at one input. -/
def wholeMachinesWrong : ChangeSpec := { name := "wholeMachines", fn := fun _ => fun
  | [d] => { results := [.lit (.bool false)], args := [d] }
  | _ => none }
def WholeMachinesWrongFalsely : Prop := wholeMachinesRow.holds Try.pinned (OpenSpec.ofChange wholeMachinesWrong)

/- THE SECOND FORM. 'bulk': how many values and letters a reading holds, each counted each time it is reached (what is shared counts as often as it is met; a slice's spare places count too). A statement '..UptoSaid' is the law's where the arguments, and the package variables that the reading takes, are together of bulk at most 1048576: NARROWER than '..Said'. Prove '..Said' where nothing that the law and all that it calls make is longer than what came in: it says more and counts as full. Else prove '..UptoSaid'. A law counts once. -/
mutual
def uptoBulk {H : Type} : DataW H → Nat
  | .lit (.string bytes) => bytes.length + 1
  | .lit _ => 1
  | .nil => 1
  | .ptr d => uptoBulk d + 1
  | .slice elems spare => uptoBulkAll elems + uptoBulkAll spare + 1
  | .agg parts => uptoBulkAll parts + 1
  | .iface _ d => uptoBulk d + 1
  | .map entries => uptoBulkEntries entries + 1
  | .held _ => 1
def uptoBulkAll {H : Type} : List (DataW H) → Nat
  | [] => 0
  | d :: r => uptoBulk d + uptoBulkAll r
def uptoBulkEntries {H : Type} : List (Lit × DataW H) → Nat
  | [] => 0
  | x :: r => uptoBulkEntry x + uptoBulkEntries r
def uptoBulkEntry {H : Type} : Lit × DataW H → Nat
  | (.string bytes, d) => bytes.length + uptoBulk d + 1
  | (_, d) => uptoBulk d + 1
 end
def uptoSmall : (H : Type) → List (DataW H) → Bool := fun _ ds => decide (uptoBulkAll ds ≤ 1048576)
def OpenSpec.upto (s : _root_.Go.ChangeSpec) : _root_.Go.OpenSpec := { _root_.Go.OpenSpec.ofChange s with cond := some uptoSmall }

/-- 'swashlaw06.LookupAll', WHERE WHAT IT READS IS OF BULK AT MOST 1048576: true; the input reads as it did. -/
def lookupAllUptoRow : OpenClaim := { program := "ytajhljgcbafbcaa", sum := "27a2c560fd719e88d304217a6ec8a92d951ca07d689bf8ecfbd473437bb167cf", func := "swash/swashlaw06.LookupAll", spec := "lookupAll", unfollowed := true, recurses := true, apart := false, narrowed := true }
def LookupAllUptoSaid : Prop := lookupAllUptoRow.holds Try.pinned (OpenSpec.upto lookupAllSpec)

/-- 'swashlaw06.LookupForms', WHERE WHAT IT READS IS OF BULK AT MOST 1048576: true; the input reads as it did. -/
def lookupFormsUptoRow : OpenClaim := { program := "ytajhljgcbafbcaa", sum := "27a2c560fd719e88d304217a6ec8a92d951ca07d689bf8ecfbd473437bb167cf", func := "swash/swashlaw06.LookupForms", spec := "lookupForms", unfollowed := true, recurses := true, apart := false, narrowed := true }
def LookupFormsUptoSaid : Prop := lookupFormsUptoRow.holds Try.pinned (OpenSpec.upto lookupFormsSpec)

/-- 'swashlaw06.LookupKeeps', WHERE WHAT IT READS IS OF BULK AT MOST 1048576: true; the input reads as it did. -/
def lookupKeepsUptoRow : OpenClaim := { program := "ytajhljgcbafbcaa", sum := "27a2c560fd719e88d304217a6ec8a92d951ca07d689bf8ecfbd473437bb167cf", func := "swash/swashlaw06.LookupKeeps", spec := "lookupKeeps", unfollowed := true, recurses := true, apart := false, narrowed := true }
def LookupKeepsUptoSaid : Prop := lookupKeepsUptoRow.holds Try.pinned (OpenSpec.upto lookupKeepsSpec)

/-- 'swashlaw06.LookupSizes', WHERE WHAT IT READS IS OF BULK AT MOST 1048576: true; the input reads as it did. -/
def lookupSizesUptoRow : OpenClaim := { program := "ytajhljgcbafbcaa", sum := "27a2c560fd719e88d304217a6ec8a92d951ca07d689bf8ecfbd473437bb167cf", func := "swash/swashlaw06.LookupSizes", spec := "lookupSizes", unfollowed := true, recurses := true, apart := false, narrowed := true }
def LookupSizesUptoSaid : Prop := lookupSizesUptoRow.holds Try.pinned (OpenSpec.upto lookupSizesSpec)

/-- 'swashlaw06.LookupTakes', WHERE WHAT IT READS IS OF BULK AT MOST 1048576: true; the input reads as it did. -/
def lookupTakesUptoRow : OpenClaim := { program := "ytajhljgcbafbcaa", sum := "27a2c560fd719e88d304217a6ec8a92d951ca07d689bf8ecfbd473437bb167cf", func := "swash/swashlaw06.LookupTakes", spec := "lookupTakes", unfollowed := true, recurses := true, apart := false, narrowed := true }
def LookupTakesUptoSaid : Prop := lookupTakesUptoRow.holds Try.pinned (OpenSpec.upto lookupTakesSpec)

/-- 'swashlaw07.StateReads', WHERE WHAT IT READS IS OF BULK AT MOST 1048576: true; the input reads as it did. -/
def stateReadsUptoRow : OpenClaim := { program := "ytajhljgcbafbcaa", sum := "27a2c560fd719e88d304217a6ec8a92d951ca07d689bf8ecfbd473437bb167cf", func := "swash/swashlaw07.StateReads", spec := "stateReads", unfollowed := true, recurses := true, apart := false, narrowed := true }
def StateReadsUptoSaid : Prop := stateReadsUptoRow.holds Try.pinned (OpenSpec.upto stateReadsSpec)

/-- 'swashlaw07.StateClosed', WHERE WHAT IT READS IS OF BULK AT MOST 1048576: true; the input reads as it did. -/
def stateClosedUptoRow : OpenClaim := { program := "ytajhljgcbafbcaa", sum := "27a2c560fd719e88d304217a6ec8a92d951ca07d689bf8ecfbd473437bb167cf", func := "swash/swashlaw07.StateClosed", spec := "stateClosed", unfollowed := true, recurses := true, apart := false, narrowed := true }
def StateClosedUptoSaid : Prop := stateClosedUptoRow.holds Try.pinned (OpenSpec.upto stateClosedSpec)

/-- 'swashlaw07.StateMore', WHERE WHAT IT READS IS OF BULK AT MOST 1048576: true; the input reads as it did. -/
def stateMoreUptoRow : OpenClaim := { program := "ytajhljgcbafbcaa", sum := "27a2c560fd719e88d304217a6ec8a92d951ca07d689bf8ecfbd473437bb167cf", func := "swash/swashlaw07.StateMore", spec := "stateMore", unfollowed := true, recurses := true, apart := false, narrowed := true }
def StateMoreUptoSaid : Prop := stateMoreUptoRow.holds Try.pinned (OpenSpec.upto stateMoreSpec)

/-- 'swashlaw07.StateOwn', WHERE WHAT IT READS IS OF BULK AT MOST 1048576: true; the input reads as it did. -/
def stateOwnUptoRow : OpenClaim := { program := "ytajhljgcbafbcaa", sum := "27a2c560fd719e88d304217a6ec8a92d951ca07d689bf8ecfbd473437bb167cf", func := "swash/swashlaw07.StateOwn", spec := "stateOwn", unfollowed := true, recurses := true, apart := false, narrowed := true }
def StateOwnUptoSaid : Prop := stateOwnUptoRow.holds Try.pinned (OpenSpec.upto stateOwnSpec)

/-- 'swashlaw07.StateTakes', WHERE WHAT IT READS IS OF BULK AT MOST 1048576: true; the input reads as it did. -/
def stateTakesUptoRow : OpenClaim := { program := "ytajhljgcbafbcaa", sum := "27a2c560fd719e88d304217a6ec8a92d951ca07d689bf8ecfbd473437bb167cf", func := "swash/swashlaw07.StateTakes", spec := "stateTakes", unfollowed := true, recurses := true, apart := false, narrowed := true }
def StateTakesUptoSaid : Prop := stateTakesUptoRow.holds Try.pinned (OpenSpec.upto stateTakesSpec)

/-- 'swashtop.WholeLookups', WHERE WHAT IT READS IS OF BULK AT MOST 1048576: true; the input reads as it did. -/
def wholeLookupsUptoRow : OpenClaim := { program := "ytajhljgcbafbcaa", sum := "27a2c560fd719e88d304217a6ec8a92d951ca07d689bf8ecfbd473437bb167cf", func := "swash/swashtop.WholeLookups", spec := "wholeLookups", unfollowed := true, recurses := true, apart := false, narrowed := true }
def WholeLookupsUptoSaid : Prop := wholeLookupsUptoRow.holds Try.pinned (OpenSpec.upto wholeLookupsSpec)

/-- 'swashtop.WholeMachines', WHERE WHAT IT READS IS OF BULK AT MOST 1048576: true; the input reads as it did. -/
def wholeMachinesUptoRow : OpenClaim := { program := "ytajhljgcbafbcaa", sum := "27a2c560fd719e88d304217a6ec8a92d951ca07d689bf8ecfbd473437bb167cf", func := "swash/swashtop.WholeMachines", spec := "wholeMachines", unfollowed := true, recurses := true, apart := false, narrowed := true }
def WholeMachinesUptoSaid : Prop := wholeMachinesUptoRow.holds Try.pinned (OpenSpec.upto wholeMachinesSpec)

end Rows
end Go.Proofs.Ytajhljgcbafbcaa
