/-
  No cell of these rows narrows 'for every input' (looked for: loops, veiled, ifaces, maps, wideKeys, modest, calm, conditions, laid).
  DERIVED. THE GIVEN ROWS OF THIS SEAT. 7 by the template 'for every input the law returns true; each argument reads behind the call as it read before'; 0 by the template 'total and deterministic' (their statements: YthepejljgolcoaaTotals.lean).
  GIVEN WITH THE SEED: the statements are not yours to turn. If you find one false, say at which input.
  Laid BY PROGRAM, IN A SANDBOX (cutbox-rows.mjs): the forced cells as the released guide's own fill.sh prints them over the translation 46fb3c4305069c21… (all of the seat's roots in one cut). By AI agents, Wed Nov 11 2026. No macro, syntax, notation, axiom, sorry.
-/
import Derived.Test.YthepejljgolcoaaChecked
import GoSem.Claim
import GoSem.ClaimJoined
import GoSem.ClaimMapViews
import Derived.JoinedTies
import Derived.KernelRfl
namespace Go.Proofs.Ythepejljgolcoaa
/- THE CELL 'sum', in the pinned program and in every row, IS THE sha256 OF THE DUMP (.gsa) THAT YthepejljgolcoaaProg.lean LOADS. Nothing in Lean hashes anything: it is a label: what it is worth is what the hold of that sum in a sandbox is worth. -/
noncomputable def Try.pinned : Pinned := { name := "ythepejljgolcoaa", sum := "46fb3c4305069c21c63b6c2fc1419219f144710ff836916d22352dd5aedcc364", checked := Try.checked }
namespace Rows
def none {H : Type} : Left H := { results := [], args := [] }

/-- 'swashtop.WholeLookups': WHATEVER THE INPUT: true; the input reads as it did. -/
def wholeLookupsSpec : ChangeSpec := { name := "wholeLookups", fn := fun _ => fun
  | [d1, d2] => { results := [.lit (.bool true)], args := [d1, d2] }
  | _ => none }
def wholeLookupsRow : OpenClaim := { program := "ythepejljgolcoaa", sum := "46fb3c4305069c21c63b6c2fc1419219f144710ff836916d22352dd5aedcc364", func := "swash/swashtop.WholeLookups", spec := "wholeLookups", unfollowed := true, recurses := true, apart := false }
def WholeLookupsSaid : Prop := wholeLookupsRow.holds Try.pinned (OpenSpec.ofChange wholeLookupsSpec)

/-- ITS FALSE NEIGHBOUR: 'it returns false'. Refute it at one input. -/
def wholeLookupsWrong : ChangeSpec := { name := "wholeLookups", fn := fun _ => fun
  | [d1, d2] => { results := [.lit (.bool false)], args := [d1, d2] }
  | _ => none }
def WholeLookupsWrongFalsely : Prop := wholeLookupsRow.holds Try.pinned (OpenSpec.ofChange wholeLookupsWrong)

/-- 'swashlaw07.StateReads': WHATEVER THE INPUT: true; the input reads as it did. -/
def stateReadsSpec : ChangeSpec := { name := "stateReads", fn := fun _ => fun
  | [d1, d2, d3] => { results := [.lit (.bool true)], args := [d1, d2, d3] }
  | _ => none }
def stateReadsRow : OpenClaim := { program := "ythepejljgolcoaa", sum := "46fb3c4305069c21c63b6c2fc1419219f144710ff836916d22352dd5aedcc364", func := "swash/swashlaw07.StateReads", spec := "stateReads", unfollowed := true, recurses := true, apart := false }
def StateReadsSaid : Prop := stateReadsRow.holds Try.pinned (OpenSpec.ofChange stateReadsSpec)

/-- ITS FALSE NEIGHBOUR: 'it returns false'. Refute it at one input. -/
def stateReadsWrong : ChangeSpec := { name := "stateReads", fn := fun _ => fun
  | [d1, d2, d3] => { results := [.lit (.bool false)], args := [d1, d2, d3] }
  | _ => none }
def StateReadsWrongFalsely : Prop := stateReadsRow.holds Try.pinned (OpenSpec.ofChange stateReadsWrong)

/-- 'swashlaw07.StateClosed': WHATEVER THE INPUT: true; the input reads as it did. -/
def stateClosedSpec : ChangeSpec := { name := "stateClosed", fn := fun _ => fun
  | [d1, d2] => { results := [.lit (.bool true)], args := [d1, d2] }
  | _ => none }
def stateClosedRow : OpenClaim := { program := "ythepejljgolcoaa", sum := "46fb3c4305069c21c63b6c2fc1419219f144710ff836916d22352dd5aedcc364", func := "swash/swashlaw07.StateClosed", spec := "stateClosed", unfollowed := true, recurses := true, apart := false }
def StateClosedSaid : Prop := stateClosedRow.holds Try.pinned (OpenSpec.ofChange stateClosedSpec)

/-- ITS FALSE NEIGHBOUR: 'it returns false'. Refute it at one input. -/
def stateClosedWrong : ChangeSpec := { name := "stateClosed", fn := fun _ => fun
  | [d1, d2] => { results := [.lit (.bool false)], args := [d1, d2] }
  | _ => none }
def StateClosedWrongFalsely : Prop := stateClosedRow.holds Try.pinned (OpenSpec.ofChange stateClosedWrong)

/-- 'swashlaw07.StateMore': WHATEVER THE INPUT: true; the input reads as it did. -/
def stateMoreSpec : ChangeSpec := { name := "stateMore", fn := fun _ => fun
  | [d1, d2] => { results := [.lit (.bool true)], args := [d1, d2] }
  | _ => none }
def stateMoreRow : OpenClaim := { program := "ythepejljgolcoaa", sum := "46fb3c4305069c21c63b6c2fc1419219f144710ff836916d22352dd5aedcc364", func := "swash/swashlaw07.StateMore", spec := "stateMore", unfollowed := true, recurses := true, apart := false }
def StateMoreSaid : Prop := stateMoreRow.holds Try.pinned (OpenSpec.ofChange stateMoreSpec)

/-- ITS FALSE NEIGHBOUR: 'it returns false'. Refute it at one input. -/
def stateMoreWrong : ChangeSpec := { name := "stateMore", fn := fun _ => fun
  | [d1, d2] => { results := [.lit (.bool false)], args := [d1, d2] }
  | _ => none }
def StateMoreWrongFalsely : Prop := stateMoreRow.holds Try.pinned (OpenSpec.ofChange stateMoreWrong)

/-- 'swashlaw07.StateOwn': WHATEVER THE INPUT: true; the input reads as it did. -/
def stateOwnSpec : ChangeSpec := { name := "stateOwn", fn := fun _ => fun
  | [d1, d2] => { results := [.lit (.bool true)], args := [d1, d2] }
  | _ => none }
def stateOwnRow : OpenClaim := { program := "ythepejljgolcoaa", sum := "46fb3c4305069c21c63b6c2fc1419219f144710ff836916d22352dd5aedcc364", func := "swash/swashlaw07.StateOwn", spec := "stateOwn", unfollowed := true, recurses := true, apart := false }
def StateOwnSaid : Prop := stateOwnRow.holds Try.pinned (OpenSpec.ofChange stateOwnSpec)

/-- ITS FALSE NEIGHBOUR: 'it returns false'. Refute it at one input. -/
def stateOwnWrong : ChangeSpec := { name := "stateOwn", fn := fun _ => fun
  | [d1, d2] => { results := [.lit (.bool false)], args := [d1, d2] }
  | _ => none }
def StateOwnWrongFalsely : Prop := stateOwnRow.holds Try.pinned (OpenSpec.ofChange stateOwnWrong)

/-- 'swashlaw07.StateTakes': WHATEVER THE INPUT: true; the input reads as it did. -/
def stateTakesSpec : ChangeSpec := { name := "stateTakes", fn := fun _ => fun
  | [d1, d2] => { results := [.lit (.bool true)], args := [d1, d2] }
  | _ => none }
def stateTakesRow : OpenClaim := { program := "ythepejljgolcoaa", sum := "46fb3c4305069c21c63b6c2fc1419219f144710ff836916d22352dd5aedcc364", func := "swash/swashlaw07.StateTakes", spec := "stateTakes", unfollowed := true, recurses := true, apart := false }
def StateTakesSaid : Prop := stateTakesRow.holds Try.pinned (OpenSpec.ofChange stateTakesSpec)

/-- ITS FALSE NEIGHBOUR: 'it returns false'. Refute it at one input. -/
def stateTakesWrong : ChangeSpec := { name := "stateTakes", fn := fun _ => fun
  | [d1, d2] => { results := [.lit (.bool false)], args := [d1, d2] }
  | _ => none }
def StateTakesWrongFalsely : Prop := stateTakesRow.holds Try.pinned (OpenSpec.ofChange stateTakesWrong)

/-- 'swashtop.WholeMachines': WHATEVER THE INPUT: true; the input reads as it did. -/
def wholeMachinesSpec : ChangeSpec := { name := "wholeMachines", fn := fun _ => fun
  | [d] => { results := [.lit (.bool true)], args := [d] }
  | _ => none }
def wholeMachinesRow : OpenClaim := { program := "ythepejljgolcoaa", sum := "46fb3c4305069c21c63b6c2fc1419219f144710ff836916d22352dd5aedcc364", func := "swash/swashtop.WholeMachines", spec := "wholeMachines", unfollowed := true, recurses := true, apart := false }
def WholeMachinesSaid : Prop := wholeMachinesRow.holds Try.pinned (OpenSpec.ofChange wholeMachinesSpec)

/-- ITS FALSE NEIGHBOUR: 'it returns false'. Refute it at one input. -/
def wholeMachinesWrong : ChangeSpec := { name := "wholeMachines", fn := fun _ => fun
  | [d] => { results := [.lit (.bool false)], args := [d] }
  | _ => none }
def WholeMachinesWrongFalsely : Prop := wholeMachinesRow.holds Try.pinned (OpenSpec.ofChange wholeMachinesWrong)

/- THE SECOND FORM. 'bulk': how many values and letters a reading holds, each counted each time it is reached (what is shared counts as often as it is met; a slice's spare places count too). A statement '..UptoSaid' is the law's where the arguments, and the package variables that the reading takes, are together of bulk at most 1048576: NARROWER than '..Said'. Prove '..Said' where nothing that the law and all that it calls make is longer than what came in: it says more and counts as full. Else prove '..UptoSaid'. A law counts once. -/
mutual
def uptoBulk {H : Type} : DataW H → Nat
  | .lit (.string bytes) => bytes.length + 1
  | .lit _ => 1
  | .nil => 1
  | .ptr d => uptoBulk d + 1
  | .slice elems spare => uptoBulkAll elems + uptoBulkAll spare + 1
  | .agg parts => uptoBulkAll parts + 1
  | .iface _ d => uptoBulk d + 1
  | .map entries => uptoBulkEntries entries + 1
  | .held _ => 1
def uptoBulkAll {H : Type} : List (DataW H) → Nat
  | [] => 0
  | d :: r => uptoBulk d + uptoBulkAll r
def uptoBulkEntries {H : Type} : List (Lit × DataW H) → Nat
  | [] => 0
  | x :: r => uptoBulkEntry x + uptoBulkEntries r
def uptoBulkEntry {H : Type} : Lit × DataW H → Nat
  | (.string bytes, d) => bytes.length + uptoBulk d + 1
  | (_, d) => uptoBulk d + 1
 end
def uptoSmall : (H : Type) → List (DataW H) → Bool := fun _ ds => decide (uptoBulkAll ds ≤ 1048576)
def OpenSpec.upto (s : _root_.Go.ChangeSpec) : _root_.Go.OpenSpec := { _root_.Go.OpenSpec.ofChange s with cond := some uptoSmall }

/-- 'swashtop.WholeLookups', WHERE WHAT IT READS IS OF BULK AT MOST 1048576: true; the input reads as it did. -/
def wholeLookupsUptoRow : OpenClaim := { program := "ythepejljgolcoaa", sum := "46fb3c4305069c21c63b6c2fc1419219f144710ff836916d22352dd5aedcc364", func := "swash/swashtop.WholeLookups", spec := "wholeLookups", unfollowed := true, recurses := true, apart := false, narrowed := true }
def WholeLookupsUptoSaid : Prop := wholeLookupsUptoRow.holds Try.pinned (OpenSpec.upto wholeLookupsSpec)

/-- 'swashlaw07.StateReads', WHERE WHAT IT READS IS OF BULK AT MOST 1048576: true; the input reads as it did. -/
def stateReadsUptoRow : OpenClaim := { program := "ythepejljgolcoaa", sum := "46fb3c4305069c21c63b6c2fc1419219f144710ff836916d22352dd5aedcc364", func := "swash/swashlaw07.StateReads", spec := "stateReads", unfollowed := true, recurses := true, apart := false, narrowed := true }
def StateReadsUptoSaid : Prop := stateReadsUptoRow.holds Try.pinned (OpenSpec.upto stateReadsSpec)

/-- 'swashlaw07.StateClosed', WHERE WHAT IT READS IS OF BULK AT MOST 1048576: true; the input reads as it did. -/
def stateClosedUptoRow : OpenClaim := { program := "ythepejljgolcoaa", sum := "46fb3c4305069c21c63b6c2fc1419219f144710ff836916d22352dd5aedcc364", func := "swash/swashlaw07.StateClosed", spec := "stateClosed", unfollowed := true, recurses := true, apart := false, narrowed := true }
def StateClosedUptoSaid : Prop := stateClosedUptoRow.holds Try.pinned (OpenSpec.upto stateClosedSpec)

/-- 'swashlaw07.StateMore', WHERE WHAT IT READS IS OF BULK AT MOST 1048576: true; the input reads as it did. -/
def stateMoreUptoRow : OpenClaim := { program := "ythepejljgolcoaa", sum := "46fb3c4305069c21c63b6c2fc1419219f144710ff836916d22352dd5aedcc364", func := "swash/swashlaw07.StateMore", spec := "stateMore", unfollowed := true, recurses := true, apart := false, narrowed := true }
def StateMoreUptoSaid : Prop := stateMoreUptoRow.holds Try.pinned (OpenSpec.upto stateMoreSpec)

/-- 'swashlaw07.StateOwn', WHERE WHAT IT READS IS OF BULK AT MOST 1048576: true; the input reads as it did. -/
def stateOwnUptoRow : OpenClaim := { program := "ythepejljgolcoaa", sum := "46fb3c4305069c21c63b6c2fc1419219f144710ff836916d22352dd5aedcc364", func := "swash/swashlaw07.StateOwn", spec := "stateOwn", unfollowed := true, recurses := true, apart := false, narrowed := true }
def StateOwnUptoSaid : Prop := stateOwnUptoRow.holds Try.pinned (OpenSpec.upto stateOwnSpec)

/-- 'swashlaw07.StateTakes', WHERE WHAT IT READS IS OF BULK AT MOST 1048576: true; the input reads as it did. -/
def stateTakesUptoRow : OpenClaim := { program := "ythepejljgolcoaa", sum := "46fb3c4305069c21c63b6c2fc1419219f144710ff836916d22352dd5aedcc364", func := "swash/swashlaw07.StateTakes", spec := "stateTakes", unfollowed := true, recurses := true, apart := false, narrowed := true }
def StateTakesUptoSaid : Prop := stateTakesUptoRow.holds Try.pinned (OpenSpec.upto stateTakesSpec)

/-- 'swashtop.WholeMachines', WHERE WHAT IT READS IS OF BULK AT MOST 1048576: true; the input reads as it did. -/
def wholeMachinesUptoRow : OpenClaim := { program := "ythepejljgolcoaa", sum := "46fb3c4305069c21c63b6c2fc1419219f144710ff836916d22352dd5aedcc364", func := "swash/swashtop.WholeMachines", spec := "wholeMachines", unfollowed := true, recurses := true, apart := false, narrowed := true }
def WholeMachinesUptoSaid : Prop := wholeMachinesUptoRow.holds Try.pinned (OpenSpec.upto wholeMachinesSpec)

end Rows
end Go.Proofs.Ythepejljgolcoaa
