/-
  NARROWER THAN 'FOR EVERY INPUT', by the rows' own cells (each row's printed sentence says how): RearRuns: laid · RearKeeps: laid · RearIdle: laid · RearTakes: laid · WholeEnds: laid.
  DERIVED. THE GIVEN ROWS OF THIS SEAT. 5 by the template 'for every input the law returns true; each argument reads behind the call as it read before'; 0 by the template 'total and deterministic' (their statements: YtlhnfpkenlenjaaDoorTotals.lean).
  GIVEN WITH THE SEED: the statements are not yours to turn. If you find one false, say at which input.
  Laid BY PROGRAM, IN A SANDBOX (cutbox-rows.mjs): the forced cells as the released guide's own fill.sh prints them over the translation d30a821f96e7e05d… (all of the seat's roots in one cut). By AI agents, Wed Nov 11 2026. No macro, syntax, notation, axiom, sorry.
-/
import Derived.Test.YtlhnfpkenlenjaaDoorChecked
import GoSem.Claim
import GoSem.ClaimJoined
import GoSem.ClaimMapViews
import Derived.JoinedTies
import Derived.KernelRfl
namespace Go.Proofs.YtlhnfpkenlenjaaDoor
/- THE CELL 'sum', in the pinned program and in every row, IS THE sha256 OF THE DUMP (.gsa) THAT YtlhnfpkenlenjaaDoorProg.lean LOADS. Nothing in Lean hashes anything: it is a label: what it is worth is what the hold of that sum in a sandbox is worth. -/
noncomputable def Tryd.pinned : Pinned := { name := "ytlhnfpkenlenjaadoor", sum := "d30a821f96e7e05da367e40f1ebf59a8fd276645c75f6d0e1d0c262573a15be3", checked := Tryd.checked }
namespace Rows
def none {H : Type} : Left H := { results := [], args := [] }

/- WHAT THE LISTED PACKAGE-LEVEL VARIABLES READ AS WHEN THE CALL BEGINS. Each datum BY PROGRAM (the guide's laid-datum.mjs) off the statement by which the dump's own 'gosem.cut.vars' lays the variable. In a bare row this is a premise. The card (YtlhnfpkenlenjaaDoorCards.lean) ties it to the program's text. -/
def laid_swash_verb_verbs {H : Type} : DataW H := .agg [.agg [.lit (.string []), .lit (.string [])], .agg [.lit (.string [65, 120]), .lit (.string [120, 65])], .agg [.lit (.string [120, 68]), .lit (.string [68, 120])], .agg [.lit (.string [65, 120, 68]), .lit (.string [68, 120, 65])], .agg [.lit (.string [65, 66, 120]), .lit (.string [120, 65, 66])], .agg [.lit (.string [65, 66, 120]), .lit (.string [120, 66, 65])], .agg [.lit (.string [120, 67, 68]), .lit (.string [67, 68, 120])], .agg [.lit (.string [120, 67, 68]), .lit (.string [68, 67, 120])], .agg [.lit (.string [65, 120, 67, 68]), .lit (.string [67, 68, 120, 65])], .agg [.lit (.string [65, 120, 67, 68]), .lit (.string [68, 67, 120, 65])], .agg [.lit (.string [65, 66, 120, 68]), .lit (.string [68, 120, 65, 66])], .agg [.lit (.string [65, 66, 120, 68]), .lit (.string [68, 120, 66, 65])], .agg [.lit (.string [65, 66, 120, 67, 68]), .lit (.string [67, 68, 120, 65, 66])], .agg [.lit (.string [65, 66, 120, 67, 68]), .lit (.string [67, 68, 120, 66, 65])], .agg [.lit (.string [65, 66, 120, 67, 68]), .lit (.string [68, 67, 120, 65, 66])], .agg [.lit (.string [65, 66, 120, 67, 68]), .lit (.string [68, 67, 120, 66, 65])]]

/-- 'swashlaw14.RearRuns': WHATEVER THE INPUT: true; the input reads as it did. -/
def rearRunsSpec : ChangeSpec := { name := "rearRuns", fn := fun _ => fun
  | [d1, d2] => { results := [.lit (.bool true)], args := [d1, d2] }
  | _ => none }
def rearRunsRow : OpenClaim := { program := "ytlhnfpkenlenjaadoor", sum := "d30a821f96e7e05da367e40f1ebf59a8fd276645c75f6d0e1d0c262573a15be3", func := "swash/swashlaw14.RearRuns", spec := "rearRuns", inPlace := ["internal/bytealg.IndexByteString", "internal/bytealg.IndexString"], unfollowed := true, recurses := true, named := ["swash/verb.verbs", "internal/bytealg.MaxLen"], apart := false, laid := [("swash/verb.verbs", laid_swash_verb_verbs)] }
def RearRunsSaid : Prop := rearRunsRow.holds Tryd.pinned (OpenSpec.ofChange rearRunsSpec)

/-- ITS FALSE NEIGHBOUR: 'it returns false'. Refute it at one input. -/
def rearRunsWrong : ChangeSpec := { name := "rearRuns", fn := fun _ => fun
  | [d1, d2] => { results := [.lit (.bool false)], args := [d1, d2] }
  | _ => none }
def RearRunsWrongFalsely : Prop := rearRunsRow.holds Tryd.pinned (OpenSpec.ofChange rearRunsWrong)

/-- 'swashlaw14.RearKeeps': WHATEVER THE INPUT: true; the input reads as it did. -/
def rearKeepsSpec : ChangeSpec := { name := "rearKeeps", fn := fun _ => fun
  | [d1, d2] => { results := [.lit (.bool true)], args := [d1, d2] }
  | _ => none }
def rearKeepsRow : OpenClaim := { program := "ytlhnfpkenlenjaadoor", sum := "d30a821f96e7e05da367e40f1ebf59a8fd276645c75f6d0e1d0c262573a15be3", func := "swash/swashlaw14.RearKeeps", spec := "rearKeeps", inPlace := ["internal/bytealg.IndexByteString", "internal/bytealg.IndexString"], unfollowed := true, recurses := true, named := ["swash/verb.verbs", "internal/bytealg.MaxLen"], apart := false, laid := [("swash/verb.verbs", laid_swash_verb_verbs)] }
def RearKeepsSaid : Prop := rearKeepsRow.holds Tryd.pinned (OpenSpec.ofChange rearKeepsSpec)

/-- ITS FALSE NEIGHBOUR: 'it returns false'. Refute it at one input. -/
def rearKeepsWrong : ChangeSpec := { name := "rearKeeps", fn := fun _ => fun
  | [d1, d2] => { results := [.lit (.bool false)], args := [d1, d2] }
  | _ => none }
def RearKeepsWrongFalsely : Prop := rearKeepsRow.holds Tryd.pinned (OpenSpec.ofChange rearKeepsWrong)

/-- 'swashlaw14.RearIdle': WHATEVER THE INPUT: true; the input reads as it did. -/
def rearIdleSpec : ChangeSpec := { name := "rearIdle", fn := fun _ => fun
  | [d1, d2, d3] => { results := [.lit (.bool true)], args := [d1, d2, d3] }
  | _ => none }
def rearIdleRow : OpenClaim := { program := "ytlhnfpkenlenjaadoor", sum := "d30a821f96e7e05da367e40f1ebf59a8fd276645c75f6d0e1d0c262573a15be3", func := "swash/swashlaw14.RearIdle", spec := "rearIdle", inPlace := ["internal/bytealg.IndexByteString", "internal/bytealg.IndexString"], unfollowed := true, recurses := true, named := ["swash/verb.verbs", "internal/bytealg.MaxLen"], apart := false, laid := [("swash/verb.verbs", laid_swash_verb_verbs)] }
def RearIdleSaid : Prop := rearIdleRow.holds Tryd.pinned (OpenSpec.ofChange rearIdleSpec)

/-- ITS FALSE NEIGHBOUR: 'it returns false'. Refute it at one input. -/
def rearIdleWrong : ChangeSpec := { name := "rearIdle", fn := fun _ => fun
  | [d1, d2, d3] => { results := [.lit (.bool false)], args := [d1, d2, d3] }
  | _ => none }
def RearIdleWrongFalsely : Prop := rearIdleRow.holds Tryd.pinned (OpenSpec.ofChange rearIdleWrong)

/-- 'swashlaw14.RearTakes': WHATEVER THE INPUT: true; the input reads as it did. -/
def rearTakesSpec : ChangeSpec := { name := "rearTakes", fn := fun _ => fun
  | [d1, d2] => { results := [.lit (.bool true)], args := [d1, d2] }
  | _ => none }
def rearTakesRow : OpenClaim := { program := "ytlhnfpkenlenjaadoor", sum := "d30a821f96e7e05da367e40f1ebf59a8fd276645c75f6d0e1d0c262573a15be3", func := "swash/swashlaw14.RearTakes", spec := "rearTakes", inPlace := ["internal/bytealg.IndexByteString", "internal/bytealg.IndexString"], unfollowed := true, recurses := true, named := ["swash/verb.verbs", "internal/bytealg.MaxLen"], apart := false, laid := [("swash/verb.verbs", laid_swash_verb_verbs)] }
def RearTakesSaid : Prop := rearTakesRow.holds Tryd.pinned (OpenSpec.ofChange rearTakesSpec)

/-- ITS FALSE NEIGHBOUR: 'it returns false'. Refute it at one input. -/
def rearTakesWrong : ChangeSpec := { name := "rearTakes", fn := fun _ => fun
  | [d1, d2] => { results := [.lit (.bool false)], args := [d1, d2] }
  | _ => none }
def RearTakesWrongFalsely : Prop := rearTakesRow.holds Tryd.pinned (OpenSpec.ofChange rearTakesWrong)

/-- 'swashtop.WholeEnds': WHATEVER THE INPUT: true; the input reads as it did. -/
def wholeEndsSpec : ChangeSpec := { name := "wholeEnds", fn := fun _ => fun
  | [d1, d2] => { results := [.lit (.bool true)], args := [d1, d2] }
  | _ => none }
def wholeEndsRow : OpenClaim := { program := "ytlhnfpkenlenjaadoor", sum := "d30a821f96e7e05da367e40f1ebf59a8fd276645c75f6d0e1d0c262573a15be3", func := "swash/swashtop.WholeEnds", spec := "wholeEnds", inPlace := ["internal/bytealg.IndexByteString", "internal/bytealg.IndexString"], unfollowed := true, recurses := true, named := ["swash/verb.verbs", "internal/bytealg.MaxLen"], apart := false, laid := [("swash/verb.verbs", laid_swash_verb_verbs)] }
def WholeEndsSaid : Prop := wholeEndsRow.holds Tryd.pinned (OpenSpec.ofChange wholeEndsSpec)

/-- ITS FALSE NEIGHBOUR: 'it returns false'. Refute it at one input. -/
def wholeEndsWrong : ChangeSpec := { name := "wholeEnds", fn := fun _ => fun
  | [d1, d2] => { results := [.lit (.bool false)], args := [d1, d2] }
  | _ => none }
def WholeEndsWrongFalsely : Prop := wholeEndsRow.holds Tryd.pinned (OpenSpec.ofChange wholeEndsWrong)

/- THE SECOND FORM. 'bulk': how many values and letters a reading holds, each counted each time it is reached (what is shared counts as often as it is met; a slice's spare places count too). A statement '..UptoSaid' is the law's where the arguments, and the package variables that the reading takes, are together of bulk at most 1048576: NARROWER than '..Said'. Prove '..Said' where nothing that the law and all that it calls make is longer than what came in: it says more and counts as full. Else prove '..UptoSaid'. A law counts once. -/
mutual
def uptoBulk {H : Type} : DataW H → Nat
  | .lit (.string bytes) => bytes.length + 1
  | .lit _ => 1
  | .nil => 1
  | .ptr d => uptoBulk d + 1
  | .slice elems spare => uptoBulkAll elems + uptoBulkAll spare + 1
  | .agg parts => uptoBulkAll parts + 1
  | .iface _ d => uptoBulk d + 1
  | .map entries => uptoBulkEntries entries + 1
  | .held _ => 1
def uptoBulkAll {H : Type} : List (DataW H) → Nat
  | [] => 0
  | d :: r => uptoBulk d + uptoBulkAll r
def uptoBulkEntries {H : Type} : List (Lit × DataW H) → Nat
  | [] => 0
  | x :: r => uptoBulkEntry x + uptoBulkEntries r
def uptoBulkEntry {H : Type} : Lit × DataW H → Nat
  | (.string bytes, d) => bytes.length + uptoBulk d + 1
  | (_, d) => uptoBulk d + 1
 end
def uptoSmall : (H : Type) → List (DataW H) → Bool := fun _ ds => decide (uptoBulkAll ds ≤ 1048576)
def OpenSpec.upto (s : _root_.Go.ChangeSpec) : _root_.Go.OpenSpec := { _root_.Go.OpenSpec.ofChange s with cond := some uptoSmall }

/-- 'swashlaw14.RearRuns', WHERE WHAT IT READS IS OF BULK AT MOST 1048576: true; the input reads as it did. -/
def rearRunsUptoRow : OpenClaim := { program := "ytlhnfpkenlenjaadoor", sum := "d30a821f96e7e05da367e40f1ebf59a8fd276645c75f6d0e1d0c262573a15be3", func := "swash/swashlaw14.RearRuns", spec := "rearRuns", inPlace := ["internal/bytealg.IndexByteString", "internal/bytealg.IndexString"], unfollowed := true, recurses := true, named := ["swash/verb.verbs", "internal/bytealg.MaxLen"], apart := false, laid := [("swash/verb.verbs", laid_swash_verb_verbs)], narrowed := true }
def RearRunsUptoSaid : Prop := rearRunsUptoRow.holds Tryd.pinned (OpenSpec.upto rearRunsSpec)

/-- 'swashlaw14.RearKeeps', WHERE WHAT IT READS IS OF BULK AT MOST 1048576: true; the input reads as it did. -/
def rearKeepsUptoRow : OpenClaim := { program := "ytlhnfpkenlenjaadoor", sum := "d30a821f96e7e05da367e40f1ebf59a8fd276645c75f6d0e1d0c262573a15be3", func := "swash/swashlaw14.RearKeeps", spec := "rearKeeps", inPlace := ["internal/bytealg.IndexByteString", "internal/bytealg.IndexString"], unfollowed := true, recurses := true, named := ["swash/verb.verbs", "internal/bytealg.MaxLen"], apart := false, laid := [("swash/verb.verbs", laid_swash_verb_verbs)], narrowed := true }
def RearKeepsUptoSaid : Prop := rearKeepsUptoRow.holds Tryd.pinned (OpenSpec.upto rearKeepsSpec)

/-- 'swashlaw14.RearIdle', WHERE WHAT IT READS IS OF BULK AT MOST 1048576: true; the input reads as it did. -/
def rearIdleUptoRow : OpenClaim := { program := "ytlhnfpkenlenjaadoor", sum := "d30a821f96e7e05da367e40f1ebf59a8fd276645c75f6d0e1d0c262573a15be3", func := "swash/swashlaw14.RearIdle", spec := "rearIdle", inPlace := ["internal/bytealg.IndexByteString", "internal/bytealg.IndexString"], unfollowed := true, recurses := true, named := ["swash/verb.verbs", "internal/bytealg.MaxLen"], apart := false, laid := [("swash/verb.verbs", laid_swash_verb_verbs)], narrowed := true }
def RearIdleUptoSaid : Prop := rearIdleUptoRow.holds Tryd.pinned (OpenSpec.upto rearIdleSpec)

/-- 'swashlaw14.RearTakes', WHERE WHAT IT READS IS OF BULK AT MOST 1048576: true; the input reads as it did. -/
def rearTakesUptoRow : OpenClaim := { program := "ytlhnfpkenlenjaadoor", sum := "d30a821f96e7e05da367e40f1ebf59a8fd276645c75f6d0e1d0c262573a15be3", func := "swash/swashlaw14.RearTakes", spec := "rearTakes", inPlace := ["internal/bytealg.IndexByteString", "internal/bytealg.IndexString"], unfollowed := true, recurses := true, named := ["swash/verb.verbs", "internal/bytealg.MaxLen"], apart := false, laid := [("swash/verb.verbs", laid_swash_verb_verbs)], narrowed := true }
def RearTakesUptoSaid : Prop := rearTakesUptoRow.holds Tryd.pinned (OpenSpec.upto rearTakesSpec)

/-- 'swashtop.WholeEnds', WHERE WHAT IT READS IS OF BULK AT MOST 1048576: true; the input reads as it did. -/
def wholeEndsUptoRow : OpenClaim := { program := "ytlhnfpkenlenjaadoor", sum := "d30a821f96e7e05da367e40f1ebf59a8fd276645c75f6d0e1d0c262573a15be3", func := "swash/swashtop.WholeEnds", spec := "wholeEnds", inPlace := ["internal/bytealg.IndexByteString", "internal/bytealg.IndexString"], unfollowed := true, recurses := true, named := ["swash/verb.verbs", "internal/bytealg.MaxLen"], apart := false, laid := [("swash/verb.verbs", laid_swash_verb_verbs)], narrowed := true }
def WholeEndsUptoSaid : Prop := wholeEndsUptoRow.holds Tryd.pinned (OpenSpec.upto wholeEndsSpec)

end Rows
end Go.Proofs.YtlhnfpkenlenjaaDoor
