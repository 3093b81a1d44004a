/-
  NARROWER THAN 'FOR EVERY INPUT', by the rows' own cells (each row's printed sentence says how): VerbOrders: laid · VerbKeeps: laid · VerbPairs: laid.
  DERIVED. THE GIVEN ROWS OF THIS SEAT. 3 by the template 'for every input the law returns true; each argument reads behind the call as it read before'; 0 by the template 'total and deterministic' (their statements: YtonogcbcjmdmhaaDoorTotals.lean).
  GIVEN WITH THE SEED: the statements are not yours to turn. If you find one false, say at which input.
  Laid BY PROGRAM, IN A SANDBOX (cutbox-rows.mjs): the forced cells as the released guide's own fill.sh prints them over the translation 3fb18e52b5cb58c4… (all of the seat's roots in one cut). By AI agents, Wed Nov 11 2026. No macro, syntax, notation, axiom, sorry.
-/
import Derived.Test.YtonogcbcjmdmhaaDoorChecked
import GoSem.Claim
import GoSem.ClaimJoined
import GoSem.ClaimMapViews
import Derived.JoinedTies
import Derived.KernelRfl
namespace Go.Proofs.YtonogcbcjmdmhaaDoor
/- THE CELL 'sum', in the pinned program and in every row, IS THE sha256 OF THE DUMP (.gsa) THAT YtonogcbcjmdmhaaDoorProg.lean LOADS. Nothing in Lean hashes anything: it is a label: what it is worth is what the hold of that sum in a sandbox is worth. -/
noncomputable def Tryd.pinned : Pinned := { name := "ytonogcbcjmdmhaadoor", sum := "3fb18e52b5cb58c4bf515d1e641956fee77d536f3300d789ed5292b4d09ab839", checked := Tryd.checked }
namespace Rows
def none {H : Type} : Left H := { results := [], args := [] }

/- WHAT THE LISTED PACKAGE-LEVEL VARIABLES READ AS WHEN THE CALL BEGINS. Each datum BY PROGRAM (the guide's laid-datum.mjs) off the statement by which the dump's own 'gosem.cut.vars' lays the variable. In a bare row this is a premise. The card (YtonogcbcjmdmhaaDoorCards.lean) ties it to the program's text. -/
def laid_swash_verb_verbs {H : Type} : DataW H := .agg [.agg [.lit (.string []), .lit (.string [])], .agg [.lit (.string [65, 120]), .lit (.string [120, 65])], .agg [.lit (.string [120, 68]), .lit (.string [68, 120])], .agg [.lit (.string [65, 120, 68]), .lit (.string [68, 120, 65])], .agg [.lit (.string [65, 66, 120]), .lit (.string [120, 65, 66])], .agg [.lit (.string [65, 66, 120]), .lit (.string [120, 66, 65])], .agg [.lit (.string [120, 67, 68]), .lit (.string [67, 68, 120])], .agg [.lit (.string [120, 67, 68]), .lit (.string [68, 67, 120])], .agg [.lit (.string [65, 120, 67, 68]), .lit (.string [67, 68, 120, 65])], .agg [.lit (.string [65, 120, 67, 68]), .lit (.string [68, 67, 120, 65])], .agg [.lit (.string [65, 66, 120, 68]), .lit (.string [68, 120, 65, 66])], .agg [.lit (.string [65, 66, 120, 68]), .lit (.string [68, 120, 66, 65])], .agg [.lit (.string [65, 66, 120, 67, 68]), .lit (.string [67, 68, 120, 65, 66])], .agg [.lit (.string [65, 66, 120, 67, 68]), .lit (.string [67, 68, 120, 66, 65])], .agg [.lit (.string [65, 66, 120, 67, 68]), .lit (.string [68, 67, 120, 65, 66])], .agg [.lit (.string [65, 66, 120, 67, 68]), .lit (.string [68, 67, 120, 66, 65])]]

/-- 'swashlaw13.VerbOrders': WHATEVER THE INPUT: true; the input reads as it did. -/
def verbOrdersSpec : ChangeSpec := { name := "verbOrders", fn := fun _ => fun
  | [d1, d2] => { results := [.lit (.bool true)], args := [d1, d2] }
  | _ => none }
def verbOrdersRow : OpenClaim := { program := "ytonogcbcjmdmhaadoor", sum := "3fb18e52b5cb58c4bf515d1e641956fee77d536f3300d789ed5292b4d09ab839", func := "swash/swashlaw13.VerbOrders", spec := "verbOrders", inPlace := ["internal/bytealg.IndexByteString", "internal/bytealg.IndexString"], named := ["swash/verb.verbs", "internal/bytealg.MaxLen"], apart := false, laid := [("swash/verb.verbs", laid_swash_verb_verbs)] }
def VerbOrdersSaid : Prop := verbOrdersRow.holds Tryd.pinned (OpenSpec.ofChange verbOrdersSpec)

/-- ITS FALSE NEIGHBOUR: 'it returns false'. Refute it at one input. -/
def verbOrdersWrong : ChangeSpec := { name := "verbOrders", fn := fun _ => fun
  | [d1, d2] => { results := [.lit (.bool false)], args := [d1, d2] }
  | _ => none }
def VerbOrdersWrongFalsely : Prop := verbOrdersRow.holds Tryd.pinned (OpenSpec.ofChange verbOrdersWrong)

/-- 'swashlaw13.VerbKeeps': WHATEVER THE INPUT: true; the input reads as it did. -/
def verbKeepsSpec : ChangeSpec := { name := "verbKeeps", fn := fun _ => fun
  | [d1, d2] => { results := [.lit (.bool true)], args := [d1, d2] }
  | _ => none }
def verbKeepsRow : OpenClaim := { program := "ytonogcbcjmdmhaadoor", sum := "3fb18e52b5cb58c4bf515d1e641956fee77d536f3300d789ed5292b4d09ab839", func := "swash/swashlaw13.VerbKeeps", spec := "verbKeeps", inPlace := ["internal/bytealg.IndexByteString", "internal/bytealg.IndexString"], named := ["swash/verb.verbs", "internal/bytealg.MaxLen"], apart := false, laid := [("swash/verb.verbs", laid_swash_verb_verbs)] }
def VerbKeepsSaid : Prop := verbKeepsRow.holds Tryd.pinned (OpenSpec.ofChange verbKeepsSpec)

/-- ITS FALSE NEIGHBOUR: 'it returns false'. Refute it at one input. -/
def verbKeepsWrong : ChangeSpec := { name := "verbKeeps", fn := fun _ => fun
  | [d1, d2] => { results := [.lit (.bool false)], args := [d1, d2] }
  | _ => none }
def VerbKeepsWrongFalsely : Prop := verbKeepsRow.holds Tryd.pinned (OpenSpec.ofChange verbKeepsWrong)

/-- 'swashlaw13.VerbPairs': WHATEVER THE INPUT: true; the input reads as it did. -/
def verbPairsSpec : ChangeSpec := { name := "verbPairs", fn := fun _ => fun
  | [d] => { results := [.lit (.bool true)], args := [d] }
  | _ => none }
def verbPairsRow : OpenClaim := { program := "ytonogcbcjmdmhaadoor", sum := "3fb18e52b5cb58c4bf515d1e641956fee77d536f3300d789ed5292b4d09ab839", func := "swash/swashlaw13.VerbPairs", spec := "verbPairs", inPlace := ["internal/bytealg.IndexByteString", "internal/bytealg.IndexString"], named := ["swash/verb.verbs", "internal/bytealg.MaxLen"], apart := false, laid := [("swash/verb.verbs", laid_swash_verb_verbs)] }
def VerbPairsSaid : Prop := verbPairsRow.holds Tryd.pinned (OpenSpec.ofChange verbPairsSpec)

/-- ITS FALSE NEIGHBOUR: 'it returns false'. Refute it at one input. -/
def verbPairsWrong : ChangeSpec := { name := "verbPairs", fn := fun _ => fun
  | [d] => { results := [.lit (.bool false)], args := [d] }
  | _ => none }
def VerbPairsWrongFalsely : Prop := verbPairsRow.holds Tryd.pinned (OpenSpec.ofChange verbPairsWrong)

/- THE SECOND FORM. 'bulk': how many values and letters a reading holds, each counted each time it is reached (what is shared counts as often as it is met; a slice's spare places count too). A statement '..UptoSaid' is the law's where the arguments, and the package variables that the reading takes, are together of bulk at most 1048576: NARROWER than '..Said'. Prove '..Said' where nothing that the law and all that it calls make is longer than what came in: it says more and counts as full. Else prove '..UptoSaid'. A law counts once. -/
mutual
def uptoBulk {H : Type} : DataW H → Nat
  | .lit (.string bytes) => bytes.length + 1
  | .lit _ => 1
  | .nil => 1
  | .ptr d => uptoBulk d + 1
  | .slice elems spare => uptoBulkAll elems + uptoBulkAll spare + 1
  | .agg parts => uptoBulkAll parts + 1
  | .iface _ d => uptoBulk d + 1
  | .map entries => uptoBulkEntries entries + 1
  | .held _ => 1
def uptoBulkAll {H : Type} : List (DataW H) → Nat
  | [] => 0
  | d :: r => uptoBulk d + uptoBulkAll r
def uptoBulkEntries {H : Type} : List (Lit × DataW H) → Nat
  | [] => 0
  | x :: r => uptoBulkEntry x + uptoBulkEntries r
def uptoBulkEntry {H : Type} : Lit × DataW H → Nat
  | (.string bytes, d) => bytes.length + uptoBulk d + 1
  | (_, d) => uptoBulk d + 1
 end
def uptoSmall : (H : Type) → List (DataW H) → Bool := fun _ ds => decide (uptoBulkAll ds ≤ 1048576)
def OpenSpec.upto (s : _root_.Go.ChangeSpec) : _root_.Go.OpenSpec := { _root_.Go.OpenSpec.ofChange s with cond := some uptoSmall }

/-- 'swashlaw13.VerbOrders', WHERE WHAT IT READS IS OF BULK AT MOST 1048576: true; the input reads as it did. -/
def verbOrdersUptoRow : OpenClaim := { program := "ytonogcbcjmdmhaadoor", sum := "3fb18e52b5cb58c4bf515d1e641956fee77d536f3300d789ed5292b4d09ab839", func := "swash/swashlaw13.VerbOrders", spec := "verbOrders", inPlace := ["internal/bytealg.IndexByteString", "internal/bytealg.IndexString"], named := ["swash/verb.verbs", "internal/bytealg.MaxLen"], apart := false, laid := [("swash/verb.verbs", laid_swash_verb_verbs)], narrowed := true }
def VerbOrdersUptoSaid : Prop := verbOrdersUptoRow.holds Tryd.pinned (OpenSpec.upto verbOrdersSpec)

/-- 'swashlaw13.VerbKeeps', WHERE WHAT IT READS IS OF BULK AT MOST 1048576: true; the input reads as it did. -/
def verbKeepsUptoRow : OpenClaim := { program := "ytonogcbcjmdmhaadoor", sum := "3fb18e52b5cb58c4bf515d1e641956fee77d536f3300d789ed5292b4d09ab839", func := "swash/swashlaw13.VerbKeeps", spec := "verbKeeps", inPlace := ["internal/bytealg.IndexByteString", "internal/bytealg.IndexString"], named := ["swash/verb.verbs", "internal/bytealg.MaxLen"], apart := false, laid := [("swash/verb.verbs", laid_swash_verb_verbs)], narrowed := true }
def VerbKeepsUptoSaid : Prop := verbKeepsUptoRow.holds Tryd.pinned (OpenSpec.upto verbKeepsSpec)

/-- 'swashlaw13.VerbPairs', WHERE WHAT IT READS IS OF BULK AT MOST 1048576: true; the input reads as it did. -/
def verbPairsUptoRow : OpenClaim := { program := "ytonogcbcjmdmhaadoor", sum := "3fb18e52b5cb58c4bf515d1e641956fee77d536f3300d789ed5292b4d09ab839", func := "swash/swashlaw13.VerbPairs", spec := "verbPairs", inPlace := ["internal/bytealg.IndexByteString", "internal/bytealg.IndexString"], named := ["swash/verb.verbs", "internal/bytealg.MaxLen"], apart := false, laid := [("swash/verb.verbs", laid_swash_verb_verbs)], narrowed := true }
def VerbPairsUptoSaid : Prop := verbPairsUptoRow.holds Tryd.pinned (OpenSpec.upto verbPairsSpec)

end Rows
end Go.Proofs.YtonogcbcjmdmhaaDoor
