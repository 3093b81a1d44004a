/-
  DERIVED. GIVEN WITH THE SEED: THE CARDS: each row of YtlhnfpkenlenjaaDoorRows.lean that lists a variable, with what it lists TIED to the program's text (the seventh form; the later family's looks); each row that meets fmt, with fmt's text TOLD by the authors' own Lean function (tested against real Go, not proved from fmt's source: count such statements apart). THE CARD IS WHAT COUNTS. Prove the row's statement (the work); the ties are given (YtlhnfpkenlenjaaDoorTie.lean); close each card by the builder's one call (the guide's Derived/Test/ToyasCard.lean, 'card_holds'). Laid BY PROGRAM, IN A SANDBOX (cutbox-door.mjs). By AI agents, Wed Nov 11 2026. No macro, syntax, notation, axiom, sorry.
-/
import Derived.Test.YtlhnfpkenlenjaaDoorRows
import GoSem.ClaimSeven
namespace Go.Proofs.YtlhnfpkenlenjaaDoor
namespace Rows

/-- THE TIED CARD OF 'swashlaw14.RearRuns'. -/
def rearRunsCard : Claim7 := { stood := { row := rearRunsRow, standIns := [], harness := (true, "8373405fcbf2cee226382fee390bd7ba0b61dd52971eae1a3fd12d45f8928637"), looks := true }, kinds := [], alts := [], laidByText := true, laidKinds := [.data], laidTests := true, laidLooks := .later }
def RearRunsCardSaid : Prop := Claim7.holds Tryd.pinned (.plain (OpenSpec.ofChange rearRunsSpec)) rearRunsCard

/-- THE TIED CARD OF 'swashlaw14.RearKeeps'. -/
def rearKeepsCard : Claim7 := { stood := { row := rearKeepsRow, standIns := [], harness := (true, "8373405fcbf2cee226382fee390bd7ba0b61dd52971eae1a3fd12d45f8928637"), looks := true }, kinds := [], alts := [], laidByText := true, laidKinds := [.data], laidTests := true, laidLooks := .later }
def RearKeepsCardSaid : Prop := Claim7.holds Tryd.pinned (.plain (OpenSpec.ofChange rearKeepsSpec)) rearKeepsCard

/-- THE TIED CARD OF 'swashlaw14.RearIdle'. -/
def rearIdleCard : Claim7 := { stood := { row := rearIdleRow, standIns := [], harness := (true, "8373405fcbf2cee226382fee390bd7ba0b61dd52971eae1a3fd12d45f8928637"), looks := true }, kinds := [], alts := [], laidByText := true, laidKinds := [.data], laidTests := true, laidLooks := .later }
def RearIdleCardSaid : Prop := Claim7.holds Tryd.pinned (.plain (OpenSpec.ofChange rearIdleSpec)) rearIdleCard

/-- THE TIED CARD OF 'swashlaw14.RearTakes'. -/
def rearTakesCard : Claim7 := { stood := { row := rearTakesRow, standIns := [], harness := (true, "8373405fcbf2cee226382fee390bd7ba0b61dd52971eae1a3fd12d45f8928637"), looks := true }, kinds := [], alts := [], laidByText := true, laidKinds := [.data], laidTests := true, laidLooks := .later }
def RearTakesCardSaid : Prop := Claim7.holds Tryd.pinned (.plain (OpenSpec.ofChange rearTakesSpec)) rearTakesCard

/-- THE TIED CARD OF 'swashtop.WholeEnds'. -/
def wholeEndsCard : Claim7 := { stood := { row := wholeEndsRow, standIns := [], harness := (true, "8373405fcbf2cee226382fee390bd7ba0b61dd52971eae1a3fd12d45f8928637"), looks := true }, kinds := [], alts := [], laidByText := true, laidKinds := [.data], laidTests := true, laidLooks := .later }
def WholeEndsCardSaid : Prop := Claim7.holds Tryd.pinned (.plain (OpenSpec.ofChange wholeEndsSpec)) wholeEndsCard

/-- THE SECOND FORM's CARD OF 'swashlaw14.RearRuns'. -/
def rearRunsUptoCard : Claim7 := { stood := { row := rearRunsUptoRow, standIns := [], harness := (true, "8373405fcbf2cee226382fee390bd7ba0b61dd52971eae1a3fd12d45f8928637"), looks := true }, kinds := [], alts := [], laidByText := true, laidKinds := [.data], laidTests := true, laidLooks := .later }
def RearRunsUptoCardSaid : Prop := Claim7.holds Tryd.pinned (.plain (OpenSpec.upto rearRunsSpec)) rearRunsUptoCard

/-- THE SECOND FORM's CARD OF 'swashlaw14.RearKeeps'. -/
def rearKeepsUptoCard : Claim7 := { stood := { row := rearKeepsUptoRow, standIns := [], harness := (true, "8373405fcbf2cee226382fee390bd7ba0b61dd52971eae1a3fd12d45f8928637"), looks := true }, kinds := [], alts := [], laidByText := true, laidKinds := [.data], laidTests := true, laidLooks := .later }
def RearKeepsUptoCardSaid : Prop := Claim7.holds Tryd.pinned (.plain (OpenSpec.upto rearKeepsSpec)) rearKeepsUptoCard

/-- THE SECOND FORM's CARD OF 'swashlaw14.RearIdle'. -/
def rearIdleUptoCard : Claim7 := { stood := { row := rearIdleUptoRow, standIns := [], harness := (true, "8373405fcbf2cee226382fee390bd7ba0b61dd52971eae1a3fd12d45f8928637"), looks := true }, kinds := [], alts := [], laidByText := true, laidKinds := [.data], laidTests := true, laidLooks := .later }
def RearIdleUptoCardSaid : Prop := Claim7.holds Tryd.pinned (.plain (OpenSpec.upto rearIdleSpec)) rearIdleUptoCard

/-- THE SECOND FORM's CARD OF 'swashlaw14.RearTakes'. -/
def rearTakesUptoCard : Claim7 := { stood := { row := rearTakesUptoRow, standIns := [], harness := (true, "8373405fcbf2cee226382fee390bd7ba0b61dd52971eae1a3fd12d45f8928637"), looks := true }, kinds := [], alts := [], laidByText := true, laidKinds := [.data], laidTests := true, laidLooks := .later }
def RearTakesUptoCardSaid : Prop := Claim7.holds Tryd.pinned (.plain (OpenSpec.upto rearTakesSpec)) rearTakesUptoCard

/-- THE SECOND FORM's CARD OF 'swashtop.WholeEnds'. -/
def wholeEndsUptoCard : Claim7 := { stood := { row := wholeEndsUptoRow, standIns := [], harness := (true, "8373405fcbf2cee226382fee390bd7ba0b61dd52971eae1a3fd12d45f8928637"), looks := true }, kinds := [], alts := [], laidByText := true, laidKinds := [.data], laidTests := true, laidLooks := .later }
def WholeEndsUptoCardSaid : Prop := Claim7.holds Tryd.pinned (.plain (OpenSpec.upto wholeEndsSpec)) wholeEndsUptoCard
end Rows
end Go.Proofs.YtlhnfpkenlenjaaDoor
