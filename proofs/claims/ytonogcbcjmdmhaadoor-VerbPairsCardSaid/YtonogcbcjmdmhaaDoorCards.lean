/-
  DERIVED. GIVEN WITH THE SEED: THE CARDS: each row of YtonogcbcjmdmhaaDoorRows.lean that lists a variable, with what it lists TIED to the program's text (the seventh form; the later family's looks); each row that meets fmt, with fmt's text TOLD by the authors' own Lean function (tested against real Go, not proved from fmt's source: count such statements apart). THE CARD IS WHAT COUNTS. Prove the row's statement (the work); the ties are given (YtonogcbcjmdmhaaDoorTie.lean); close each card by the builder's one call (the guide's Derived/Test/ToyasCard.lean, 'card_holds'). Laid BY PROGRAM, IN A SANDBOX (cutbox-door.mjs). By AI agents, Wed Nov 11 2026. No macro, syntax, notation, axiom, sorry.
-/
import Derived.Test.YtonogcbcjmdmhaaDoorRows
import GoSem.ClaimSeven
namespace Go.Proofs.YtonogcbcjmdmhaaDoor
namespace Rows

/-- THE TIED CARD OF 'swashlaw13.VerbOrders'. -/
def verbOrdersCard : Claim7 := { stood := { row := verbOrdersRow, standIns := [], harness := (true, "32d3916e10ec7c475355e349aa2bd0a039e925efeb864f689639874e076ef897"), looks := false }, kinds := [], alts := [], laidByText := true, laidKinds := [.data], laidTests := true, laidLooks := .later }
def VerbOrdersCardSaid : Prop := Claim7.holds Tryd.pinned (.plain (OpenSpec.ofChange verbOrdersSpec)) verbOrdersCard

/-- THE TIED CARD OF 'swashlaw13.VerbKeeps'. -/
def verbKeepsCard : Claim7 := { stood := { row := verbKeepsRow, standIns := [], harness := (true, "32d3916e10ec7c475355e349aa2bd0a039e925efeb864f689639874e076ef897"), looks := false }, kinds := [], alts := [], laidByText := true, laidKinds := [.data], laidTests := true, laidLooks := .later }
def VerbKeepsCardSaid : Prop := Claim7.holds Tryd.pinned (.plain (OpenSpec.ofChange verbKeepsSpec)) verbKeepsCard

/-- THE TIED CARD OF 'swashlaw13.VerbPairs'. -/
def verbPairsCard : Claim7 := { stood := { row := verbPairsRow, standIns := [], harness := (true, "32d3916e10ec7c475355e349aa2bd0a039e925efeb864f689639874e076ef897"), looks := false }, kinds := [], alts := [], laidByText := true, laidKinds := [.data], laidTests := true, laidLooks := .later }
def VerbPairsCardSaid : Prop := Claim7.holds Tryd.pinned (.plain (OpenSpec.ofChange verbPairsSpec)) verbPairsCard

/-- THE SECOND FORM's CARD OF 'swashlaw13.VerbOrders'. -/
def verbOrdersUptoCard : Claim7 := { stood := { row := verbOrdersUptoRow, standIns := [], harness := (true, "32d3916e10ec7c475355e349aa2bd0a039e925efeb864f689639874e076ef897"), looks := false }, kinds := [], alts := [], laidByText := true, laidKinds := [.data], laidTests := true, laidLooks := .later }
def VerbOrdersUptoCardSaid : Prop := Claim7.holds Tryd.pinned (.plain (OpenSpec.upto verbOrdersSpec)) verbOrdersUptoCard

/-- THE SECOND FORM's CARD OF 'swashlaw13.VerbKeeps'. -/
def verbKeepsUptoCard : Claim7 := { stood := { row := verbKeepsUptoRow, standIns := [], harness := (true, "32d3916e10ec7c475355e349aa2bd0a039e925efeb864f689639874e076ef897"), looks := false }, kinds := [], alts := [], laidByText := true, laidKinds := [.data], laidTests := true, laidLooks := .later }
def VerbKeepsUptoCardSaid : Prop := Claim7.holds Tryd.pinned (.plain (OpenSpec.upto verbKeepsSpec)) verbKeepsUptoCard

/-- THE SECOND FORM's CARD OF 'swashlaw13.VerbPairs'. -/
def verbPairsUptoCard : Claim7 := { stood := { row := verbPairsUptoRow, standIns := [], harness := (true, "32d3916e10ec7c475355e349aa2bd0a039e925efeb864f689639874e076ef897"), looks := false }, kinds := [], alts := [], laidByText := true, laidKinds := [.data], laidTests := true, laidLooks := .later }
def VerbPairsUptoCardSaid : Prop := Claim7.holds Tryd.pinned (.plain (OpenSpec.upto verbPairsSpec)) verbPairsUptoCard
end Rows
end Go.Proofs.YtonogcbcjmdmhaaDoor
