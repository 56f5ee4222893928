/-
  DERIVED. GIVEN WITH THE SEED: THE CARDS: each row of YtalncgmncafhjaaDoorRows.lean that lists a variable, with what it lists TIED to the program's text (the seventh form; the later family's looks); each row that meets fmt, with fmt's text TOLD by the authors' own Lean function (tested against real Go, not proved from fmt's source: count such statements apart). THE CARD IS WHAT COUNTS. Prove the row's statement (the work); the ties are given (YtalncgmncafhjaaDoorTie.lean); close each card by the builder's one call (the guide's Derived/Test/ToyasCard.lean, 'card_holds'). Laid BY PROGRAM, IN A SANDBOX (cutbox-door.mjs). By AI agents, Wed Nov 11 2026. No macro, syntax, notation, axiom, sorry.
-/
import Derived.Test.YtalncgmncafhjaaDoorRows
import GoSem.ClaimSeven
namespace Go.Proofs.YtalncgmncafhjaaDoor
namespace Rows

/-- THE TIED CARD OF 'laws.FnExactCapText'. -/
def fnExactCapTextCard : Claim7 := { stood := { row := fnExactCapTextRow, standIns := [], harness := (true, "b659834a5e2644f8a8af4a0d83ea2a746299e874fd3fd3883737d1f1d7deed69"), looks := true }, kinds := [], alts := [], laidByText := true, laidKinds := [.data, .data, .data], laidTests := true, laidLooks := .later }
def FnExactCapTextCardSaid : Prop := Claim7.holds Tryd.pinned (.plain (OpenSpec.ofChange fnExactCapTextSpec)) fnExactCapTextCard

/-- THE SECOND FORM's CARD OF 'laws.FnExactCapText'. -/
def fnExactCapTextUptoCard : Claim7 := { stood := { row := fnExactCapTextUptoRow, standIns := [], harness := (true, "b659834a5e2644f8a8af4a0d83ea2a746299e874fd3fd3883737d1f1d7deed69"), looks := true }, kinds := [], alts := [], laidByText := true, laidKinds := [.data, .data, .data], laidTests := true, laidLooks := .later }
def FnExactCapTextUptoCardSaid : Prop := Claim7.holds Tryd.pinned (.plain (OpenSpec.upto fnExactCapTextSpec)) fnExactCapTextUptoCard
end Rows
end Go.Proofs.YtalncgmncafhjaaDoor
