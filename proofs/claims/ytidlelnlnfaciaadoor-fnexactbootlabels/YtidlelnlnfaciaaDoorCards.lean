/-
  DERIVED. GIVEN WITH THE SEED: THE CARDS: each row of YtidlelnlnfaciaaDoorRows.lean that lists a variable, with what it lists TIED to the program's text (the seventh form; the later family's looks); each row that meets fmt, with fmt's text TOLD by the authors' own Lean function (tested against real Go, not proved from fmt's source: count such statements apart). THE CARD IS WHAT COUNTS. Prove the row's statement (the work); the ties are given (YtidlelnlnfaciaaDoorTie.lean); close each card by the builder's one call (the guide's Derived/Test/ToyasCard.lean, 'card_holds'). Laid BY PROGRAM, IN A SANDBOX (cutbox-door.mjs). By AI agents, Wed Nov 11 2026. No macro, syntax, notation, axiom, sorry.
-/
import Derived.Test.YtidlelnlnfaciaaDoorRows
import GoSem.ClaimSeven
namespace Go.Proofs.YtidlelnlnfaciaaDoor
namespace Rows

/-- THE TIED CARD OF 'laws.FnExactBootLabels'. -/
def fnExactBootLabelsCard : Claim7 := { stood := { row := fnExactBootLabelsRow, standIns := [], harness := (true, "02af7dbc0422b25ac7eeba2d6e0aa2c2720d88de614d15e121baaac9064611ce"), looks := true }, kinds := [], alts := [], laidByText := true, laidKinds := [.sentinel, .sentinel, .sentinel, .sentinel, .sentinel], laidTests := true, laidLooks := .later }
def FnExactBootLabelsCardSaid : Prop := Claim7.holds Tryd.pinned (.plain (OpenSpec.ofChange fnExactBootLabelsSpec)) fnExactBootLabelsCard

/-- THE SECOND FORM's CARD OF 'laws.FnExactBootLabels'. -/
def fnExactBootLabelsUptoCard : Claim7 := { stood := { row := fnExactBootLabelsUptoRow, standIns := [], harness := (true, "02af7dbc0422b25ac7eeba2d6e0aa2c2720d88de614d15e121baaac9064611ce"), looks := true }, kinds := [], alts := [], laidByText := true, laidKinds := [.sentinel, .sentinel, .sentinel, .sentinel, .sentinel], laidTests := true, laidLooks := .later }
def FnExactBootLabelsUptoCardSaid : Prop := Claim7.holds Tryd.pinned (.plain (OpenSpec.upto fnExactBootLabelsSpec)) fnExactBootLabelsUptoCard
end Rows
end Go.Proofs.YtidlelnlnfaciaaDoor
