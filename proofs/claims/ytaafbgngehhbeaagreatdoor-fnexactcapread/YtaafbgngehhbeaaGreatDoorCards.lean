/-
  DERIVED. GIVEN WITH THE SEED: THE CARDS: each row of YtaafbgngehhbeaaGreatDoorRows.lean that lists a variable, with what it lists TIED to the program's text (the seventh form; the later family's looks); each row that meets fmt, with fmt's text TOLD by the authors' own Lean function (tested against real Go, not proved from fmt's source: count such statements apart). THE CARD IS WHAT COUNTS. Prove the row's statement (the work); the ties are given (YtaafbgngehhbeaaGreatDoorTie.lean); close each card by the builder's one call (the guide's Derived/Test/ToyasCard.lean, 'card_holds'). Laid BY PROGRAM, IN A SANDBOX (cutbox-door.mjs). By AI agents, Wed Nov 11 2026. No macro, syntax, notation, axiom, sorry.
-/
import Derived.Test.YtaafbgngehhbeaaGreatDoorRows
import GoSem.ClaimSeven
namespace Go.Proofs.YtaafbgngehhbeaaGreatDoor
namespace Rows

/-- THE TIED CARD OF 'laws.FnExactCapRead'. -/
def fnExactCapReadCard : Claim7 := { stood := { row := fnExactCapReadRow, standIns := [], harness := (true, "9a6ef255d81097b0662381f16ab28846458a7291c354e1169ffe70fb8e51c953"), looks := true }, kinds := [], alts := [], laidByText := true, laidKinds := [.data, .data, .data, .data, .sentinel, .sentinel, .pinned], laidTests := true, laidLooks := .later }
def FnExactCapReadCardSaid : Prop := Claim7.holds Tryz.pinned (.plain (OpenSpec.ofChange fnExactCapReadSpec)) fnExactCapReadCard

/-- THE SECOND FORM's CARD OF 'laws.FnExactCapRead'. -/
def fnExactCapReadUptoCard : Claim7 := { stood := { row := fnExactCapReadUptoRow, standIns := [], harness := (true, "9a6ef255d81097b0662381f16ab28846458a7291c354e1169ffe70fb8e51c953"), looks := true }, kinds := [], alts := [], laidByText := true, laidKinds := [.data, .data, .data, .data, .sentinel, .sentinel, .pinned], laidTests := true, laidLooks := .later }
def FnExactCapReadUptoCardSaid : Prop := Claim7.holds Tryz.pinned (.plain (OpenSpec.upto fnExactCapReadSpec)) fnExactCapReadUptoCard
end Rows
end Go.Proofs.YtaafbgngehhbeaaGreatDoor
