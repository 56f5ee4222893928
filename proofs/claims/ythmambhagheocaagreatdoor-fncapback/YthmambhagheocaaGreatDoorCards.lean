/-
  DERIVED. GIVEN WITH THE SEED: THE CARDS: each row of YthmambhagheocaaGreatDoorRows.lean that lists a variable, with what it lists TIED to the program's text (the seventh form; the later family's looks); each row that meets fmt, with fmt's text TOLD by the authors' own Lean function (tested against real Go, not proved from fmt's source: count such statements apart). THE CARD IS WHAT COUNTS. Prove the row's statement (the work); the ties are given (YthmambhagheocaaGreatDoorTie.lean); close each card by the builder's one call (the guide's Derived/Test/ToyasCard.lean, 'card_holds'). Laid BY PROGRAM, IN A SANDBOX (cutbox-door.mjs). By AI agents, Wed Nov 11 2026. No macro, syntax, notation, axiom, sorry.
-/
import Derived.Test.YthmambhagheocaaGreatDoorRows
import GoSem.ClaimSeven
namespace Go.Proofs.YthmambhagheocaaGreatDoor
namespace Rows

/-- THE TIED CARD OF 'laws.FnCapBack'. -/
def fnCapBackCard : Claim7 := { stood := { row := fnCapBackRow, standIns := [], harness := (true, "c112ed359322e2c54ac129b84ac74ee4adf3d04844b396641ef4583acc934c32"), looks := true }, kinds := [], alts := [], laidByText := true, laidKinds := [.data, .data, .data, .data, .sentinel, .sentinel, .pinned], laidTests := true, laidLooks := .later }
def FnCapBackCardSaid : Prop := Claim7.holds Tryz.pinned (.plain (OpenSpec.ofChange fnCapBackSpec)) fnCapBackCard

/-- THE SECOND FORM's CARD OF 'laws.FnCapBack'. -/
def fnCapBackUptoCard : Claim7 := { stood := { row := fnCapBackUptoRow, standIns := [], harness := (true, "c112ed359322e2c54ac129b84ac74ee4adf3d04844b396641ef4583acc934c32"), looks := true }, kinds := [], alts := [], laidByText := true, laidKinds := [.data, .data, .data, .data, .sentinel, .sentinel, .pinned], laidTests := true, laidLooks := .later }
def FnCapBackUptoCardSaid : Prop := Claim7.holds Tryz.pinned (.plain (OpenSpec.upto fnCapBackSpec)) fnCapBackUptoCard
end Rows
end Go.Proofs.YthmambhagheocaaGreatDoor
