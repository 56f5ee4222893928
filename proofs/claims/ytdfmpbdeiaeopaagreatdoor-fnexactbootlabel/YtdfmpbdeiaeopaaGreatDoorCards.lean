/-
  DERIVED. GIVEN WITH THE SEED: THE CARDS: each row of YtdfmpbdeiaeopaaGreatDoorRows.lean that lists a variable, with what it lists TIED to the program's text (the seventh form; the later family's looks); each row that meets fmt, with fmt's text TOLD by the authors' own Lean function (tested against real Go, not proved from fmt's source: count such statements apart). THE CARD IS WHAT COUNTS. Prove the row's statement (the work); the ties are given (YtdfmpbdeiaeopaaGreatDoorTie.lean); close each card by the builder's one call (the guide's Derived/Test/ToyasCard.lean, 'card_holds'). Laid BY PROGRAM, IN A SANDBOX (cutbox-door.mjs). By AI agents, Wed Nov 11 2026. No macro, syntax, notation, axiom, sorry.
-/
import Derived.Test.YtdfmpbdeiaeopaaGreatDoorRows
import GoSem.ClaimSeven
namespace Go.Proofs.YtdfmpbdeiaeopaaGreatDoor
namespace Rows

/-- THE TIED CARD OF 'laws.FnExactBootMake'. -/
def fnExactBootMakeCard : Claim7 := { stood := { row := fnExactBootMakeRow, standIns := [], harness := (true, "0431897da63e57c27526254c249403e1c9c37cb55c09408635a70437998eeb78"), looks := true }, kinds := [], alts := [], laidByText := true, laidKinds := [.sentinel, .sentinel, .sentinel, .sentinel, .sentinel], laidTests := true, laidLooks := .later }
def FnExactBootMakeCardSaid : Prop := Claim7.holds Tryz.pinned (.plain (OpenSpec.ofChange fnExactBootMakeSpec)) fnExactBootMakeCard

/-- THE TIED CARD OF 'laws.FnExactBootLabel'. -/
def fnExactBootLabelCard : Claim7 := { stood := { row := fnExactBootLabelRow, standIns := [], harness := (true, "0431897da63e57c27526254c249403e1c9c37cb55c09408635a70437998eeb78"), looks := true }, kinds := [], alts := [], laidByText := true, laidKinds := [.sentinel, .sentinel, .sentinel, .sentinel, .sentinel], laidTests := true, laidLooks := .later }
def FnExactBootLabelCardSaid : Prop := Claim7.holds Tryz.pinned (.plain (OpenSpec.ofChange fnExactBootLabelSpec)) fnExactBootLabelCard

/-- THE SECOND FORM's CARD OF 'laws.FnExactBootMake'. -/
def fnExactBootMakeUptoCard : Claim7 := { stood := { row := fnExactBootMakeUptoRow, standIns := [], harness := (true, "0431897da63e57c27526254c249403e1c9c37cb55c09408635a70437998eeb78"), looks := true }, kinds := [], alts := [], laidByText := true, laidKinds := [.sentinel, .sentinel, .sentinel, .sentinel, .sentinel], laidTests := true, laidLooks := .later }
def FnExactBootMakeUptoCardSaid : Prop := Claim7.holds Tryz.pinned (.plain (OpenSpec.upto fnExactBootMakeSpec)) fnExactBootMakeUptoCard

/-- THE SECOND FORM's CARD OF 'laws.FnExactBootLabel'. -/
def fnExactBootLabelUptoCard : Claim7 := { stood := { row := fnExactBootLabelUptoRow, standIns := [], harness := (true, "0431897da63e57c27526254c249403e1c9c37cb55c09408635a70437998eeb78"), looks := true }, kinds := [], alts := [], laidByText := true, laidKinds := [.sentinel, .sentinel, .sentinel, .sentinel, .sentinel], laidTests := true, laidLooks := .later }
def FnExactBootLabelUptoCardSaid : Prop := Claim7.holds Tryz.pinned (.plain (OpenSpec.upto fnExactBootLabelSpec)) fnExactBootLabelUptoCard
end Rows
end Go.Proofs.YtdfmpbdeiaeopaaGreatDoor
