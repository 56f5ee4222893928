/-
  DERIVED. GIVEN WITH THE SEED: THE CARDS: each row of YtjiignkappabpaaDoorRows.lean that lists a variable, with what it lists TIED to the program's text (the seventh form; the later family's looks); each row that meets fmt, with fmt's text TOLD by the authors' own Lean function (tested against real Go, not proved from fmt's source: count such statements apart). THE CARD IS WHAT COUNTS. Prove the row's statement (the work); the ties are given (YtjiignkappabpaaDoorTie.lean); close each card by the builder's one call (the guide's Derived/Test/ToyasCard.lean, 'card_holds'). Laid BY PROGRAM, IN A SANDBOX (cutbox-door.mjs). By AI agents, Wed Nov 11 2026. No macro, syntax, notation, axiom, sorry.
-/
import Derived.Test.YtjiignkappabpaaDoorRows
import GoSem.ClaimSeven
namespace Go.Proofs.YtjiignkappabpaaDoor
namespace Rows

/-- THE TIED CARD OF 'laws.FnExactBootOk'. -/
def fnExactBootOkCard : Claim7 := { stood := { row := fnExactBootOkRow, standIns := [], harness := (true, "213481ce127830780b448c5d05dd80bb46abcca697d159ac993f4018a2e8a598"), looks := true }, kinds := [], alts := [], laidByText := true, laidKinds := [.sentinel, .sentinel, .sentinel, .sentinel, .sentinel], laidTests := true, laidLooks := .later }
def FnExactBootOkCardSaid : Prop := Claim7.holds Tryd.pinned (.plain (OpenSpec.ofChange fnExactBootOkSpec)) fnExactBootOkCard

/-- THE SECOND FORM's CARD OF 'laws.FnExactBootOk'. -/
def fnExactBootOkUptoCard : Claim7 := { stood := { row := fnExactBootOkUptoRow, standIns := [], harness := (true, "213481ce127830780b448c5d05dd80bb46abcca697d159ac993f4018a2e8a598"), looks := true }, kinds := [], alts := [], laidByText := true, laidKinds := [.sentinel, .sentinel, .sentinel, .sentinel, .sentinel], laidTests := true, laidLooks := .later }
def FnExactBootOkUptoCardSaid : Prop := Claim7.holds Tryd.pinned (.plain (OpenSpec.upto fnExactBootOkSpec)) fnExactBootOkUptoCard
end Rows
end Go.Proofs.YtjiignkappabpaaDoor
