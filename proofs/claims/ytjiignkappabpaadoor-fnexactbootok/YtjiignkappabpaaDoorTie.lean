/-
  DERIVED. GIVEN WITH THE SEED: THE PROGRAM's TIES (one call each: nine closed facts by the kernel) AND EACH ROW's TIE, after the 31st guide's Derived/Test/Toyas{Tie, Card}.lean. No idea stands in it: it is a product of the set-up. Laid BY PROGRAM, IN A SANDBOX (cutbox-door.mjs). By AI agents, Wed Nov 11 2026. No macro, syntax, notation, axiom, sorry.
-/
import Derived.Test.YtjiignkappabpaaDoorRows
import Derived.LaidByTextLater
import Derived.SevenTiedAt
import Derived.LaidSub
import Derived.LaidOnce
namespace Go.Proofs.YtjiignkappabpaaDoor
open Go
set_option maxRecDepth 100000
theorem seatTie1 : Tryd.prog.laidByTextLater [("loop.example/donjon/impl.errBootCount", Rows.laid_loop_example_donjon_impl_errBootCount), ("loop.example/donjon/impl.errBootSize", Rows.laid_loop_example_donjon_impl_errBootSize), ("loop.example/donjon/impl.errBootNumber", Rows.laid_loop_example_donjon_impl_errBootNumber), ("loop.example/donjon/impl.errBootNamed", Rows.laid_loop_example_donjon_impl_errBootNamed), ("loop.example/donjon/impl.errBootRoom", Rows.laid_loop_example_donjon_impl_errBootRoom)] [.sentinel, .sentinel, .sentinel, .sentinel, .sentinel] true :=
  Program.laidByTextLater_by_one 104 8 2 (by kernel_rfl) (by kernel_rfl) (by kernel_rfl) (by kernel_rfl) (by kernel_rfl) (by kernel_rfl) (fun _ _ => by kernel_rfl)
theorem noOwnUnsafe : Tryd.pinned.checked.prog.headLifts.contains "ownunsafe" = false := by kernel_rfl
theorem tie : Tryd.prog.laidByTextLater [("loop.example/donjon/impl.errBootCount", Rows.laid_loop_example_donjon_impl_errBootCount), ("loop.example/donjon/impl.errBootSize", Rows.laid_loop_example_donjon_impl_errBootSize), ("loop.example/donjon/impl.errBootNumber", Rows.laid_loop_example_donjon_impl_errBootNumber), ("loop.example/donjon/impl.errBootNamed", Rows.laid_loop_example_donjon_impl_errBootNamed), ("loop.example/donjon/impl.errBootRoom", Rows.laid_loop_example_donjon_impl_errBootRoom)] [.sentinel, .sentinel, .sentinel, .sentinel, .sentinel] true :=
  Program.laidByTextLater.sub seatTie1 ["loop.example/donjon/impl.errBootCount", "loop.example/donjon/impl.errBootSize", "loop.example/donjon/impl.errBootNumber", "loop.example/donjon/impl.errBootNamed", "loop.example/donjon/impl.errBootRoom"] (by kernel_rfl) (by kernel_rfl)
theorem fnExactBootOk_row_tie : Rows.fnExactBootOkRow.laidByTextAt .later Tryd.pinned [.sentinel, .sentinel, .sentinel, .sentinel, .sentinel] true :=
  OpenClaim.laidByTextAt_later rfl rfl tie noOwnUnsafe
theorem fnExactBootOkUpto_row_tie : Rows.fnExactBootOkUptoRow.laidByTextAt .later Tryd.pinned [.sentinel, .sentinel, .sentinel, .sentinel, .sentinel] true :=
  OpenClaim.laidByTextAt_later rfl rfl tie noOwnUnsafe
end Go.Proofs.YtjiignkappabpaaDoor
