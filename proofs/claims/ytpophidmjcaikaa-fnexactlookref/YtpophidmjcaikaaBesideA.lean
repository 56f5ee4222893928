/-
  What capBesideOk of the program answers, at every kind.
-/
import Derived.Test.YtpophidmjcaikaaParts
import Derived.Deep.QuietTactic
import Derived.BigQuiet
import Derived.WalkSmall
namespace Go.Proofs.Ytpophidmjcaikaa
open Go.ChangeShapes Go.WideShapes Go.ChangeAt Go.RowKit
set_option linter.unusedVariables false

theorem wrap_size (q : Int) : IntKind.i64.wrap (sizeI q - 1) = sizeI q - 1 := by
  have := sizeI_bd q
  simp [IntKind.wrap, IntKind.bits, IntKind.signed]; omega

end Go.Proofs.Ytpophidmjcaikaa
