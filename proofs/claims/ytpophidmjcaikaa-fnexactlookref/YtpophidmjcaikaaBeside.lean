/-
  What capBesideOk of the program answers, at every kind.
-/
import Derived.Test.YtpophidmjcaikaaBesideA
import Derived.Test.YtpophidmjcaikaaBesideB
import Derived.Deep.QuietTactic
import Derived.BigQuiet
import Derived.WalkSmall
namespace Go.Proofs.Ytpophidmjcaikaa
open Go.ChangeShapes Go.WideShapes Go.ChangeAt Go.RowKit
set_option linter.unusedVariables false

end Go.Proofs.Ytpophidmjcaikaa
