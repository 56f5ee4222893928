/-
  What WordIn of the program answers, at every argument.
-/
import Derived.Test.YtpophidmjcaikaaImpl
namespace Go.Proofs.Ytpophidmjcaikaa
open Go.ChangeShapes Go.WideShapes Go.ChangeAt Go.RowKit
set_option linter.unusedVariables false

end Go.Proofs.Ytpophidmjcaikaa
