/-
  What CapOk of the program answers, at every capability.
-/
import Derived.Test.YtpophidmjcaikaaOkay
import Derived.Test.YtpophidmjcaikaaBeside
import Derived.Test.YtpophidmjcaikaaWithin
namespace Go.Proofs.Ytpophidmjcaikaa
open Go.ChangeShapes Go.WideShapes Go.ChangeAt Go.RowKit
set_option linter.unusedVariables false

end Go.Proofs.Ytpophidmjcaikaa
