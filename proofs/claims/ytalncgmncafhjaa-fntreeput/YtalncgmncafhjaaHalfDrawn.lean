/-
  What the drawing of a capability, one in three spoilt, answers.
-/
import Derived.Test.YtalncgmncafhjaaCapDrawn
import Derived.Test.YtalncgmncafhjaaSpoilDrawn
namespace Go.Proofs.Ytalncgmncafhjaa
open Go.ChangeShapes Go.WideShapes Go.ChangeAt Go.RowKit
set_option linter.unusedVariables false

end Go.Proofs.Ytalncgmncafhjaa
