/-
  What CapText of the program answers, at every capability.
-/
import Derived.Test.YtaafbgngehhbeaaGreatDoorTextL
import Derived.Test.YtaafbgngehhbeaaGreatDoorOkImpl
import Derived.Test.YtaafbgngehhbeaaGreatDoorBounds
import Derived.Test.YtaafbgngehhbeaaGreatDoorMem
import Derived.Test.YtaafbgngehhbeaaGreatDoorCapIn
namespace Go.Proofs.YtaafbgngehhbeaaGreatDoor
open Go.ChangeShapes Go.WideShapes Go.ChangeAt Go.RowKit
set_option linter.unusedVariables false

end Go.Proofs.YtaafbgngehhbeaaGreatDoor
