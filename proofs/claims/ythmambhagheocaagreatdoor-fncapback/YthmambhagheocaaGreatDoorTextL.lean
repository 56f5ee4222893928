/-
  The text of a capability, as bytes.
-/
import Derived.Test.YthmambhagheocaaGreatDoorTextParts
import Derived.Test.YthmambhagheocaaGreatDoorOkImpl
import Derived.Test.YthmambhagheocaaGreatDoorBounds
import Derived.Test.YthmambhagheocaaGreatDoorMem
import Derived.Test.YthmambhagheocaaGreatDoorCapIn
namespace Go.Proofs.YthmambhagheocaaGreatDoor
open Go.ChangeShapes Go.WideShapes Go.ChangeAt Go.RowKit
set_option linter.unusedVariables false

theorem partL_le (p a b r d g q f : Int) (ha : 0 ≤ a ∧ a ≤ 65535) (hb : 0 ≤ b ∧ b ≤ 65535) (hr0 : 0 ≤ r) (hr1 : r ≤ 7) (hd : 0 ≤ d ∧ d ≤ 65535) (hg : 0 ≤ g ∧ g ≤ 65535) (hq : 0 ≤ q ∧ q ≤ 65535) (hf : 0 ≤ f ∧ f ≤ 65535) : (partL p a b r d g q f).length ≤ 21 := by
  have hr : (lettersL r).length ≤ 21 := by
    have h : r = 0 ∨ r = 1 ∨ r = 2 ∨ r = 3 ∨ r = 4 ∨ r = 5 ∨ r = 6 ∨ r = 7 := by omega
    rcases h with h | h | h | h | h | h | h | h <;> subst h <;> decide
  unfold partL
  repeat' split
  all_goals first | exact hr | exact Lib.itoa_length_le _ (by omega) (by omega)

end Go.Proofs.YthmambhagheocaaGreatDoor
