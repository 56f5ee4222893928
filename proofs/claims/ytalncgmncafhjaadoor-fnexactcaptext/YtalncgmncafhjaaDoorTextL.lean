/-
  The text of a capability, as bytes.
-/
import Derived.Test.YtalncgmncafhjaaDoorTextParts
import Derived.Test.YtalncgmncafhjaaDoorOkImpl
import Derived.Test.YtalncgmncafhjaaDoorBounds
import Derived.Test.YtalncgmncafhjaaDoorMem
import Derived.Test.YtalncgmncafhjaaDoorCapIn
namespace Go.Proofs.YtalncgmncafhjaaDoor
open Go.ChangeShapes Go.WideShapes Go.ChangeAt Go.RowKit
set_option linter.unusedVariables false

/-- The text of a capability. -/
def tailL (k b r d g q f : Int) : List UInt8 :=
  if k = 1 then 32 :: (Lib.itoa b ++ 32 :: Lib.itoa f)
  else if k = 2 then 32 :: (Lib.itoa b ++ 32 :: (Lib.itoa g ++ 32 :: Lib.itoa q))
  else if k = 4 ∨ k = 5 then 32 :: (lettersL r ++ 32 :: Lib.itoa d)
  else if k = 6 then 32 :: (Lib.itoa b ++ 32 :: lettersL r)
  else []
def textL (k a b r d g q f : Int) (o : Bool) : List UInt8 := nameL k ++ ((if o = true then [42] else []) ++ (32 :: (Lib.itoa a ++ tailL k b r d g q f)))

theorem partL_le (p a b r d g q f : Int) (ha : 0 ≤ a ∧ a ≤ 65535) (hb : 0 ≤ b ∧ b ≤ 65535) (hr0 : 0 ≤ r) (hr1 : r ≤ 7) (hd : 0 ≤ d ∧ d ≤ 65535) (hg : 0 ≤ g ∧ g ≤ 65535) (hq : 0 ≤ q ∧ q ≤ 65535) (hf : 0 ≤ f ∧ f ≤ 65535) : (partL p a b r d g q f).length ≤ 21 := by
  have hr : (lettersL r).length ≤ 21 := by
    have h : r = 0 ∨ r = 1 ∨ r = 2 ∨ r = 3 ∨ r = 4 ∨ r = 5 ∨ r = 6 ∨ r = 7 := by omega
    rcases h with h | h | h | h | h | h | h | h <;> subst h <;> decide
  unfold partL
  repeat' split
  all_goals first | exact hr | exact Lib.itoa_length_le _ (by omega) (by omega)

end Go.Proofs.YtalncgmncafhjaaDoor
