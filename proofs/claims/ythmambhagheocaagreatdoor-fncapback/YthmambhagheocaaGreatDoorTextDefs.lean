/-
  The text of a capability, as a list of bytes.
-/
import Derived.Test.YthmambhagheocaaGreatDoorCore
import Derived.Lib.ItoaNum
namespace Go.Proofs.YthmambhagheocaaGreatDoor
set_option linter.unusedVariables false

/-- The word of a kind. -/
def nameL (k : Int) : List UInt8 :=
  if k = 1 then [117, 110, 116, 121, 112, 101, 100]
  else if k = 2 then [110, 111, 100, 101]
  else if k = 3 then [116, 104, 114, 101, 97, 100]
  else if k = 4 then [101, 110, 100]
  else if k = 5 then [110, 111, 116, 101]
  else if k = 6 then [102, 114, 97, 109, 101]
  else if k = 7 then [114, 101, 112, 108, 121]
  else []

/-- The letters of rights. -/
def lettersL (r : Int) : List UInt8 :=
  if r = 0 then [45] else (if r % 2 = 1 then [114] else []) ++ (if r / 2 % 2 = 1 then [119] else []) ++ (if r / 4 = 1 then [103] else [])

/-- The text of a capability. -/
def tailL (k b r d g q f : Int) : List UInt8 :=
  if k = 1 then 32 :: (Lib.itoa b ++ 32 :: Lib.itoa f)
  else if k = 2 then 32 :: (Lib.itoa b ++ 32 :: (Lib.itoa g ++ 32 :: Lib.itoa q))
  else if k = 4 ∨ k = 5 then 32 :: (lettersL r ++ 32 :: Lib.itoa d)
  else if k = 6 then 32 :: (Lib.itoa b ++ 32 :: lettersL r)
  else []
def textL (k a b r d g q f : Int) (o : Bool) : List UInt8 := nameL k ++ ((if o = true then [42] else []) ++ (32 :: (Lib.itoa a ++ tailL k b r d g q f)))

end Go.Proofs.YthmambhagheocaaGreatDoor
