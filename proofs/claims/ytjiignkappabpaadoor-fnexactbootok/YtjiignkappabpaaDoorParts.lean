/-
  What the parts of CapOk of the program answer: capSpan, capBesideOk, capOrigOk.
-/
import Derived.Test.YtjiignkappabpaaDoorKinds
namespace Go.Proofs.YtjiignkappabpaaDoor
open Go.ChangeShapes Go.WideShapes Go.ChangeAt Go.RowKit
set_option linter.unusedVariables false

/-- How many words a capability names. -/
def spanI (k b : Int) : Int := if k = 7 then (if b = 0 then 32 else 0) else szI k b

/-- What only some kinds have. -/
def bmaxI (k : Int) : Int := if k = 4 ∨ k = 5 then 65535 else 0
def gmaxI (k : Int) : Int := if k = 2 then 8 else 0
def fmaxI (k b : Int) : Int := if k = 1 then szI 1 b else 0
def besideB (k b d g q f : Int) : Bool := withinB d 0 (bmaxI k) && withinB q 0 (gmaxI k) && withinB g 0 (sizeI q - 1) && withinB f 0 (fmaxI k b)
def origB (k : Int) (o : Bool) : Bool := if k = 1 then o else if k = 7 then !o else true

theorem sizeI_bd (b : Int) : 0 ≤ sizeI b ∧ sizeI b ≤ 4096 := by
  unfold sizeI
  by_cases h : 0 ≤ b ∧ b ≤ 12
  · have := pow_le12 b.toNat (by omega)
    rw [if_pos h]; omega
  · rw [if_neg h]; omega

theorem seven {k : Int} (h1 : 1 ≤ k) (h7 : k ≤ 7) : k = 1 ∨ k = 2 ∨ k = 3 ∨ k = 4 ∨ k = 5 ∨ k = 6 ∨ k = 7 := by omega

end Go.Proofs.YtjiignkappabpaaDoor
