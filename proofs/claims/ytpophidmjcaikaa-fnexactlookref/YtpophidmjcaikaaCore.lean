/-
  What the small functions of the ranges answer, each at every argument: l1Fine and WordSize of the specification, WordSize, none, end and rest of the program. Conditions: none, but that an argument fits its kind where that is named.
-/
import Derived.Test.YtpophidmjcaikaaRows
import Derived.WalkKit
import Derived.ProofKit
import Derived.OpenShut
namespace Go.Proofs.Ytpophidmjcaikaa
open Go.ChangeShapes Go.WideShapes Go.ChangeAt Go.RowKit

/-- A range is one. -/
def fineB (a s : Int) : Bool := decide (0 ≤ a ∧ 0 < s ∧ a ≤ 4096 ∧ s ≤ 4096)

theorem fineB_true {a s : Int} (h : fineB a s = true) : 0 ≤ a ∧ 0 < s ∧ a ≤ 4096 ∧ s ≤ 4096 := by simpa [fineB] using h
theorem fineB_mk {a s : Int} (h : 0 ≤ a ∧ 0 < s ∧ a ≤ 4096 ∧ s ≤ 4096) : fineB a s = true := by simpa [fineB] using h
theorem fineB_no {a s : Int} (h : ¬ (0 ≤ a ∧ 0 < s ∧ a ≤ 4096 ∧ s ≤ 4096)) : fineB a s = false := by simpa [fineB] using h

/-- 2 to the bits, for 0 to 12; else 0. -/
def sizeI (b : Int) : Int := if 0 ≤ b ∧ b ≤ 12 then 2 ^ b.toNat else 0

theorem pow_le12 (k : Nat) (h : k ≤ 12) : (1 : Int) ≤ 2 ^ k ∧ (2 : Int) ^ k ≤ 4096 := by
  have : k = 0 ∨ k = 1 ∨ k = 2 ∨ k = 3 ∨ k = 4 ∨ k = 5 ∨ k = 6 ∨ k = 7 ∨ k = 8 ∨ k = 9 ∨ k = 10 ∨ k = 11 ∨ k = 12 := by omega
  rcases this with h | h | h | h | h | h | h | h | h | h | h | h | h <;> subst h <;> decide

theorem ret_int {k : IntKind} {a b : Int} (h : a = b) : Ending.returned (.int k a) = .returned (.int k b) := by rw [h]

end Go.Proofs.Ytpophidmjcaikaa
