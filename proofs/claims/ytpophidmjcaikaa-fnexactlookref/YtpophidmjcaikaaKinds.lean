/-
  What the small functions of chapter 2 answer: capKindOf, the methods of each kind, CapSize, CapMax and capWithin of the program; l2Bits, CapSize and CapMax of the specification.
-/
import Derived.Test.YtpophidmjcaikaaWords
namespace Go.Proofs.Ytpophidmjcaikaa
open Go.ChangeShapes Go.WideShapes Go.ChangeAt Go.RowKit
set_option linter.unusedVariables false

/-- The words of an object. -/
def szI (k b : Int) : Int :=
  if k = 1 then (if 2 ≤ b ∧ b ≤ 11 then sizeI b else 0)
  else if k = 2 then (if 1 ≤ b ∧ b ≤ 5 then 4 * sizeI b else 0)
  else if k = 3 then (if b = 0 then 32 else 0)
  else if k = 4 ∨ k = 5 then (if b = 0 then 4 else 0)
  else if k = 6 then (if 0 ≤ b ∧ b ≤ 6 then sizeI b else 0)
  else 0

/-- So many words 2 to the bits times, where the bits are from l to m. -/
def wordsI (c b l m : Int) : Int := if l ≤ b ∧ b ≤ m then c * sizeI b else 0

theorem wordsI_0 (c b : Int) : wordsI c b 0 0 = if b = 0 then c else 0 := by
  unfold wordsI
  by_cases g : b = 0
  · rw [if_pos g, if_pos (by omega), g]; show c * 1 = c; omega
  · rw [if_neg g, if_neg (by omega)]

theorem wordsI_1 (b : Int) : wordsI 1 b 2 11 = szI 1 b := by simp [szI, wordsI]
theorem wordsI_2 (b : Int) : wordsI 4 b 1 5 = szI 2 b := by simp [szI, wordsI]
theorem wordsI_3 (b : Int) : wordsI 32 b 0 0 = szI 3 b := by rw [wordsI_0]; simp [szI]
theorem wordsI_4 (b : Int) : wordsI 4 b 0 0 = szI 4 b := by rw [wordsI_0]; simp [szI]
theorem wordsI_5 (b : Int) : wordsI 4 b 0 0 = szI 5 b := by rw [wordsI_0]; simp [szI]
theorem wordsI_6 (b : Int) : wordsI 1 b 0 6 = szI 6 b := by simp [szI, wordsI]

/-- The rights of a kind. -/
def maxI (k : Int) : Int := if k = 4 then 7 else if k = 5 ∨ k = 6 then 3 else 0

/-- A kind is one of seven, or none. -/
theorem kind_cases (k : Int) : (k = 1 ∨ k = 2 ∨ k = 3 ∨ k = 4 ∨ k = 5 ∨ k = 6 ∨ k = 7) ∨ (¬ k = 1 ∧ ¬ k = 2 ∧ ¬ k = 3 ∧ ¬ k = 4 ∧ ¬ k = 5 ∧ ¬ k = 6 ∧ ¬ k = 7) := by omega

theorem ret_val {a b : Value} (h : a = b) : Ending.returned a = .returned b := by rw [h]

/-- A number from l to m. -/
def withinB (n l m : Int) : Bool := decide (l ≤ n ∧ n ≤ m)

theorem within_any (n l m : Int) (w : World) :
    Calls Try.prog 8 #[.int .i64 n, .int .i64 l, .int .i64 m] w fun e w' => e = .returned (.bool (withinB n l m)) ∧ w' = w := by
  by_cases h : l ≤ n
  all_goals
    go_enter Try.func8, Try.ntmps8
    go_wp2
    go_ret
    exact ⟨ret_bool (by simp [withinB, h]; try omega), rfl⟩

theorem within_yes (n l m : Int) (w : World) (h : withinB n l m = true) :
    Calls Try.prog 8 #[.int .i64 n, .int .i64 l, .int .i64 m] w fun e w' => e = .returned (.bool true) ∧ w' = w := by
  have := within_any n l m w; rw [h] at this; exact this
theorem within_no (n l m : Int) (w : World) (h : withinB n l m = false) :
    Calls Try.prog 8 #[.int .i64 n, .int .i64 l, .int .i64 m] w fun e w' => e = .returned (.bool false) ∧ w' = w := by
  have := within_any n l m w; rw [h] at this; exact this

/-- The bits go with the kind. -/
def bitsB (k b : Int) : Bool := decide (1 ≤ k ∧ k ≤ 7 ∧ (k = 1 → 2 ≤ b ∧ b ≤ 11) ∧ (k = 2 → 1 ≤ b ∧ b ≤ 5) ∧ (k = 6 → 0 ≤ b ∧ b ≤ 6) ∧ (k = 3 ∨ k = 4 ∨ k = 5 ∨ k = 7 → b = 0))

theorem szI_no {k b : Int} (h : bitsB k b = false) : szI k b = 0 := by
  unfold bitsB at h; rw [decide_eq_false_iff_not] at h
  unfold szI
  repeat' split
  all_goals first | rfl | (exfalso; omega)

theorem size4 (b : Int) (h1 : 1 ≤ b) (h2 : b ≤ 5) : sizeI (b + 2) = szI 2 b := by
  have : b = 1 ∨ b = 2 ∨ b = 3 ∨ b = 4 ∨ b = 5 := by omega
  rcases this with e | e | e | e | e <;> subst e <;> decide

end Go.Proofs.Ytpophidmjcaikaa
