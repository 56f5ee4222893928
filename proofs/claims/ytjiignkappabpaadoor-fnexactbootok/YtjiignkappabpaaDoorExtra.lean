/-
  What l2Rights and l2Extra of the specification answer.
-/
import Derived.Test.YtjiignkappabpaaDoorOkay
import Derived.Deep.QuietTactic
import Derived.BigQuiet
import Derived.WalkSmall
import Derived.Deep.CutRange
import Derived.Deep.DeepCutAuto
namespace Go.Proofs.YtjiignkappabpaaDoor
open Go.ChangeShapes Go.WideShapes Go.ChangeAt Go.RowKit
set_option linter.unusedVariables false

/-- Rights that are among others. -/
def subB (a b : Int) : Bool := (a % 2 == 0 || b % 2 == 1) && (a / 2 % 2 == 0 || b / 2 % 2 == 1) && (a / 4 == 0 || b / 4 == 1)

set_option maxHeartbeats 400000 in
theorem sub_any (a b : Int) (w : World) (h1 : 0 ≤ a) (h2 : a ≤ 7) (h3 : 0 ≤ b) (h4 : b ≤ 7) :
    Calls Tryd.prog 22 #[.int .i64 a, .int .i64 b] w fun e w' => e = .returned (.bool (subB a b)) ∧ w' = w := by
  go_enter Tryd.func22, Tryd.ntmps22
  go_wp2
  all_goals go_ret
  all_goals exact ⟨ret_bool (by simp [subB, *]), rfl⟩

theorem sub_max (k r : Int) (h1 : 0 ≤ r) (h2 : r ≤ 7) : subB r (maxI k) = withinB r 0 (maxI k) := by
  have h : maxI k = 0 ∨ maxI k = 3 ∨ maxI k = 7 := by
    unfold maxI
    repeat' split
    all_goals decide
  have hr : r = 0 ∨ r = 1 ∨ r = 2 ∨ r = 3 ∨ r = 4 ∨ r = 5 ∨ r = 6 ∨ r = 7 := by omega
  rcases h with h | h | h <;> rw [h] <;> rcases hr with e | e | e | e | e | e | e | e <;> subst e <;> decide

/-- Badge, guard and Free go with the kind, as the specification asks it. -/
def badgeB (k : Int) : Bool := (k == 4) || (k == 5)
def badB (k d : Int) : Bool := !(withinB d 0 (bmaxI k))
def gadB (k q g : Int) : Bool := !(withinB q 0 (gmaxI k) && withinB g 0 (sizeI q - 1))
def fadB (k b f : Int) : Bool := f == 0 || (k == 1 && (decide (0 < f) && decide (f ≤ sizeI b)))

theorem bad_yes (k d : Int) (h : badgeB k = true) : badB k d = (decide (d < 0) || decide (65535 < d)) := by
  have e : bmaxI k = 65535 := by
    unfold bmaxI; rw [if_pos]; simpa [badgeB] using h
  unfold badB withinB; rw [e, Bool.eq_iff_iff]; simp; try omega
theorem bad_no (k d : Int) (h : badgeB k = false) : badB k d = (decide (d < 0) || decide (0 < d)) := by
  have e : bmaxI k = 0 := by
    unfold bmaxI; rw [if_neg]; simpa [badgeB] using h
  unfold badB withinB; rw [e, Bool.eq_iff_iff]; simp; try omega
theorem gad_yes (k q g : Int) (h : (k == 2) = true) : gadB k q g = (decide (q < 0) || decide (8 < q) || decide (g < 0) || decide (sizeI q ≤ g)) := by
  have e : gmaxI k = 8 := by unfold gmaxI; rw [if_pos (by simpa using h)]
  unfold gadB withinB; rw [e, Bool.eq_iff_iff]; simp; try omega
theorem gad_no (k q g : Int) (h : (k == 2) = false) : gadB k q g = (decide (q < 0) || decide (0 < q) || decide (g < 0) || decide (sizeI q ≤ g)) := by
  have e : gmaxI k = 0 := by unfold gmaxI; rw [if_neg (by simpa using h)]
  unfold gadB withinB; rw [e, Bool.eq_iff_iff]; simp; try omega

end Go.Proofs.YtjiignkappabpaaDoor
