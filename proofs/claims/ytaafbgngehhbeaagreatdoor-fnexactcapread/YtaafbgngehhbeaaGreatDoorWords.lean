/-
  What the five functions of chapter 1 answer, those of the specification and those of the program, each at every argument.
-/
import Derived.Test.YtaafbgngehhbeaaGreatDoorRest
import Derived.Deep.QuietTactic
import Derived.BigQuiet
namespace Go.Proofs.YtaafbgngehhbeaaGreatDoor
open Go.ChangeShapes Go.WideShapes Go.ChangeAt Go.RowKit
set_option linter.unusedVariables false

theorem ret_bool {a b : Bool} (h : a = b) : Ending.returned (.bool a) = .returned (.bool b) := by rw [h]

def alignB (a s : Int) : Bool := fineB a s && (a % s == 0)
def meetB (a s b t : Int) : Bool := fineB a s && fineB b t && decide (a < b + t) && decide (b < a + s)
def inB (a s b t : Int) : Bool := fineB a s && fineB b t && decide (b ≤ a) && decide (a + s ≤ b + t)
def upI (a s : Int) : Int := if fineB a s = true then (if a % s = 0 then a else a + s - a % s) else 0

theorem alignSpec_any (a s : Int) (w : World) :
    Calls Tryz.prog 39 #[.int .i64 a, .int .i64 s] w fun e w' => e = .returned (.bool (alignB a s)) ∧ w' = w := by
  by_cases h : fineB a s = true
  · obtain ⟨h1, h2, h3, h4⟩ := fineB_true h
    go_enter Tryz.func39, Tryz.ntmps39
    go_wp2_with (go_at_call 55; refine (fine_any _ _ _).mono ?_; rintro e w' ⟨rfl, rfl⟩)
    go_ret
    exact ⟨ret_bool (by simp [alignB, h]), rfl⟩
  · have h' : fineB a s = false := by simpa using h
    clear h
    go_enter Tryz.func39, Tryz.ntmps39
    go_wp2_with (go_at_call 55; refine (fine_any _ _ _).mono ?_; rintro e w' ⟨rfl, rfl⟩)
    go_ret
    exact ⟨ret_bool (by simp [alignB, h']), rfl⟩



/-- One step of the loop that seeks the next multiple. -/
theorem up_step (a s : Int) (h1 : 0 ≤ a) (h2 : 0 < s) (h : ¬ a % s = 0) : (if (a + 1) % s = 0 then a + 1 else a + 1 + s - (a + 1) % s) = a + s - a % s := by
  have d := Int.mul_ediv_add_emod a s
  have l := Int.emod_nonneg a (b := s) (by omega)
  have u := Int.emod_lt_of_pos a h2
  by_cases e : a % s = s - 1
  · have : (a + 1) % s = 0 := by
      have e2 : a + 1 = s * (a / s + 1) := by rw [Int.mul_add]; omega
      rw [e2]; exact Int.mul_emod_right s _
    rw [if_pos this]; omega
  · have : (a + 1) % s = a % s + 1 := by
      have e2 : a + 1 = (a % s + 1) + s * (a / s) := by omega
      rw [e2, Int.add_mul_emod_self_left]
      rw [Int.emod_eq_of_lt (by omega) (by omega)]
    rw [this, if_neg (by omega)]; omega

/-- Where the loop stands: the number that it comes to. -/
def upTo (a s : Int) : Int := if a % s = 0 then a else a + s - a % s

theorem upTo_step (a s : Int) (h1 : 0 ≤ a) (h2 : 0 < s) (h : ¬ a % s = 0) : upTo (a + 1) s = upTo a s := by
  unfold upTo; rw [up_step a s h1 h2 h, if_neg h]

theorem upTo_bound (a s : Int) (h1 : 0 ≤ a) (h2 : 0 < s) (h : ¬ a % s = 0) : a < upTo a s ∧ upTo a s < a + s := by
  have l := Int.emod_nonneg a (b := s) (by omega)
  have u := Int.emod_lt_of_pos a h2
  unfold upTo; rw [if_neg h]; omega


/-! The program's own. -/

theorem bcell {W w1 : World} (hb : Below W.heap.size W w1) : (∀ b o, b < W.heap.size → w1.cell? ⟨b, o, none⟩ = W.cell? ⟨b, o, none⟩) ∧ (∀ b o, b < W.heap.size → w1.frozen? ⟨b, o, none⟩ = W.frozen? ⟨b, o, none⟩) :=
  ⟨fun b o h => hb.cell (p := ⟨b, o, none⟩) h, fun b o h => hb.frozen (p := ⟨b, o, none⟩) h⟩

theorem alignImpl_any (a s : Int) (w : World) :
    Calls Tryz.prog 30 #[.int .i64 a, .int .i64 s] w fun e w' => e = .returned (.bool (alignB a s)) ∧ Below w.heap.size w w' := by
  by_cases h : fineB a s = true
  · obtain ⟨h1, h2, h3, h4⟩ := fineB_true h
    go_enter Tryz.func30, Tryz.ntmps30
    go_wp2_with (first | (go_at_call 48; refine (rangeOf_fine _ _ _ h).mono ?_; rintro e w' ⟨rfl, rfl⟩) | (go_at_call 49; refine (none_no _ _ _ (by omega)).mono ?_; rintro e w' ⟨rfl, rfl⟩) | (go_at_call 50; refine (rest_any _ _ _ (by omega) (by omega) (by omega) (by omega)).mono ?_; rintro e w' ⟨rfl, rfl⟩))
    go_ret
    exact ⟨ret_bool (by simp [alignB, h]), by repeat (first | exact Below.refl _ _ | apply Below.drew | (refine Below.alloc ?_ (by simp; try omega) _))⟩
  · have h' : fineB a s = false := by simpa using h
    clear h
    go_enter Tryz.func30, Tryz.ntmps30
    go_wp2_with (first | (go_at_call 48; refine (rangeOf_no _ _ _ h').mono ?_; rintro e w' ⟨rfl, rfl⟩) | (go_at_call 49; refine (none_yes _).mono ?_; rintro e w' ⟨rfl, rfl⟩))
    go_ret
    exact ⟨ret_bool (by simp [alignB, h']), by repeat (first | exact Below.refl _ _ | apply Below.drew | (refine Below.alloc ?_ (by simp; try omega) _))⟩

end Go.Proofs.YtaafbgngehhbeaaGreatDoor
