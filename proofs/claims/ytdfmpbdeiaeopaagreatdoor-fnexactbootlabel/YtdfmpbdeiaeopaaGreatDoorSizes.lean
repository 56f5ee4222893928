/-
  What CapSize and CapMax of the program answer, at every argument.
-/
import Derived.Test.YtdfmpbdeiaeopaaGreatDoorKinds
namespace Go.Proofs.YtdfmpbdeiaeopaaGreatDoor
open Go.ChangeShapes Go.WideShapes Go.ChangeAt Go.RowKit
set_option linter.unusedVariables false

set_option maxHeartbeats 2000000 in
theorem maxImpl_any (k : Int) (w : World) :
    Calls Tryz.prog 71 #[.int .i64 k] w fun e w' => e = .returned (.int .i64 (maxI k)) ∧ Below w.heap.size w w' := by
  rcases kind_cases k with (h | h | h | h | h | h | h) | ⟨h1, h2, h3, h4, h5, h6, h7⟩
  · subst h
    have mM := rightsM_1
    go_enter Tryz.func71, Tryz.ntmps71
    go_wp2_with (first | (go_at_call 95; refine (kindOf_any _ _).mono ?_; rintro e w' ⟨rfl, rfl⟩; rw [kindV_1]) | (go_at_call 158; refine (rights_1 _).mono ?_; rintro e w' ⟨rfl, rfl⟩))
    go_ret
    exact ⟨rfl, (Below.refl _ _).alloc (Nat.le_refl _) _⟩
  · subst h
    have mM := rightsM_2
    go_enter Tryz.func71, Tryz.ntmps71
    go_wp2_with (first | (go_at_call 95; refine (kindOf_any _ _).mono ?_; rintro e w' ⟨rfl, rfl⟩; rw [kindV_2]) | (go_at_call 161; refine (rights_2 _).mono ?_; rintro e w' ⟨rfl, rfl⟩))
    go_ret
    exact ⟨rfl, (Below.refl _ _).alloc (Nat.le_refl _) _⟩
  · subst h
    have mM := rightsM_3
    go_enter Tryz.func71, Tryz.ntmps71
    go_wp2_with (first | (go_at_call 95; refine (kindOf_any _ _).mono ?_; rintro e w' ⟨rfl, rfl⟩; rw [kindV_3]) | (go_at_call 156; refine (rights_3 _).mono ?_; rintro e w' ⟨rfl, rfl⟩))
    go_ret
    exact ⟨rfl, (Below.refl _ _).alloc (Nat.le_refl _) _⟩
  · subst h
    have mM := rightsM_4
    go_enter Tryz.func71, Tryz.ntmps71
    go_wp2_with (first | (go_at_call 95; refine (kindOf_any _ _).mono ?_; rintro e w' ⟨rfl, rfl⟩; rw [kindV_4]) | (go_at_call 164; refine (rights_4 _).mono ?_; rintro e w' ⟨rfl, rfl⟩))
    go_ret
    exact ⟨rfl, (Below.refl _ _).alloc (Nat.le_refl _) _⟩
  · subst h
    have mM := rightsM_5
    go_enter Tryz.func71, Tryz.ntmps71
    go_wp2_with (first | (go_at_call 95; refine (kindOf_any _ _).mono ?_; rintro e w' ⟨rfl, rfl⟩; rw [kindV_5]) | (go_at_call 167; refine (rights_5 _).mono ?_; rintro e w' ⟨rfl, rfl⟩))
    go_ret
    exact ⟨rfl, (Below.refl _ _).alloc (Nat.le_refl _) _⟩
  · subst h
    have mM := rightsM_6
    go_enter Tryz.func71, Tryz.ntmps71
    go_wp2_with (first | (go_at_call 95; refine (kindOf_any _ _).mono ?_; rintro e w' ⟨rfl, rfl⟩; rw [kindV_6]) | (go_at_call 170; refine (rights_6 _).mono ?_; rintro e w' ⟨rfl, rfl⟩))
    go_ret
    exact ⟨rfl, (Below.refl _ _).alloc (Nat.le_refl _) _⟩
  · subst h
    have mM := rightsM_7
    go_enter Tryz.func71, Tryz.ntmps71
    go_wp2_with (first | (go_at_call 95; refine (kindOf_any _ _).mono ?_; rintro e w' ⟨rfl, rfl⟩; rw [kindV_7]) | (go_at_call 153; refine (rights_7 _).mono ?_; rintro e w' ⟨rfl, rfl⟩))
    go_ret
    exact ⟨rfl, (Below.refl _ _).alloc (Nat.le_refl _) _⟩
  · go_enter Tryz.func71, Tryz.ntmps71
    go_wp2_with (first | (go_at_call 95; refine (kindOf_any _ _).mono ?_; rintro e w' ⟨rfl, rfl⟩; rw [kindV_none h1 h2 h3 h4 h5 h6 h7]))
    go_ret
    exact ⟨ret_int (by simp [maxI, *]), Below.refl _ _⟩

set_option maxHeartbeats 2000000 in
theorem sizeKind_any (k b : Int) (w : World) :
    Calls Tryz.prog 69 #[.int .i64 k, .int .i64 b] w fun e w' => e = .returned (.int .i64 (szI k b)) ∧ Below w.heap.size w w' := by
  rcases kind_cases k with (h | h | h | h | h | h | h) | ⟨h1, h2, h3, h4, h5, h6, h7⟩
  · subst h
    have mM := wordsM_1
    go_enter Tryz.func69, Tryz.ntmps69
    go_wp2_with (first | (go_at_call 95; refine (kindOf_any _ _).mono ?_; rintro e w' ⟨rfl, rfl⟩; rw [kindV_1]) | (go_at_call 160; refine (words_1 _ _).mono ?_; rintro e w' ⟨rfl, rfl⟩))
    go_ret
    exact ⟨rfl, (Below.refl _ _).alloc (Nat.le_refl _) _⟩
  · subst h
    have mM := wordsM_2
    go_enter Tryz.func69, Tryz.ntmps69
    go_wp2_with (first | (go_at_call 95; refine (kindOf_any _ _).mono ?_; rintro e w' ⟨rfl, rfl⟩; rw [kindV_2]) | (go_at_call 163; refine (words_2 _ _).mono ?_; rintro e w' ⟨rfl, rfl⟩))
    go_ret
    exact ⟨rfl, (Below.refl _ _).alloc (Nat.le_refl _) _⟩
  · subst h
    have mM := wordsM_3
    go_enter Tryz.func69, Tryz.ntmps69
    go_wp2_with (first | (go_at_call 95; refine (kindOf_any _ _).mono ?_; rintro e w' ⟨rfl, rfl⟩; rw [kindV_3]) | (go_at_call 118; refine (words_3 _ _).mono ?_; rintro e w' ⟨rfl, rfl⟩))
    go_ret
    exact ⟨rfl, (Below.refl _ _).alloc (Nat.le_refl _) _⟩
  · subst h
    have mM := wordsM_4
    go_enter Tryz.func69, Tryz.ntmps69
    go_wp2_with (first | (go_at_call 95; refine (kindOf_any _ _).mono ?_; rintro e w' ⟨rfl, rfl⟩; rw [kindV_4]) | (go_at_call 166; refine (words_4 _ _).mono ?_; rintro e w' ⟨rfl, rfl⟩))
    go_ret
    exact ⟨rfl, (Below.refl _ _).alloc (Nat.le_refl _) _⟩
  · subst h
    have mM := wordsM_5
    go_enter Tryz.func69, Tryz.ntmps69
    go_wp2_with (first | (go_at_call 95; refine (kindOf_any _ _).mono ?_; rintro e w' ⟨rfl, rfl⟩; rw [kindV_5]) | (go_at_call 169; refine (words_5 _ _).mono ?_; rintro e w' ⟨rfl, rfl⟩))
    go_ret
    exact ⟨rfl, (Below.refl _ _).alloc (Nat.le_refl _) _⟩
  · subst h
    have mM := wordsM_6
    go_enter Tryz.func69, Tryz.ntmps69
    go_wp2_with (first | (go_at_call 95; refine (kindOf_any _ _).mono ?_; rintro e w' ⟨rfl, rfl⟩; rw [kindV_6]) | (go_at_call 172; refine (words_6 _ _).mono ?_; rintro e w' ⟨rfl, rfl⟩))
    go_ret
    exact ⟨rfl, (Below.refl _ _).alloc (Nat.le_refl _) _⟩
  · subst h
    have mM := wordsM_7
    go_enter Tryz.func69, Tryz.ntmps69
    go_wp2_with (first | (go_at_call 95; refine (kindOf_any _ _).mono ?_; rintro e w' ⟨rfl, rfl⟩; rw [kindV_7]) | (go_at_call 155; refine (words_7 _ _).mono ?_; rintro e w' ⟨rfl, rfl⟩))
    go_ret
    exact ⟨rfl, (Below.refl _ _).alloc (Nat.le_refl _) _⟩
  · go_enter Tryz.func69, Tryz.ntmps69
    go_wp2_with (first | (go_at_call 95; refine (kindOf_any _ _).mono ?_; rintro e w' ⟨rfl, rfl⟩; rw [kindV_none h1 h2 h3 h4 h5 h6 h7]))
    go_ret
    exact ⟨ret_int (by simp [szI, *]), Below.refl _ _⟩

end Go.Proofs.YtdfmpbdeiaeopaaGreatDoor
