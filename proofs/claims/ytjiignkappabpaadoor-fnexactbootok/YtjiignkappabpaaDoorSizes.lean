/-
  What CapSize and CapMax of the program answer, at every argument.
-/
import Derived.Test.YtjiignkappabpaaDoorKinds
namespace Go.Proofs.YtjiignkappabpaaDoor
open Go.ChangeShapes Go.WideShapes Go.ChangeAt Go.RowKit
set_option linter.unusedVariables false

set_option maxHeartbeats 2000000 in
theorem maxImpl_any (k : Int) (w : World) :
    Calls Tryd.prog 53 #[.int .i64 k] w fun e w' => e = .returned (.int .i64 (maxI k)) ∧ Below w.heap.size w w' := by
  rcases kind_cases k with (h | h | h | h | h | h | h) | ⟨h1, h2, h3, h4, h5, h6, h7⟩
  · subst h
    have mM := rightsM_1
    go_enter Tryd.func53, Tryd.ntmps53
    go_wp2_with (first | (go_at_call 51; refine (kindOf_any _ _).mono ?_; rintro e w' ⟨rfl, rfl⟩; rw [kindV_1]) | (go_at_call 91; refine (rights_1 _).mono ?_; rintro e w' ⟨rfl, rfl⟩))
    go_ret
    exact ⟨rfl, (Below.refl _ _).alloc (Nat.le_refl _) _⟩
  · subst h
    have mM := rightsM_2
    go_enter Tryd.func53, Tryd.ntmps53
    go_wp2_with (first | (go_at_call 51; refine (kindOf_any _ _).mono ?_; rintro e w' ⟨rfl, rfl⟩; rw [kindV_2]) | (go_at_call 95; refine (rights_2 _).mono ?_; rintro e w' ⟨rfl, rfl⟩))
    go_ret
    exact ⟨rfl, (Below.refl _ _).alloc (Nat.le_refl _) _⟩
  · subst h
    have mM := rightsM_3
    go_enter Tryd.func53, Tryd.ntmps53
    go_wp2_with (first | (go_at_call 51; refine (kindOf_any _ _).mono ?_; rintro e w' ⟨rfl, rfl⟩; rw [kindV_3]) | (go_at_call 98; refine (rights_3 _).mono ?_; rintro e w' ⟨rfl, rfl⟩))
    go_ret
    exact ⟨rfl, (Below.refl _ _).alloc (Nat.le_refl _) _⟩
  · subst h
    have mM := rightsM_4
    go_enter Tryd.func53, Tryd.ntmps53
    go_wp2_with (first | (go_at_call 51; refine (kindOf_any _ _).mono ?_; rintro e w' ⟨rfl, rfl⟩; rw [kindV_4]) | (go_at_call 101; refine (rights_4 _).mono ?_; rintro e w' ⟨rfl, rfl⟩))
    go_ret
    exact ⟨rfl, (Below.refl _ _).alloc (Nat.le_refl _) _⟩
  · subst h
    have mM := rightsM_5
    go_enter Tryd.func53, Tryd.ntmps53
    go_wp2_with (first | (go_at_call 51; refine (kindOf_any _ _).mono ?_; rintro e w' ⟨rfl, rfl⟩; rw [kindV_5]) | (go_at_call 104; refine (rights_5 _).mono ?_; rintro e w' ⟨rfl, rfl⟩))
    go_ret
    exact ⟨rfl, (Below.refl _ _).alloc (Nat.le_refl _) _⟩
  · subst h
    have mM := rightsM_6
    go_enter Tryd.func53, Tryd.ntmps53
    go_wp2_with (first | (go_at_call 51; refine (kindOf_any _ _).mono ?_; rintro e w' ⟨rfl, rfl⟩; rw [kindV_6]) | (go_at_call 107; refine (rights_6 _).mono ?_; rintro e w' ⟨rfl, rfl⟩))
    go_ret
    exact ⟨rfl, (Below.refl _ _).alloc (Nat.le_refl _) _⟩
  · subst h
    have mM := rightsM_7
    go_enter Tryd.func53, Tryd.ntmps53
    go_wp2_with (first | (go_at_call 51; refine (kindOf_any _ _).mono ?_; rintro e w' ⟨rfl, rfl⟩; rw [kindV_7]) | (go_at_call 110; refine (rights_7 _).mono ?_; rintro e w' ⟨rfl, rfl⟩))
    go_ret
    exact ⟨rfl, (Below.refl _ _).alloc (Nat.le_refl _) _⟩
  · go_enter Tryd.func53, Tryd.ntmps53
    go_wp2_with (first | (go_at_call 51; refine (kindOf_any _ _).mono ?_; rintro e w' ⟨rfl, rfl⟩; rw [kindV_none h1 h2 h3 h4 h5 h6 h7]))
    go_ret
    exact ⟨ret_int (by simp [maxI, *]), Below.refl _ _⟩

set_option maxHeartbeats 2000000 in
theorem sizeKind_any (k b : Int) (w : World) :
    Calls Tryd.prog 44 #[.int .i64 k, .int .i64 b] w fun e w' => e = .returned (.int .i64 (szI k b)) ∧ Below w.heap.size w w' := by
  rcases kind_cases k with (h | h | h | h | h | h | h) | ⟨h1, h2, h3, h4, h5, h6, h7⟩
  · subst h
    have mM := wordsM_1
    go_enter Tryd.func44, Tryd.ntmps44
    go_wp2_with (first | (go_at_call 51; refine (kindOf_any _ _).mono ?_; rintro e w' ⟨rfl, rfl⟩; rw [kindV_1]) | (go_at_call 93; refine (words_1 _ _).mono ?_; rintro e w' ⟨rfl, rfl⟩))
    go_ret
    exact ⟨rfl, (Below.refl _ _).alloc (Nat.le_refl _) _⟩
  · subst h
    have mM := wordsM_2
    go_enter Tryd.func44, Tryd.ntmps44
    go_wp2_with (first | (go_at_call 51; refine (kindOf_any _ _).mono ?_; rintro e w' ⟨rfl, rfl⟩; rw [kindV_2]) | (go_at_call 97; refine (words_2 _ _).mono ?_; rintro e w' ⟨rfl, rfl⟩))
    go_ret
    exact ⟨rfl, (Below.refl _ _).alloc (Nat.le_refl _) _⟩
  · subst h
    have mM := wordsM_3
    go_enter Tryd.func44, Tryd.ntmps44
    go_wp2_with (first | (go_at_call 51; refine (kindOf_any _ _).mono ?_; rintro e w' ⟨rfl, rfl⟩; rw [kindV_3]) | (go_at_call 100; refine (words_3 _ _).mono ?_; rintro e w' ⟨rfl, rfl⟩))
    go_ret
    exact ⟨rfl, (Below.refl _ _).alloc (Nat.le_refl _) _⟩
  · subst h
    have mM := wordsM_4
    go_enter Tryd.func44, Tryd.ntmps44
    go_wp2_with (first | (go_at_call 51; refine (kindOf_any _ _).mono ?_; rintro e w' ⟨rfl, rfl⟩; rw [kindV_4]) | (go_at_call 103; refine (words_4 _ _).mono ?_; rintro e w' ⟨rfl, rfl⟩))
    go_ret
    exact ⟨rfl, (Below.refl _ _).alloc (Nat.le_refl _) _⟩
  · subst h
    have mM := wordsM_5
    go_enter Tryd.func44, Tryd.ntmps44
    go_wp2_with (first | (go_at_call 51; refine (kindOf_any _ _).mono ?_; rintro e w' ⟨rfl, rfl⟩; rw [kindV_5]) | (go_at_call 106; refine (words_5 _ _).mono ?_; rintro e w' ⟨rfl, rfl⟩))
    go_ret
    exact ⟨rfl, (Below.refl _ _).alloc (Nat.le_refl _) _⟩
  · subst h
    have mM := wordsM_6
    go_enter Tryd.func44, Tryd.ntmps44
    go_wp2_with (first | (go_at_call 51; refine (kindOf_any _ _).mono ?_; rintro e w' ⟨rfl, rfl⟩; rw [kindV_6]) | (go_at_call 109; refine (words_6 _ _).mono ?_; rintro e w' ⟨rfl, rfl⟩))
    go_ret
    exact ⟨rfl, (Below.refl _ _).alloc (Nat.le_refl _) _⟩
  · subst h
    have mM := wordsM_7
    go_enter Tryd.func44, Tryd.ntmps44
    go_wp2_with (first | (go_at_call 51; refine (kindOf_any _ _).mono ?_; rintro e w' ⟨rfl, rfl⟩; rw [kindV_7]) | (go_at_call 112; refine (words_7 _ _).mono ?_; rintro e w' ⟨rfl, rfl⟩))
    go_ret
    exact ⟨rfl, (Below.refl _ _).alloc (Nat.le_refl _) _⟩
  · go_enter Tryd.func44, Tryd.ntmps44
    go_wp2_with (first | (go_at_call 51; refine (kindOf_any _ _).mono ?_; rintro e w' ⟨rfl, rfl⟩; rw [kindV_none h1 h2 h3 h4 h5 h6 h7]))
    go_ret
    exact ⟨ret_int (by simp [szI, *]), Below.refl _ _⟩

end Go.Proofs.YtjiignkappabpaaDoor
