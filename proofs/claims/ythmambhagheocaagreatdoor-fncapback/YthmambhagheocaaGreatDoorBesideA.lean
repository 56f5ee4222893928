/-
  What capBesideOk of the program answers, at every kind.
-/
import Derived.Test.YthmambhagheocaaGreatDoorParts
import Derived.Deep.QuietTactic
import Derived.BigQuiet
import Derived.WalkSmall
namespace Go.Proofs.YthmambhagheocaaGreatDoor
open Go.ChangeShapes Go.WideShapes Go.ChangeAt Go.RowKit
set_option linter.unusedVariables false

theorem wrap_size (q : Int) : IntKind.i64.wrap (sizeI q - 1) = sizeI q - 1 := by
  have := sizeI_bd q
  simp [IntKind.wrap, IntKind.bits, IntKind.signed]; omega

set_option maxHeartbeats 4000000 in
theorem beside_1 (k a b r d g q f : Int) (o : Bool) (w : World) :
    Calls Tryz.prog 45 #[kindV 1, .agg #[.int .i64 k, .int .i64 a, .int .i64 b, .int .i64 r, .int .i64 d, .int .i64 g, .int .i64 q, .int .i64 f, .bool o]] w fun e w' => e = .returned (.bool (besideB 1 b d g q f)) ∧ Below w.heap.size w w' := by
  have hs := wrap_size q
  have mM := wordsM_1
  have t1 := ta_1_1
  have t2 := ta_1_2
  have t3 := ta_1_4
  have t4 := ta_1_5
  rw [kindV_1]
  cases h1 : withinB d 0 0
  · go_enter Tryz.func45, Tryz.ntmps45
    go_wp2_with (first | (go_at_call 132; refine (words_1 _ _).mono ?_; rintro e w' ⟨rfl, rfl⟩))
    go_quiet ((first | (go_at_call 66; exact Calls.quiet_of_same (within_no _ _ _ _ (by assumption))) | (go_at_call 66; exact Calls.quiet_of_same (within_yes _ _ _ _ (by assumption))) | (go_at_call 66; exact Calls.quiet_of_same (within_any _ _ _ _)) | (go_at_call 67; exact Calls.quiet_of_same (sizeImpl_any _ _))))
    go_wp2
    go_ret
    exact ⟨ret_bool (by simp [besideB, bmaxI, gmaxI, fmaxI, *]), by repeat (first | exact Below.refl _ _ | apply Below.drew | (refine below_drewN ?_ _) | (refine Below.alloc ?_ (by simp; try omega) _))⟩
  · cases h2 : withinB q 0 0
    · go_enter Tryz.func45, Tryz.ntmps45
      go_wp2_with (first | (go_at_call 132; refine (words_1 _ _).mono ?_; rintro e w' ⟨rfl, rfl⟩))
      go_quiet ((first | (go_at_call 66; exact Calls.quiet_of_same (within_no _ _ _ _ (by assumption))) | (go_at_call 66; exact Calls.quiet_of_same (within_yes _ _ _ _ (by assumption))) | (go_at_call 66; exact Calls.quiet_of_same (within_any _ _ _ _)) | (go_at_call 67; exact Calls.quiet_of_same (sizeImpl_any _ _))))
      go_wp2
      go_ret
      exact ⟨ret_bool (by simp [besideB, bmaxI, gmaxI, fmaxI, *]), by repeat (first | exact Below.refl _ _ | apply Below.drew | (refine below_drewN ?_ _) | (refine Below.alloc ?_ (by simp; try omega) _))⟩
    · cases h3 : withinB g 0 (sizeI q - 1)
      · go_enter Tryz.func45, Tryz.ntmps45
        go_wp2_with (first | (go_at_call 132; refine (words_1 _ _).mono ?_; rintro e w' ⟨rfl, rfl⟩))
        go_quiet ((first | (go_at_call 66; exact Calls.quiet_of_same (within_no _ _ _ _ (by assumption))) | (go_at_call 66; exact Calls.quiet_of_same (within_yes _ _ _ _ (by assumption))) | (go_at_call 66; exact Calls.quiet_of_same (within_any _ _ _ _)) | (go_at_call 67; exact Calls.quiet_of_same (sizeImpl_any _ _))))
        go_wp2
        go_ret
        exact ⟨ret_bool (by simp [besideB, bmaxI, gmaxI, fmaxI, *]), by repeat (first | exact Below.refl _ _ | apply Below.drew | (refine below_drewN ?_ _) | (refine Below.alloc ?_ (by simp; try omega) _))⟩
      · go_enter Tryz.func45, Tryz.ntmps45
        go_wp2_with (first | (go_at_call 132; refine (words_1 _ _).mono ?_; rintro e w' ⟨rfl, rfl⟩))
        go_quiet ((first | (go_at_call 66; exact Calls.quiet_of_same (within_no _ _ _ _ (by assumption))) | (go_at_call 66; exact Calls.quiet_of_same (within_yes _ _ _ _ (by assumption))) | (go_at_call 66; exact Calls.quiet_of_same (within_any _ _ _ _)) | (go_at_call 67; exact Calls.quiet_of_same (sizeImpl_any _ _))))
        go_wp2
        go_ret
        exact ⟨ret_bool (by simp [besideB, bmaxI, gmaxI, fmaxI, *]), by repeat (first | exact Below.refl _ _ | apply Below.drew | (refine below_drewN ?_ _) | (refine Below.alloc ?_ (by simp; try omega) _))⟩

set_option maxHeartbeats 4000000 in
theorem beside_2 (k a b r d g q f : Int) (o : Bool) (w : World) :
    Calls Tryz.prog 45 #[kindV 2, .agg #[.int .i64 k, .int .i64 a, .int .i64 b, .int .i64 r, .int .i64 d, .int .i64 g, .int .i64 q, .int .i64 f, .bool o]] w fun e w' => e = .returned (.bool (besideB 2 b d g q f)) ∧ Below w.heap.size w w' := by
  have hs := wrap_size q
  have mM := wordsM_2
  have t1 := ta_2_1
  have t2 := ta_2_2
  have t3 := ta_2_4
  have t4 := ta_2_5
  rw [kindV_2]
  cases h1 : withinB d 0 0
  · go_enter Tryz.func45, Tryz.ntmps45
    go_wp2_with (first | (go_at_call 129; refine (words_2 _ _).mono ?_; rintro e w' ⟨rfl, rfl⟩))
    go_quiet ((first | (go_at_call 66; exact Calls.quiet_of_same (within_no _ _ _ _ (by assumption))) | (go_at_call 66; exact Calls.quiet_of_same (within_yes _ _ _ _ (by assumption))) | (go_at_call 66; exact Calls.quiet_of_same (within_any _ _ _ _)) | (go_at_call 67; exact Calls.quiet_of_same (sizeImpl_any _ _))))
    go_wp2
    go_ret
    exact ⟨ret_bool (by simp [besideB, bmaxI, gmaxI, fmaxI, *]), by repeat (first | exact Below.refl _ _ | apply Below.drew | (refine below_drewN ?_ _) | (refine Below.alloc ?_ (by simp; try omega) _))⟩
  · cases h2 : withinB q 0 8
    · go_enter Tryz.func45, Tryz.ntmps45
      go_wp2_with (first | (go_at_call 129; refine (words_2 _ _).mono ?_; rintro e w' ⟨rfl, rfl⟩))
      go_quiet ((first | (go_at_call 66; exact Calls.quiet_of_same (within_no _ _ _ _ (by assumption))) | (go_at_call 66; exact Calls.quiet_of_same (within_yes _ _ _ _ (by assumption))) | (go_at_call 66; exact Calls.quiet_of_same (within_any _ _ _ _)) | (go_at_call 67; exact Calls.quiet_of_same (sizeImpl_any _ _))))
      go_wp2
      go_ret
      exact ⟨ret_bool (by simp [besideB, bmaxI, gmaxI, fmaxI, *]), by repeat (first | exact Below.refl _ _ | apply Below.drew | (refine below_drewN ?_ _) | (refine Below.alloc ?_ (by simp; try omega) _))⟩
    · cases h3 : withinB g 0 (sizeI q - 1)
      · go_enter Tryz.func45, Tryz.ntmps45
        go_wp2_with (first | (go_at_call 129; refine (words_2 _ _).mono ?_; rintro e w' ⟨rfl, rfl⟩))
        go_quiet ((first | (go_at_call 66; exact Calls.quiet_of_same (within_no _ _ _ _ (by assumption))) | (go_at_call 66; exact Calls.quiet_of_same (within_yes _ _ _ _ (by assumption))) | (go_at_call 66; exact Calls.quiet_of_same (within_any _ _ _ _)) | (go_at_call 67; exact Calls.quiet_of_same (sizeImpl_any _ _))))
        go_wp2
        go_ret
        exact ⟨ret_bool (by simp [besideB, bmaxI, gmaxI, fmaxI, *]), by repeat (first | exact Below.refl _ _ | apply Below.drew | (refine below_drewN ?_ _) | (refine Below.alloc ?_ (by simp; try omega) _))⟩
      · go_enter Tryz.func45, Tryz.ntmps45
        go_wp2_with (first | (go_at_call 129; refine (words_2 _ _).mono ?_; rintro e w' ⟨rfl, rfl⟩))
        go_quiet ((first | (go_at_call 66; exact Calls.quiet_of_same (within_no _ _ _ _ (by assumption))) | (go_at_call 66; exact Calls.quiet_of_same (within_yes _ _ _ _ (by assumption))) | (go_at_call 66; exact Calls.quiet_of_same (within_any _ _ _ _)) | (go_at_call 67; exact Calls.quiet_of_same (sizeImpl_any _ _))))
        go_wp2
        go_ret
        exact ⟨ret_bool (by simp [besideB, bmaxI, gmaxI, fmaxI, *]), by repeat (first | exact Below.refl _ _ | apply Below.drew | (refine below_drewN ?_ _) | (refine Below.alloc ?_ (by simp; try omega) _))⟩

set_option maxHeartbeats 4000000 in
theorem beside_3 (k a b r d g q f : Int) (o : Bool) (w : World) :
    Calls Tryz.prog 45 #[kindV 3, .agg #[.int .i64 k, .int .i64 a, .int .i64 b, .int .i64 r, .int .i64 d, .int .i64 g, .int .i64 q, .int .i64 f, .bool o]] w fun e w' => e = .returned (.bool (besideB 3 b d g q f)) ∧ Below w.heap.size w w' := by
  have hs := wrap_size q
  have mM := wordsM_3
  have t1 := ta_3_1
  have t2 := ta_3_2
  have t3 := ta_3_4
  have t4 := ta_3_5
  rw [kindV_3]
  cases h1 : withinB d 0 0
  · go_enter Tryz.func45, Tryz.ntmps45
    go_wp2_with (first | (go_at_call 61; refine (words_3 _ _).mono ?_; rintro e w' ⟨rfl, rfl⟩))
    go_quiet ((first | (go_at_call 66; exact Calls.quiet_of_same (within_no _ _ _ _ (by assumption))) | (go_at_call 66; exact Calls.quiet_of_same (within_yes _ _ _ _ (by assumption))) | (go_at_call 66; exact Calls.quiet_of_same (within_any _ _ _ _)) | (go_at_call 67; exact Calls.quiet_of_same (sizeImpl_any _ _))))
    go_wp2
    go_ret
    exact ⟨ret_bool (by simp [besideB, bmaxI, gmaxI, fmaxI, *]), by repeat (first | exact Below.refl _ _ | apply Below.drew | (refine below_drewN ?_ _) | (refine Below.alloc ?_ (by simp; try omega) _))⟩
  · cases h2 : withinB q 0 0
    · go_enter Tryz.func45, Tryz.ntmps45
      go_wp2_with (first | (go_at_call 61; refine (words_3 _ _).mono ?_; rintro e w' ⟨rfl, rfl⟩))
      go_quiet ((first | (go_at_call 66; exact Calls.quiet_of_same (within_no _ _ _ _ (by assumption))) | (go_at_call 66; exact Calls.quiet_of_same (within_yes _ _ _ _ (by assumption))) | (go_at_call 66; exact Calls.quiet_of_same (within_any _ _ _ _)) | (go_at_call 67; exact Calls.quiet_of_same (sizeImpl_any _ _))))
      go_wp2
      go_ret
      exact ⟨ret_bool (by simp [besideB, bmaxI, gmaxI, fmaxI, *]), by repeat (first | exact Below.refl _ _ | apply Below.drew | (refine below_drewN ?_ _) | (refine Below.alloc ?_ (by simp; try omega) _))⟩
    · cases h3 : withinB g 0 (sizeI q - 1)
      · go_enter Tryz.func45, Tryz.ntmps45
        go_wp2_with (first | (go_at_call 61; refine (words_3 _ _).mono ?_; rintro e w' ⟨rfl, rfl⟩))
        go_quiet ((first | (go_at_call 66; exact Calls.quiet_of_same (within_no _ _ _ _ (by assumption))) | (go_at_call 66; exact Calls.quiet_of_same (within_yes _ _ _ _ (by assumption))) | (go_at_call 66; exact Calls.quiet_of_same (within_any _ _ _ _)) | (go_at_call 67; exact Calls.quiet_of_same (sizeImpl_any _ _))))
        go_wp2
        go_ret
        exact ⟨ret_bool (by simp [besideB, bmaxI, gmaxI, fmaxI, *]), by repeat (first | exact Below.refl _ _ | apply Below.drew | (refine below_drewN ?_ _) | (refine Below.alloc ?_ (by simp; try omega) _))⟩
      · go_enter Tryz.func45, Tryz.ntmps45
        go_wp2_with (first | (go_at_call 61; refine (words_3 _ _).mono ?_; rintro e w' ⟨rfl, rfl⟩))
        go_quiet ((first | (go_at_call 66; exact Calls.quiet_of_same (within_no _ _ _ _ (by assumption))) | (go_at_call 66; exact Calls.quiet_of_same (within_yes _ _ _ _ (by assumption))) | (go_at_call 66; exact Calls.quiet_of_same (within_any _ _ _ _)) | (go_at_call 67; exact Calls.quiet_of_same (sizeImpl_any _ _))))
        go_wp2
        go_ret
        exact ⟨ret_bool (by simp [besideB, bmaxI, gmaxI, fmaxI, *]), by repeat (first | exact Below.refl _ _ | apply Below.drew | (refine below_drewN ?_ _) | (refine Below.alloc ?_ (by simp; try omega) _))⟩

set_option maxHeartbeats 4000000 in
theorem beside_4 (k a b r d g q f : Int) (o : Bool) (w : World) :
    Calls Tryz.prog 45 #[kindV 4, .agg #[.int .i64 k, .int .i64 a, .int .i64 b, .int .i64 r, .int .i64 d, .int .i64 g, .int .i64 q, .int .i64 f, .bool o]] w fun e w' => e = .returned (.bool (besideB 4 b d g q f)) ∧ Below w.heap.size w w' := by
  have hs := wrap_size q
  have mM := wordsM_4
  have t1 := ta_4_1
  have t2 := ta_4_2
  have t3 := ta_4_4
  have t4 := ta_4_5
  rw [kindV_4]
  cases h1 : withinB d 0 65535
  · go_enter Tryz.func45, Tryz.ntmps45
    go_wp2_with (first | (go_at_call 137; refine (words_4 _ _).mono ?_; rintro e w' ⟨rfl, rfl⟩))
    go_quiet ((first | (go_at_call 66; exact Calls.quiet_of_same (within_no _ _ _ _ (by assumption))) | (go_at_call 66; exact Calls.quiet_of_same (within_yes _ _ _ _ (by assumption))) | (go_at_call 66; exact Calls.quiet_of_same (within_any _ _ _ _)) | (go_at_call 67; exact Calls.quiet_of_same (sizeImpl_any _ _))))
    go_wp2
    go_ret
    exact ⟨ret_bool (by simp [besideB, bmaxI, gmaxI, fmaxI, *]), by repeat (first | exact Below.refl _ _ | apply Below.drew | (refine below_drewN ?_ _) | (refine Below.alloc ?_ (by simp; try omega) _))⟩
  · cases h2 : withinB q 0 0
    · go_enter Tryz.func45, Tryz.ntmps45
      go_wp2_with (first | (go_at_call 137; refine (words_4 _ _).mono ?_; rintro e w' ⟨rfl, rfl⟩))
      go_quiet ((first | (go_at_call 66; exact Calls.quiet_of_same (within_no _ _ _ _ (by assumption))) | (go_at_call 66; exact Calls.quiet_of_same (within_yes _ _ _ _ (by assumption))) | (go_at_call 66; exact Calls.quiet_of_same (within_any _ _ _ _)) | (go_at_call 67; exact Calls.quiet_of_same (sizeImpl_any _ _))))
      go_wp2
      go_ret
      exact ⟨ret_bool (by simp [besideB, bmaxI, gmaxI, fmaxI, *]), by repeat (first | exact Below.refl _ _ | apply Below.drew | (refine below_drewN ?_ _) | (refine Below.alloc ?_ (by simp; try omega) _))⟩
    · cases h3 : withinB g 0 (sizeI q - 1)
      · go_enter Tryz.func45, Tryz.ntmps45
        go_wp2_with (first | (go_at_call 137; refine (words_4 _ _).mono ?_; rintro e w' ⟨rfl, rfl⟩))
        go_quiet ((first | (go_at_call 66; exact Calls.quiet_of_same (within_no _ _ _ _ (by assumption))) | (go_at_call 66; exact Calls.quiet_of_same (within_yes _ _ _ _ (by assumption))) | (go_at_call 66; exact Calls.quiet_of_same (within_any _ _ _ _)) | (go_at_call 67; exact Calls.quiet_of_same (sizeImpl_any _ _))))
        go_wp2
        go_ret
        exact ⟨ret_bool (by simp [besideB, bmaxI, gmaxI, fmaxI, *]), by repeat (first | exact Below.refl _ _ | apply Below.drew | (refine below_drewN ?_ _) | (refine Below.alloc ?_ (by simp; try omega) _))⟩
      · go_enter Tryz.func45, Tryz.ntmps45
        go_wp2_with (first | (go_at_call 137; refine (words_4 _ _).mono ?_; rintro e w' ⟨rfl, rfl⟩))
        go_quiet ((first | (go_at_call 66; exact Calls.quiet_of_same (within_no _ _ _ _ (by assumption))) | (go_at_call 66; exact Calls.quiet_of_same (within_yes _ _ _ _ (by assumption))) | (go_at_call 66; exact Calls.quiet_of_same (within_any _ _ _ _)) | (go_at_call 67; exact Calls.quiet_of_same (sizeImpl_any _ _))))
        go_wp2
        go_ret
        exact ⟨ret_bool (by simp [besideB, bmaxI, gmaxI, fmaxI, *]), by repeat (first | exact Below.refl _ _ | apply Below.drew | (refine below_drewN ?_ _) | (refine Below.alloc ?_ (by simp; try omega) _))⟩

end Go.Proofs.YthmambhagheocaaGreatDoor
