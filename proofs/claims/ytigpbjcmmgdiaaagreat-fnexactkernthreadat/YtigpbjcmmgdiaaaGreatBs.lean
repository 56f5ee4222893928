/-
  Texts of the proof, put together: BesideA, BesideB, Beside.
-/
import Derived.Test.YtigpbjcmmgdiaaaGreatBa
import Derived.Deep.QuietTactic
import Derived.BigQuiet
import Derived.WalkSmall
/-
 What capBesideOk of the program answers, at every kind.
-/
namespace Go.Proofs.YtigpbjcmmgdiaaaGreat
open Go.ChangeShapes Go.WideShapes Go.ChangeAt Go.RowKit
set_option linter.unusedVariables false

theorem wrap_size (q : Int) : IntKind.i64.wrap (sizeI q - 1) = sizeI q - 1 := by
 have := sizeI_bd q
 simp [IntKind.wrap, IntKind.bits, IntKind.signed]; omega

set_option maxHeartbeats 4000000 in
theorem beside_1 (k a b r d g q f : Int) (o : Bool) (w : World) :
  Calls Tryz.prog 190 #[kindV 1, .agg #[.int .i64 k, .int .i64 a, .int .i64 b, .int .i64 r, .int .i64 d, .int .i64 g, .int .i64 q, .int .i64 f, .bool o]] w fun e w' => e = .returned (.bool (besideB 1 b d g q f)) ∧ Below w.heap.size w w' := by
 have hs := wrap_size q
 have mM := wordsM_1
 have t1 := ta_1_1
 have t2 := ta_1_2
 have t3 := ta_1_4
 have t4 := ta_1_5
 rw [kindV_1]
 cases h1 : withinB d 0 0
 ·go_enter Tryz.func190, Tryz.ntmps190
  go_wp2_with (first | (go_at_call 235; refine (words_1 _ _).mono ?_; rintro e w' ⟨rfl, rfl⟩))
  go_quiet ((first | (go_at_call 99; exact Calls.quiet_of_same (within_no _ _ _ _ (by assumption))) | (go_at_call 99; exact Calls.quiet_of_same (within_yes _ _ _ _ (by assumption))) | (go_at_call 99; exact Calls.quiet_of_same (within_any _ _ _ _)) | (go_at_call 105; exact Calls.quiet_of_same (sizeImpl_any _ _))))
  go_wp2
  go_ret
  exact ⟨ret_bool (by simp [besideB, bmaxI, gmaxI, fmaxI, *]), by repeat (first | exact Below.refl _ _ | apply Below.drew | (refine below_drewN ?_ _) | (refine Below.alloc ?_ (by simp; try omega) _))⟩
 ·cases h2 : withinB q 0 0
  ·go_enter Tryz.func190, Tryz.ntmps190
   go_wp2_with (first | (go_at_call 235; refine (words_1 _ _).mono ?_; rintro e w' ⟨rfl, rfl⟩))
   go_quiet ((first | (go_at_call 99; exact Calls.quiet_of_same (within_no _ _ _ _ (by assumption))) | (go_at_call 99; exact Calls.quiet_of_same (within_yes _ _ _ _ (by assumption))) | (go_at_call 99; exact Calls.quiet_of_same (within_any _ _ _ _)) | (go_at_call 105; exact Calls.quiet_of_same (sizeImpl_any _ _))))
   go_wp2
   go_ret
   exact ⟨ret_bool (by simp [besideB, bmaxI, gmaxI, fmaxI, *]), by repeat (first | exact Below.refl _ _ | apply Below.drew | (refine below_drewN ?_ _) | (refine Below.alloc ?_ (by simp; try omega) _))⟩
  ·cases h3 : withinB g 0 (sizeI q - 1)
   ·go_enter Tryz.func190, Tryz.ntmps190
    go_wp2_with (first | (go_at_call 235; refine (words_1 _ _).mono ?_; rintro e w' ⟨rfl, rfl⟩))
    go_quiet ((first | (go_at_call 99; exact Calls.quiet_of_same (within_no _ _ _ _ (by assumption))) | (go_at_call 99; exact Calls.quiet_of_same (within_yes _ _ _ _ (by assumption))) | (go_at_call 99; exact Calls.quiet_of_same (within_any _ _ _ _)) | (go_at_call 105; exact Calls.quiet_of_same (sizeImpl_any _ _))))
    go_wp2
    go_ret
    exact ⟨ret_bool (by simp [besideB, bmaxI, gmaxI, fmaxI, *]), by repeat (first | exact Below.refl _ _ | apply Below.drew | (refine below_drewN ?_ _) | (refine Below.alloc ?_ (by simp; try omega) _))⟩
   ·go_enter Tryz.func190, Tryz.ntmps190
    go_wp2_with (first | (go_at_call 235; refine (words_1 _ _).mono ?_; rintro e w' ⟨rfl, rfl⟩))
    go_quiet ((first | (go_at_call 99; exact Calls.quiet_of_same (within_no _ _ _ _ (by assumption))) | (go_at_call 99; exact Calls.quiet_of_same (within_yes _ _ _ _ (by assumption))) | (go_at_call 99; exact Calls.quiet_of_same (within_any _ _ _ _)) | (go_at_call 105; exact Calls.quiet_of_same (sizeImpl_any _ _))))
    go_wp2
    go_ret
    exact ⟨ret_bool (by simp [besideB, bmaxI, gmaxI, fmaxI, *]), by repeat (first | exact Below.refl _ _ | apply Below.drew | (refine below_drewN ?_ _) | (refine Below.alloc ?_ (by simp; try omega) _))⟩

set_option maxHeartbeats 4000000 in
theorem beside_2 (k a b r d g q f : Int) (o : Bool) (w : World) :
  Calls Tryz.prog 190 #[kindV 2, .agg #[.int .i64 k, .int .i64 a, .int .i64 b, .int .i64 r, .int .i64 d, .int .i64 g, .int .i64 q, .int .i64 f, .bool o]] w fun e w' => e = .returned (.bool (besideB 2 b d g q f)) ∧ Below w.heap.size w w' := by
 have hs := wrap_size q
 have mM := wordsM_2
 have t1 := ta_2_1
 have t2 := ta_2_2
 have t3 := ta_2_4
 have t4 := ta_2_5
 rw [kindV_2]
 cases h1 : withinB d 0 0
 ·go_enter Tryz.func190, Tryz.ntmps190
  go_wp2_with (first | (go_at_call 238; refine (words_2 _ _).mono ?_; rintro e w' ⟨rfl, rfl⟩))
  go_quiet ((first | (go_at_call 99; exact Calls.quiet_of_same (within_no _ _ _ _ (by assumption))) | (go_at_call 99; exact Calls.quiet_of_same (within_yes _ _ _ _ (by assumption))) | (go_at_call 99; exact Calls.quiet_of_same (within_any _ _ _ _)) | (go_at_call 105; exact Calls.quiet_of_same (sizeImpl_any _ _))))
  go_wp2
  go_ret
  exact ⟨ret_bool (by simp [besideB, bmaxI, gmaxI, fmaxI, *]), by repeat (first | exact Below.refl _ _ | apply Below.drew | (refine below_drewN ?_ _) | (refine Below.alloc ?_ (by simp; try omega) _))⟩
 ·cases h2 : withinB q 0 8
  ·go_enter Tryz.func190, Tryz.ntmps190
   go_wp2_with (first | (go_at_call 238; refine (words_2 _ _).mono ?_; rintro e w' ⟨rfl, rfl⟩))
   go_quiet ((first | (go_at_call 99; exact Calls.quiet_of_same (within_no _ _ _ _ (by assumption))) | (go_at_call 99; exact Calls.quiet_of_same (within_yes _ _ _ _ (by assumption))) | (go_at_call 99; exact Calls.quiet_of_same (within_any _ _ _ _)) | (go_at_call 105; exact Calls.quiet_of_same (sizeImpl_any _ _))))
   go_wp2
   go_ret
   exact ⟨ret_bool (by simp [besideB, bmaxI, gmaxI, fmaxI, *]), by repeat (first | exact Below.refl _ _ | apply Below.drew | (refine below_drewN ?_ _) | (refine Below.alloc ?_ (by simp; try omega) _))⟩
  ·cases h3 : withinB g 0 (sizeI q - 1)
   ·go_enter Tryz.func190, Tryz.ntmps190
    go_wp2_with (first | (go_at_call 238; refine (words_2 _ _).mono ?_; rintro e w' ⟨rfl, rfl⟩))
    go_quiet ((first | (go_at_call 99; exact Calls.quiet_of_same (within_no _ _ _ _ (by assumption))) | (go_at_call 99; exact Calls.quiet_of_same (within_yes _ _ _ _ (by assumption))) | (go_at_call 99; exact Calls.quiet_of_same (within_any _ _ _ _)) | (go_at_call 105; exact Calls.quiet_of_same (sizeImpl_any _ _))))
    go_wp2
    go_ret
    exact ⟨ret_bool (by simp [besideB, bmaxI, gmaxI, fmaxI, *]), by repeat (first | exact Below.refl _ _ | apply Below.drew | (refine below_drewN ?_ _) | (refine Below.alloc ?_ (by simp; try omega) _))⟩
   ·go_enter Tryz.func190, Tryz.ntmps190
    go_wp2_with (first | (go_at_call 238; refine (words_2 _ _).mono ?_; rintro e w' ⟨rfl, rfl⟩))
    go_quiet ((first | (go_at_call 99; exact Calls.quiet_of_same (within_no _ _ _ _ (by assumption))) | (go_at_call 99; exact Calls.quiet_of_same (within_yes _ _ _ _ (by assumption))) | (go_at_call 99; exact Calls.quiet_of_same (within_any _ _ _ _)) | (go_at_call 105; exact Calls.quiet_of_same (sizeImpl_any _ _))))
    go_wp2
    go_ret
    exact ⟨ret_bool (by simp [besideB, bmaxI, gmaxI, fmaxI, *]), by repeat (first | exact Below.refl _ _ | apply Below.drew | (refine below_drewN ?_ _) | (refine Below.alloc ?_ (by simp; try omega) _))⟩

set_option maxHeartbeats 4000000 in
theorem beside_3 (k a b r d g q f : Int) (o : Bool) (w : World) :
  Calls Tryz.prog 190 #[kindV 3, .agg #[.int .i64 k, .int .i64 a, .int .i64 b, .int .i64 r, .int .i64 d, .int .i64 g, .int .i64 q, .int .i64 f, .bool o]] w fun e w' => e = .returned (.bool (besideB 3 b d g q f)) ∧ Below w.heap.size w w' := by
 have hs := wrap_size q
 have mM := wordsM_3
 have t1 := ta_3_1
 have t2 := ta_3_2
 have t3 := ta_3_4
 have t4 := ta_3_5
 rw [kindV_3]
 cases h1 : withinB d 0 0
 ·go_enter Tryz.func190, Tryz.ntmps190
  go_wp2_with (first | (go_at_call 177; refine (words_3 _ _).mono ?_; rintro e w' ⟨rfl, rfl⟩))
  go_quiet ((first | (go_at_call 99; exact Calls.quiet_of_same (within_no _ _ _ _ (by assumption))) | (go_at_call 99; exact Calls.quiet_of_same (within_yes _ _ _ _ (by assumption))) | (go_at_call 99; exact Calls.quiet_of_same (within_any _ _ _ _)) | (go_at_call 105; exact Calls.quiet_of_same (sizeImpl_any _ _))))
  go_wp2
  go_ret
  exact ⟨ret_bool (by simp [besideB, bmaxI, gmaxI, fmaxI, *]), by repeat (first | exact Below.refl _ _ | apply Below.drew | (refine below_drewN ?_ _) | (refine Below.alloc ?_ (by simp; try omega) _))⟩
 ·cases h2 : withinB q 0 0
  ·go_enter Tryz.func190, Tryz.ntmps190
   go_wp2_with (first | (go_at_call 177; refine (words_3 _ _).mono ?_; rintro e w' ⟨rfl, rfl⟩))
   go_quiet ((first | (go_at_call 99; exact Calls.quiet_of_same (within_no _ _ _ _ (by assumption))) | (go_at_call 99; exact Calls.quiet_of_same (within_yes _ _ _ _ (by assumption))) | (go_at_call 99; exact Calls.quiet_of_same (within_any _ _ _ _)) | (go_at_call 105; exact Calls.quiet_of_same (sizeImpl_any _ _))))
   go_wp2
   go_ret
   exact ⟨ret_bool (by simp [besideB, bmaxI, gmaxI, fmaxI, *]), by repeat (first | exact Below.refl _ _ | apply Below.drew | (refine below_drewN ?_ _) | (refine Below.alloc ?_ (by simp; try omega) _))⟩
  ·cases h3 : withinB g 0 (sizeI q - 1)
   ·go_enter Tryz.func190, Tryz.ntmps190
    go_wp2_with (first | (go_at_call 177; refine (words_3 _ _).mono ?_; rintro e w' ⟨rfl, rfl⟩))
    go_quiet ((first | (go_at_call 99; exact Calls.quiet_of_same (within_no _ _ _ _ (by assumption))) | (go_at_call 99; exact Calls.quiet_of_same (within_yes _ _ _ _ (by assumption))) | (go_at_call 99; exact Calls.quiet_of_same (within_any _ _ _ _)) | (go_at_call 105; exact Calls.quiet_of_same (sizeImpl_any _ _))))
    go_wp2
    go_ret
    exact ⟨ret_bool (by simp [besideB, bmaxI, gmaxI, fmaxI, *]), by repeat (first | exact Below.refl _ _ | apply Below.drew | (refine below_drewN ?_ _) | (refine Below.alloc ?_ (by simp; try omega) _))⟩
   ·go_enter Tryz.func190, Tryz.ntmps190
    go_wp2_with (first | (go_at_call 177; refine (words_3 _ _).mono ?_; rintro e w' ⟨rfl, rfl⟩))
    go_quiet ((first | (go_at_call 99; exact Calls.quiet_of_same (within_no _ _ _ _ (by assumption))) | (go_at_call 99; exact Calls.quiet_of_same (within_yes _ _ _ _ (by assumption))) | (go_at_call 99; exact Calls.quiet_of_same (within_any _ _ _ _)) | (go_at_call 105; exact Calls.quiet_of_same (sizeImpl_any _ _))))
    go_wp2
    go_ret
    exact ⟨ret_bool (by simp [besideB, bmaxI, gmaxI, fmaxI, *]), by repeat (first | exact Below.refl _ _ | apply Below.drew | (refine below_drewN ?_ _) | (refine Below.alloc ?_ (by simp; try omega) _))⟩

set_option maxHeartbeats 4000000 in
theorem beside_4 (k a b r d g q f : Int) (o : Bool) (w : World) :
  Calls Tryz.prog 190 #[kindV 4, .agg #[.int .i64 k, .int .i64 a, .int .i64 b, .int .i64 r, .int .i64 d, .int .i64 g, .int .i64 q, .int .i64 f, .bool o]] w fun e w' => e = .returned (.bool (besideB 4 b d g q f)) ∧ Below w.heap.size w w' := by
 have hs := wrap_size q
 have mM := wordsM_4
 have t1 := ta_4_1
 have t2 := ta_4_2
 have t3 := ta_4_4
 have t4 := ta_4_5
 rw [kindV_4]
 cases h1 : withinB d 0 65535
 ·go_enter Tryz.func190, Tryz.ntmps190
  go_wp2_with (first | (go_at_call 241; refine (words_4 _ _).mono ?_; rintro e w' ⟨rfl, rfl⟩))
  go_quiet ((first | (go_at_call 99; exact Calls.quiet_of_same (within_no _ _ _ _ (by assumption))) | (go_at_call 99; exact Calls.quiet_of_same (within_yes _ _ _ _ (by assumption))) | (go_at_call 99; exact Calls.quiet_of_same (within_any _ _ _ _)) | (go_at_call 105; exact Calls.quiet_of_same (sizeImpl_any _ _))))
  go_wp2
  go_ret
  exact ⟨ret_bool (by simp [besideB, bmaxI, gmaxI, fmaxI, *]), by repeat (first | exact Below.refl _ _ | apply Below.drew | (refine below_drewN ?_ _) | (refine Below.alloc ?_ (by simp; try omega) _))⟩
 ·cases h2 : withinB q 0 0
  ·go_enter Tryz.func190, Tryz.ntmps190
   go_wp2_with (first | (go_at_call 241; refine (words_4 _ _).mono ?_; rintro e w' ⟨rfl, rfl⟩))
   go_quiet ((first | (go_at_call 99; exact Calls.quiet_of_same (within_no _ _ _ _ (by assumption))) | (go_at_call 99; exact Calls.quiet_of_same (within_yes _ _ _ _ (by assumption))) | (go_at_call 99; exact Calls.quiet_of_same (within_any _ _ _ _)) | (go_at_call 105; exact Calls.quiet_of_same (sizeImpl_any _ _))))
   go_wp2
   go_ret
   exact ⟨ret_bool (by simp [besideB, bmaxI, gmaxI, fmaxI, *]), by repeat (first | exact Below.refl _ _ | apply Below.drew | (refine below_drewN ?_ _) | (refine Below.alloc ?_ (by simp; try omega) _))⟩
  ·cases h3 : withinB g 0 (sizeI q - 1)
   ·go_enter Tryz.func190, Tryz.ntmps190
    go_wp2_with (first | (go_at_call 241; refine (words_4 _ _).mono ?_; rintro e w' ⟨rfl, rfl⟩))
    go_quiet ((first | (go_at_call 99; exact Calls.quiet_of_same (within_no _ _ _ _ (by assumption))) | (go_at_call 99; exact Calls.quiet_of_same (within_yes _ _ _ _ (by assumption))) | (go_at_call 99; exact Calls.quiet_of_same (within_any _ _ _ _)) | (go_at_call 105; exact Calls.quiet_of_same (sizeImpl_any _ _))))
    go_wp2
    go_ret
    exact ⟨ret_bool (by simp [besideB, bmaxI, gmaxI, fmaxI, *]), by repeat (first | exact Below.refl _ _ | apply Below.drew | (refine below_drewN ?_ _) | (refine Below.alloc ?_ (by simp; try omega) _))⟩
   ·go_enter Tryz.func190, Tryz.ntmps190
    go_wp2_with (first | (go_at_call 241; refine (words_4 _ _).mono ?_; rintro e w' ⟨rfl, rfl⟩))
    go_quiet ((first | (go_at_call 99; exact Calls.quiet_of_same (within_no _ _ _ _ (by assumption))) | (go_at_call 99; exact Calls.quiet_of_same (within_yes _ _ _ _ (by assumption))) | (go_at_call 99; exact Calls.quiet_of_same (within_any _ _ _ _)) | (go_at_call 105; exact Calls.quiet_of_same (sizeImpl_any _ _))))
    go_wp2
    go_ret
    exact ⟨ret_bool (by simp [besideB, bmaxI, gmaxI, fmaxI, *]), by repeat (first | exact Below.refl _ _ | apply Below.drew | (refine below_drewN ?_ _) | (refine Below.alloc ?_ (by simp; try omega) _))⟩

end Go.Proofs.YtigpbjcmmgdiaaaGreat
/-
 What capBesideOk of the program answers, at every kind.
-/
namespace Go.Proofs.YtigpbjcmmgdiaaaGreat
open Go.ChangeShapes Go.WideShapes Go.ChangeAt Go.RowKit
set_option linter.unusedVariables false

theorem wrap_sizeB (q : Int) : IntKind.i64.wrap (sizeI q - 1) = sizeI q - 1 := by
 have := sizeI_bd q
 simp [IntKind.wrap, IntKind.bits, IntKind.signed]; omega

set_option maxHeartbeats 4000000 in
theorem beside_5 (k a b r d g q f : Int) (o : Bool) (w : World) :
  Calls Tryz.prog 190 #[kindV 5, .agg #[.int .i64 k, .int .i64 a, .int .i64 b, .int .i64 r, .int .i64 d, .int .i64 g, .int .i64 q, .int .i64 f, .bool o]] w fun e w' => e = .returned (.bool (besideB 5 b d g q f)) ∧ Below w.heap.size w w' := by
 have hs := wrap_sizeB q
 have mM := wordsM_5
 have t1 := ta_5_1
 have t2 := ta_5_2
 have t3 := ta_5_4
 have t4 := ta_5_5
 rw [kindV_5]
 cases h1 : withinB d 0 65535
 ·go_enter Tryz.func190, Tryz.ntmps190
  go_wp2_with (first | (go_at_call 244; refine (words_5 _ _).mono ?_; rintro e w' ⟨rfl, rfl⟩))
  go_quiet ((first | (go_at_call 99; exact Calls.quiet_of_same (within_no _ _ _ _ (by assumption))) | (go_at_call 99; exact Calls.quiet_of_same (within_yes _ _ _ _ (by assumption))) | (go_at_call 99; exact Calls.quiet_of_same (within_any _ _ _ _)) | (go_at_call 105; exact Calls.quiet_of_same (sizeImpl_any _ _))))
  go_wp2
  go_ret
  exact ⟨ret_bool (by simp [besideB, bmaxI, gmaxI, fmaxI, *]), by repeat (first | exact Below.refl _ _ | apply Below.drew | (refine below_drewN ?_ _) | (refine Below.alloc ?_ (by simp; try omega) _))⟩
 ·cases h2 : withinB q 0 0
  ·go_enter Tryz.func190, Tryz.ntmps190
   go_wp2_with (first | (go_at_call 244; refine (words_5 _ _).mono ?_; rintro e w' ⟨rfl, rfl⟩))
   go_quiet ((first | (go_at_call 99; exact Calls.quiet_of_same (within_no _ _ _ _ (by assumption))) | (go_at_call 99; exact Calls.quiet_of_same (within_yes _ _ _ _ (by assumption))) | (go_at_call 99; exact Calls.quiet_of_same (within_any _ _ _ _)) | (go_at_call 105; exact Calls.quiet_of_same (sizeImpl_any _ _))))
   go_wp2
   go_ret
   exact ⟨ret_bool (by simp [besideB, bmaxI, gmaxI, fmaxI, *]), by repeat (first | exact Below.refl _ _ | apply Below.drew | (refine below_drewN ?_ _) | (refine Below.alloc ?_ (by simp; try omega) _))⟩
  ·cases h3 : withinB g 0 (sizeI q - 1)
   ·go_enter Tryz.func190, Tryz.ntmps190
    go_wp2_with (first | (go_at_call 244; refine (words_5 _ _).mono ?_; rintro e w' ⟨rfl, rfl⟩))
    go_quiet ((first | (go_at_call 99; exact Calls.quiet_of_same (within_no _ _ _ _ (by assumption))) | (go_at_call 99; exact Calls.quiet_of_same (within_yes _ _ _ _ (by assumption))) | (go_at_call 99; exact Calls.quiet_of_same (within_any _ _ _ _)) | (go_at_call 105; exact Calls.quiet_of_same (sizeImpl_any _ _))))
    go_wp2
    go_ret
    exact ⟨ret_bool (by simp [besideB, bmaxI, gmaxI, fmaxI, *]), by repeat (first | exact Below.refl _ _ | apply Below.drew | (refine below_drewN ?_ _) | (refine Below.alloc ?_ (by simp; try omega) _))⟩
   ·go_enter Tryz.func190, Tryz.ntmps190
    go_wp2_with (first | (go_at_call 244; refine (words_5 _ _).mono ?_; rintro e w' ⟨rfl, rfl⟩))
    go_quiet ((first | (go_at_call 99; exact Calls.quiet_of_same (within_no _ _ _ _ (by assumption))) | (go_at_call 99; exact Calls.quiet_of_same (within_yes _ _ _ _ (by assumption))) | (go_at_call 99; exact Calls.quiet_of_same (within_any _ _ _ _)) | (go_at_call 105; exact Calls.quiet_of_same (sizeImpl_any _ _))))
    go_wp2
    go_ret
    exact ⟨ret_bool (by simp [besideB, bmaxI, gmaxI, fmaxI, *]), by repeat (first | exact Below.refl _ _ | apply Below.drew | (refine below_drewN ?_ _) | (refine Below.alloc ?_ (by simp; try omega) _))⟩

set_option maxHeartbeats 4000000 in
theorem beside_6 (k a b r d g q f : Int) (o : Bool) (w : World) :
  Calls Tryz.prog 190 #[kindV 6, .agg #[.int .i64 k, .int .i64 a, .int .i64 b, .int .i64 r, .int .i64 d, .int .i64 g, .int .i64 q, .int .i64 f, .bool o]] w fun e w' => e = .returned (.bool (besideB 6 b d g q f)) ∧ Below w.heap.size w w' := by
 have hs := wrap_sizeB q
 have mM := wordsM_6
 have t1 := ta_6_1
 have t2 := ta_6_2
 have t3 := ta_6_4
 have t4 := ta_6_5
 rw [kindV_6]
 cases h1 : withinB d 0 0
 ·go_enter Tryz.func190, Tryz.ntmps190
  go_wp2_with (first | (go_at_call 247; refine (words_6 _ _).mono ?_; rintro e w' ⟨rfl, rfl⟩))
  go_quiet ((first | (go_at_call 99; exact Calls.quiet_of_same (within_no _ _ _ _ (by assumption))) | (go_at_call 99; exact Calls.quiet_of_same (within_yes _ _ _ _ (by assumption))) | (go_at_call 99; exact Calls.quiet_of_same (within_any _ _ _ _)) | (go_at_call 105; exact Calls.quiet_of_same (sizeImpl_any _ _))))
  go_wp2
  go_ret
  exact ⟨ret_bool (by simp [besideB, bmaxI, gmaxI, fmaxI, *]), by repeat (first | exact Below.refl _ _ | apply Below.drew | (refine below_drewN ?_ _) | (refine Below.alloc ?_ (by simp; try omega) _))⟩
 ·cases h2 : withinB q 0 0
  ·go_enter Tryz.func190, Tryz.ntmps190
   go_wp2_with (first | (go_at_call 247; refine (words_6 _ _).mono ?_; rintro e w' ⟨rfl, rfl⟩))
   go_quiet ((first | (go_at_call 99; exact Calls.quiet_of_same (within_no _ _ _ _ (by assumption))) | (go_at_call 99; exact Calls.quiet_of_same (within_yes _ _ _ _ (by assumption))) | (go_at_call 99; exact Calls.quiet_of_same (within_any _ _ _ _)) | (go_at_call 105; exact Calls.quiet_of_same (sizeImpl_any _ _))))
   go_wp2
   go_ret
   exact ⟨ret_bool (by simp [besideB, bmaxI, gmaxI, fmaxI, *]), by repeat (first | exact Below.refl _ _ | apply Below.drew | (refine below_drewN ?_ _) | (refine Below.alloc ?_ (by simp; try omega) _))⟩
  ·cases h3 : withinB g 0 (sizeI q - 1)
   ·go_enter Tryz.func190, Tryz.ntmps190
    go_wp2_with (first | (go_at_call 247; refine (words_6 _ _).mono ?_; rintro e w' ⟨rfl, rfl⟩))
    go_quiet ((first | (go_at_call 99; exact Calls.quiet_of_same (within_no _ _ _ _ (by assumption))) | (go_at_call 99; exact Calls.quiet_of_same (within_yes _ _ _ _ (by assumption))) | (go_at_call 99; exact Calls.quiet_of_same (within_any _ _ _ _)) | (go_at_call 105; exact Calls.quiet_of_same (sizeImpl_any _ _))))
    go_wp2
    go_ret
    exact ⟨ret_bool (by simp [besideB, bmaxI, gmaxI, fmaxI, *]), by repeat (first | exact Below.refl _ _ | apply Below.drew | (refine below_drewN ?_ _) | (refine Below.alloc ?_ (by simp; try omega) _))⟩
   ·go_enter Tryz.func190, Tryz.ntmps190
    go_wp2_with (first | (go_at_call 247; refine (words_6 _ _).mono ?_; rintro e w' ⟨rfl, rfl⟩))
    go_quiet ((first | (go_at_call 99; exact Calls.quiet_of_same (within_no _ _ _ _ (by assumption))) | (go_at_call 99; exact Calls.quiet_of_same (within_yes _ _ _ _ (by assumption))) | (go_at_call 99; exact Calls.quiet_of_same (within_any _ _ _ _)) | (go_at_call 105; exact Calls.quiet_of_same (sizeImpl_any _ _))))
    go_wp2
    go_ret
    exact ⟨ret_bool (by simp [besideB, bmaxI, gmaxI, fmaxI, *]), by repeat (first | exact Below.refl _ _ | apply Below.drew | (refine below_drewN ?_ _) | (refine Below.alloc ?_ (by simp; try omega) _))⟩

set_option maxHeartbeats 4000000 in
theorem beside_7 (k a b r d g q f : Int) (o : Bool) (w : World) :
  Calls Tryz.prog 190 #[kindV 7, .agg #[.int .i64 k, .int .i64 a, .int .i64 b, .int .i64 r, .int .i64 d, .int .i64 g, .int .i64 q, .int .i64 f, .bool o]] w fun e w' => e = .returned (.bool (besideB 7 b d g q f)) ∧ Below w.heap.size w w' := by
 have hs := wrap_sizeB q
 have mM := wordsM_7
 have t1 := ta_7_1
 have t2 := ta_7_2
 have t3 := ta_7_4
 have t4 := ta_7_5
 rw [kindV_7]
 cases h1 : withinB d 0 0
 ·go_enter Tryz.func190, Tryz.ntmps190
  go_wp2_with (first | (go_at_call 230; refine (words_7 _ _).mono ?_; rintro e w' ⟨rfl, rfl⟩))
  go_quiet ((first | (go_at_call 99; exact Calls.quiet_of_same (within_no _ _ _ _ (by assumption))) | (go_at_call 99; exact Calls.quiet_of_same (within_yes _ _ _ _ (by assumption))) | (go_at_call 99; exact Calls.quiet_of_same (within_any _ _ _ _)) | (go_at_call 105; exact Calls.quiet_of_same (sizeImpl_any _ _))))
  go_wp2
  go_ret
  exact ⟨ret_bool (by simp [besideB, bmaxI, gmaxI, fmaxI, *]), by repeat (first | exact Below.refl _ _ | apply Below.drew | (refine below_drewN ?_ _) | (refine Below.alloc ?_ (by simp; try omega) _))⟩
 ·cases h2 : withinB q 0 0
  ·go_enter Tryz.func190, Tryz.ntmps190
   go_wp2_with (first | (go_at_call 230; refine (words_7 _ _).mono ?_; rintro e w' ⟨rfl, rfl⟩))
   go_quiet ((first | (go_at_call 99; exact Calls.quiet_of_same (within_no _ _ _ _ (by assumption))) | (go_at_call 99; exact Calls.quiet_of_same (within_yes _ _ _ _ (by assumption))) | (go_at_call 99; exact Calls.quiet_of_same (within_any _ _ _ _)) | (go_at_call 105; exact Calls.quiet_of_same (sizeImpl_any _ _))))
   go_wp2
   go_ret
   exact ⟨ret_bool (by simp [besideB, bmaxI, gmaxI, fmaxI, *]), by repeat (first | exact Below.refl _ _ | apply Below.drew | (refine below_drewN ?_ _) | (refine Below.alloc ?_ (by simp; try omega) _))⟩
  ·cases h3 : withinB g 0 (sizeI q - 1)
   ·go_enter Tryz.func190, Tryz.ntmps190
    go_wp2_with (first | (go_at_call 230; refine (words_7 _ _).mono ?_; rintro e w' ⟨rfl, rfl⟩))
    go_quiet ((first | (go_at_call 99; exact Calls.quiet_of_same (within_no _ _ _ _ (by assumption))) | (go_at_call 99; exact Calls.quiet_of_same (within_yes _ _ _ _ (by assumption))) | (go_at_call 99; exact Calls.quiet_of_same (within_any _ _ _ _)) | (go_at_call 105; exact Calls.quiet_of_same (sizeImpl_any _ _))))
    go_wp2
    go_ret
    exact ⟨ret_bool (by simp [besideB, bmaxI, gmaxI, fmaxI, *]), by repeat (first | exact Below.refl _ _ | apply Below.drew | (refine below_drewN ?_ _) | (refine Below.alloc ?_ (by simp; try omega) _))⟩
   ·go_enter Tryz.func190, Tryz.ntmps190
    go_wp2_with (first | (go_at_call 230; refine (words_7 _ _).mono ?_; rintro e w' ⟨rfl, rfl⟩))
    go_quiet ((first | (go_at_call 99; exact Calls.quiet_of_same (within_no _ _ _ _ (by assumption))) | (go_at_call 99; exact Calls.quiet_of_same (within_yes _ _ _ _ (by assumption))) | (go_at_call 99; exact Calls.quiet_of_same (within_any _ _ _ _)) | (go_at_call 105; exact Calls.quiet_of_same (sizeImpl_any _ _))))
    go_wp2
    go_ret
    exact ⟨ret_bool (by simp [besideB, bmaxI, gmaxI, fmaxI, *]), by repeat (first | exact Below.refl _ _ | apply Below.drew | (refine below_drewN ?_ _) | (refine Below.alloc ?_ (by simp; try omega) _))⟩

end Go.Proofs.YtigpbjcmmgdiaaaGreat
/-
 What capBesideOk of the program answers, at every kind.
-/
namespace Go.Proofs.YtigpbjcmmgdiaaaGreat
open Go.ChangeShapes Go.WideShapes Go.ChangeAt Go.RowKit
set_option linter.unusedVariables false

theorem beside_any (n k a b r d g q f : Int) (o : Bool) (w : World) (hk1 : 1 ≤ n) (hk7 : n ≤ 7) :
  Calls Tryz.prog 190 #[kindV n, .agg #[.int .i64 k, .int .i64 a, .int .i64 b, .int .i64 r, .int .i64 d, .int .i64 g, .int .i64 q, .int .i64 f, .bool o]] w fun e w' => e = .returned (.bool (besideB n b d g q f)) ∧ Below w.heap.size w w' := by
 rcases seven hk1 hk7 with h | h | h | h | h | h | h <;> subst h
 ·exact beside_1 k a b r d g q f o w
 ·exact beside_2 k a b r d g q f o w
 ·exact beside_3 k a b r d g q f o w
 ·exact beside_4 k a b r d g q f o w
 ·exact beside_5 k a b r d g q f o w
 ·exact beside_6 k a b r d g q f o w
 ·exact beside_7 k a b r d g q f o w

end Go.Proofs.YtigpbjcmmgdiaaaGreat
