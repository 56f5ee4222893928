/-
  What WordUp, WordMeet and WordIn of the program answer, each at every argument.
-/
import Derived.Test.YtjiignkappabpaaDoorWords
namespace Go.Proofs.YtjiignkappabpaaDoor
open Go.ChangeShapes Go.WideShapes Go.ChangeAt Go.RowKit
set_option linter.unusedVariables false

theorem wrap_both (n : Int) (h0 : 0 ≤ n) (h1 : n ≤ 10000) : IntKind.i64.wrap (IntKind.u32.wrap n) = n := by
  have e : IntKind.u32.wrap n = n := by simp [IntKind.wrap, IntKind.bits, IntKind.signed]; omega
  rw [e]; simp [IntKind.wrap, IntKind.bits, IntKind.signed]; omega

set_option maxHeartbeats 1000000 in
theorem upImpl_fine (a s : Int) (w : World) (h : fineB a s = true) (h1 : 0 ≤ a) (h2 : 0 < s) (h3 : a ≤ 4096) (h4 : s ≤ 4096) (hr0 : 0 ≤ a % s) (hr1 : a % s < s) :
    Calls Tryd.prog 55 #[.int .i64 a, .int .i64 s] w fun e w' => e = .returned (.int .i64 (upTo a s)) ∧ Below w.heap.size w w' := by
  by_cases e : a % s = 0
  · have HE : Hid (a % s = 0) := e
    have e' : (a % s == 0) = true := by simp [e]
    clear e
    go_enter Tryd.func55, Tryd.ntmps55
    go_wp2_with (first | (go_at_call 57; refine (rangeOf_fine _ _ _ h).mono ?_; rintro e w' ⟨rfl, rfl⟩) | (go_at_call 58; refine (none_no _ _ _ (by omega)).mono ?_; rintro e w' ⟨rfl, rfl⟩) | (go_at_call 59; refine (rest_any _ _ _ (by omega) (by omega) (by omega) (by omega)).mono ?_; rintro e w' ⟨rfl, rfl⟩))
    go_ret
    exact ⟨ret_int (by unfold upTo; rw [if_pos HE.out]), by repeat (first | exact Below.refl _ _ | apply Below.drew | (refine Below.alloc ?_ (by simp; try omega) _))⟩
  · have HE : Hid (¬ a % s = 0) := e
    have e' : (a % s == 0) = false := by simp [e]
    clear e
    go_enter Tryd.func55, Tryd.ntmps55
    go_wp2_with (first | (go_at_call 57; refine (rangeOf_fine _ _ _ h).mono ?_; rintro e w' ⟨rfl, rfl⟩) | (go_at_call 58; refine (none_no _ _ _ (by omega)).mono ?_; rintro e w' ⟨rfl, rfl⟩) | (go_at_call 59; refine (rest_any _ _ _ (by omega) (by omega) (by omega) (by omega)).mono ?_; rintro e w' ⟨rfl, rfl⟩))
    go_region_held3 (fun w' => w'.cell? ⟨w.heap.size + 1, 0, none⟩ = some (.int .u32 a) ∧ w'.cell? ⟨w.heap.size + 1, 1, none⟩ = some (.int .u32 s)) (go_simp) (first | (go_at_call 60; refine (end_any _ _ _ (by omega) (by omega) (by omega) (by omega)).mono ?_; rintro e w1 ⟨rfl, rfl⟩) | (go_at_call 59; refine (rest_any _ _ _ (by omega) (by omega) (by omega) (by omega)).mono ?_; rintro e w1 ⟨rfl, rfl⟩))
    all_goals go_wp2
    all_goals go_ret
    all_goals exact ⟨ret_int (by unfold upTo; rw [if_neg HE.out]; exact wrap_both _ (by omega) (by omega)), by repeat (first | exact Below.refl _ _ | apply Below.drew | (refine Below.alloc ?_ (by simp; try omega) _))⟩

theorem upImpl_any (a s : Int) (w : World) :
    Calls Tryd.prog 55 #[.int .i64 a, .int .i64 s] w fun e w' => e = .returned (.int .i64 (upI a s)) ∧ Below w.heap.size w w' := by
  by_cases h : fineB a s = true
  · obtain ⟨h1, h2, h3, h4⟩ := fineB_true h
    have e : upI a s = upTo a s := by unfold upI upTo; rw [if_pos h]
    rw [e]
    exact upImpl_fine a s w h h1 h2 h3 h4 (Int.emod_nonneg a (by omega)) (Int.emod_lt_of_pos a h2)
  · have h' : fineB a s = false := by simpa using h
    have e : upI a s = 0 := by unfold upI; rw [if_neg h]
    rw [e]
    clear h e
    go_enter Tryd.func55, Tryd.ntmps55
    go_wp2_with (first | (go_at_call 57; refine (rangeOf_no _ _ _ h').mono ?_; rintro e w' ⟨rfl, rfl⟩) | (go_at_call 58; refine (none_yes _).mono ?_; rintro e w' ⟨rfl, rfl⟩))
    go_ret
    exact ⟨rfl, by repeat (first | exact Below.refl _ _ | apply Below.drew | (refine Below.alloc ?_ (by simp; try omega) _))⟩

end Go.Proofs.YtjiignkappabpaaDoor
