/-
  What the parts of CapOk of the program answer: capSpan, capBesideOk, capOrigOk.
-/
import Derived.Test.YthmambhagheocaaGreatDoorKinds
namespace Go.Proofs.YthmambhagheocaaGreatDoor
open Go.ChangeShapes Go.WideShapes Go.ChangeAt Go.RowKit
set_option linter.unusedVariables false

/-- How many words a capability names. -/
def spanI (k b : Int) : Int := if k = 7 then (if b = 0 then 32 else 0) else szI k b

/-- What only some kinds have. -/
def bmaxI (k : Int) : Int := if k = 4 ∨ k = 5 then 65535 else 0
def gmaxI (k : Int) : Int := if k = 2 then 8 else 0
def fmaxI (k b : Int) : Int := if k = 1 then szI 1 b else 0
def besideB (k b d g q f : Int) : Bool := withinB d 0 (bmaxI k) && withinB q 0 (gmaxI k) && withinB g 0 (sizeI q - 1) && withinB f 0 (fmaxI k b)
def origB (k : Int) (o : Bool) : Bool := if k = 1 then o else if k = 7 then !o else true

theorem sizeI_bd (b : Int) : 0 ≤ sizeI b ∧ sizeI b ≤ 4096 := by
  unfold sizeI
  by_cases h : 0 ≤ b ∧ b ≤ 12
  · have := pow_le12 b.toNat (by omega)
    rw [if_pos h]; omega
  · rw [if_neg h]; omega

theorem seven {k : Int} (h1 : 1 ≤ k) (h7 : k ≤ 7) : k = 1 ∨ k = 2 ∨ k = 3 ∨ k = 4 ∨ k = 5 ∨ k = 6 ∨ k = 7 := by omega

set_option maxHeartbeats 2000000 in
theorem span_any (k b : Int) (w : World) (hk1 : 1 ≤ k) (hk7 : k ≤ 7) :
    Calls Tryz.prog 42 #[kindV k, .int .i64 b] w fun e w' => e = .returned (.int .i64 (spanI k b)) ∧ Below w.heap.size w w' := by
  rcases seven hk1 hk7 with h | h | h | h | h | h | h
  · subst h
    clear hk1 hk7
    rw [kindV_1]
    have mM := wordsM_1
    have t7 := ta_1_7
    go_enter Tryz.func42, Tryz.ntmps42
    go_wp2_with (first | (go_at_call 132; refine (words_1 _ _).mono ?_; rintro e w' ⟨rfl, rfl⟩))
    go_ret
    exact ⟨rfl, by repeat (first | exact Below.refl _ _ | apply Below.drew | (refine Below.alloc ?_ (by simp; try omega) _))⟩
  · subst h
    clear hk1 hk7
    rw [kindV_2]
    have mM := wordsM_2
    have t7 := ta_2_7
    go_enter Tryz.func42, Tryz.ntmps42
    go_wp2_with (first | (go_at_call 129; refine (words_2 _ _).mono ?_; rintro e w' ⟨rfl, rfl⟩))
    go_ret
    exact ⟨rfl, by repeat (first | exact Below.refl _ _ | apply Below.drew | (refine Below.alloc ?_ (by simp; try omega) _))⟩
  · subst h
    clear hk1 hk7
    rw [kindV_3]
    have mM := wordsM_3
    have t7 := ta_3_7
    go_enter Tryz.func42, Tryz.ntmps42
    go_wp2_with (first | (go_at_call 61; refine (words_3 _ _).mono ?_; rintro e w' ⟨rfl, rfl⟩))
    go_ret
    exact ⟨rfl, by repeat (first | exact Below.refl _ _ | apply Below.drew | (refine Below.alloc ?_ (by simp; try omega) _))⟩
  · subst h
    clear hk1 hk7
    rw [kindV_4]
    have mM := wordsM_4
    have t7 := ta_4_7
    go_enter Tryz.func42, Tryz.ntmps42
    go_wp2_with (first | (go_at_call 137; refine (words_4 _ _).mono ?_; rintro e w' ⟨rfl, rfl⟩))
    go_ret
    exact ⟨rfl, by repeat (first | exact Below.refl _ _ | apply Below.drew | (refine Below.alloc ?_ (by simp; try omega) _))⟩
  · subst h
    clear hk1 hk7
    rw [kindV_5]
    have mM := wordsM_5
    have t7 := ta_5_7
    go_enter Tryz.func42, Tryz.ntmps42
    go_wp2_with (first | (go_at_call 140; refine (words_5 _ _).mono ?_; rintro e w' ⟨rfl, rfl⟩))
    go_ret
    exact ⟨rfl, by repeat (first | exact Below.refl _ _ | apply Below.drew | (refine Below.alloc ?_ (by simp; try omega) _))⟩
  · subst h
    clear hk1 hk7
    rw [kindV_6]
    have mM := wordsM_6
    have t7 := ta_6_7
    go_enter Tryz.func42, Tryz.ntmps42
    go_wp2_with (first | (go_at_call 143; refine (words_6 _ _).mono ?_; rintro e w' ⟨rfl, rfl⟩))
    go_ret
    exact ⟨rfl, by repeat (first | exact Below.refl _ _ | apply Below.drew | (refine Below.alloc ?_ (by simp; try omega) _))⟩
  · subst h
    clear hk1 hk7
    rw [kindV_7]
    have mM := wordsM_7
    have t7 := ta_7_7
    go_enter Tryz.func42, Tryz.ntmps42
    go_wp2_with (first | (go_at_call 61; refine (words_3 _ _).mono ?_; rintro e w' ⟨rfl, rfl⟩))
    go_ret
    exact ⟨rfl, by repeat (first | exact Below.refl _ _ | apply Below.drew | (refine Below.alloc ?_ (by simp; try omega) _))⟩

set_option maxHeartbeats 2000000 in
theorem orig_any (k : Int) (o : Bool) (w : World) (hk1 : 1 ≤ k) (hk7 : k ≤ 7) :
    Calls Tryz.prog 46 #[kindV k, .bool o] w fun e w' => e = .returned (.bool (origB k o)) ∧ w' = w := by
  rcases seven hk1 hk7 with h | h | h | h | h | h | h
  · subst h
    clear hk1 hk7
    rw [kindV_1]
    have t1 := ta_1_1
    have t7 := ta_1_7
    go_enter Tryz.func46, Tryz.ntmps46
    go_wp2
    go_ret
    exact ⟨rfl, rfl⟩
  · subst h
    clear hk1 hk7
    rw [kindV_2]
    have t1 := ta_2_1
    have t7 := ta_2_7
    go_enter Tryz.func46, Tryz.ntmps46
    go_wp2
    go_ret
    exact ⟨rfl, rfl⟩
  · subst h
    clear hk1 hk7
    rw [kindV_3]
    have t1 := ta_3_1
    have t7 := ta_3_7
    go_enter Tryz.func46, Tryz.ntmps46
    go_wp2
    go_ret
    exact ⟨rfl, rfl⟩
  · subst h
    clear hk1 hk7
    rw [kindV_4]
    have t1 := ta_4_1
    have t7 := ta_4_7
    go_enter Tryz.func46, Tryz.ntmps46
    go_wp2
    go_ret
    exact ⟨rfl, rfl⟩
  · subst h
    clear hk1 hk7
    rw [kindV_5]
    have t1 := ta_5_1
    have t7 := ta_5_7
    go_enter Tryz.func46, Tryz.ntmps46
    go_wp2
    go_ret
    exact ⟨rfl, rfl⟩
  · subst h
    clear hk1 hk7
    rw [kindV_6]
    have t1 := ta_6_1
    have t7 := ta_6_7
    go_enter Tryz.func46, Tryz.ntmps46
    go_wp2
    go_ret
    exact ⟨rfl, rfl⟩
  · subst h
    clear hk1 hk7
    rw [kindV_7]
    have t1 := ta_7_1
    have t7 := ta_7_7
    go_enter Tryz.func46, Tryz.ntmps46
    go_wp2
    go_ret
    exact ⟨rfl, rfl⟩

end Go.Proofs.YthmambhagheocaaGreatDoor
