/-
  What is ok lies within bounds: plain facts.
-/
import Derived.Test.YthmambhagheocaaGreatDoorOkSpec
namespace Go.Proofs.YthmambhagheocaaGreatDoor
open Go.ChangeShapes Go.WideShapes Go.ChangeAt Go.RowKit
set_option linter.unusedVariables false

theorem sizeI_8 {q : Int} (h0 : 0 ≤ q) (h8 : q ≤ 8) : sizeI q ≤ 256 := by
  have : q = 0 ∨ q = 1 ∨ q = 2 ∨ q = 3 ∨ q = 4 ∨ q = 5 ∨ q = 6 ∨ q = 7 ∨ q = 8 := by omega
  rcases this with e | e | e | e | e | e | e | e | e <;> subst e <;> decide
theorem szI_1 (b : Int) : szI 1 b ≤ 2048 := by
  unfold szI
  rw [if_pos rfl]
  by_cases h : 2 ≤ b ∧ b ≤ 11
  · rw [if_pos h]
    have : b = 2 ∨ b = 3 ∨ b = 4 ∨ b = 5 ∨ b = 6 ∨ b = 7 ∨ b = 8 ∨ b = 9 ∨ b = 10 ∨ b = 11 := by omega
    rcases this with e | e | e | e | e | e | e | e | e | e <;> subst e <;> decide
  · rw [if_neg h]; omega
theorem span_bits {k b : Int} (h1 : 1 ≤ k) (h7 : k ≤ 7) (h : 0 < spanI k b) : 0 ≤ b ∧ b ≤ 11 := by
  rcases seven h1 h7 with e | e | e | e | e | e | e <;> subst e <;> simp only [spanI, szI] at h
  all_goals (simp at h; try omega)
  all_goals (revert h; repeat' split)
  all_goals (intro h; omega)

/-- What is ok lies within bounds. -/
theorem ok_bounds {k a b r d g q f : Int} {o : Bool} (h : okB k a b r d g q f o = true) :
    (1 ≤ k ∧ k ≤ 7) ∧ (0 ≤ a ∧ a ≤ 4096) ∧ (0 ≤ b ∧ b ≤ 11) ∧ (0 ≤ r ∧ r ≤ 7) ∧ (0 ≤ d ∧ d ≤ 65535) ∧ (0 ≤ g ∧ g ≤ 255) ∧ (0 ≤ q ∧ q ≤ 8) ∧ (0 ≤ f ∧ f ≤ 2048) ∧ (d = 0 ∨ g = 0) := by
  simp only [okB, besideB, withinB, Bool.and_eq_true, decide_eq_true_eq] at h
  obtain ⟨⟨⟨⟨⟨⟨h1, h7⟩, ⟨hr0, hr1⟩⟩, hA⟩, hI⟩, ⟨⟨⟨hd0, hd1⟩, ⟨hq0, hq1⟩⟩, ⟨hg0, hg1⟩⟩, ⟨hf0, hf1⟩⟩, ho⟩ := h
  have hm := maxI_bd k
  have hfa := align_fine hA
  have hb := span_bits h1 h7 hfa.2.1
  have hgm : gmaxI k ≤ 8 := by unfold gmaxI; split <;> omega
  have hbm : bmaxI k ≤ 65535 := by unfold bmaxI; split <;> omega
  have hfm : fmaxI k b ≤ 2048 := by
    unfold fmaxI; split
    · exact szI_1 b
    · omega
  have hs := sizeI_8 (q := q) (by omega) (by omega)
  refine ⟨⟨h1, h7⟩, ⟨hfa.1, hfa.2.2.1⟩, hb, ⟨hr0, by omega⟩, ⟨hd0, by omega⟩, ⟨hg0, by omega⟩, ⟨hq0, by omega⟩, ⟨hf0, by omega⟩, ?_⟩
  by_cases e : k = 4 ∨ k = 5
  · right
    have : gmaxI k = 0 := by unfold gmaxI; rw [if_neg (by omega)]
    have hq : q = 0 := by omega
    subst hq
    have : sizeI 0 = 1 := by decide
    omega
  · left
    have : bmaxI k = 0 := by unfold bmaxI; rw [if_neg e]
    omega

end Go.Proofs.YthmambhagheocaaGreatDoor
