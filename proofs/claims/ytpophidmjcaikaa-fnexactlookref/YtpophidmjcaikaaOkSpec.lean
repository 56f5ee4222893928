/-
  What CapOk of the specification answers, at every capability.
-/
import Derived.Test.YtpophidmjcaikaaExtra
import Derived.Deep.RegionHeld3
namespace Go.Proofs.Ytpophidmjcaikaa
open Go.ChangeShapes Go.WideShapes Go.ChangeAt Go.RowKit
set_option linter.unusedVariables false

def extB (k b d g q f : Int) : Bool := !(badB k d) && !(gadB k q g) && fadB k b f

theorem maxI_bd (k : Int) : 0 ≤ maxI k ∧ maxI k ≤ 7 := by
  unfold maxI
  repeat' split
  all_goals omega

/-- The first test of CapOk. -/
def failB (k b r d g q f : Int) : Bool := !(bitsB k b && withinB r 0 (maxI k) && extB k b d g q f)

theorem bits_kind {k b : Int} (h : bitsB k b = true) : withinB k 1 7 = true := by
  simp only [bitsB, decide_eq_true_eq] at h
  simp [withinB]; omega
theorem span_no {k b : Int} (h : bitsB k b = false) (h1 : withinB k 1 7 = true) : spanI k b = 0 := by
  have hs := szI_no h
  simp only [bitsB, decide_eq_false_iff_not] at h
  simp only [withinB, decide_eq_true_eq] at h1
  unfold spanI
  by_cases e : k = 7
  · rw [if_pos e, if_neg (by omega)]
  · rw [if_neg e]; exact hs
theorem align_zero (a : Int) : alignB a 0 = false := by simp [alignB, fineB]
theorem beside_ext {k b d g q f : Int} (h : bitsB k b = true) : besideB k b d g q f = extB k b d g q f := by
  have hf : withinB f 0 (fmaxI k b) = fadB k b f := by
    simp only [bitsB, decide_eq_true_eq] at h
    unfold withinB fadB fmaxI
    by_cases e : k = 1
    · subst e
      have hs : szI 1 b = sizeI b := by unfold szI; rw [if_pos rfl, if_pos (by omega)]
      have hb := sizeI_bd b
      rw [if_pos rfl, hs, Bool.eq_iff_iff]; simp; omega
    · rw [if_neg e, Bool.eq_iff_iff]; simp [e]; omega
  unfold besideB extB badB gadB
  rw [hf]; simp [Bool.and_assoc]
theorem okB_fail {k b r d g q f : Int} (a : Int) (o : Bool) (h : failB k b r d g q f = true) : okB k a b r d g q f o = false := by
  cases h1 : withinB k 1 7
  · simp [okB, h1]
  · cases h2 : withinB r 0 (maxI k)
    · simp [okB, h2]
    · cases h3 : bitsB k b
      · simp [okB, span_no h3 h1, align_zero]
      · have : extB k b d g q f = false := by simpa [failB, h2, h3] using h
        simp [okB, beside_ext h3, this]
theorem okB_go {k b r d g q f : Int} (a : Int) (o : Bool) (h : failB k b r d g q f = false) : okB k a b r d g q f o = ((alignB a (spanI k b) && inB a (spanI k b) 0 4096) && origB k o) := by
  have h' : (bitsB k b = true ∧ withinB r 0 (maxI k) = true) ∧ extB k b d g q f = true := by simpa [failB] using h
  obtain ⟨⟨h1, h2⟩, h3⟩ := h'
  simp [okB, bits_kind h1, h2, beside_ext h1, h3]
theorem span_reply {k b r d g q f : Int} (h : failB k b r d g q f = false) (e : (k == 7) = true) : spanI k b = 32 := by
  have h' : (bitsB k b = true ∧ withinB r 0 (maxI k) = true) ∧ extB k b d g q f = true := by simpa [failB] using h
  have hb := h'.1.1
  have e' : k = 7 := by simpa using e
  simp only [bitsB, decide_eq_true_eq] at hb
  unfold spanI; rw [if_pos e', if_pos (by omega)]
theorem align_fine {a s : Int} (h : alignB a s = true) : 0 ≤ a ∧ 0 < s ∧ a ≤ 4096 ∧ s ≤ 4096 := by
  have : fineB a s = true := by
    unfold alignB at h; revert h; cases fineB a s <;> simp
  exact fineB_true this
theorem in_no {a s : Int} (h : 4096 < a + s) : inB a s 0 4096 = false := by
  unfold inB
  have : decide (a + s ≤ 0 + 4096) = false := by simp; omega
  rw [this, Bool.and_false]
theorem in_yes {a s : Int} (h : 0 ≤ a ∧ 0 < s ∧ a ≤ 4096 ∧ s ≤ 4096) (h1 : a + s ≤ 4096) : inB a s 0 4096 = true := by
  unfold inB
  rw [fineB_mk h, fineB_mk (by omega)]
  simp; omega
theorem bne_of {k c : Int} {x : Bool} (h : (k == c) = x) : (k != c) = !x := by simp [bne, h]
theorem orig_of {k : Int} {x y : Bool} (h1 : (k == 1) = x) (h7 : (k == 7) = y) (o : Bool) : origB k o = (if x then o else if y then !o else true) := by
  unfold origB
  subst h1 h7
  simp

end Go.Proofs.Ytpophidmjcaikaa
