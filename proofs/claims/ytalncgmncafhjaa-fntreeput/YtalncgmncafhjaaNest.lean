/-
  Plain facts on ranges: meeting goes both ways; a range within another one meets it; the next multiple; of two aligned ranges of powers of two that meet one lies within the other.
-/
import Derived.Test.YtalncgmncafhjaaWords
namespace Go.Proofs.Ytalncgmncafhjaa
set_option linter.unusedVariables false

theorem meet_sym (a s b t : Int) : meetB b t a s = meetB a s b t := by
  unfold meetB
  cases fineB a s <;> cases fineB b t <;> simp [Bool.and_comm]

theorem in_meet (a s b t : Int) (h : meetB a s b t = false) : inB a s b t = false := by
  by_cases h1 : fineB a s = true
  · by_cases h2 : fineB b t = true
    · have g1 := fineB_true h1
      have g2 := fineB_true h2
      unfold meetB at h
      unfold inB
      simp [h1, h2] at h ⊢
      omega
    · simp [inB, h2]
  · simp [inB, h1]

theorem up_facts (a s : Int) (h : alignB 0 s = true) (h0 : 0 ≤ a) (h1 : a ≤ 4096) : a ≤ upI a s ∧ upI a s - a < s ∧ upI a s % s = 0 ∧ 0 < s ∧ s ≤ 4096 := by
  have hf : fineB 0 s = true := by
    unfold alignB at h
    simp at h
    exact h
  obtain ⟨_, g1, _, g2⟩ := fineB_true hf
  have hfa : fineB a s = true := fineB_mk ⟨h0, g1, h1, g2⟩
  have l := Int.emod_nonneg a (b := s) (by omega)
  have u := Int.emod_lt_of_pos a g1
  unfold upI
  rw [if_pos hfa]
  by_cases e : a % s = 0
  · rw [if_pos e]; omega
  · rw [if_neg e]
    have d := Int.mul_ediv_add_emod a s
    have e2 : a + s - a % s = s * (a / s + 1) := by rw [Int.mul_add]; omega
    refine ⟨by omega, by omega, ?_, g1, g2⟩
    rw [e2]; exact Int.mul_emod_right s _

theorem nest (a s b t m : Int) (hs : 0 < s) (ht : t = s * m) (ha : a % s = 0) (hb : b % t = 0) (h1 : a < b + t) (h2 : b < a + s) : b ≤ a ∧ a + s ≤ b + t := by
  obtain ⟨x, hx⟩ := Int.dvd_of_emod_eq_zero ha
  obtain ⟨y, hy⟩ := Int.dvd_of_emod_eq_zero hb
  have hy' : b = s * (m * y) := by rw [hy, ht, Int.mul_assoc]
  generalize m * y = z at hy'
  have e1 : b + t = s * (z + m) := by rw [hy', ht, Int.mul_add]
  have e2 : a + s = s * (x + 1) := by rw [hx, Int.mul_add, Int.mul_one]
  rw [e1, hx] at h1
  rw [e2, hy'] at h2
  have k1 : x < z + m := Int.lt_of_mul_lt_mul_left h1 (by omega)
  have k2 : z < x + 1 := Int.lt_of_mul_lt_mul_left h2 (by omega)
  rw [e1, e2, hx, hy']
  exact ⟨Int.mul_le_mul_of_nonneg_left (by omega) (by omega), Int.mul_le_mul_of_nonneg_left (by omega) (by omega)⟩

theorem pow_split (i k : Nat) (h : i ≤ k) : ∃ m : Int, (2 : Int) ^ k = 2 ^ i * m := ⟨2 ^ (k - i), by rw [← Int.pow_add]; congr 1; omega⟩

/-- Two sizes that are powers of two. -/
def Twos (s t : Int) : Prop := ∃ i k : Nat, i ≤ 12 ∧ k ≤ 12 ∧ sizeI i = s ∧ sizeI k = t

theorem nested (a s b t : Int) (h : Twos s t) (ha : alignB a s = true) (hb : alignB b t = true) (hm : meetB a s b t = true) (hi : inB a s b t = false) : inB b t a s = true := by
  obtain ⟨i, k, hi1, hk1, e1, e2⟩ := h
  unfold alignB at ha hb
  simp at ha hb
  obtain ⟨f1, a1⟩ := ha
  obtain ⟨f2, b1⟩ := hb
  have g1 := fineB_true f1
  have g2 := fineB_true f2
  unfold meetB at hm
  unfold inB at hi ⊢
  simp [f1, f2] at hm hi ⊢
  have p1 : s = 2 ^ i := by rw [← e1]; unfold sizeI; rw [if_pos (by omega)]; simp
  have p2 : t = 2 ^ k := by rw [← e2]; unfold sizeI; rw [if_pos (by omega)]; simp
  by_cases hik : i ≤ k
  · obtain ⟨m, hm2⟩ := pow_split i k hik
    have := nest a s b t m (by omega) (by rw [p1, p2]; exact hm2) a1 b1 hm.1 hm.2
    omega
  · obtain ⟨m, hm2⟩ := pow_split k i (by omega)
    have := nest b t a s m (by omega) (by rw [p1, p2]; exact hm2) b1 a1 hm.2 hm.1
    omega

end Go.Proofs.Ytalncgmncafhjaa
