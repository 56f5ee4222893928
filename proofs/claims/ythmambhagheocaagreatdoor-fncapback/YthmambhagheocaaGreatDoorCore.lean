/-
  What the small functions of the ranges answer, each at every argument: l1Fine and WordSize of the specification, WordSize, none, end and rest of the program. Conditions: none, but that an argument fits its kind where that is named.
-/
import Derived.Test.YthmambhagheocaaGreatDoorChecked
import Derived.JoinedTies
import Derived.KernelRfl
import Derived.WalkKit
import Derived.ProofKit
import Derived.OpenShut
namespace Go.Proofs.YthmambhagheocaaGreatDoor
open Go.ChangeShapes Go.WideShapes Go.ChangeAt Go.RowKit

/-- A range is one. -/
def fineB (a s : Int) : Bool := decide (0 ≤ a ∧ 0 < s ∧ a ≤ 4096 ∧ s ≤ 4096)

theorem fineB_true {a s : Int} (h : fineB a s = true) : 0 ≤ a ∧ 0 < s ∧ a ≤ 4096 ∧ s ≤ 4096 := by simpa [fineB] using h
theorem fineB_mk {a s : Int} (h : 0 ≤ a ∧ 0 < s ∧ a ≤ 4096 ∧ s ≤ 4096) : fineB a s = true := by simpa [fineB] using h
theorem fineB_no {a s : Int} (h : ¬ (0 ≤ a ∧ 0 < s ∧ a ≤ 4096 ∧ s ≤ 4096)) : fineB a s = false := by simpa [fineB] using h

theorem fine_any (a s : Int) (w : World) :
    Calls Tryz.prog 55 #[.int .i64 a, .int .i64 s] w fun e w' => e = .returned (.bool (fineB a s)) ∧ w' = w := by
  by_cases h1 : 0 ≤ a <;> by_cases h2 : 0 < s <;> by_cases h3 : a ≤ 4096 <;> by_cases h4 : s ≤ 4096
  all_goals
    go_enter Tryz.func55, Tryz.ntmps55
    go_wp2
    go_ret
    exact ⟨by simp [fineB, *], rfl⟩

/-- 2 to the bits, for 0 to 12; else 0. -/
def sizeI (b : Int) : Int := if 0 ≤ b ∧ b ≤ 12 then 2 ^ b.toNat else 0

theorem pow_le12 (k : Nat) (h : k ≤ 12) : (1 : Int) ≤ 2 ^ k ∧ (2 : Int) ^ k ≤ 4096 := by
  have : k = 0 ∨ k = 1 ∨ k = 2 ∨ k = 3 ∨ k = 4 ∨ k = 5 ∨ k = 6 ∨ k = 7 ∨ k = 8 ∨ k = 9 ∨ k = 10 ∨ k = 11 ∨ k = 12 := by omega
  rcases this with h | h | h | h | h | h | h | h | h | h | h | h | h <;> subst h <;> decide

theorem ret_int {k : IntKind} {a b : Int} (h : a = b) : Ending.returned (.int k a) = .returned (.int k b) := by rw [h]

theorem sizeImpl_any (b : Int) (w : World) :
    Calls Tryz.prog 67 #[.int .i64 b] w fun e w' => e = .returned (.int .i64 (sizeI b)) ∧ w' = w := by
  by_cases h0 : b < 0
  · go_enter Tryz.func67, Tryz.ntmps67
    go_wp2
    go_ret
    exact ⟨ret_int (by unfold sizeI; rw [if_neg (by omega)]), rfl⟩
  · by_cases h1 : 12 < b
    · go_enter Tryz.func67, Tryz.ntmps67
      go_wp2
      go_ret
      exact ⟨ret_int (by unfold sizeI; rw [if_neg (by omega)]), rfl⟩
    · have hb : b = 0 ∨ b = 1 ∨ b = 2 ∨ b = 3 ∨ b = 4 ∨ b = 5 ∨ b = 6 ∨ b = 7 ∨ b = 8 ∨ b = 9 ∨ b = 10 ∨ b = 11 ∨ b = 12 := by omega
      rcases hb with h | h | h | h | h | h | h | h | h | h | h | h | h
      all_goals
        clear h0 h1
        subst h
        go_enter Tryz.func67, Tryz.ntmps67
        go_wp2
        go_ret
        exact ⟨ret_int (by decide), rfl⟩

theorem sizeSpec_any (b : Int) (w : World) :
    Calls Tryz.prog 54 #[.int .i64 b] w fun e w' => e = .returned (.int .i64 (sizeI b)) ∧ w' = w := by
  by_cases h0 : b < 0
  · go_enter Tryz.func54, Tryz.ntmps54
    go_wp2
    go_ret
    exact ⟨ret_int (by unfold sizeI; rw [if_neg (by omega)]), rfl⟩
  · by_cases h1 : 12 < b
    · go_enter Tryz.func54, Tryz.ntmps54
      go_wp2
      go_ret
      exact ⟨ret_int (by unfold sizeI; rw [if_neg (by omega)]), rfl⟩
    · obtain ⟨m, rfl⟩ : ∃ m : Nat, b = m := ⟨b.toNat, by omega⟩
      have hm : m ≤ 12 := by omega
      go_enter Tryz.func54, Tryz.ntmps54
      go_wp2
      go_loop [3, 4] (fun n i => ∃ k : Nat, k ≤ m ∧ i = .int .i64 k ∧ n = .int .i64 (2 ^ k)) (fun _ i => m - (intOf i).toNat)
      case atStart => exact ⟨0, Nat.zero_le _, rfl, rfl⟩
      case round =>
        obtain ⟨k, hk, rfl, rfl⟩ := hrel
        have hp := pow_le12 k (by omega)
        by_cases hlt : k < m
        · have HS : Hid ((2 : Int) ^ (k + 1) = 2 ^ k * 2) := Int.pow_succ 2 k
          generalize hq : (2 : Int) ^ k = q at *
          go_wp2
          go_round
          case rel => exact ⟨k + 1, by omega, by go_num, by rw [HS.out]⟩
          case measure => simp [intOf]; omega
        · obtain rfl : k = m := by omega
          go_wp2
          go_ret
          exact ⟨ret_int (by unfold sizeI; rw [if_pos (by omega)]; simp), rfl⟩

end Go.Proofs.YthmambhagheocaaGreatDoor
