/-
  What LookRef of the program and of the specification answer, at every two numbers: both the same. Conditions: none.
-/
import Derived.Test.YtpophidmjcaikaaPack
import Derived.Deep.QuietTactic
import Derived.BigQuiet
import Derived.WalkSmall
namespace Go.Proofs.Ytpophidmjcaikaa
open Go.ChangeShapes Go.WideShapes Go.ChangeAt Go.RowKit
set_option linter.unusedVariables false

theorem pow_le16 (k : Nat) (h : k ≤ 16) : (1 : Int) ≤ 2 ^ k ∧ (2 : Int) ^ k ≤ 65536 := by
  have : k = 0 ∨ k = 1 ∨ k = 2 ∨ k = 3 ∨ k = 4 ∨ k = 5 ∨ k = 6 ∨ k = 7 ∨ k = 8 ∨ k = 9 ∨ k = 10 ∨ k = 11 ∨ k = 12 ∨ k = 13 ∨ k = 14 ∨ k = 15 ∨ k = 16 := by omega
  rcases this with h | h | h | h | h | h | h | h | h | h | h | h | h | h | h | h | h <;> subst h <;> decide

/-- 2 to a number of bits. -/
def l7I (b : Int) : Int := 2 ^ b.toNat

theorem l7I_bd (b : Int) (h : b ≤ 16) : 1 ≤ l7I b ∧ l7I b ≤ 65536 := pow_le16 b.toNat (by omega)

theorem l7Size_any (b : Int) (w : World) (h0 : 0 ≤ b) (h1 : b ≤ 16) :
    Calls Try.prog 6 #[.int .i64 b] w fun e w' => e = .returned (.int .i64 (l7I b)) ∧ w' = w := by
  obtain ⟨m, rfl⟩ : ∃ m : Nat, b = m := ⟨b.toNat, by omega⟩
  have hm : m ≤ 16 := by omega
  clear h0 h1
  go_enter Try.func6, Try.ntmps6
  go_wp2
  go_loop [3, 4] (fun n i => ∃ k : Nat, k ≤ m ∧ i = .int .i64 k ∧ n = .int .i64 (2 ^ k)) (fun _ i => m - (intOf i).toNat)
  case atStart => exact ⟨0, Nat.zero_le _, rfl, rfl⟩
  case round =>
    obtain ⟨k, hk, rfl, rfl⟩ := hrel
    have hp := pow_le16 k (by omega)
    by_cases hlt : k < m
    · have HS : Hid ((2 : Int) ^ (k + 1) = 2 ^ k * 2) := Int.pow_succ 2 k
      generalize hq : (2 : Int) ^ k = q at *
      go_wp2
      go_round
      case rel => exact ⟨k + 1, by omega, by go_num, by rw [HS.out]⟩
      case measure => simp [intOf]; omega
    · obtain rfl : k = m := by omega
      go_wp2
      go_ret
      exact ⟨ret_int (by unfold l7I; simp), rfl⟩

/-- Bits and a number are a reference's. -/
def pathB (b a : Int) : Bool := decide (1 ≤ b ∧ b ≤ 16 ∧ 0 ≤ a ∧ a < l7I b)

/-- A reference. -/
def refI (b a : Int) : Int := if pathB b a = true then a + 65536 * b else 0

theorem ret_u32 {a b : Int} (h : a = b) : Ending.returned (.int .u32 a) = .returned (.int .u32 b) := by rw [h]

theorem lookRefS_any (b a : Int) (w : World) :
    Calls Try.prog 4 #[.int .i64 b, .int .i64 a] w fun e w' => e = .returned (.int .u32 (refI b a)) ∧ w' = w := by
  by_cases h1 : b < 1
  · go_enter Try.func4, Try.ntmps4
    go_wp2
    go_ret
    exact ⟨ret_u32 (by unfold refI pathB; rw [if_neg (by simp; omega)]), rfl⟩
  by_cases h2 : 16 < b
  · go_enter Try.func4, Try.ntmps4
    go_wp2
    go_ret
    exact ⟨ret_u32 (by unfold refI pathB; rw [if_neg (by simp; omega)]), rfl⟩
  by_cases h3 : a < 0
  · go_enter Try.func4, Try.ntmps4
    go_wp2
    go_ret
    exact ⟨ret_u32 (by unfold refI pathB; rw [if_neg (by simp; omega)]), rfl⟩
  have hbd := l7I_bd b (by omega)
  by_cases h4 : l7I b ≤ a
  · go_enter Try.func4, Try.ntmps4
    go_wp2_with (first | (go_at_call 6; refine (l7Size_any _ _ (by omega) (by omega)).mono ?_; rintro e w' ⟨rfl, rfl⟩))
    go_ret
    exact ⟨ret_u32 (by unfold refI pathB; rw [if_neg (by simp; omega)]), rfl⟩
  · go_enter Try.func4, Try.ntmps4
    go_wp2_with (first | (go_at_call 6; refine (l7Size_any _ _ (by omega) (by omega)).mono ?_; rintro e w' ⟨rfl, rfl⟩))
    go_ret
    exact ⟨ret_u32 (by unfold refI pathB; rw [if_pos (by simp; omega)]), rfl⟩

set_option maxHeartbeats 4000000 in
theorem pathOk_any (b a : Int) (w : World) :
    Calls Try.prog 7 #[.agg #[.int .i64 b, .int .i64 a]] w fun e w' => e = .returned (.bool (pathB b a)) ∧ Below w.heap.size w w' := by
  cases h1 : withinB b 1 16
  · have hp : pathB b a = false := by simp [withinB] at h1; simp [pathB]; omega
    go_enter Try.func7, Try.ntmps7
    go_wp2
    go_quiet ((first | (go_at_call 8; exact Calls.quiet_of_same (within_no _ _ _ _ (by assumption)))))
    go_wp2
    go_ret
    exact ⟨ret_bool hp.symm, by repeat (first | exact Below.refl _ _ | apply Below.drew | (refine below_drewN ?_ _) | (refine Below.alloc ?_ (by simp; try omega) _))⟩
  · have hb : b = 1 ∨ b = 2 ∨ b = 3 ∨ b = 4 ∨ b = 5 ∨ b = 6 ∨ b = 7 ∨ b = 8 ∨ b = 9 ∨ b = 10 ∨ b = 11 ∨ b = 12 ∨ b = 13 ∨ b = 14 ∨ b = 15 ∨ b = 16 := by simp [withinB] at h1; omega
    rcases hb with h | h | h | h | h | h | h | h | h | h | h | h | h | h | h | h
    all_goals
      clear h1
      subst h
      go_enter Try.func7, Try.ntmps7
      go_wp2
      go_quiet ((first | (go_at_call 8; exact Calls.quiet_of_same (within_yes _ _ _ _ (by decide))) | (go_at_call 8; exact Calls.quiet_of_same (within_any _ _ _ _))))
      go_wp2
      go_ret
      exact ⟨ret_bool (by rw [Bool.eq_iff_iff]; simp [pathB, withinB, l7I]; try omega), by repeat (first | exact Below.refl _ _ | apply Below.drew | (refine below_drewN ?_ _) | (refine Below.alloc ?_ (by simp; try omega) _))⟩

theorem or_comm32 (x y : Int) : bits BinOp.or IntKind.u32 x y = bits BinOp.or IntKind.u32 y x := by
  show IntKind.u32.wrap ((BitVec.ofInt 32 x ||| BitVec.ofInt 32 y).toNat : Int) = _
  rw [BitVec.or_comm]
  rfl

theorem u32_wrap (x : Int) (h0 : 0 ≤ x) (h1 : x < 4294967296) : IntKind.u32.wrap x = x := by
  simp [IntKind.wrap, IntKind.bits, IntKind.signed]; omega

set_option maxHeartbeats 4000000 in
theorem lookRefI_any (b a : Int) (w : World) :
    Calls Try.prog 5 #[.int .i64 b, .int .i64 a] w fun e w' => e = .returned (.int .u32 (refI b a)) ∧ Below w.heap.size w w' := by
  cases h : pathB b a
  · have hr : refI b a = 0 := by simp [refI, h]
    go_enter Try.func5, Try.ntmps5
    go_wp2_with (first | (go_at_call 7; refine (pathOk_any _ _ _).mono ?_; rintro e w1 ⟨rfl, hb⟩))
    go_ret
    exact ⟨ret_u32 hr.symm, ((Below.refl _ _).alloc (Nat.le_refl _) _).trans (hb.mono (by simp))⟩
  · have hr : refI b a = a + 65536 * b := by simp [refI, h]
    have hh : 1 ≤ b ∧ b ≤ 16 ∧ 0 ≤ a ∧ a < l7I b := by simpa [pathB] using h
    have hbd := l7I_bd b hh.2.1
    have hj := or_join 16 a b 65536 (by decide) (by omega) (by omega) (by omega) (by omega) (by omega)
    go_enter Try.func5, Try.ntmps5
    go_wp2_with (first | (go_at_call 7; refine (pathOk_any _ _ _).mono ?_; rintro e w1 ⟨rfl, hb⟩))
    go_ret
    exact ⟨ret_u32 (by rw [or_comm32, hj, hr]; omega), ((Below.refl _ _).alloc (Nat.le_refl _) _).trans (hb.mono (by simp))⟩

end Go.Proofs.Ytpophidmjcaikaa
