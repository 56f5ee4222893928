/-
  What rest of the program answers at a range: the rest of the address by the size.
-/
import Derived.Test.YthmambhagheocaaGreatDoorRanges
import Derived.Laws.BitsAllLaws
namespace Go.Proofs.YthmambhagheocaaGreatDoor
open Go.ChangeShapes Go.WideShapes Go.ChangeAt Go.RowKit

def twos : List Nat := [0, 2 ^ 0, 2 ^ 1, 2 ^ 2, 2 ^ 3, 2 ^ 4, 2 ^ 5, 2 ^ 6, 2 ^ 7, 2 ^ 8, 2 ^ 9, 2 ^ 10, 2 ^ 11, 2 ^ 12]

theorem two_of_mask0 : ∀ q, q < 65 → ∀ r, r < 64 → (64 * q + r) &&& (64 * q + r - 1) = 0 → 64 * q + r ∈ twos := by
  decide +kernel

theorem two_of_mask (n : Nat) (h : n < 4097) (h0 : n &&& (n - 1) = 0) : n ∈ twos := by
  have e : 64 * (n / 64) + n % 64 = n := by omega
  have := two_of_mask0 (n / 64) (by omega) (n % 64) (by omega)
  rw [e] at this
  exact this h0

theorem mask_nat (m n : Nat) (h1 : 1 ≤ n) (h2 : n ≤ 4096) (h : n &&& (n - 1) = 0) : m &&& (n - 1) = m % n := by
  have := two_of_mask n (by omega) h
  simp only [twos, List.mem_cons, List.not_mem_nil, or_false] at this
  rcases this with e | e | e | e | e | e | e | e | e | e | e | e | e | e
  · omega
  all_goals (rw [e]; exact Nat.and_two_pow_sub_one_eq_mod _ _)

theorem mask_rest (x y : Int) (hx0 : 0 ≤ x) (hx : x ≤ 4096) (hy0 : 1 ≤ y) (hy : y ≤ 4096) (h : (bits BinOp.and IntKind.u32 y (y - 1) == 0) = true) :
    bits BinOp.and IntKind.u32 x (y - 1) = x % y := by
  obtain ⟨m, rfl⟩ : ∃ m : Nat, x = m := ⟨x.toNat, by omega⟩
  obtain ⟨n, rfl⟩ : ∃ n : Nat, y = n := ⟨y.toNat, by omega⟩
  have e : ((n : Int) - 1) = ((n - 1 : Nat) : Int) := by omega
  rw [e] at h ⊢
  rw [u32_and_nat _ _ (by omega) (by omega)] at h ⊢
  have h' : n &&& (n - 1) = 0 := by
    have := eq_of_beq h
    omega
  rw [mask_nat m n (by omega) (by omega) h']
  omega

theorem rest_any (x y : Int) (w : World) (hx0 : 0 ≤ x) (hx : x ≤ 4096) (hy0 : 1 ≤ y) (hy : y ≤ 4096) :
    Calls Tryz.prog 64 #[.agg #[.int .u32 x, .int .u32 y]] w fun e w' => e = .returned (.int .u32 (x % y)) ∧ w' = w.alloc (.cells #[.int .u32 x, .int .u32 y] 88) := by
  go_enter Tryz.func64, Tryz.ntmps64
  go_wp2
  · go_ret
    exact ⟨ret_int (mask_rest x y hx0 hx hy0 hy ‹_›), rfl⟩
  · go_ret
    exact ⟨rfl, rfl⟩

end Go.Proofs.YthmambhagheocaaGreatDoor
