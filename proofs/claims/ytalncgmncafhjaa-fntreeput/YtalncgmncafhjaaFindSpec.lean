/-
  Where a slot with an address is, by the specification.
-/
import Derived.Test.YtalncgmncafhjaaSlots
namespace Go.Proofs.Ytalncgmncafhjaa
open Go.ChangeShapes Go.WideShapes Go.ChangeAt Go.RowKit
set_option linter.unusedVariables false

/-- The first place of an At, or -1. -/
def findI : List Sl → Int → Int
  | [], _ => -1
  | s :: L, x => if s.t = x then 0 else if findI L x < 0 then -1 else findI L x + 1

theorem findI_ge : ∀ (L : List Sl) (x : Int), -1 ≤ findI L x
  | [], _ => by simp [findI]
  | s :: L, x => by
    have := findI_ge L x
    unfold findI
    repeat' split
    all_goals omega
theorem findI_no : ∀ (L : List Sl) (x : Int), (∀ i (h : i < L.length), L[i].t ≠ x) → findI L x = -1
  | [], _, _ => rfl
  | s :: L, x, h => by
    have h0 := h 0 (by simp)
    have ih := findI_no L x fun i hi => h (i + 1) (by simpa using hi)
    simp at h0
    simp [findI, h0, ih]
theorem findI_at : ∀ (L : List Sl) (x : Int) (k : Nat) (hk : k < L.length), L[k].t = x → (∀ i (h : i < k), L[i].t ≠ x) → findI L x = k
  | s :: L, x, 0, _, h, _ => by simp at h; simp [findI, h]
  | s :: L, x, k + 1, hk, h, hn => by
    have h0 := hn 0 (by omega)
    have ih := findI_at L x k (by simpa using hk) (by simpa using h) fun i hi => by simpa using hn (i + 1) (by omega)
    simp at h0
    simp only [findI, h0, if_false, ih]
    omega

set_option maxHeartbeats 400000 in
theorem findSpec_any (P : Option Addr) (n c : Nat) (x : Int) (L : List Sl) (w : World) (hn : n = L.length) (hl : n ≤ 1048576) (h : Lies w P L) :
    Calls Try.prog 38 #[.slice P n c, .int .i64 x] w fun e w' => e = .returned (.int .i64 (findI L x)) ∧ w' = w := by
  go_enter Try.func38, Try.ntmps38
  go_wp2
  go_loop [5] (fun i => ∃ k : Nat, k ≤ L.length ∧ i = .int .i64 k ∧ ∀ j (hj : j < k) (hk : k ≤ L.length), L[j].t ≠ x) (fun i => L.length - (intOf i).toNat)
  case atStart => exact ⟨0, Nat.zero_le _, rfl, fun j hj => absurd hj (Nat.not_lt_zero _)⟩
  case round =>
    obtain ⟨k, hk, rfl, hne⟩ := hrel
    have hb : (n : Int) ≤ 1048576 := by omega
    by_cases hlt : k < L.length
    · obtain ⟨B, O, rfl⟩ := h.some hlt
      have hc := h.cells B O rfl k hlt
      have c0 := hc.c0
      have hkn : k < n := by omega
      by_cases he : L[k].t = x
      · have HE : Hid _ := he
        have he2 : (L[k].t == x) = true := by simpa using he
        clear he
        go_wp2
        go_ret
        exact ⟨ret_int (findI_at L x k hlt HE.out (fun i hi => hne i hi (by omega))).symm, rfl⟩
      · have he2 : (L[k].t == x) = false := by simpa using he
        go_wp2
        go_round
        case rel =>
          refine ⟨k + 1, by omega, by go_num, fun j hj hk1 => ?_⟩
          rcases Nat.lt_succ_iff_lt_or_eq.1 hj with h1 | h1
          · exact hne j h1 (by omega)
          · subst h1; exact he
        case measure => simp [intOf]; omega
    · have hkn : ¬ k < n := by omega
      go_wp2
      go_ret
      exact ⟨ret_int (findI_no L x (fun i hi => hne i (by omega) hk)).symm, rfl⟩

end Go.Proofs.Ytalncgmncafhjaa
