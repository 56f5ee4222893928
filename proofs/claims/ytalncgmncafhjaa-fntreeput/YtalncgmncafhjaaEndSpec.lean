/-
  What l3In, l3End, TreeEnd of the specification answer.
-/
import Derived.Test.YtalncgmncafhjaaWalks
import Derived.Deep.QuietTactic
import Derived.BigQuiet
namespace Go.Proofs.Ytalncgmncafhjaa
open Go.ChangeShapes Go.WideShapes Go.ChangeAt Go.RowKit
set_option linter.unusedVariables false

theorem runN_next {d : Int} {L : List Sl} {i k j : Nat} (hk : k ≤ runN d (L.drop (i + 1))) (hj : i + 1 + k = j) (hlt : j < L.length) (h : d < L[j].p) : k < runN d (L.drop (i + 1)) := by
  subst hj
  rcases Nat.lt_or_ge k (runN d (L.drop (i + 1))) with h1 | h1
  · exact h1
  · have e : runN d (L.drop (i + 1)) = k := by omega
    have := runN_stop d (L.drop (i + 1)) (by rw [e, List.length_drop]; omega)
    simp only [e, List.getElem_drop] at this
    omega
theorem runN_halt {d : Int} {L : List Sl} {i k j : Nat} (hk : k ≤ runN d (L.drop (i + 1))) (hj : i + 1 + k = j) (h : ∀ hlt : j < L.length, ¬ d < L[j].p) : runN d (L.drop (i + 1)) = k := by
  subst hj
  rcases Nat.lt_or_ge k (runN d (L.drop (i + 1))) with h1 | h1
  · obtain ⟨h2, h3⟩ := runN_in d _ k h1
    simp only [List.getElem_drop] at h3
    exact absurd h3 (h (by rw [List.length_drop] at h2; omega))
  · omega

set_option maxRecDepth 100000 in
set_option maxHeartbeats 1000000 in
theorem inSpec_to (P : Option Addr) (c : Nat) (i : Int) (x : Bool) (L : List Sl) (w : World) (hl : L.length ≤ 1048576) (hcap : L.length ≤ c) (hcm : c ≤ 9223372036854775807) (h : Lies w P L) (hx : (treeB L && placeB L.length i) = x) :
    Calls Try.prog 35 #[.slice P L.length c, .int .i64 i] w fun e w' => e = .returned (.bool x) ∧ Below w.heap.size w w' := by
  by_cases h0 : 0 ≤ i
  · by_cases h1 : i < L.length
    · have hp : placeB L.length i = true := by unfold placeB; simp only [decide_eq_true_eq]; omega
      have ht : treeB L = x := by rw [hp] at hx; simpa using hx
      go_enter Try.func35, Try.ntmps35
      go_wp2_with (first
        | (go_at_call 18; refine (treeOkSpec_to _ _ _ L _ _ rfl hl hcap hcm h ht).mono ?_; rintro e w1 ⟨rfl, hb1⟩))
      go_ret
      exact ⟨rfl, hb1⟩
    · have hp : placeB L.length i = false := by unfold placeB; simp only [decide_eq_false_iff_not]; omega
      obtain rfl : x = false := by rw [hp] at hx; simpa using hx.symm
      go_enter Try.func35, Try.ntmps35
      go_wp2
      go_ret
      exact ⟨rfl, Below.refl _ _⟩
  · have hp : placeB L.length i = false := by unfold placeB; simp only [decide_eq_false_iff_not]; omega
    obtain rfl : x = false := by rw [hp] at hx; simpa using hx.symm
    go_enter Try.func35, Try.ntmps35
    go_wp2
    go_ret
    exact ⟨rfl, Below.refl _ _⟩


end Go.Proofs.Ytalncgmncafhjaa
