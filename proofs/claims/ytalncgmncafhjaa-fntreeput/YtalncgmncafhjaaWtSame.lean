/-
  The law's own comparing of two lists of slots: two that are the same are told so. Condition: both lie in memory.
-/
import Derived.Test.YtalncgmncafhjaaSlotsEq
namespace Go.Proofs.Ytalncgmncafhjaa
open Go.ChangeShapes Go.WideShapes Go.ChangeAt Go.RowKit
set_option linter.unusedVariables false

def wtInv (w : World) (L : List Sl) (i : Value) (w' : World) : Prop :=
  ∃ k : Nat, k ≤ L.length ∧ i = .int .i64 k ∧ Below w.heap.size w w'

set_option maxRecDepth 100000 in
set_option maxHeartbeats 2000000 in
theorem wtSame_same (P Q : Option Addr) (c d : Nat) (L : List Sl) (w : World) (hl : L.length ≤ 1048576) (hP : Lies w P L) (hQ : Lies w Q L) :
    Calls Try.prog 8 #[.slice P L.length c, .slice Q L.length d] w fun e w' => e = .returned (.bool true) ∧ Below w.heap.size w w' := by
  go_enter Try.func8, Try.ntmps8
  go_wp2
  go_loopw [5] (fun i w' => wtInv w L i w') (fun i w' => L.length - (intOf i).toNat)
  case atStart => exact ⟨0, Nat.zero_le _, rfl, Below.refl _ _⟩
  case round =>
    obtain ⟨k, hk, rfl, hB⟩ := hrel
    have hP1 := hP.below hB
    have hQ1 := hQ.below hB
    by_cases hlt : k < L.length
    · obtain ⟨B, O, rfl⟩ := hP1.some hlt
      obtain ⟨B2, O2, rfl⟩ := hQ1.some hlt
      have cc := hP1.cells B O rfl k hlt
      have dd := hQ1.cells B2 O2 rfl k hlt
      have hk1 : (k : Int) < (L.length : Int) := by omega
      generalize hx : L[k] = x at cc dd
      clear hx
      obtain ⟨c0, c1, c2, c3, c4, c5, c6, c7, c8, c9, c10⟩ := cc
      obtain ⟨d0, d1, d2, d3, d4, d5, d6, d7, d8, d9, d10⟩ := dd
      have hne := neqS_run x x
      simp only [decide_true, Bool.not_true] at hne
      go_wp2
      go_quiet (fail)
      all_goals go_wp2
      all_goals go_roundw
      case rel => exact ⟨k + 1, by omega, by go_num, by first | exact belowG_drewN hB _ | exact hB.drew | exact hB⟩
      case measure => simp [intOf]; omega
    · have hk1 : ¬ (k : Int) < (L.length : Int) := by omega
      go_wp2
      go_ret
      exact ⟨rfl, hB⟩

end Go.Proofs.Ytalncgmncafhjaa
