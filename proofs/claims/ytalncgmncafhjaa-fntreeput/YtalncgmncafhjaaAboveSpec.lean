/-
  What TreeAbove of the specification answers.
-/
import Derived.Test.YtalncgmncafhjaaUpSpec
namespace Go.Proofs.Ytalncgmncafhjaa
open Go.ChangeShapes Go.WideShapes Go.ChangeAt Go.RowKit
set_option linter.unusedVariables false

/-- Both are places of a tree. -/
def bothB (L : List Sl) (i k : Int) : Bool := (treeB L && placeB L.length i) && (treeB L && placeB L.length k)

/-- A place is another one, or among those. -/
def inUps (L : List Sl) (i k : Nat) : Bool := decide (i = k) || decide (i ∈ ups (depN L) (depN L k) k)

theorem inUps_self (L : List Sl) (i : Nat) : inUps L i i = true := by simp [inUps]
theorem inUps_none {L : List Sl} {i k : Nat} (h : ups (depN L) (depN L k) k = []) (hne : i ≠ k) : inUps L i k = false := by simp [inUps, h, hne]
theorem inUps_next {L : List Sl} {i k u : Nat} (h : ups (depN L) (depN L k) k = u :: ups (depN L) (depN L u) u) (hne : i ≠ k) : inUps L i k = inUps L i u := by
  simp [inUps, h, hne]

set_option maxRecDepth 100000 in
set_option maxHeartbeats 1000000 in
theorem treeAboveSpec_none (P : Option Addr) (c : Nat) (i k : Int) (L : List Sl) (w : World) (hl : L.length ≤ 1048576) (hcap : L.length ≤ c) (hcm : c ≤ 9223372036854775807) (h : Lies w P L) (ht : bothB L i k = false) :
    Calls Try.prog 17 #[.slice P L.length c, .int .i64 i, .int .i64 k] w fun e w' => e = .returned (.bool false) ∧ Below w.heap.size w w' := by
  cases h1 : (treeB L && placeB L.length i)
  · go_enter Try.func17, Try.ntmps17
    go_wp2_with (first
      | (go_at_call 35; refine (inSpec_to _ _ _ _ L _ hl hcap hcm h h1).mono ?_; rintro e w1 ⟨rfl, hb1⟩))
    go_ret
    exact ⟨rfl, hb1⟩
  · have h2 : (treeB L && placeB L.length k) = false := by simpa [bothB, h1] using ht
    go_enter Try.func17, Try.ntmps17
    go_wp2_with (first
      | (go_at_call 35; refine (inSpec_to _ _ _ _ L _ hl hcap hcm h h1).mono ?_; clear h1; rintro e w1 ⟨rfl, hb1⟩)
      | (go_at_call 35; refine (inSpec_to _ _ _ _ L _ hl hcap hcm (h.below hb1) h2).mono ?_; rintro e w2 ⟨rfl, hb2⟩))
    go_ret
    exact ⟨rfl, hb1.trans (hb2.mono hb1.size)⟩

/-- What stands between two rounds: nobody is left, or a place of which the answer is asked. -/
def abovInv (w : World) (i k : Nat) (L : List Sl) (v : Value) (w' : World) : Prop :=
  ((v = .int .i64 (-1) ∧ inUps L i k = false) ∨ ∃ j : Nat, j < L.length ∧ v = .int .i64 (j : Int) ∧ inUps L i k = inUps L i j) ∧ Below w.heap.size w w'

set_option maxRecDepth 100000 in
set_option maxHeartbeats 1000000 in
theorem treeAboveSpec_some (P : Option Addr) (c i k : Nat) (L : List Sl) (w : World) (hl : L.length ≤ 1048576) (hcap : L.length ≤ c) (hcm : c ≤ 9223372036854775807) (h : Lies w P L) (hT : treeB L = true) (hi : i < L.length) (hk : k < L.length) :
    Calls Try.prog 17 #[.slice P L.length c, .int .i64 (i : Int), .int .i64 (k : Int)] w fun e w' => e = .returned (.bool (inUps L i k)) ∧ Below w.heap.size w w' := by
  have h1 : (treeB L && placeB L.length i) = true := by rw [hT]; simp [placeB]; omega
  have h2 : (treeB L && placeB L.length k) = true := by rw [hT]; simp [placeB]; omega
  go_enter Try.func17, Try.ntmps17
  go_wp2_with (first
    | (go_at_call 35; refine (inSpec_to _ _ _ _ L _ hl hcap hcm h h1).mono ?_; clear h1; rintro e w1 ⟨rfl, hb1⟩)
    | (go_at_call 35; refine (inSpec_to _ _ _ _ L _ hl hcap hcm (h.below hb1) h2).mono ?_; clear h2; rintro e w2 ⟨rfl, hb2⟩))
  go_loopw [2] (fun v w' => abovInv w i k L v w') (fun v w' => (intOf v + 1).toNat)
  case atStart => exact ⟨.inr ⟨k, hk, rfl, rfl⟩, hb1.trans (hb2.mono hb1.size)⟩
  case round =>
    obtain ⟨hv | ⟨j, hj, rfl, he⟩, hB⟩ := hrel
    · obtain ⟨rfl, he⟩ := hv
      have HE : Hid _ := he
      clear he
      have hne : ¬ ((-1 : Int) = (i : Int)) := by omega
      go_wp2
      go_ret
      exact ⟨ret_bool (by rw [HE.out]; simp), hB⟩
    · have HE : Hid _ := he
      clear he
      by_cases hij : i = j
      · subst hij
        go_wp2
        go_ret
        exact ⟨ret_bool (by rw [HE.out, inUps_self]), hB⟩
      · have g1 : ((j : Int) == (i : Int)) = false := by simp; omega
        have g2 : ((j : Int) != (i : Int)) = true := by simp; omega
        go_wp2_with (first
          | (go_at_call 36; refine (l3UpSpec_any _ _ _ L _ hl (h.below hB) hj).mono ?_; rintro e w3 ⟨rfl, hb3⟩))
        go_roundw
        case rel =>
          refine ⟨?_, hB.trans (hb3.mono hB.size)⟩
          rcases ups_head (depN L) (depN L j) j with hu | ⟨u, huj, hu⟩
          · exact .inl ⟨by rw [hu]; rfl, by rw [HE.out]; exact inUps_none hu hij⟩
          · exact .inr ⟨u, by omega, by rw [hu]; rfl, by rw [HE.out]; exact inUps_next hu hij⟩
        case measure =>
          rcases ups_head (depN L) (depN L j) j with hu | ⟨u, huj, hu⟩
          · rw [hu]; simp [intOf, headI]
          · rw [hu]; simp [intOf, headI]; omega

end Go.Proofs.Ytalncgmncafhjaa
