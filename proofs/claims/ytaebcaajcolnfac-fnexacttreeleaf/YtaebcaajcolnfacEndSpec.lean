/-
  What l3In, l3End, TreeEnd of the specification answer.
-/
import Derived.Test.YtaebcaajcolnfacWalks
import Derived.Deep.QuietTactic
import Derived.BigQuiet
namespace Go.Proofs.Ytaebcaajcolnfac
open Go.ChangeShapes Go.WideShapes Go.ChangeAt Go.RowKit
set_option linter.unusedVariables false

theorem runN_next {d : Int} {L : List Sl} {i k j : Nat} (hk : k ≤ runN d (L.drop (i + 1))) (hj : i + 1 + k = j) (hlt : j < L.length) (h : d < L[j].p) : k < runN d (L.drop (i + 1)) := by
  subst hj
  rcases Nat.lt_or_ge k (runN d (L.drop (i + 1))) with h1 | h1
  · exact h1
  · have e : runN d (L.drop (i + 1)) = k := by omega
    have := runN_stop d (L.drop (i + 1)) (by rw [e, List.length_drop]; omega)
    simp only [e, List.getElem_drop] at this
    omega
theorem runN_halt {d : Int} {L : List Sl} {i k j : Nat} (hk : k ≤ runN d (L.drop (i + 1))) (hj : i + 1 + k = j) (h : ∀ hlt : j < L.length, ¬ d < L[j].p) : runN d (L.drop (i + 1)) = k := by
  subst hj
  rcases Nat.lt_or_ge k (runN d (L.drop (i + 1))) with h1 | h1
  · obtain ⟨h2, h3⟩ := runN_in d _ k h1
    simp only [List.getElem_drop] at h3
    exact absurd h3 (h (by rw [List.length_drop] at h2; omega))
  · omega

set_option maxRecDepth 100000 in
set_option maxHeartbeats 1000000 in
theorem inSpec_to (P : Option Addr) (c : Nat) (i : Int) (x : Bool) (L : List Sl) (w : World) (hl : L.length ≤ 1048576) (hcap : L.length ≤ c) (hcm : c ≤ 1048576) (h : Lies w P L) (hx : (treeB L && placeB L.length i) = x) :
    Calls Try.prog 33 #[.slice P L.length c, .int .i64 i] w fun e w' => e = .returned (.bool x) ∧ Below w.heap.size w w' := by
  by_cases h0 : 0 ≤ i
  · by_cases h1 : i < L.length
    · have hp : placeB L.length i = true := by unfold placeB; simp only [decide_eq_true_eq]; omega
      have ht : treeB L = x := by rw [hp] at hx; simpa using hx
      go_enter Try.func33, Try.ntmps33
      go_wp2_with (first
        | (go_at_call 10; refine (treeOkSpec_to _ _ _ L _ _ rfl hl hcap hcm h ht).mono ?_; rintro e w1 ⟨rfl, hb1⟩))
      go_ret
      exact ⟨rfl, hb1⟩
    · have hp : placeB L.length i = false := by unfold placeB; simp only [decide_eq_false_iff_not]; omega
      obtain rfl : x = false := by rw [hp] at hx; simpa using hx.symm
      go_enter Try.func33, Try.ntmps33
      go_wp2
      go_ret
      exact ⟨rfl, Below.refl _ _⟩
  · have hp : placeB L.length i = false := by unfold placeB; simp only [decide_eq_false_iff_not]; omega
    obtain rfl : x = false := by rw [hp] at hx; simpa using hx.symm
    go_enter Try.func33, Try.ntmps33
    go_wp2
    go_ret
    exact ⟨rfl, Below.refl _ _⟩

/-- What stands between two rounds. -/
def endInv (w : World) (i : Nat) (L : List Sl) (d : Int) (v : Value) (w' : World) : Prop :=
  ∃ k : Nat, k ≤ runN d (L.drop (i + 1)) ∧ v = .int .i64 ((i + 1 + k : Nat) : Int) ∧ ∃ n, w' = w.drewN n

set_option maxRecDepth 100000 in
set_option maxHeartbeats 1000000 in
theorem endSpec_any (P : Option Addr) (c i : Nat) (L : List Sl) (w : World) (hl : L.length ≤ 1048576) (h : Lies w P L) (hi : i < L.length) (r : Nat) (hr : runN L[i].p (L.drop (i + 1)) = r) :
    Calls Try.prog 34 #[.slice P L.length c, .int .i64 (i : Int)] w fun e w' => e = .returned (.int .i64 ((i + r + 1 : Nat) : Int)) ∧ Below w.heap.size w w' := by
  obtain ⟨B, O, rfl⟩ := h.some hi
  have ci := (h.cells B O rfl i hi).c10
  obtain ⟨d, hd⟩ : ∃ d, L[i].p = d := ⟨_, rfl⟩
  rw [hd] at ci hr
  have hle := runN_le d (L.drop (i + 1))
  rw [List.length_drop] at hle
  have hii : (i : Int) < (L.length : Int) := by omega
  have HR : Hid _ := hr
  clear hr
  go_enter Try.func34, Try.ntmps34
  go_wp2
  go_loopw [5] (fun v w' => endInv w i L d v w') (fun v w' => L.length - (intOf v).toNat)
  case atStart => exact ⟨0, Nat.zero_le _, by go_num, 0, rfl⟩
  case round =>
    obtain ⟨k, hk, rfl, m, rfl⟩ := hrel
    obtain ⟨j, hj⟩ : ∃ j, i + 1 + k = j := ⟨_, rfl⟩
    rw [hj]
    by_cases hlt : j < L.length
    · have cj := (h.cells B O rfl j hlt).c10
      obtain ⟨q, hq⟩ : ∃ q, L[j].p = q := ⟨_, rfl⟩
      rw [hq] at cj
      have hjj : (j : Int) < (L.length : Int) := by omega
      by_cases hdq : d < q
      · have hkr : k < runN d (L.drop (i + 1)) := runN_next hk hj hlt (by rw [hq]; exact hdq)
        have g : decide (d < q) = true := by simpa using hdq
        have HJ : Hid _ := hj
        clear hj
        go_upto_region 2 with fail
        go_quiet (fail)
        go_wp2
        go_roundw
        case rel => exact ⟨k + 1, by omega, by have := HJ.out; go_num, _, rfl⟩
        case measure => simp [intOf]; omega
      · have hkr : runN d (L.drop (i + 1)) = k := runN_halt hk hj (fun _ => by rw [hq]; exact hdq)
        have g : decide (d < q) = false := by simpa using hdq
        have HJ : Hid _ := hj
        have HK : Hid _ := hkr
        clear hj hkr
        go_upto_region 2 with fail
        go_quiet (fail)
        go_wp2
        go_ret
        exact ⟨ret_int (by have := HJ.out; have := HK.out; have := HR.out; omega), below_drewN (Below.refl _ _) _⟩
    · have hkr : runN d (L.drop (i + 1)) = k := by omega
      have HJ : Hid _ := hj
      have HK : Hid _ := hkr
      have hjj : ¬ (j : Int) < (L.length : Int) := by omega
      clear hj hkr
      go_upto_region 2 with fail
      go_quiet (fail)
      go_wp2
      go_ret
      exact ⟨ret_int (by have := HJ.out; have := HK.out; have := HR.out; omega), below_drewN (Below.refl _ _) _⟩

end Go.Proofs.Ytaebcaajcolnfac
