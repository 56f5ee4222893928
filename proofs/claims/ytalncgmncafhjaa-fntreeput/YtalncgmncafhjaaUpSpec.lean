/-
  What l3Up, TreeUp and TreeAbove of the specification answer.
-/
import Derived.Test.YtalncgmncafhjaaUpImpl
import Derived.Test.YtalncgmncafhjaaEndSpec
namespace Go.Proofs.Ytalncgmncafhjaa
open Go.ChangeShapes Go.WideShapes Go.ChangeAt Go.RowKit
set_option linter.unusedVariables false

theorem lies_dep2 {W : World} {B O : Nat} {L : List Sl} (h : Lies W (some ⟨B, O, none⟩) L) {j : Nat} (hj : j < L.length) : W.cell? ⟨B, O + j * 11 + 10, none⟩ = some (.int .i64 (depN L j)) := by
  rw [depN_at hj]; exact (h.cells B O rfl j hj).c10

/-- What stands between two rounds: the next place to look at is one less than j. -/
def upInv (w : World) (i : Nat) (L : List Sl) (v : Value) (w' : World) : Prop :=
  ∃ j : Nat, j ≤ i ∧ v = .int .i64 ((j : Int) - 1) ∧ ups (depN L) (depN L i) j = ups (depN L) (depN L i) i ∧ ∃ n, w' = w.drewN n

set_option maxRecDepth 100000 in
set_option maxHeartbeats 1000000 in
theorem l3UpSpec_any (P : Option Addr) (c i : Nat) (L : List Sl) (w : World) (hl : L.length ≤ 1048576) (h : Lies w P L) (hi : i < L.length) :
    Calls Try.prog 36 #[.slice P L.length c, .int .i64 (i : Int)] w fun e w' => e = .returned (.int .i64 (headI (ups (depN L) (depN L i) i))) ∧ Below w.heap.size w w' := by
  obtain ⟨B, O, rfl⟩ := h.some hi
  have ci := lies_dep2 h hi
  obtain ⟨d, hd⟩ : ∃ d, depN L i = d := ⟨_, rfl⟩
  rw [hd] at ci
  have HD : Hid _ := hd
  clear hd
  have hii : (i : Int) < (L.length : Int) := by omega
  go_enter Try.func36, Try.ntmps36
  go_wp2
  go_loopw [5] (fun v w' => upInv w i L v w') (fun v w' => (intOf v + 1).toNat)
  case atStart => exact ⟨i, Nat.le_refl _, rfl, rfl, 0, rfl⟩
  case round =>
    obtain ⟨j, hji, rfl, hu, m, rfl⟩ := hrel
    rw [HD.out] at hu
    cases j with
    | zero =>
      have HU : Hid _ := hu
      clear hu
      go_wp2
      go_ret
      exact ⟨ret_int (by rw [HD.out, ← HU.out, ups_zero]; rfl), below_drewN (Below.refl _ _) _⟩
    | succ k =>
      have hk : k < L.length := by omega
      have ck := lies_dep2 h hk
      have hkk : (k : Int) < (L.length : Int) := by omega
      have e1 : (((k + 1 : Nat) : Int) - 1) = (k : Int) := by omega
      rw [e1]
      obtain ⟨q, hq⟩ : ∃ q, depN L k = q := ⟨_, rfl⟩
      rw [hq] at ck
      have hk0 : (0 : Int) ≤ (k : Int) := by omega
      by_cases hlt : q < d
      · have g : decide (q < d) = true := by simpa using hlt
        have HU : Hid (ups (depN L) d i = k :: ups (depN L) q k) := by rw [← hq, ← ups_yes (by rw [hq]; exact hlt)]; exact hu.symm
        clear hu e1
        go_upto_region 4 with fail
        go_quiet (fail)
        go_wp2
        go_ret
        exact ⟨ret_int (by rw [HD.out, HU.out]; rfl), by first | exact below_drewN (Below.refl _ _) _ | exact below_drewN (below_drewN (Below.refl _ _) _) _⟩
      · have g : decide (q < d) = false := by simpa using hlt
        have HU : Hid (ups (depN L) d k = ups (depN L) d i) := by rw [← ups_no (by rw [hq]; exact hlt)]; exact hu
        clear hu e1
        go_upto_region 4 with fail
        go_quiet (fail)
        go_wp2
        go_roundw
        case rel => exact ⟨k, by omega, rfl, by rw [HD.out]; exact HU.out, _, rfl⟩
        case measure => simp [intOf]

theorem place_nat2 {L : List Sl} {i : Int} (h : (treeB L && placeB L.length i) = true) : ∃ k : Nat, i = (k : Int) ∧ k < L.length ∧ treeB L = true := by
  simp only [Bool.and_eq_true, placeB, decide_eq_true_eq] at h
  exact ⟨i.toNat, by omega, by omega, h.1⟩

end Go.Proofs.Ytalncgmncafhjaa
