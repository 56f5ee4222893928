/-
  What l3Leaf and TreeLeaf of the specification answer.
-/
import Derived.Test.YtaebcaajcolnfacClimb
import Derived.Test.YtaebcaajcolnfacEndSpec
namespace Go.Proofs.Ytaebcaajcolnfac
open Go.ChangeShapes Go.WideShapes Go.ChangeAt Go.RowKit
set_option linter.unusedVariables false

/-- What stands between two rounds. -/
def leafInv (w : World) (i k : Nat) (v : Value) (w' : World) : Prop := ∃ t : Nat, t ≤ k ∧ v = .int .i64 ((i + t : Nat) : Int) ∧ ∃ n, w' = w.drewN n

theorem lies_dep {W : World} {B O : Nat} {L : List Sl} (h : Lies W (some ⟨B, O, none⟩) L) {j : Nat} (hj : j < L.length) : W.cell? ⟨B, O + j * 11 + 10, none⟩ = some (.int .i64 (depN L j)) := by
  rw [depN_at hj]; exact (h.cells B O rfl j hj).c10

set_option maxRecDepth 100000 in
set_option maxHeartbeats 1000000 in
theorem leafSpec_any (P : Option Addr) (c i : Nat) (L : List Sl) (w : World) (hl : L.length ≤ 1048576) (h : Lies w P L) (hi : i < L.length) (k : Nat) (hk : IsLeaf L i k) :
    Calls Try.prog 39 #[.slice P L.length c, .int .i64 (i : Int)] w fun e w' => e = .returned (.int .i64 ((i + k : Nat) : Int)) ∧ Below w.heap.size w w' := by
  obtain ⟨B, O, rfl⟩ := h.some hi
  go_enter Try.func39, Try.ntmps39
  go_wp2
  go_loopw [1] (fun v w' => leafInv w i k v w') (fun v w' => L.length - (intOf v).toNat)
  case atStart => exact ⟨0, Nat.zero_le _, rfl, 0, rfl⟩
  case round =>
    obtain ⟨t, htk, rfl, m, rfl⟩ := hrel
    have hin := hk.inn
    obtain ⟨j, hj⟩ : ∃ j, i + t = j := ⟨_, rfl⟩
    have hjl : j < L.length := by omega
    have c0 := lies_dep h hjl
    have hjj : (j : Int) < (L.length : Int) := by omega
    obtain ⟨J, hJ⟩ : ∃ J, j + 1 = J := ⟨_, rfl⟩
    have hw1 : IntKind.i64.wrap ((j : Int) + 1) = (J : Int) := by rw [wrap_in (by omega) (by omega)]; omega
    have hw2 : (j : Int) + 1 = (J : Int) := by omega
    by_cases htk2 : t < k
    · have hup := hk.up t htk2
      rw [hj] at hup ⊢
      rw [hJ] at hup
      have c1 := lies_dep h (show J < L.length by omega)
      have hjj1 : (J : Int) < (L.length : Int) := by omega
      obtain ⟨p, hp⟩ : ∃ p, depN L j = p := ⟨_, rfl⟩
      obtain ⟨q, hq⟩ : ∃ q, depN L J = q := ⟨_, rfl⟩
      rw [hp] at c0 hup
      rw [hq] at c1 hup
      have g : decide (p < q) = true := by simpa using hup
      have HJ : Hid _ := hj
      have HJ2 : Hid _ := hJ
      clear hj hp hq hin hJ
      go_upto_region 1 with fail
      go_quiet (fail)
      go_wp2
      go_roundw
      case rel => exact ⟨t + 1, by omega, by have := HJ.out; have := HJ2.out; go_num, _, rfl⟩
      case measure => have := HJ2.out; simp [intOf]; omega
    · obtain rfl : t = k := by omega
      by_cases h1 : J < L.length
      · have htop := hk.top (by omega)
        rw [hj, hJ] at htop
        rw [hj]
        have c1 := lies_dep h h1
        have hjj1 : (J : Int) < (L.length : Int) := by omega
        obtain ⟨p, hp⟩ : ∃ p, depN L j = p := ⟨_, rfl⟩
        obtain ⟨q, hq⟩ : ∃ q, depN L J = q := ⟨_, rfl⟩
        rw [hp] at c0 htop
        rw [hq] at c1 htop
        have g : decide (p < q) = false := by simp; omega
        have HJ2 : Hid _ := hJ
        have HJ : Hid _ := hj
        clear hj hp hq hin hJ
        go_upto_region 1 with fail
        go_quiet (fail)
        go_wp2
        go_ret
        exact ⟨ret_int (by have := HJ.out; omega), by first | exact below_drewN (Below.refl _ _) _ | exact below_drewN (below_drewN (Below.refl _ _) _) _⟩
      · rw [hj]
        have hjj1 : ¬ (J : Int) < (L.length : Int) := by omega
        have HJ2 : Hid _ := hJ
        have HJ : Hid _ := hj
        clear hj hin hJ
        go_upto_region 1 with fail
        go_quiet (fail)
        go_wp2
        go_ret
        exact ⟨ret_int (by have := HJ.out; omega), by first | exact below_drewN (Below.refl _ _) _ | exact below_drewN (below_drewN (Below.refl _ _) _) _⟩

set_option maxRecDepth 100000 in
set_option maxHeartbeats 1000000 in
theorem treeLeafSpec_none (P : Option Addr) (c : Nat) (i : Int) (L : List Sl) (w : World) (hl : L.length ≤ 1048576) (hcap : L.length ≤ c) (hcm : c ≤ 1048576) (h : Lies w P L) (ht : (treeB L && placeB L.length i) = false) :
    Calls Try.prog 20 #[.slice P L.length c, .int .i64 i] w fun e w' => e = .returned (.int .i64 (-1)) ∧ Below w.heap.size w w' := by
  go_enter Try.func20, Try.ntmps20
  go_wp2_with (first
    | (go_at_call 33; refine (inSpec_to _ _ _ _ L _ hl hcap hcm h ht).mono ?_; rintro e w1 ⟨rfl, hb1⟩))
  go_ret
  exact ⟨rfl, hb1⟩

set_option maxRecDepth 100000 in
set_option maxHeartbeats 1000000 in
theorem treeLeafSpec_some (P : Option Addr) (c i : Nat) (L : List Sl) (w : World) (hl : L.length ≤ 1048576) (hcap : L.length ≤ c) (hcm : c ≤ 1048576) (h : Lies w P L) (ht : (treeB L && placeB L.length i) = true) (hi : i < L.length) (k : Nat) (hk : IsLeaf L i k) :
    Calls Try.prog 20 #[.slice P L.length c, .int .i64 (i : Int)] w fun e w' => e = .returned (.int .i64 ((i + k : Nat) : Int)) ∧ Below w.heap.size w w' := by
  go_enter Try.func20, Try.ntmps20
  go_wp2_with (first
    | (go_at_call 33; refine (inSpec_to _ _ _ _ L _ hl hcap hcm h ht).mono ?_; rintro e w1 ⟨rfl, hb1⟩)
    | (go_at_call 39; refine (leafSpec_any _ _ _ L _ hl (h.below hb1) hi k hk).mono ?_; rintro e w2 ⟨rfl, hb2⟩))
  go_ret
  exact ⟨ret_int (by omega), hb1.trans (hb2.mono hb1.size)⟩

theorem place_nat3 {L : List Sl} {i : Int} (h : (treeB L && placeB L.length i) = true) : ∃ k : Nat, i = (k : Int) ∧ k < L.length ∧ treeB L = true := by
  simp only [Bool.and_eq_true, placeB, decide_eq_true_eq] at h
  exact ⟨i.toNat, by omega, by omega, h.1⟩

end Go.Proofs.Ytaebcaajcolnfac
