/-
  What TreeEnd of both sides answers.
-/
import Derived.Test.YtaebcaajcolnfacEndImpl
import Derived.Test.YtaebcaajcolnfacEndSpec
namespace Go.Proofs.Ytaebcaajcolnfac
open Go.ChangeShapes Go.WideShapes Go.ChangeAt Go.RowKit
set_option linter.unusedVariables false

set_option maxRecDepth 100000 in
set_option maxHeartbeats 1000000 in
theorem treeEndSpec_none (P : Option Addr) (c : Nat) (i : Int) (L : List Sl) (w : World) (hl : L.length ≤ 1048576) (hcap : L.length ≤ c) (hcm : c ≤ 1048576) (h : Lies w P L) (ht : (treeB L && placeB L.length i) = false) :
    Calls Try.prog 16 #[.slice P L.length c, .int .i64 i] w fun e w' => e = .returned (.int .i64 (-1)) ∧ Below w.heap.size w w' := by
  go_enter Try.func16, Try.ntmps16
  go_wp2_with (first
    | (go_at_call 33; refine (inSpec_to _ _ _ _ L _ hl hcap hcm h ht).mono ?_; rintro e w1 ⟨rfl, hb1⟩))
  go_ret
  exact ⟨rfl, hb1⟩

set_option maxRecDepth 100000 in
set_option maxHeartbeats 1000000 in
theorem treeEndSpec_some (P : Option Addr) (c i : Nat) (L : List Sl) (w : World) (hl : L.length ≤ 1048576) (hcap : L.length ≤ c) (hcm : c ≤ 1048576) (h : Lies w P L) (ht : (treeB L && placeB L.length i) = true) (hi : i < L.length) (r : Nat) (hr : runN L[i].p (L.drop (i + 1)) = r) :
    Calls Try.prog 16 #[.slice P L.length c, .int .i64 (i : Int)] w fun e w' => e = .returned (.int .i64 ((i + r + 1 : Nat) : Int)) ∧ Below w.heap.size w w' := by
  have HR : Hid _ := hr
  clear hr
  go_enter Try.func16, Try.ntmps16
  go_wp2_with (first
    | (go_at_call 33; refine (inSpec_to _ _ _ _ L _ hl hcap hcm h ht).mono ?_; rintro e w1 ⟨rfl, hb1⟩)
    | (go_at_call 34; refine (endSpec_any _ _ _ L _ hl (h.below hb1) hi r HR.out).mono ?_; rintro e w2 ⟨rfl, hb2⟩))
  go_ret
  exact ⟨ret_int (by omega), hb1.trans (hb2.mono hb1.size)⟩

theorem place_nat {L : List Sl} {i : Int} (h : (treeB L && placeB L.length i) = true) : ∃ k : Nat, i = (k : Int) ∧ k < L.length ∧ treeB L = true := by
  simp only [Bool.and_eq_true, placeB, decide_eq_true_eq] at h
  exact ⟨i.toNat, by omega, by omega, h.1⟩

end Go.Proofs.Ytaebcaajcolnfac
