/-
  What TreeEnd of both sides answers.
-/
import Derived.Test.YtaebcaajcolnfadEndImpl
import Derived.Test.YtaebcaajcolnfadEndSpec
namespace Go.Proofs.Ytaebcaajcolnfad
open Go.ChangeShapes Go.WideShapes Go.ChangeAt Go.RowKit
set_option linter.unusedVariables false

theorem place_nat {L : List Sl} {i : Int} (h : (treeB L && placeB L.length i) = true) : ∃ k : Nat, i = (k : Int) ∧ k < L.length ∧ treeB L = true := by
  simp only [Bool.and_eq_true, placeB, decide_eq_true_eq] at h
  exact ⟨i.toNat, by omega, by omega, h.1⟩

end Go.Proofs.Ytaebcaajcolnfad
