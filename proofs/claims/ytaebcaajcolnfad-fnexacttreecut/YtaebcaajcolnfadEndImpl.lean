/-
  What TreeEnd of the program answers.
-/
import Derived.Test.YtaebcaajcolnfadWalks
namespace Go.Proofs.Ytaebcaajcolnfad
open Go.RowKit Go.Shelf
set_option linter.unusedVariables false

attribute [local go_sem] Oper.semAt_some

/-- The last that has come, or where the walk began. -/
def lastN (i : Nat) (pre : List Nat) : Nat := pre.getLast?.getD i
theorem lastN_snoc (i : Nat) (pre : List Nat) (x : Nat) : lastN i (pre ++ [x]) = x := by simp [lastN]
theorem lastN_range (i r : Nat) : lastN i (List.range' (i + 1) r) = i + r := by
  cases r with
  | zero => rfl
  | succ r => rw [List.range'_concat, lastN_snoc]; omega

theorem cell_new (W : World) (v : Value) (t : TypeId) : (W.alloc (.cells #[v] t)).cell? ⟨W.heap.size, 0, none⟩ = some v ∧ (W.alloc (.cells #[v] t)).frozen? ⟨W.heap.size, 0, none⟩ = false := by
  constructor <;> go_simp

end Go.Proofs.Ytaebcaajcolnfad
