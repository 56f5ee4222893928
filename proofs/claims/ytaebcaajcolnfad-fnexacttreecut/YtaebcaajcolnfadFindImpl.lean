/-
  What TreeFind of the specification and of the program answer.
-/
import Derived.Test.YtaebcaajcolnfadTreeOkImpl
import Derived.Test.YtaebcaajcolnfadTreeOkSpec
namespace Go.Proofs.Ytaebcaajcolnfad
open Go.ChangeShapes Go.WideShapes Go.ChangeAt Go.RowKit
set_option linter.unusedVariables false

/-- The place of an At in a tree. -/
def findT (L : List Sl) (x : Int) : Int := if treeB L = true then findI L x else -1

theorem treeOkSpec_to (P : Option Addr) (n c : Nat) (L : List Sl) (x : Bool) (w : World) (hn : n = L.length) (hl : n ≤ 1048576) (hcap : n ≤ c) (hcm : c ≤ 1048576) (h : Lies w P L) (ht : treeB L = x) :
    Calls Try.prog 18 #[.slice P n c] w fun e w' => e = .returned (.bool x) ∧ Below w.heap.size w w' := by
  have := treeOkSpec_any P n c L w hn hl hcap hcm h; rw [ht] at this; exact this
theorem treeOkImpl_to (P : Option Addr) (n c : Nat) (L : List Sl) (x : Bool) (w : World) (hn : n = L.length) (hl : n ≤ 1048576) (hcap : n ≤ c) (hcm : c ≤ 1048576) (h : Lies w P L) (hfit : ∀ s ∈ L, s.Fit) (ht : treeB L = x) :
    Calls Try.prog 26 #[.slice P n c] w fun e w' => e = .returned (.bool x) ∧ Below w.heap.size w w' := by
  have := treeOkImpl_any P n c L w hn hl hcap hcm h hfit; rw [ht] at this; exact this



end Go.Proofs.Ytaebcaajcolnfad
