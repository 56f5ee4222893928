/-
  The domains of a plan, one behind the other.
-/
import Derived.Test.YtjiignkappabpaaDoorBootPlain
namespace Go.Proofs.YtjiignkappabpaaDoor
open Go.ChangeShapes Go.WideShapes Go.ChangeAt Go.RowKit
set_option linter.unusedVariables false

def domsB (L : List LP) : Nat → List QD → Bool
  | _, [] => true
  | i, d :: D => (domB d && decide (namedN i L ≤ 5)) && domsB L (i + 1) D
theorem domsB_eq (L : List LP) : ∀ (D : List QD) (i : Nat), domsB L i D = (D.all domB && namedB L i D)
  | [], _ => rfl
  | d :: D, i => by
    simp only [domsB, namedB, List.all_cons, domsB_eq L D]
    cases domB d <;> cases D.all domB <;> cases decide (namedN i L ≤ 5) <;> simp
theorem domsB_append (L : List LP) : ∀ (D E : List QD) (i : Nat), domsB L i (D ++ E) = (domsB L i D && domsB L (i + D.length) E)
  | [], _, _ => by simp [domsB]
  | d :: D, E, i => by
    simp only [List.cons_append, domsB, domsB_append L D E, List.length_cons, Bool.and_assoc]
    rw [show i + 1 + D.length = i + (D.length + 1) by omega]
theorem domsB_take (L : List LP) {D : List QD} {k : Nat} (hk : k < D.length) : domsB L 0 (D.take (k + 1)) = (domsB L 0 (D.take k) && (domB D[k] && decide (namedN k L ≤ 5))) := by
  have : (D.take k).length = k := by simp; omega
  rw [List.take_succ_eq_append_getElem hk, domsB_append, this, Nat.zero_add]
  simp [domsB]
theorem domsB_no (L : List LP) {D : List QD} {k : Nat} (hk : k < D.length) (h : (domB D[k] && decide (namedN k L ≤ 5)) = false) : domsB L 0 D = false := by
  have h1 := domsB_take L hk
  rw [h, Bool.and_false] at h1
  have h2 := domsB_append L (D.take (k + 1)) (D.drop (k + 1)) 0
  rw [List.take_append_drop, h1, Bool.false_and] at h2
  exact h2

end Go.Proofs.YtjiignkappabpaaDoor
