/-
  What is a tree: the plain facts.
-/
import Derived.Test.YtalncgmncafhjaaFindSpec
namespace Go.Proofs.Ytalncgmncafhjaa
set_option linter.unusedVariables false

/-- A slot may stand behind these, the last of which has this depth. -/
def slotB (was : Int) (pre : List Sl) (s : Sl) : Bool :=
  decide (0 ≤ s.p) && decide (s.p ≤ was + 1) && decide (s.p ≤ 12) && decide (64 ≤ s.t) && decide (s.t < 4096) && decide (s.t % 4 = 0) && okB s.k s.e s.b s.r s.d s.g s.q s.f s.o && decide (findI pre s.t < 0)
/-- All that follow may stand where they do. -/
def goB (was : Int) (pre : List Sl) : List Sl → Bool
  | [] => true
  | s :: rest => slotB was pre s && goB s.p (pre ++ [s]) rest
/-- A list is a tree. -/
def treeB (L : List Sl) : Bool := decide (L.length ≤ 300) && goB (-1) [] L

/-- A round: where a slot may not stand there, the list is no tree. -/
theorem goB_no {L : List Sl} {was : Int} {k : Nat} (hk : k < L.length) (hg : goB (-1) [] L = goB was (L.take k) (L.drop k)) (hs : slotB was (L.take k) L[k] = false) : treeB L = false := by
  rw [treeB, hg, List.drop_eq_getElem_cons hk, goB, hs]; simp
theorem goB_yes {L : List Sl} {was : Int} {k : Nat} (hk : k < L.length) (hg : goB (-1) [] L = goB was (L.take k) (L.drop k)) (hs : slotB was (L.take k) L[k] = true) : goB (-1) [] L = goB L[k].p (L.take (k + 1)) (L.drop (k + 1)) := by
  rw [hg, List.drop_eq_getElem_cons hk, goB, hs, Bool.true_and, List.take_succ_eq_append_getElem hk]
theorem treeB_end {L : List Sl} {was : Int} {k : Nat} (hl : L.length ≤ 300) (hk : L.length ≤ k) (hg : goB (-1) [] L = goB was (L.take k) (L.drop k)) : treeB L = true := by
  rw [treeB, hg, List.drop_eq_nil_of_le hk, goB]; simpa using hl
theorem treeB_long {L : List Sl} (hl : 300 < L.length) : treeB L = false := by
  rw [treeB, decide_eq_false (by omega), Bool.false_and]

theorem slotB_parts {was : Int} {pre : List Sl} {s : Sl} : slotB was pre s = true ↔ 0 ≤ s.p ∧ s.p ≤ was + 1 ∧ s.p ≤ 12 ∧ 64 ≤ s.t ∧ s.t < 4096 ∧ s.t % 4 = 0 ∧ okB s.k s.e s.b s.r s.d s.g s.q s.f s.o = true ∧ findI pre s.t < 0 := by
  simp [slotB, and_assoc]
theorem slotB_not {was : Int} {pre : List Sl} {s : Sl} (h : ¬ (0 ≤ s.p ∧ s.p ≤ was + 1 ∧ s.p ≤ 12 ∧ 64 ≤ s.t ∧ s.t < 4096 ∧ s.t % 4 = 0 ∧ okB s.k s.e s.b s.r s.d s.g s.q s.f s.o = true ∧ findI pre s.t < 0)) : slotB was pre s = false := by
  rw [← slotB_parts] at h; simpa using h

end Go.Proofs.Ytalncgmncafhjaa
