/-
  The law of BootOk: its walk.
-/
import Derived.Test.YtidlelnlnfaciaaDoorBootOkBoth
import Derived.Test.YtidlelnlnfaciaaDoorOpenPlan
namespace Go.Proofs.YtidlelnlnfaciaaDoor
open Go.ChangeShapes Go.WideShapes Go.ChangeAt Go.RowKit
set_option linter.unusedVariables false

theorem QP.fit_of {p q : QP} (h : p.pl = q.pl) (hf : p.Fit) : q.Fit := by
  intro x hx t ht
  have h2 := QP.pl_l h
  have : x.pl ∈ p.ll.map QL.pl := by rw [h2]; exact List.mem_map_of_mem hx
  obtain ⟨y, hy, e⟩ := List.mem_map.1 this
  simp [QL.pl] at e
  exact hf y hy t (by rw [e.2.2]; exact ht)
theorem plan_of {p q : QP} (h : q.pl = p.pl) : planB (q.bits, q.dl, q.ll.map QL.pl) = planB p.pl := congrArg planB h

end Go.Proofs.YtidlelnlnfaciaaDoor
