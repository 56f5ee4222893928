/-
  What eqCap, eqTreeSlot and eqTreeSlotS of the laws answer where both sides are the same.
-/
import Derived.Test.YthmambhagheocaaGreatDoorHeld
import Derived.Test.YthmambhagheocaaGreatDoorQuietFast
import Derived.Test.YthmambhagheocaaGreatDoorCapIn
import Derived.Deep.DeepCutAuto
namespace Go.Proofs.YthmambhagheocaaGreatDoor
open Go.ChangeShapes Go.WideShapes Go.ChangeAt Go.RowKit
set_option linter.unusedVariables false

/-- Two blocks of eleven, and a call behind them. -/
theorem two11 {w w1 : World} {a0 a1 a2 a3 a4 a5 a6 a7 a8 a9 a10 b0 b1 b2 b3 b4 b5 b6 b7 b8 b9 b10 : Value} {S T : Nat}
    (hb : Below ((w.alloc (.cells #[a0, a1, a2, a3, a4, a5, a6, a7, a8, a9, a10] S)).alloc (.cells #[b0, b1, b2, b3, b4, b5, b6, b7, b8, b9, b10] T)).heap.size ((w.alloc (.cells #[a0, a1, a2, a3, a4, a5, a6, a7, a8, a9, a10] S)).alloc (.cells #[b0, b1, b2, b3, b4, b5, b6, b7, b8, b9, b10] T)) w1) :
    Holds11 w1 w.heap.size a0 a1 a2 a3 a4 a5 a6 a7 a8 a9 a10 ∧ Holds11 w1 (w.heap.size + 1) b0 b1 b2 b3 b4 b5 b6 b7 b8 b9 b10 ∧ Below w.heap.size w w1 := by
  refine ⟨((Holds11.alloc w a0 a1 a2 a3 a4 a5 a6 a7 a8 a9 a10 S).allocs (by simp) _).below hb (by simp; omega), ?_, ?_⟩
  · have := (Holds11.alloc (w.alloc (.cells #[a0, a1, a2, a3, a4, a5, a6, a7, a8, a9, a10] S)) b0 b1 b2 b3 b4 b5 b6 b7 b8 b9 b10 T).below hb (by simp)
    rw [World.size_alloc] at this
    exact this
  · exact (((Below.refl _ _).alloc (Nat.le_refl _) _).alloc (by simp) _).trans (hb.mono (by simp; omega))

/-- What stands between two rounds. -/
def eqInv (w : World) (P Q : Option Addr) (L : List Sl) (i : Value) (w' : World) : Prop :=
  ∃ k : Nat, k ≤ L.length ∧ i = .int .i64 k ∧ Lies w' P L ∧ Lies w' Q L ∧ Below w.heap.size w w'

end Go.Proofs.YthmambhagheocaaGreatDoor
