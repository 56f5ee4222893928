/-
  What toCap of the laws answers; a capability that came in, opened.
-/
import Derived.Test.YthmambhagheocaaGreatDoorWords
import Derived.Handy
import Derived.Lib.SmallJoins
namespace Go.Proofs.YthmambhagheocaaGreatDoor
open Go.ChangeShapes Go.WideShapes Go.ChangeAt Go.RowKit
set_option linter.unusedVariables false

/-- A contract, told of an earlier world. -/
theorem on_calls {f : Nat} {args : Array Value} {w W : World} {v : Ending} (h : Calls Tryz.prog f args w fun e w' => e = v ∧ Below w.heap.size w w') (hB : Below W.heap.size W w) :
    Calls Tryz.prog f args w fun e w' => e = v ∧ Below W.heap.size W w' := h.mono fun e w' ⟨he, hb⟩ => ⟨he, hB.trans (hb.mono hB.size)⟩

theorem array9 {α : Type} {cs : Array α} (h : cs.size = 9) : ∃ c0 c1 c2 c3 c4 c5 c6 c7 c8, cs = #[c0, c1, c2, c3, c4, c5, c6, c7, c8] := by
  obtain ⟨l⟩ := cs
  match l, h with
  | [c0, c1, c2, c3, c4, c5, c6, c7, c8], _ => exact ⟨c0, c1, c2, c3, c4, c5, c6, c7, c8, rfl⟩

theorem cell_int {H : Type} {enc : TypeId × Value → H} {W : World} {base n : Nat} {spare : Nat → Bool} {held : Bool} {v : Value} {y : DataW H × List MemPlace}
    (h : DataW.trod enc Tryz.prog W base spare held n 3 [v] = some y) : ∃ a, v = .int .i64 a ∧ (Lit.int .i64 a).wf = true := by
  obtain ⟨a, e, _, wa⟩ := DataW.trod_int Tryz.underlying3 h
  simp at e
  exact ⟨a, e, wa⟩

theorem cell_bool {H : Type} {enc : TypeId × Value → H} {W : World} {base n : Nat} {spare : Nat → Bool} {held : Bool} {v : Value} {y : DataW H × List MemPlace}
    (h : DataW.trod enc Tryz.prog W base spare held n 4 [v] = some y) : ∃ o, v = .bool o := by
  obtain ⟨a, e, _⟩ := DataW.trod_bool Tryz.underlying4 h
  simp at e
  exact ⟨a, e⟩

end Go.Proofs.YthmambhagheocaaGreatDoor
