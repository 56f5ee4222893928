/-
  What DrawCapCopy and DrawCapMint answer: nine fields, the rights small, and one or two words.
-/
import Derived.Test.YthmambhagheocaaGreatDoorHalfDrawn
namespace Go.Proofs.YthmambhagheocaaGreatDoor
open Go.ChangeShapes Go.WideShapes Go.ChangeAt Go.RowKit
set_option linter.unusedVariables false

theorem Bytes.alloc {w : World} {a : Option Addr} {n c : Nat} (h : Bytes w a n c) (o : Obj) : Bytes (w.alloc o) a n c := by
  rcases h with e | ⟨b, x, e, hbl, hnc, hz⟩
  · exact .inl e
  · have hb : Below w.heap.size w (w.alloc o) := (Below.refl _ _).alloc (Nat.le_refl _) _
    exact .inr ⟨b, x, e, by simp; omega, hnc, fun j hj => by rw [hb.cell (p := ⟨b, x + j, none⟩) hbl]; exact hz j hj⟩

theorem Fr.of_below {p : Nat} {w w' : World} (h : Below p w w') (hp : w.heap.size ≤ p) : Fr p w w' := by
  have hb := bcell (W := w) (h.mono hp)
  exact ⟨fun b o hl _ => hb.1 b o hl, fun b o hl => hb.2 b o hl, h.size, h, fun b hl _ => (h.mono hp).block b hl⟩

end Go.Proofs.YthmambhagheocaaGreatDoor
