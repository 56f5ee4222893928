/-
  Eleven cells of a block, told by their values.
-/
import Derived.Test.YthmambhagheocaaGreatDoorSlots
namespace Go.Proofs.YthmambhagheocaaGreatDoor
open Go.ChangeShapes Go.WideShapes Go.ChangeAt Go.RowKit
set_option linter.unusedVariables false

structure Holds11 (W : World) (B : Nat) (v0 v1 v2 v3 v4 v5 v6 v7 v8 v9 v10 : Value) : Prop where
  c0 : W.cell? ⟨B, 0, none⟩ = some v0
  c1 : W.cell? ⟨B, 1, none⟩ = some v1
  c2 : W.cell? ⟨B, 2, none⟩ = some v2
  c3 : W.cell? ⟨B, 3, none⟩ = some v3
  c4 : W.cell? ⟨B, 4, none⟩ = some v4
  c5 : W.cell? ⟨B, 5, none⟩ = some v5
  c6 : W.cell? ⟨B, 6, none⟩ = some v6
  c7 : W.cell? ⟨B, 7, none⟩ = some v7
  c8 : W.cell? ⟨B, 8, none⟩ = some v8
  c9 : W.cell? ⟨B, 9, none⟩ = some v9
  c10 : W.cell? ⟨B, 10, none⟩ = some v10
  z : ∀ i, W.frozen? ⟨B, i, none⟩ = false

theorem Holds11.alloc (w : World) (v0 v1 v2 v3 v4 v5 v6 v7 v8 v9 v10 : Value) (T : Nat) : Holds11 (w.alloc (.cells #[v0, v1, v2, v3, v4, v5, v6, v7, v8, v9, v10] T)) w.heap.size v0 v1 v2 v3 v4 v5 v6 v7 v8 v9 v10 := by
  constructor
  all_goals first | (intro i; go_simp) | go_simp

theorem Holds11.below {W W' : World} {B : Nat} {v0 v1 v2 v3 v4 v5 v6 v7 v8 v9 v10 : Value} (h : Holds11 W B v0 v1 v2 v3 v4 v5 v6 v7 v8 v9 v10) (hb : Below W.heap.size W W') (hB : B < W.heap.size) : Holds11 W' B v0 v1 v2 v3 v4 v5 v6 v7 v8 v9 v10 :=
  ⟨((bcell hb).1 _ _ hB).trans h.c0, ((bcell hb).1 _ _ hB).trans h.c1, ((bcell hb).1 _ _ hB).trans h.c2, ((bcell hb).1 _ _ hB).trans h.c3, ((bcell hb).1 _ _ hB).trans h.c4, ((bcell hb).1 _ _ hB).trans h.c5, ((bcell hb).1 _ _ hB).trans h.c6, ((bcell hb).1 _ _ hB).trans h.c7, ((bcell hb).1 _ _ hB).trans h.c8, ((bcell hb).1 _ _ hB).trans h.c9, ((bcell hb).1 _ _ hB).trans h.c10, fun i => ((bcell hb).2 _ _ hB).trans (h.z i)⟩

theorem Holds11.allocs {W : World} {B : Nat} {v0 v1 v2 v3 v4 v5 v6 v7 v8 v9 v10 : Value} (h : Holds11 W B v0 v1 v2 v3 v4 v5 v6 v7 v8 v9 v10) (hB : B < W.heap.size) (O : Obj) : Holds11 (W.alloc O) B v0 v1 v2 v3 v4 v5 v6 v7 v8 v9 v10 :=
  h.below ((Below.refl _ _).alloc (Nat.le_refl _) O) hB

/-- Three blocks of eleven, made one behind the other, and a call behind them. -/
theorem three11 {w w1 : World} {a0 a1 a2 a3 a4 a5 a6 a7 a8 a9 a10 b0 b1 b2 b3 b4 b5 b6 b7 b8 b9 b10 c0 c1 c2 c3 c4 c5 c6 c7 c8 c9 c10 : Value} {S T U : Nat}
    (hb : Below (((w.alloc (.cells #[a0, a1, a2, a3, a4, a5, a6, a7, a8, a9, a10] S)).alloc (.cells #[b0, b1, b2, b3, b4, b5, b6, b7, b8, b9, b10] T)).alloc (.cells #[c0, c1, c2, c3, c4, c5, c6, c7, c8, c9, c10] U)).heap.size (((w.alloc (.cells #[a0, a1, a2, a3, a4, a5, a6, a7, a8, a9, a10] S)).alloc (.cells #[b0, b1, b2, b3, b4, b5, b6, b7, b8, b9, b10] T)).alloc (.cells #[c0, c1, c2, c3, c4, c5, c6, c7, c8, c9, c10] U)) w1) :
    Holds11 w1 w.heap.size a0 a1 a2 a3 a4 a5 a6 a7 a8 a9 a10 ∧ Holds11 w1 (w.heap.size + 1) b0 b1 b2 b3 b4 b5 b6 b7 b8 b9 b10 ∧ Holds11 w1 (w.heap.size + 1 + 1) c0 c1 c2 c3 c4 c5 c6 c7 c8 c9 c10 ∧ Below w.heap.size w w1 ∧ w.heap.size + 1 + 1 < w1.heap.size := by
  refine ⟨(((Holds11.alloc w a0 a1 a2 a3 a4 a5 a6 a7 a8 a9 a10 S).allocs (by simp) _).allocs (by simp; omega) _).below hb (by simp; omega), ?_, ?_, ?_, ?_⟩
  · have := ((Holds11.alloc (w.alloc (.cells #[a0, a1, a2, a3, a4, a5, a6, a7, a8, a9, a10] S)) b0 b1 b2 b3 b4 b5 b6 b7 b8 b9 b10 T).allocs (by simp) (.cells #[c0, c1, c2, c3, c4, c5, c6, c7, c8, c9, c10] U)).below hb (by simp)
    rw [World.size_alloc] at this
    exact this
  · have := (Holds11.alloc ((w.alloc (.cells #[a0, a1, a2, a3, a4, a5, a6, a7, a8, a9, a10] S)).alloc (.cells #[b0, b1, b2, b3, b4, b5, b6, b7, b8, b9, b10] T)) c0 c1 c2 c3 c4 c5 c6 c7 c8 c9 c10 U).below hb (by simp)
    rw [World.size_alloc, World.size_alloc] at this
    exact this
  · exact ((((Below.refl _ _).alloc (Nat.le_refl _) _).alloc (by simp) _).alloc (by simp; omega) _).trans (hb.mono (by simp; omega))
  · have := hb.size; simp at this; omega

end Go.Proofs.YthmambhagheocaaGreatDoor
