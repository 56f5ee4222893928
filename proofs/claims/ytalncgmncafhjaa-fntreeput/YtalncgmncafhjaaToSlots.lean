/-
  What toTreeSlot and toTreeSlotS of the laws answer.
-/
import Derived.Test.YtalncgmncafhjaaHeld
import Derived.Test.YtalncgmncafhjaaCapIn
import Derived.Deep.DeepCutAuto
import Derived.Laws.MakeOwn
import Derived.Laws.IdiomCopy
namespace Go.Proofs.Ytalncgmncafhjaa
open Go.ChangeShapes Go.WideShapes Go.ChangeAt Go.RowKit
set_option linter.unusedVariables false

/-- What stands when the capability is stored: three blocks. -/
structure Mid (w wx : World) (s : Sl) : Prop where
  h0 : Holds11 wx w.heap.size (.int .i64 s.t) (.int .i64 s.k) (.int .i64 s.e) (.int .i64 s.b) (.int .i64 s.r) (.int .i64 s.d) (.int .i64 s.g) (.int .i64 s.q) (.int .i64 s.f) (.bool s.o) (.int .i64 s.p)
  h1 : Holds11 wx (w.heap.size + 1) (.int .i64 0) (.int .i64 0) (.int .i64 0) (.int .i64 0) (.int .i64 0) (.int .i64 0) (.int .i64 0) (.int .i64 0) (.int .i64 0) (.bool false) (.int .i64 0)
  h2 : Holds11 wx (w.heap.size + 1 + 1) (.int .i64 s.t) (.int .i64 s.k) (.int .i64 s.e) (.int .i64 s.b) (.int .i64 s.r) (.int .i64 s.d) (.int .i64 s.g) (.int .i64 s.q) (.int .i64 s.f) (.bool s.o) (.int .i64 0)
  hB : Below w.heap.size w wx
  hz : w.heap.size + 1 + 1 < wx.heap.size

theorem Holds11.far {W : World} {B C O : Nat} {v0 v1 v2 v3 v4 v5 v6 v7 v8 v9 v10 v : Value} (h : Holds11 W B v0 v1 v2 v3 v4 v5 v6 v7 v8 v9 v10) (hne : C ≠ B) : Holds11 (W.setCell ⟨C, O, none⟩ v) B v0 v1 v2 v3 v4 v5 v6 v7 v8 v9 v10 := by
  have hc : ∀ i, (W.setCell ⟨C, O, none⟩ v).cell? ⟨B, i, none⟩ = W.cell? ⟨B, i, none⟩ := fun i => World.cell?_setCell_far _ _ _ _ hne
  exact ⟨(hc _).trans h.c0, (hc _).trans h.c1, (hc _).trans h.c2, (hc _).trans h.c3, (hc _).trans h.c4, (hc _).trans h.c5, (hc _).trans h.c6, (hc _).trans h.c7, (hc _).trans h.c8, (hc _).trans h.c9, (hc _).trans h.c10, fun i => by rw [World.frozen?_setCell]; exact h.z i⟩

theorem Holds11.put9 {W : World} {B : Nat} {v0 u1 u2 u3 u4 u5 u6 u7 u8 u9 v10 : Value} (h : Holds11 W B v0 u1 u2 u3 u4 u5 u6 u7 u8 u9 v10) (v1 v2 v3 v4 v5 v6 v7 v8 v9 : Value) :
    Holds11 (((((((((W.setCell ⟨B, 1, none⟩ v1).setCell ⟨B, 2, none⟩ v2).setCell ⟨B, 3, none⟩ v3).setCell ⟨B, 4, none⟩ v4).setCell ⟨B, 5, none⟩ v5).setCell ⟨B, 6, none⟩ v6).setCell ⟨B, 7, none⟩ v7).setCell ⟨B, 8, none⟩ v8).setCell ⟨B, 9, none⟩ v9) B v0 v1 v2 v3 v4 v5 v6 v7 v8 v9 v10 := by
  obtain ⟨h0, h1, h2, h3, h4, h5, h6, h7, h8, h9, h10, hz⟩ := h
  constructor
  all_goals first | (intro i; go_simp; done) | (go_simp; done)

theorem Holds11.put11 {W : World} {B : Nat} {u0 u1 u2 u3 u4 u5 u6 u7 u8 u9 u10 : Value} (h : Holds11 W B u0 u1 u2 u3 u4 u5 u6 u7 u8 u9 u10) (v0 v1 v2 v3 v4 v5 v6 v7 v8 v9 v10 : Value) :
    Holds11 (((((((((((W.setCell ⟨B, 0, none⟩ v0).setCell ⟨B, 1, none⟩ v1).setCell ⟨B, 2, none⟩ v2).setCell ⟨B, 3, none⟩ v3).setCell ⟨B, 4, none⟩ v4).setCell ⟨B, 5, none⟩ v5).setCell ⟨B, 6, none⟩ v6).setCell ⟨B, 7, none⟩ v7).setCell ⟨B, 8, none⟩ v8).setCell ⟨B, 9, none⟩ v9).setCell ⟨B, 10, none⟩ v10) B v0 v1 v2 v3 v4 v5 v6 v7 v8 v9 v10 := by
  obtain ⟨h0, h1, h2, h3, h4, h5, h6, h7, h8, h9, h10, hz⟩ := h
  constructor
  all_goals first | (intro i; go_simp; done) | (go_simp; done)

end Go.Proofs.Ytalncgmncafhjaa
