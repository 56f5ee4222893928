/-
  A capability in memory: nine cells in a row; what stays of them, what a store of nine writes, and how it is read as a function's result.
-/
import Derived.Test.YthmambhagheocaaGreatDoorWords
import Derived.Handy
import Derived.Laws.ResultCell
namespace Go.Proofs.YthmambhagheocaaGreatDoor
open Go.ChangeShapes Go.WideShapes Go.ChangeAt Go.RowKit
set_option linter.unusedVariables false

/-- Nine cells of a block. -/
structure Holds9 (W : World) (B : Nat) (v0 v1 v2 v3 v4 v5 v6 v7 v8 : Value) : Prop where
  c0 : W.cell? ⟨B, 0, none⟩ = some v0
  c1 : W.cell? ⟨B, 1, none⟩ = some v1
  c2 : W.cell? ⟨B, 2, none⟩ = some v2
  c3 : W.cell? ⟨B, 3, none⟩ = some v3
  c4 : W.cell? ⟨B, 4, none⟩ = some v4
  c5 : W.cell? ⟨B, 5, none⟩ = some v5
  c6 : W.cell? ⟨B, 6, none⟩ = some v6
  c7 : W.cell? ⟨B, 7, none⟩ = some v7
  c8 : W.cell? ⟨B, 8, none⟩ = some v8

theorem Holds9.alloc (w : World) (v0 v1 v2 v3 v4 v5 v6 v7 v8 : Value) (T : Nat) : Holds9 (w.alloc (.cells #[v0, v1, v2, v3, v4, v5, v6, v7, v8] T)) w.heap.size v0 v1 v2 v3 v4 v5 v6 v7 v8 := by
  constructor <;> go_simp

theorem Holds9.below {W w1 : World} {B : Nat} {v0 v1 v2 v3 v4 v5 v6 v7 v8 : Value} (h : Holds9 W B v0 v1 v2 v3 v4 v5 v6 v7 v8) (hb : Below W.heap.size W w1) (hB : B < W.heap.size) : Holds9 w1 B v0 v1 v2 v3 v4 v5 v6 v7 v8 :=
  ⟨((bcell hb).1 _ _ hB).trans h.c0, ((bcell hb).1 _ _ hB).trans h.c1, ((bcell hb).1 _ _ hB).trans h.c2, ((bcell hb).1 _ _ hB).trans h.c3, ((bcell hb).1 _ _ hB).trans h.c4, ((bcell hb).1 _ _ hB).trans h.c5, ((bcell hb).1 _ _ hB).trans h.c6, ((bcell hb).1 _ _ hB).trans h.c7, ((bcell hb).1 _ _ hB).trans h.c8⟩

theorem Holds9.other {W : World} {B C : Nat} {v0 v1 v2 v3 v4 v5 v6 v7 v8 : Value} (h : Holds9 W B v0 v1 v2 v3 v4 v5 v6 v7 v8) (o : Nat) (v : Value) (hC : C ≠ B) : Holds9 (W.setCell ⟨C, o, none⟩ v) B v0 v1 v2 v3 v4 v5 v6 v7 v8 := by
  have hne : B ≠ C := fun e => hC e.symm
  obtain ⟨h0, h1, h2, h3, h4, h5, h6, h7, h8⟩ := h
  constructor <;> go_simp

theorem Holds9.put {W : World} {B : Nat} {u0 u1 u2 u3 u4 u5 u6 u7 u8 : Value} (h : Holds9 W B u0 u1 u2 u3 u4 u5 u6 u7 u8) (v0 v1 v2 v3 v4 v5 v6 v7 v8 : Value) : Holds9 (((((((((W.setCell ⟨B, 0, none⟩ v0).setCell ⟨B, 1, none⟩ v1).setCell ⟨B, 2, none⟩ v2).setCell ⟨B, 3, none⟩ v3).setCell ⟨B, 4, none⟩ v4).setCell ⟨B, 5, none⟩ v5).setCell ⟨B, 6, none⟩ v6).setCell ⟨B, 7, none⟩ v7).setCell ⟨B, 8, none⟩ v8) B v0 v1 v2 v3 v4 v5 v6 v7 v8 := by
  obtain ⟨h0, h1, h2, h3, h4, h5, h6, h7, h8⟩ := h
  constructor <;> go_simp

theorem Holds9.putGuard {W : World} {B : Nat} {v0 v1 v2 v3 v4 v5 v6 v7 v8 : Value} (h : Holds9 W B v0 v1 v2 v3 v4 v5 v6 v7 v8) (x y : Value) : Holds9 ((W.setCell ⟨B, 5, none⟩ x).setCell ⟨B, 6, none⟩ y) B v0 v1 v2 v3 v4 x y v7 v8 := by
  obtain ⟨h0, h1, h2, h3, h4, h5, h6, h7, h8⟩ := h
  constructor <;> go_simp

theorem Holds9.putOne4 {W : World} {B : Nat} {v0 v1 v2 v3 v4 v5 v6 v7 v8 : Value} (h : Holds9 W B v0 v1 v2 v3 v4 v5 v6 v7 v8) (x : Value) : Holds9 (W.setCell ⟨B, 4, none⟩ x) B v0 v1 v2 v3 x v5 v6 v7 v8 := by
  obtain ⟨h0, h1, h2, h3, h4, h5, h6, h7, h8⟩ := h
  constructor <;> go_simp

theorem Holds9.putOne5 {W : World} {B : Nat} {v0 v1 v2 v3 v4 v5 v6 v7 v8 : Value} (h : Holds9 W B v0 v1 v2 v3 v4 v5 v6 v7 v8) (x : Value) : Holds9 (W.setCell ⟨B, 5, none⟩ x) B v0 v1 v2 v3 v4 x v6 v7 v8 := by
  obtain ⟨h0, h1, h2, h3, h4, h5, h6, h7, h8⟩ := h
  constructor <;> go_simp

theorem Holds9.putOne0 {W : World} {B : Nat} {v0 v1 v2 v3 v4 v5 v6 v7 v8 : Value} (h : Holds9 W B v0 v1 v2 v3 v4 v5 v6 v7 v8) (x : Value) : Holds9 (W.setCell ⟨B, 0, none⟩ x) B x v1 v2 v3 v4 v5 v6 v7 v8 := by
  obtain ⟨h0, h1, h2, h3, h4, h5, h6, h7, h8⟩ := h
  constructor <;> go_simp

theorem Holds9.putOne1 {W : World} {B : Nat} {v0 v1 v2 v3 v4 v5 v6 v7 v8 : Value} (h : Holds9 W B v0 v1 v2 v3 v4 v5 v6 v7 v8) (x : Value) : Holds9 (W.setCell ⟨B, 1, none⟩ x) B v0 x v2 v3 v4 v5 v6 v7 v8 := by
  obtain ⟨h0, h1, h2, h3, h4, h5, h6, h7, h8⟩ := h
  constructor <;> go_simp

theorem Holds9.putOne2 {W : World} {B : Nat} {v0 v1 v2 v3 v4 v5 v6 v7 v8 : Value} (h : Holds9 W B v0 v1 v2 v3 v4 v5 v6 v7 v8) (x : Value) : Holds9 (W.setCell ⟨B, 2, none⟩ x) B v0 v1 x v3 v4 v5 v6 v7 v8 := by
  obtain ⟨h0, h1, h2, h3, h4, h5, h6, h7, h8⟩ := h
  constructor <;> go_simp

theorem Holds9.putOne3 {W : World} {B : Nat} {v0 v1 v2 v3 v4 v5 v6 v7 v8 : Value} (h : Holds9 W B v0 v1 v2 v3 v4 v5 v6 v7 v8) (x : Value) : Holds9 (W.setCell ⟨B, 3, none⟩ x) B v0 v1 v2 x v4 v5 v6 v7 v8 := by
  obtain ⟨h0, h1, h2, h3, h4, h5, h6, h7, h8⟩ := h
  constructor <;> go_simp

theorem Holds9.putOne6 {W : World} {B : Nat} {v0 v1 v2 v3 v4 v5 v6 v7 v8 : Value} (h : Holds9 W B v0 v1 v2 v3 v4 v5 v6 v7 v8) (x : Value) : Holds9 (W.setCell ⟨B, 6, none⟩ x) B v0 v1 v2 v3 v4 v5 x v7 v8 := by
  obtain ⟨h0, h1, h2, h3, h4, h5, h6, h7, h8⟩ := h
  constructor <;> go_simp

theorem Holds9.putOne7 {W : World} {B : Nat} {v0 v1 v2 v3 v4 v5 v6 v7 v8 : Value} (h : Holds9 W B v0 v1 v2 v3 v4 v5 v6 v7 v8) (x : Value) : Holds9 (W.setCell ⟨B, 7, none⟩ x) B v0 v1 v2 v3 v4 v5 v6 x v8 := by
  obtain ⟨h0, h1, h2, h3, h4, h5, h6, h7, h8⟩ := h
  constructor <;> go_simp

theorem Holds9.putOne8 {W : World} {B : Nat} {v0 v1 v2 v3 v4 v5 v6 v7 v8 : Value} (h : Holds9 W B v0 v1 v2 v3 v4 v5 v6 v7 v8) (x : Value) : Holds9 (W.setCell ⟨B, 8, none⟩ x) B v0 v1 v2 v3 v4 v5 v6 v7 x := by
  obtain ⟨h0, h1, h2, h3, h4, h5, h6, h7, h8⟩ := h
  constructor <;> go_simp

theorem Holds9.allocs {W : World} {B : Nat} {v0 v1 v2 v3 v4 v5 v6 v7 v8 : Value} (h : Holds9 W B v0 v1 v2 v3 v4 v5 v6 v7 v8) (hB : B < W.heap.size) (O : Obj) : Holds9 (W.alloc O) B v0 v1 v2 v3 v4 v5 v6 v7 v8 :=
  h.below ((Below.refl _ _).alloc (Nat.le_refl _) O) hB

/-- Behind a call: two blocks that were made ahead of it, a capability and a result, are as they were. -/
theorem after2 {w w1 : World} {c0 c1 c2 c3 c4 c5 c6 c7 c8 z0 z1 z2 z3 z4 z5 z6 z7 z8 : Value} {T : Nat} (hb : Below ((w.alloc (.cells #[c0, c1, c2, c3, c4, c5, c6, c7, c8] T)).alloc (.cells #[z0, z1, z2, z3, z4, z5, z6, z7, z8] T)).heap.size ((w.alloc (.cells #[c0, c1, c2, c3, c4, c5, c6, c7, c8] T)).alloc (.cells #[z0, z1, z2, z3, z4, z5, z6, z7, z8] T)) w1) :
    Holds9 w1 w.heap.size c0 c1 c2 c3 c4 c5 c6 c7 c8 ∧ Holds9 w1 (w.heap.size + 1) z0 z1 z2 z3 z4 z5 z6 z7 z8 ∧ (∀ i, w1.frozen? ⟨w.heap.size, i, none⟩ = false) ∧ (∀ i, w1.frozen? ⟨w.heap.size + 1, i, none⟩ = false) ∧ Below w.heap.size w w1 ∧ w.heap.size + 1 < w1.heap.size := by
  have hf := (bcell hb).2
  refine ⟨((Holds9.alloc w c0 c1 c2 c3 c4 c5 c6 c7 c8 T).allocs (by simp) _).below hb (by simp; omega), ?_, ?_, ?_, ?_, ?_⟩
  · have := (Holds9.alloc (w.alloc (.cells #[c0, c1, c2, c3, c4, c5, c6, c7, c8] T)) z0 z1 z2 z3 z4 z5 z6 z7 z8 T).below hb (by simp)
    simpa using this
  · intro i; rw [hf _ _ (by simp; omega)]; go_simp
  · intro i; rw [hf _ _ (by simp)]; go_simp
  · exact (((Below.refl _ _).alloc (Nat.le_refl _) _).alloc (by simp) _).trans (hb.mono (by simp; omega))
  · have := hb.size; simp at this; omega

/-- A new block of nine beside two that are there. -/
theorem fresh9 {w1 : World} {B R : Nat} {c0 c1 c2 c3 c4 c5 c6 c7 c8 z0 z1 z2 z3 z4 z5 z6 z7 z8 : Value} (v0 v1 v2 v3 v4 v5 v6 v7 v8 : Value) (T : Nat) (HB : Holds9 w1 B c0 c1 c2 c3 c4 c5 c6 c7 c8) (HR : Holds9 w1 R z0 z1 z2 z3 z4 z5 z6 z7 z8) (hB : B < w1.heap.size) (hR : R < w1.heap.size)
    (fB : ∀ i, w1.frozen? ⟨B, i, none⟩ = false) (fR : ∀ i, w1.frozen? ⟨R, i, none⟩ = false) :
    Holds9 (w1.alloc (.cells #[v0, v1, v2, v3, v4, v5, v6, v7, v8] T)) w1.heap.size v0 v1 v2 v3 v4 v5 v6 v7 v8 ∧ Holds9 (w1.alloc (.cells #[v0, v1, v2, v3, v4, v5, v6, v7, v8] T)) B c0 c1 c2 c3 c4 c5 c6 c7 c8 ∧ Holds9 (w1.alloc (.cells #[v0, v1, v2, v3, v4, v5, v6, v7, v8] T)) R z0 z1 z2 z3 z4 z5 z6 z7 z8 ∧
      (∀ i, (w1.alloc (.cells #[v0, v1, v2, v3, v4, v5, v6, v7, v8] T)).frozen? ⟨w1.heap.size, i, none⟩ = false) ∧ (∀ i, (w1.alloc (.cells #[v0, v1, v2, v3, v4, v5, v6, v7, v8] T)).frozen? ⟨B, i, none⟩ = false) ∧ (∀ i, (w1.alloc (.cells #[v0, v1, v2, v3, v4, v5, v6, v7, v8] T)).frozen? ⟨R, i, none⟩ = false) ∧ B ≠ w1.heap.size ∧ R ≠ w1.heap.size ∧ w1.heap.size ≠ B ∧ w1.heap.size ≠ R ∧ w1.heap.size < (w1.alloc (.cells #[v0, v1, v2, v3, v4, v5, v6, v7, v8] T)).heap.size := by
  have hf := (bcell (W := w1) ((Below.refl _ _).alloc (Nat.le_refl _) (.cells #[v0, v1, v2, v3, v4, v5, v6, v7, v8] T))).2
  refine ⟨Holds9.alloc w1 v0 v1 v2 v3 v4 v5 v6 v7 v8 T, HB.allocs hB _, HR.allocs hR _, fun i => by go_simp, fun i => by rw [hf _ _ hB]; exact fB i, fun i => by rw [hf _ _ hR]; exact fR i, by omega, by omega, by omega, by omega, by simp⟩

theorem Holds9.drewN {W : World} {B : Nat} {v0 v1 v2 v3 v4 v5 v6 v7 v8 : Value} (h : Holds9 W B v0 v1 v2 v3 v4 v5 v6 v7 v8) (n : Nat) : Holds9 (W.drewN n) B v0 v1 v2 v3 v4 v5 v6 v7 v8 := by
  obtain ⟨h0, h1, h2, h3, h4, h5, h6, h7, h8⟩ := h
  constructor <;> go_simp





theorem impl_CapUnpack_res {W : World} {B : Nat} {v0 v1 v2 v3 v4 v5 v6 v7 v8 x : Value} {tmps : Array Value} (hp : tmps.getD 4 undef = .pointer (some ⟨B, 0, none⟩)) (hx : tmps.getD 5 undef = x) (h : Holds9 W B v0 v1 v2 v3 v4 v5 v6 v7 v8) :
    (results Tryz.f6 tmps).run Tryz.prog W = .ok (.tuple #[.agg #[v0, v1, v2, v3, v4, v5, v6, v7, v8], x]) W := by
  obtain ⟨h0, h1, h2, h3, h4, h5, h6, h7, h8⟩ := h
  rw [results_cell_tmp Tryz.results6, hp, hx]
  simp [go_sem, *]

theorem spec_CapUnpack_res {W : World} {B : Nat} {v0 v1 v2 v3 v4 v5 v6 v7 v8 x : Value} {tmps : Array Value} (hp : tmps.getD 4 undef = .pointer (some ⟨B, 0, none⟩)) (hx : tmps.getD 5 undef = x) (h : Holds9 W B v0 v1 v2 v3 v4 v5 v6 v7 v8) :
    (results Tryz.f11 tmps).run Tryz.prog W = .ok (.tuple #[.agg #[v0, v1, v2, v3, v4, v5, v6, v7, v8], x]) W := by
  obtain ⟨h0, h1, h2, h3, h4, h5, h6, h7, h8⟩ := h
  rw [results_cell_tmp Tryz.results11, hp, hx]
  simp [go_sem, *]

theorem spec_l2Cap_res {W : World} {B : Nat} {v0 v1 v2 v3 v4 v5 v6 v7 v8 : Value} {tmps : Array Value} (hp : tmps.getD 2 undef = .pointer (some ⟨B, 0, none⟩)) (h : Holds9 W B v0 v1 v2 v3 v4 v5 v6 v7 v8) :
    (results Tryz.f31 tmps).run Tryz.prog W = .ok (.agg #[v0, v1, v2, v3, v4, v5, v6, v7, v8]) W := by
  obtain ⟨h0, h1, h2, h3, h4, h5, h6, h7, h8⟩ := h
  have hp2 : tmps[2]?.getD undef = .pointer (some ⟨B, 0, none⟩) := by simpa [Array.getD_eq_getD_getElem?] using hp
  simp [results, Tryz.results31, go_sem, *]

theorem spec_l2Spoil_res {W : World} {B : Nat} {v0 v1 v2 v3 v4 v5 v6 v7 v8 : Value} {tmps : Array Value} (hp : tmps.getD 4 undef = .pointer (some ⟨B, 0, none⟩)) (h : Holds9 W B v0 v1 v2 v3 v4 v5 v6 v7 v8) :
    (results Tryz.f47 tmps).run Tryz.prog W = .ok (.agg #[v0, v1, v2, v3, v4, v5, v6, v7, v8]) W := by
  obtain ⟨h0, h1, h2, h3, h4, h5, h6, h7, h8⟩ := h
  have hp2 : tmps[4]?.getD undef = .pointer (some ⟨B, 0, none⟩) := by simpa [Array.getD_eq_getD_getElem?] using hp
  simp [results, Tryz.results47, go_sem, *]

theorem spec_l2Half_res {W : World} {B : Nat} {v0 v1 v2 v3 v4 v5 v6 v7 v8 : Value} {tmps : Array Value} (hp : tmps.getD 2 undef = .pointer (some ⟨B, 0, none⟩)) (h : Holds9 W B v0 v1 v2 v3 v4 v5 v6 v7 v8) :
    (results Tryz.f15 tmps).run Tryz.prog W = .ok (.agg #[v0, v1, v2, v3, v4, v5, v6, v7, v8]) W := by
  obtain ⟨h0, h1, h2, h3, h4, h5, h6, h7, h8⟩ := h
  have hp2 : tmps[2]?.getD undef = .pointer (some ⟨B, 0, none⟩) := by simpa [Array.getD_eq_getD_getElem?] using hp
  simp [results, Tryz.results15, go_sem, *]

end Go.Proofs.YthmambhagheocaaGreatDoor
