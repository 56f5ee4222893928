/-
  Slots: the eleven cells of one; a list of them in memory.
-/
import Derived.Test.YthmambhagheocaaGreatDoorOkay
import Derived.Test.YthmambhagheocaaGreatDoorMem
namespace Go.Proofs.YthmambhagheocaaGreatDoor
open Go.ChangeShapes Go.WideShapes Go.ChangeAt Go.RowKit
set_option linter.unusedVariables false

/-- A slot: its At, the nine fields of its capability, its Depth. -/
structure Sl where
  t : Int
  k : Int
  e : Int
  b : Int
  r : Int
  d : Int
  g : Int
  q : Int
  f : Int
  o : Bool
  p : Int

instance : Inhabited Sl := ⟨⟨0, 0, 0, 0, 0, 0, 0, 0, 0, false, 0⟩⟩

/-- Its integers are such of 64 bits. -/
structure Sl.Fit (s : Sl) : Prop where
  t : -9223372036854775808 ≤ s.t ∧ s.t ≤ 9223372036854775807
  r : -9223372036854775808 ≤ s.r ∧ s.r ≤ 9223372036854775807
  p : -9223372036854775808 ≤ s.p ∧ s.p ≤ 9223372036854775807

/-- Eleven cells from an offset on. -/
structure At11 (W : World) (B O : Nat) (s : Sl) : Prop where
  c0 : W.cell? ⟨B, O, none⟩ = some (.int .i64 s.t)
  c1 : W.cell? ⟨B, O + 1, none⟩ = some (.int .i64 s.k)
  c2 : W.cell? ⟨B, O + 2, none⟩ = some (.int .i64 s.e)
  c3 : W.cell? ⟨B, O + 3, none⟩ = some (.int .i64 s.b)
  c4 : W.cell? ⟨B, O + 4, none⟩ = some (.int .i64 s.r)
  c5 : W.cell? ⟨B, O + 5, none⟩ = some (.int .i64 s.d)
  c6 : W.cell? ⟨B, O + 6, none⟩ = some (.int .i64 s.g)
  c7 : W.cell? ⟨B, O + 7, none⟩ = some (.int .i64 s.q)
  c8 : W.cell? ⟨B, O + 8, none⟩ = some (.int .i64 s.f)
  c9 : W.cell? ⟨B, O + 9, none⟩ = some (.bool s.o)
  c10 : W.cell? ⟨B, O + 10, none⟩ = some (.int .i64 s.p)

/-- A list of slots in memory. -/
structure Lies (W : World) (P : Option Addr) (L : List Sl) : Prop where
  place : L = [] ∨ ∃ B O, P = some ⟨B, O, none⟩
  cells : ∀ B O, P = some ⟨B, O, none⟩ → ∀ i (h : i < L.length), At11 W B (O + i * 11) L[i]

theorem Lies.some {W : World} {P : Option Addr} {L : List Sl} (h : Lies W P L) {i : Nat} (hi : i < L.length) : ∃ B O, P = some ⟨B, O, none⟩ := by
  rcases h.place with e | e
  · subst e; exact absurd hi (Nat.not_lt_zero _)
  · exact e

theorem At11.lt {W : World} {B O : Nat} {s : Sl} (h : At11 W B O s) : B < W.heap.size := block_lt_of_cell h.c0

theorem At11.of {W W' : World} {B O : Nat} {s : Sl} (h : At11 W B O s) (hc : ∀ j, W'.cell? ⟨B, O + j, none⟩ = W.cell? ⟨B, O + j, none⟩) : At11 W' B O s :=
  ⟨(hc 0).trans h.c0, (hc 1).trans h.c1, (hc 2).trans h.c2, (hc 3).trans h.c3, (hc 4).trans h.c4, (hc 5).trans h.c5, (hc 6).trans h.c6, (hc 7).trans h.c7, (hc 8).trans h.c8, (hc 9).trans h.c9, (hc 10).trans h.c10⟩

theorem Lies.below {W W' : World} {P : Option Addr} {L : List Sl} (h : Lies W P L) (hb : Below W.heap.size W W') : Lies W' P L :=
  ⟨h.place, fun B O e i hi => (h.cells B O e i hi).of fun j => (bcell hb).1 _ _ (h.cells B O e i hi).lt⟩

theorem Lies.nil (W : World) (P : Option Addr) : Lies W P [] := ⟨.inl rfl, fun _ _ _ i hi => absurd hi (Nat.not_lt_zero _)⟩

theorem Lies.take {W : World} {P : Option Addr} {L : List Sl} (h : Lies W P L) (k : Nat) : Lies W P (L.take k) := by
  refine ⟨?_, fun B O e i hi => ?_⟩
  · rcases h.place with e | e
    · left; rw [e]; simp
    · exact .inr e
  · have hi' : i < L.length := by simp at hi; omega
    rw [List.getElem_take]
    exact h.cells B O e i hi'

end Go.Proofs.YthmambhagheocaaGreatDoor
