/-
  Rows of numbers: what the laws' copy, size and compare of them answer, and the compares of the program and of the specification.
-/
import Derived.Test.YtjiignkappabpaaDoorRowG
import Derived.Test.YtjiignkappabpaaDoorQuietFast
namespace Go.Proofs.YtjiignkappabpaaDoor
open Go.ChangeShapes Go.WideShapes Go.ChangeAt Go.RowKit
set_option linter.unusedVariables false

/-- How far two rows are the same. -/
def sameTo {α : Type} (L M : List α) (k : Nat) : Prop := L.take k = M.take k
theorem sameTo_next {α : Type} {L M : List α} {k : Nat} (h : sameTo L M k) (h1 : k < L.length) (h2 : k < M.length) (e : L[k] = M[k]) : sameTo L M (k + 1) := by
  unfold sameTo at *
  rw [List.take_succ_eq_append_getElem h1, List.take_succ_eq_append_getElem h2, h, e]
theorem sameTo_end {α : Type} {L M : List α} {k : Nat} (h : sameTo L M k) (h1 : L.length ≤ k) (h2 : L.length = M.length) : L = M := by
  unfold sameTo at h
  rwa [List.take_of_length_le h1, List.take_of_length_le (by omega)] at h
theorem ne_at {α : Type} {L M : List α} {k : Nat} (h1 : k < L.length) (h2 : k < M.length) (e : L[k] ≠ M[k]) : L ≠ M := fun h => e (by subst h; rfl)

/-- What is left of a number, or -1. -/
def szR (t a : Int) : Int := if t ≤ a then a - t else -1
theorem szR_pos {t a : Int} (h : t ≤ a) : szR t a = a - t := if_pos h
theorem szR_neg {t a : Int} (h : ¬ t ≤ a) : szR t a = -1 := if_neg h

/-- Numbers, one cell each. -/
def fI : Form Int := ⟨1, fun a => [.int .i64 a], fun _ => rfl, by decide⟩
theorem atI {W : World} {B O : Nat} {L : List Int} (h : LiesG fI W (some ⟨B, O, none⟩) L) {k : Nat} (hk : k < L.length) : W.cell? ⟨B, O + k, none⟩ = some (.int .i64 L[k]) := by
  have := h.at hk 0 _ rfl
  simpa [fI] using this
theorem infoI : (Tryd.prog.info? 3).map (fun i => (i.zero, i.size, i.bytes)) = some (some (.int .i64 0), 1, 8) := by kernel_rfl
/-- What stands between two rounds: the first k are copied. -/
def toIInv (w : World) (L : List Int) (i : Value) (w' : World) : Prop :=
  ∃ k : Nat, k ≤ L.length ∧ i = .int .i64 k ∧ LiesG fI w' (some ⟨w.heap.size, 0, none⟩) (L.take k) ∧ RoomG fI w' w.heap.size L.length ∧ Below w.heap.size w w'

def eqIspecInv (w : World) (L M : List Int) (i : Value) (w' : World) : Prop :=
  ∃ k : Nat, k ≤ L.length ∧ i = .int .i64 k ∧ sameTo L M k ∧ Below w.heap.size w w'

def eqIimplInv (w : World) (L M : List Int) (i : Value) (w' : World) : Prop :=
  ∃ k : Nat, k ≤ L.length ∧ i = .int .i64 k ∧ sameTo L M k ∧ Below w.heap.size w w'

def eqIlawInv (w : World) (L M : List Int) (i : Value) (w' : World) : Prop :=
  ∃ k : Nat, k ≤ L.length ∧ i = .int .i64 k ∧ sameTo L M k ∧ Below w.heap.size w w'

/-- Numbers, one cell each. -/
def fU : Form Int := ⟨1, fun a => [.int .u32 a], fun _ => rfl, by decide⟩
theorem atU {W : World} {B O : Nat} {L : List Int} (h : LiesG fU W (some ⟨B, O, none⟩) L) {k : Nat} (hk : k < L.length) : W.cell? ⟨B, O + k, none⟩ = some (.int .u32 L[k]) := by
  have := h.at hk 0 _ rfl
  simpa [fU] using this
theorem infoU : (Tryd.prog.info? 126).map (fun i => (i.zero, i.size, i.bytes)) = some (some (.int .u32 0), 1, 4) := by kernel_rfl
/-- What stands between two rounds: the first k are copied. -/
def toUInv (w : World) (L : List Int) (i : Value) (w' : World) : Prop :=
  ∃ k : Nat, k ≤ L.length ∧ i = .int .i64 k ∧ LiesG fU w' (some ⟨w.heap.size, 0, none⟩) (L.take k) ∧ RoomG fU w' w.heap.size L.length ∧ Below w.heap.size w w'

def eqUspecInv (w : World) (L M : List Int) (i : Value) (w' : World) : Prop :=
  ∃ k : Nat, k ≤ L.length ∧ i = .int .i64 k ∧ sameTo L M k ∧ Below w.heap.size w w'

def eqUimplInv (w : World) (L M : List Int) (i : Value) (w' : World) : Prop :=
  ∃ k : Nat, k ≤ L.length ∧ i = .int .i64 k ∧ sameTo L M k ∧ Below w.heap.size w w'

def eqUlawInv (w : World) (L M : List Int) (i : Value) (w' : World) : Prop :=
  ∃ k : Nat, k ≤ L.length ∧ i = .int .i64 k ∧ sameTo L M k ∧ Below w.heap.size w w'

end Go.Proofs.YtjiignkappabpaaDoor
