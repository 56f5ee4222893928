/-
  What markTreeSlotS of the laws writes and answers.
-/
import Derived.Test.YtalncgmncafhjaaRows3
namespace Go.Proofs.Ytalncgmncafhjaa
open Go.ChangeShapes Go.WideShapes Go.ChangeAt Go.RowKit
set_option linter.unusedVariables false

/-- The slot that is written from a number on. -/
def mkS (k : Int) : Sl := ⟨k, k + 1, k + 1 + 1, k + 1 + 1 + 1, k + 1 + 1 + 1 + 1, k + 1 + 1 + 1 + 1 + 1, k + 1 + 1 + 1 + 1 + 1 + 1, k + 1 + 1 + 1 + 1 + 1 + 1 + 1, k + 1 + 1 + 1 + 1 + 1 + 1 + 1 + 1, (k + 1 + 1 + 1 + 1 + 1 + 1 + 1 + 1 + 1) % 3 == 0, k + 1 + 1 + 1 + 1 + 1 + 1 + 1 + 1 + 1 + 1⟩
/-- So many of them. -/
def mkL (k : Int) : Nat → List Sl
  | 0 => []
  | n + 1 => mkL k n ++ [mkS (k + 11 * (n : Int))]
theorem mkL_length (k : Int) : ∀ n, (mkL k n).length = n
  | 0 => rfl
  | n + 1 => by simp [mkL, mkL_length k n]
theorem mkL_get (k : Int) : ∀ (n i : Nat) (h : i < (mkL k n).length), (mkL k n)[i] = mkS (k + 11 * (i : Int))
  | 0, i, h => absurd h (by simp [mkL])
  | n + 1, i, h => by
    have hl := mkL_length k n
    by_cases e : i < n
    · have := mkL_get k n i (by omega)
      simp only [mkL]
      rw [List.getElem_append_left (by omega)]
      exact this
    · have hi : i = n := by have := mkL_length k (n + 1); omega
      subst hi
      simp only [mkL]
      rw [List.getElem_append_right (by omega)]
      simp [hl]

theorem grownBy_setCells (W : World) (B O : Nat) (vs : List Value) : W.grownBy (W.setCells B O vs) (some B) := by
  induction vs generalizing O W with
  | nil => exact ⟨rfl, rfl, rfl, Nat.le_refl _, fun _ _ _ => rfl⟩
  | cons v vs ih =>
    have h1 := ih (W.setCell ⟨B, O, none⟩ v) (O + 1)
    have hb : ∀ k, some k ≠ some B → (W.setCell ⟨B, O, none⟩ v).heap[k]? = W.heap[k]? := fun k hk => Below.heap_setCell _ _ _ k (fun e => hk (by rw [e]))
    refine ⟨h1.os, h1.tape, h1.output, ?_, fun k hk hne => ?_⟩
    · have h2 : W.heap.size ≤ (W.setCell ⟨B, O, none⟩ v).heap.size := by simp
      exact Nat.le_trans h2 h1.size
    · exact (h1.block k (by simpa using hk) hne).trans (hb k hne)
theorem grownBy_trans {A B C : World} {row : Option Nat} (h : A.grownBy B row) (k : B.grownBy C row) : A.grownBy C row :=
  ⟨k.os.trans h.os, k.tape.trans h.tape, k.output.trans h.output, Nat.le_trans h.size k.size, fun j hj hne => (k.block j (Nat.lt_of_lt_of_le hj h.size) hne).trans (h.block j hj hne)⟩

/-- One slot of a list is written anew. -/
theorem lies_write {W : World} {B O : Nat} {A C : List Sl} {x : Sl} (y : Sl) (h : Lies W (some ⟨B, O, none⟩) (A ++ x :: C)) : Lies (W.setCells B (O + A.length * 11) (cellsOf y)) (some ⟨B, O, none⟩) (A ++ y :: C) := by
  refine ⟨.inr ⟨B, O, rfl⟩, fun B' O' e i hi => ?_⟩
  cases e
  have hlen : (A ++ x :: C).length = (A ++ y :: C).length := by simp
  have ho := h.cells B O rfl i (by omega)
  by_cases e : i = A.length
  · subst e
    rw [List.getElem_append_right (Nat.le_refl _)]
    simp only [Nat.sub_self, List.getElem_cons_zero]
    apply At11.mk'
    intro j hj
    have hx := World.cell?_setCells_in B (cellsOf y) (O + A.length * 11) W (fun t ht => by
      have := ho.get t ht
      rw [this, List.getElem?_eq_getElem (show t < (cellsOf ((A ++ x :: C)[A.length]'(by simp))).length from ht)]; rfl) j hj
    rw [hx, List.getElem?_eq_getElem hj]
  · have hsame : (A ++ x :: C)[i]'(by omega) = (A ++ y :: C)[i] := by
      by_cases e2 : i < A.length
      · rw [List.getElem_append_left e2, List.getElem_append_left e2]
      · rw [List.getElem_append_right (by omega), List.getElem_append_right (by omega)]
        obtain ⟨t, ht⟩ : ∃ t, i - A.length = t + 1 := ⟨i - A.length - 1, by omega⟩
        simp only [ht, List.getElem_cons_succ]
    rw [← hsame]
    exact ho.apart (fun _ => by omega)

/-- What stands between two rounds. -/
def markInv (w : World) (B O : Nat) (L : List Sl) (k : Int) (v i : Value) (w' : World) : Prop :=
  ∃ t : Nat, t ≤ L.length ∧ i = .int .i64 (t : Int) ∧ v = .int .i64 (k + 11 * (t : Int)) ∧ Lies w' (some ⟨B, O, none⟩) (mkL k t ++ L.drop t) ∧ (∀ j, w'.frozen? ⟨B, j, none⟩ = false) ∧ w.grownBy w' (some B)

/-- What stands between two rounds. -/
def heldInv (w : World) (L : List Sl) (k : Int) (v i : Value) (w' : World) : Prop :=
  ∃ t : Nat, t ≤ L.length ∧ i = .int .i64 (t : Int) ∧ v = .int .i64 (k + 11 * (t : Int)) ∧ w' = w

end Go.Proofs.Ytalncgmncafhjaa
