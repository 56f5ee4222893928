/-
  Rows of values of one cell each, of any kind.
-/
import Derived.Test.YthmambhagheocaaGreatDoorRowG
namespace Go.Proofs.YthmambhagheocaaGreatDoor
open Go.ChangeShapes Go.WideShapes Go.ChangeAt Go.RowKit
set_option linter.unusedVariables false

/-- Values, one cell each. -/
def fV : Form Value := ⟨1, fun v => [v], fun _ => rfl, by decide⟩
theorem atV {W : World} {B : Nat} {L : List Value} (h : LiesG fV W (some ⟨B, 0, none⟩) L) (k : Nat) (v : Value) (hk : L[k]? = some v) : W.cell? ⟨B, k, none⟩ = some v := by
  obtain ⟨hlt, e⟩ := List.getElem?_eq_some_iff.1 hk
  have := h.at hlt 0 _ rfl
  rw [e] at this
  simpa [fV] using this
theorem mkV {W : World} {B : Nat} {L : List Value} (h : ∀ k v, L[k]? = some v → W.cell? ⟨B, k, none⟩ = some v) : LiesG fV W (some ⟨B, 0, none⟩) L := by
  refine ⟨.inr ⟨_, _, rfl⟩, fun B' O' e i hi j hj => ?_⟩
  injection e with e
  injection e with e1 e2
  subst e1
  subst e2
  have hj0 : j = 0 := by simp [fV] at hj; omega
  subst hj0
  have hn : 0 + i * fV.n + 0 = i := by simp [fV]
  rw [hn, h i L[i] (List.getElem?_eq_getElem hi)]
  rfl
theorem setV {W : World} {B j : Nat} {L : List Value} (h : LiesG fV W (some ⟨B, 0, none⟩) L) (hj : j < L.length) (v : Value) : LiesG fV (W.setCell ⟨B, j, none⟩ v) (some ⟨B, 0, none⟩) (L.set j v) := by
  apply mkV
  intro k u hk
  by_cases e : k = j
  · subst e
    rw [List.getElem?_set_self hj] at hk
    cases hk
    exact World.cell?_setCell_same' W ⟨B, k, none⟩ _ (by rw [atV h k L[k] (List.getElem?_eq_getElem hj)]; rfl)
  · rw [List.getElem?_set_ne (fun e' => e e'.symm)] at hk
    have h1 := atV h k u hk
    rw [World.cell?_setCell_other (h := by intro e'; injection e' with e1 e2; exact e e2.symm)]
    exact h1

end Go.Proofs.YthmambhagheocaaGreatDoor
