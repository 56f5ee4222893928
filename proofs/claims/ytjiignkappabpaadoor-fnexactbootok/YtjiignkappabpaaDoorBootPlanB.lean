/-
  Plans: the specification's checks and the program's say the same, as plain functions.
-/
import Derived.Test.YtjiignkappabpaaDoorBootParts
import Derived.Test.YtjiignkappabpaaDoorBootLnkS
import Derived.Test.YtjiignkappabpaaDoorBootDoms
namespace Go.Proofs.YtjiignkappabpaaDoor
open Go.ChangeShapes Go.WideShapes Go.ChangeAt Go.RowKit
set_option linter.unusedVariables false

/-- What the specification asks of a plan. -/
def planSB (p : Int × List QD × List LP) : Bool :=
  (withinB p.1 9 12 && (withinB (p.2.1.length : Int) 1 3 && decide ((p.2.2.length : Int) ≤ 6))) && (domsB p.2.2 0 p.2.1 && (p.2.2.all (linkOkB p.2.1.length) && decide (lastE (partsS p.2.1 p.2.2) ≤ sizeI p.1)))

theorem lastE_lay : ∀ (r : List (Int × Int)) (A : List QA), lastE (layP A r) = r.foldl (fun a x => layE a x.1) (lastE A)
  | [], _ => rfl
  | x :: r, A => by simp only [layP, List.foldl_cons, lastE_lay r, lastE_snoc]; rfl
theorem szI_1 {b : Int} (h : withinB b 5 8 = true) : szI 1 b = sizeI b := by
  simp [withinB] at h
  simp [szI]; omega
theorem foldD : ∀ (D : List QD) (i : Nat) (a : Int), D.all domB = true → (sizesS i D).foldl (fun a x => layE a x.1) a = endD a D
  | [], _, _, _ => rfl
  | d :: D, i, a, h => by
    simp only [List.all_cons, Bool.and_eq_true] at h
    have hb : withinB d.bt 5 8 = true := by have := h.1; simp only [domB, Bool.and_eq_true] at this; exact this.1
    simp only [sizesS, List.foldl_cons, foldD D _ _ h.2, endD, szI_1 hb]
theorem foldL : ∀ (L : List LP) (i : Nat) (a : Int), (sizesK i L).foldl (fun a x => layE a x.1) a = endL a L
  | [], _, _ => rfl
  | x :: L, i, a => by simp only [sizesK, List.foldl_cons, foldL L, endL]
theorem lastE_parts (D : List QD) (L : List LP) (h : D.all domB = true) : lastE (partsS D L) = endI D L := by
  unfold partsS endI
  rw [lastE_lay, lastE_lay, foldD D _ _ h, foldL, lastE_nil]
theorem all_and {α : Type} (p q : α → Bool) : ∀ L : List α, L.all (fun x => p x && q x) = (L.all p && L.all q)
  | [] => rfl
  | x :: L => by simp only [List.all_cons, all_and p q L]; cases p x <;> cases q x <;> cases L.all p <;> cases L.all q <;> rfl
theorem planSB_eq (p : Int × List QD × List LP) : planSB p = planB p := by
  obtain ⟨b, D, L⟩ := p
  unfold planSB planB
  simp only
  have hl : L.all (linkOkB D.length) = (L.all (linkB D.length) && L.all (fun x => decide ((x.2.2.length : Int) ≤ 15))) := all_and _ _ L
  rw [domsB_eq, hl]
  unfold countB
  by_cases hD : D.all domB = true
  · rw [lastE_parts D L hD, hD]
    generalize withinB b 9 12 = x1
    generalize withinB (D.length : Int) 1 3 = x2
    generalize decide ((L.length : Int) ≤ 6) = x3
    generalize L.all (fun x => decide ((x.2.2.length : Int) ≤ 15)) = x4
    generalize namedB L 0 D = x5
    generalize L.all (linkB D.length) = x6
    generalize decide (endI D L ≤ sizeI b) = x7
    cases x1 <;> cases x2 <;> cases x3 <;> cases x4 <;> cases x5 <;> cases x6 <;> cases x7 <;> rfl
  · have hD2 : D.all domB = false := by simpa using hD
    rw [hD2]
    simp

end Go.Proofs.YtjiignkappabpaaDoor
