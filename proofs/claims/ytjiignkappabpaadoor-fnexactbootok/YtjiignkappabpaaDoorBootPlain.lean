/-
  Plans: what the checks of one say, and where its parts are laid, as plain functions.
-/
import Derived.Test.YtjiignkappabpaaDoorBootPlan
import Derived.Test.YtjiignkappabpaaDoorOkay
import Derived.Test.YtjiignkappabpaaDoorParts
namespace Go.Proofs.YtjiignkappabpaaDoor
open Go.ChangeShapes Go.WideShapes Go.ChangeAt Go.RowKit
set_option linter.unusedVariables false

abbrev LP := Int × Int × List QO
/-- A domain is as it should be. -/
def domB (d : QD) : Bool := withinB d.bt 5 8 && (withinB d.pr 0 7 && withinB d.mx 0 7)
/-- The greatest badge of a kind that is shared. -/
def badgeI (k : Int) : Int := if k = 6 then 0 else 65535
/-- One who gets something is as it should be. -/
def toB (k n : Int) (t : QO) : Bool := withinB t.dm 0 (n - 1) && (withinB t.rt 0 (maxI k) && withinB t.bd 0 (badgeI k))
/-- Something shared is as it should be, as far as its size goes. -/
def kindB (x : LP) : Bool := withinB x.1 4 6 && !(szI x.1 x.2.1 == 0)
def linkB (n : Int) (x : LP) : Bool := kindB x && x.2.2.all (toB x.1 n)
/-- How often a domain is named. -/
def namedN (i : Int) : List LP → Nat
  | [] => 0
  | x :: L => x.2.2.countP (fun t => t.dm == i) + namedN i L
theorem namedN_append (i : Int) : ∀ (L M : List LP), namedN i (L ++ M) = namedN i L + namedN i M
  | [], _ => by simp [namedN]
  | x :: L, M => by simp [namedN, namedN_append i L M]; omega
/-- No domain from a number on is named too often. -/
def namedB (L : List LP) : Nat → List QD → Bool
  | _, [] => true
  | i, _ :: D => decide (namedN i L ≤ 5) && namedB L (i + 1) D
/-- There are neither too few nor too many of anything. -/
def countB (D : List QD) (L : List LP) : Bool := withinB (D.length : Int) 1 3 && decide ((L.length : Int) ≤ 6) && L.all (fun x => decide ((x.2.2.length : Int) ≤ 15))

/-- A part, laid at or behind a place: where it ends. -/
def layE (at_ s : Int) : Int := upI at_ s + s
def endD : Int → List QD → Int
  | a, [] => a
  | a, d :: D => endD (layE (layE (layE a 32) 32) (szI 1 d.bt)) D
def endL : Int → List LP → Int
  | a, [] => a
  | a, x :: L => endL (layE a (szI x.1 x.2.1)) L
/-- Where the last part ends. -/
def endI (D : List QD) (L : List LP) : Int := endL (endD 128 D) L

/-- A plan is one. -/
def planB (p : Int × List QD × List LP) : Bool :=
  countB p.2.1 p.2.2 && (withinB p.1 9 12 && (p.2.1.all domB && namedB p.2.2 0 p.2.1) && p.2.2.all (linkB p.2.1.length)) && decide (endI p.2.1 p.2.2 ≤ sizeI p.1)

theorem upI_bound (a s : Int) (ha : 0 ≤ a) (hs : 0 ≤ s) (hs2 : s ≤ 4096) : 0 ≤ upI a s ∧ upI a s ≤ 8192 := by
  unfold upI
  by_cases h : fineB a s = true
  · have hf := fineB_true h
    rw [if_pos h]
    have h1 := Int.emod_nonneg a (show s ≠ 0 by omega)
    have h2 := Int.emod_lt_of_pos a (show 0 < s by omega)
    split <;> omega
  · rw [if_neg h]; omega
theorem szI_bound (k b : Int) : 0 ≤ szI k b ∧ szI k b ≤ 4096 := by
  have hs := sizeI_bd b
  have h5 : 1 ≤ b → b ≤ 5 → sizeI b ≤ 32 := by
    intro h1 h2
    have : b = 1 ∨ b = 2 ∨ b = 3 ∨ b = 4 ∨ b = 5 := by omega
    rcases this with rfl | rfl | rfl | rfl | rfl <;> decide
  unfold szI
  repeat' split
  all_goals first | omega | (have := h5 (by omega) (by omega); omega)
theorem layE_bound (a s : Int) (ha : 0 ≤ a) (hs : 0 ≤ s) (hs2 : s ≤ 4096) : 0 ≤ layE a s ∧ layE a s ≤ 12288 := by
  have := upI_bound a s ha hs hs2
  unfold layE
  omega
theorem endD_bound : ∀ (D : List QD) (a : Int), 0 ≤ a → a ≤ 12288 → 0 ≤ endD a D ∧ endD a D ≤ 12288
  | [], a, h0, h1 => ⟨h0, h1⟩
  | d :: D, a, h0, h1 => by
    have e1 := layE_bound a 32 h0 (by omega) (by omega)
    have e2 := layE_bound _ 32 e1.1 (by omega) (by omega)
    have e3 := layE_bound _ (szI 1 d.bt) e2.1 (szI_bound _ _).1 (szI_bound _ _).2
    exact endD_bound D _ e3.1 e3.2
theorem endL_bound : ∀ (L : List LP) (a : Int), 0 ≤ a → a ≤ 12288 → 0 ≤ endL a L ∧ endL a L ≤ 12288
  | [], a, h0, h1 => ⟨h0, h1⟩
  | x :: L, a, h0, h1 => by
    have e3 := layE_bound a (szI x.1 x.2.1) h0 (szI_bound _ _).1 (szI_bound _ _).2
    exact endL_bound L _ e3.1 e3.2

end Go.Proofs.YtjiignkappabpaaDoor
