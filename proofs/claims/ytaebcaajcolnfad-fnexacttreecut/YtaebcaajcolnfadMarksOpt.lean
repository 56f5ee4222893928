/-
  Marks over a row that may be nil; rows that their world owns.
-/
import Derived.Test.YtaebcaajcolnfadMarks3
import Derived.Test.YtaebcaajcolnfadFindImpl
import Derived.Test.YtaebcaajcolnfadEqSlots
namespace Go.Proofs.Ytaebcaajcolnfad
open Go.ChangeShapes Go.WideShapes Go.ChangeAt Go.RowKit
set_option linter.unusedVariables false

/-- A row that lies at or above a bound, and may be written; or none. -/
structure Own (base : Nat) (w : World) (P : Option Addr) (R : List Sl) : Prop where
  lies : Lies w P R
  spot : (P = none ∧ R = []) ∨ ∃ B, P = some ⟨B, 0, none⟩ ∧ base ≤ B ∧ B < w.heap.size ∧ ∀ j, w.frozen? ⟨B, j, none⟩ = false

theorem Own.below {base : Nat} {w w' : World} {P : Option Addr} {R : List Sl} (h : Own base w P R) (hb : Below w.heap.size w w') : Own base w' P R :=
  ⟨h.lies.below hb, h.spot.imp id fun ⟨B, e, h1, h2, h3⟩ => ⟨B, e, h1, Nat.lt_of_lt_of_le h2 hb.size, fun j => (hb.frozen (p := ⟨B, j, none⟩) h2).trans (h3 j)⟩⟩

theorem Own.mono {base base' : Nat} {w : World} {P : Option Addr} {R : List Sl} (h : Own base w P R) (hb : base' ≤ base) : Own base' w P R :=
  ⟨h.lies, h.spot.imp id fun ⟨B, e, h1, h2, h3⟩ => ⟨B, e, Nat.le_trans hb h1, h2, h3⟩⟩

/-- A row that another row's marks do not reach. -/
theorem lies_grown_opt {W W' : World} {row : Option Nat} {P : Option Addr} {L : List Sl} (h : Lies W P L) (hg : W.grownBy W' row) (hne : ∀ B O, P = some ⟨B, O, none⟩ → some B ≠ row) : Lies W' P L := by
  rcases h.place with e | ⟨B, O, rfl⟩
  · subst e; exact Lies.nil _ _
  · cases L with
    | nil => exact Lies.nil _ _
    | cons x xs => exact lies_grown h hg (hne B O rfl) (h.cells B O rfl 0 (by simp)).lt

theorem Own.grown {base : Nat} {w w' : World} {row : Option Nat} {P : Option Addr} {R : List Sl} (h : Own base w P R) (hg : w.grownBy w' row) (hne : ∀ B, P = some ⟨B, 0, none⟩ → some B ≠ row) : Own base w' P R := by
  rcases h.spot with ⟨rfl, rfl⟩ | ⟨B, rfl, h1, h2, h3⟩
  · exact ⟨Lies.nil _ _, .inl ⟨rfl, rfl⟩⟩
  · refine ⟨lies_grown h.lies hg (hne B rfl) h2, .inr ⟨B, rfl, h1, Nat.lt_of_lt_of_le h2 hg.size, fun j => ?_⟩⟩
    exact (World.frozen?_of_block (w := w) (hg.block B h2 (hne B rfl))).trans (h3 j)

set_option maxRecDepth 100000 in
set_option maxHeartbeats 1000000 in
theorem markSlots_nil (c : Nat) (k : Int) (w : World) (hk0 : 0 ≤ k) (hk1 : k ≤ 1000) :
    Calls Try.prog 9 #[.slice none 0 c, .int .i64 k] w fun e w' => e = .returned (.int .i64 k) ∧ w = w' := by
  go_enter Try.func9, Try.ntmps9
  go_wp2
  go_loopw [1, 5] (fun v i w' => v = .int .i64 k ∧ i = .int .i64 0 ∧ w' = w) (fun v i w' => 0)
  case atStart => exact ⟨rfl, rfl, rfl⟩
  case round =>
    obtain ⟨rfl, rfl, rfl⟩ := hrel
    go_wp2
    go_ret
    exact ⟨rfl, rfl⟩

set_option maxRecDepth 100000 in
set_option maxHeartbeats 1000000 in
theorem heldSlots_nil (c : Nat) (k : Int) (w : World) (hk0 : 0 ≤ k) (hk1 : k ≤ 1000) :
    Calls Try.prog 10 #[.slice none 0 c, .int .i64 k] w fun e w' => e = .returned (.int .i64 k) ∧ w = w' := by
  go_enter Try.func10, Try.ntmps10
  go_wp2
  go_loopw [1, 5] (fun v i w' => v = .int .i64 k ∧ i = .int .i64 0 ∧ w' = w) (fun v i w' => 0)
  case atStart => exact ⟨rfl, rfl, rfl⟩
  case round =>
    obtain ⟨rfl, rfl, rfl⟩ := hrel
    go_wp2
    go_ret
    exact ⟨rfl, rfl⟩

theorem markSlots_own (base : Nat) (P : Option Addr) (c n : Nat) (L : List Sl) (k : Int) (w : World) (hn : n = L.length) (hl : n ≤ 1048577) (h : Own base w P L) (hk0 : 0 ≤ k) (hk1 : k ≤ 1000) :
    Calls Try.prog 9 #[.slice P n c, .int .i64 k] w fun e w' => e = .returned (.int .i64 (k + 11 * (n : Int))) ∧ Own base w' P (mkL k n) ∧ ∃ row, w.grownBy w' row ∧ ∀ B, row = some B → P = some ⟨B, 0, none⟩ := by
  subst hn
  rcases h.spot with ⟨rfl, rfl⟩ | ⟨B, rfl, h1, h2, h3⟩
  · refine (markSlots_nil c k w hk0 hk1).mono ?_
    rintro e w' ⟨rfl, rfl⟩
    exact ⟨by simp, ⟨Lies.nil _ _, .inl ⟨rfl, rfl⟩⟩, none, ⟨rfl, rfl, rfl, Nat.le_refl _, fun _ _ _ => rfl⟩, fun B e => by cases e⟩
  · refine (markSlots_any B 0 c L k w hl h.lies h3 hk0 hk1).mono ?_
    rintro e w' ⟨rfl, hL, hz, hg⟩
    exact ⟨rfl, ⟨hL, .inr ⟨B, rfl, h1, Nat.lt_of_lt_of_le h2 hg.size, hz⟩⟩, some B, hg, fun B' e => by cases e; rfl⟩

theorem heldSlots_own (base : Nat) (P : Option Addr) (c n : Nat) (k : Int) (w : World) (hl : n ≤ 1048577) (h : Own base w P (mkL k n)) (hk0 : 0 ≤ k) (hk1 : k ≤ 1000) :
    Calls Try.prog 10 #[.slice P n c, .int .i64 k] w fun e w' => e = .returned (.int .i64 (k + 11 * (n : Int))) ∧ w = w' := by
  rcases h.spot with ⟨rfl, e⟩ | ⟨B, rfl, h1, h2, h3⟩
  · have hn : n = 0 := by have := congrArg List.length e; rwa [mkL_length] at this
    subst hn
    refine (heldSlots_nil c k w hk0 hk1).mono ?_
    rintro e w' ⟨rfl, rfl⟩
    exact ⟨by simp, rfl⟩
  · exact heldSlots_any B 0 c n k w hl h.lies hk0 hk1

end Go.Proofs.Ytaebcaajcolnfad
