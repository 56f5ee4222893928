/-
  What the five functions of chapter 1 answer, those of the specification and those of the program, each at every argument.
-/
import Derived.Test.YthmambhagheocaaGreatDoorRest
import Derived.Deep.QuietTactic
import Derived.BigQuiet
namespace Go.Proofs.YthmambhagheocaaGreatDoor
open Go.ChangeShapes Go.WideShapes Go.ChangeAt Go.RowKit
set_option linter.unusedVariables false

theorem ret_bool {a b : Bool} (h : a = b) : Ending.returned (.bool a) = .returned (.bool b) := by rw [h]

def alignB (a s : Int) : Bool := fineB a s && (a % s == 0)
def meetB (a s b t : Int) : Bool := fineB a s && fineB b t && decide (a < b + t) && decide (b < a + s)
def inB (a s b t : Int) : Bool := fineB a s && fineB b t && decide (b ≤ a) && decide (a + s ≤ b + t)
def upI (a s : Int) : Int := if fineB a s = true then (if a % s = 0 then a else a + s - a % s) else 0

theorem alignSpec_any (a s : Int) (w : World) :
    Calls Tryz.prog 29 #[.int .i64 a, .int .i64 s] w fun e w' => e = .returned (.bool (alignB a s)) ∧ w' = w := by
  by_cases h : fineB a s = true
  · obtain ⟨h1, h2, h3, h4⟩ := fineB_true h
    go_enter Tryz.func29, Tryz.ntmps29
    go_wp2_with (go_at_call 55; refine (fine_any _ _ _).mono ?_; rintro e w' ⟨rfl, rfl⟩)
    go_ret
    exact ⟨ret_bool (by simp [alignB, h]), rfl⟩
  · have h' : fineB a s = false := by simpa using h
    clear h
    go_enter Tryz.func29, Tryz.ntmps29
    go_wp2_with (go_at_call 55; refine (fine_any _ _ _).mono ?_; rintro e w' ⟨rfl, rfl⟩)
    go_ret
    exact ⟨ret_bool (by simp [alignB, h']), rfl⟩



/-- One step of the loop that seeks the next multiple. -/
theorem up_step (a s : Int) (h1 : 0 ≤ a) (h2 : 0 < s) (h : ¬ a % s = 0) : (if (a + 1) % s = 0 then a + 1 else a + 1 + s - (a + 1) % s) = a + s - a % s := by
  have d := Int.mul_ediv_add_emod a s
  have l := Int.emod_nonneg a (b := s) (by omega)
  have u := Int.emod_lt_of_pos a h2
  by_cases e : a % s = s - 1
  · have : (a + 1) % s = 0 := by
      have e2 : a + 1 = s * (a / s + 1) := by rw [Int.mul_add]; omega
      rw [e2]; exact Int.mul_emod_right s _
    rw [if_pos this]; omega
  · have : (a + 1) % s = a % s + 1 := by
      have e2 : a + 1 = (a % s + 1) + s * (a / s) := by omega
      rw [e2, Int.add_mul_emod_self_left]
      rw [Int.emod_eq_of_lt (by omega) (by omega)]
    rw [this, if_neg (by omega)]; omega

/-- Where the loop stands: the number that it comes to. -/
def upTo (a s : Int) : Int := if a % s = 0 then a else a + s - a % s

theorem upTo_step (a s : Int) (h1 : 0 ≤ a) (h2 : 0 < s) (h : ¬ a % s = 0) : upTo (a + 1) s = upTo a s := by
  unfold upTo; rw [up_step a s h1 h2 h, if_neg h]

theorem upTo_bound (a s : Int) (h1 : 0 ≤ a) (h2 : 0 < s) (h : ¬ a % s = 0) : a < upTo a s ∧ upTo a s < a + s := by
  have l := Int.emod_nonneg a (b := s) (by omega)
  have u := Int.emod_lt_of_pos a h2
  unfold upTo; rw [if_neg h]; omega

set_option maxHeartbeats 400000 in
theorem upSpec_any (a s : Int) (w : World) :
    Calls Tryz.prog 56 #[.int .i64 a, .int .i64 s] w fun e w' => e = .returned (.int .i64 (upI a s)) ∧ w' = w := by
  by_cases h : fineB a s = true
  · obtain ⟨h1, h2, h3, h4⟩ := fineB_true h
    have HU : Hid (upI a s = upTo a s) := by unfold Hid upI upTo; rw [if_pos h]
    go_enter Tryz.func56, Tryz.ntmps56
    go_wp2_with (go_at_call 55; refine (fine_any _ _ _).mono ?_; rintro e w' ⟨rfl, rfl⟩)
    have hM : upTo a s ≤ 8192 ∧ a ≤ upTo a s := by
      by_cases e : a % s = 0
      · unfold upTo; rw [if_pos e]; omega
      · have := upTo_bound a s h1 h2 e; omega
    go_loop [0] (fun v => ∃ c : Int, 0 ≤ c ∧ c ≤ upTo a s ∧ v = .int .i64 c ∧ upTo c s = upTo a s) (fun v => (upTo a s - intOf v).toNat)
    case atStart => exact ⟨a, by omega, by omega, rfl, rfl⟩
    case round =>
      obtain ⟨c, hc0, hc1, rfl, hc2⟩ := hrel
      have HC : Hid (upTo c s = upTo a s) := hc2
      clear hc2
      by_cases e : c % s = 0
      · have e' : (c % s != 0) = false := by simp [e]
        have HE : Hid (c % s = 0) := e
        clear e
        go_wp2
        go_ret
        exact ⟨ret_int (by rw [HU.out, ← HC.out]; unfold upTo; rw [if_pos HE.out]), rfl⟩
      · have e' : (c % s != 0) = true := by simp [e]
        have hb := upTo_bound c s hc0 h2 e
        rw [HC.out] at hb
        have HS : Hid (upTo (c + 1) s = upTo a s) := (upTo_step c s hc0 h2 e).trans HC.out
        clear e
        go_wp2
        go_round
        case rel => exact ⟨c + 1, by omega, by omega, rfl, HS.out⟩
        case measure => simp [intOf]; omega
  · have h' : fineB a s = false := by simpa using h
    clear h
    go_enter Tryz.func56, Tryz.ntmps56
    go_wp2_with (go_at_call 55; refine (fine_any _ _ _).mono ?_; rintro e w' ⟨rfl, rfl⟩)
    go_ret
    exact ⟨ret_int (by unfold upI; rw [if_neg (by simp [h'])]), rfl⟩

/-! The program's own. -/

theorem bcell {W w1 : World} (hb : Below W.heap.size W w1) : (∀ b o, b < W.heap.size → w1.cell? ⟨b, o, none⟩ = W.cell? ⟨b, o, none⟩) ∧ (∀ b o, b < W.heap.size → w1.frozen? ⟨b, o, none⟩ = W.frozen? ⟨b, o, none⟩) :=
  ⟨fun b o h => hb.cell (p := ⟨b, o, none⟩) h, fun b o h => hb.frozen (p := ⟨b, o, none⟩) h⟩

theorem alignImpl_any (a s : Int) (w : World) :
    Calls Tryz.prog 43 #[.int .i64 a, .int .i64 s] w fun e w' => e = .returned (.bool (alignB a s)) ∧ Below w.heap.size w w' := by
  by_cases h : fineB a s = true
  · obtain ⟨h1, h2, h3, h4⟩ := fineB_true h
    go_enter Tryz.func43, Tryz.ntmps43
    go_wp2_with (first | (go_at_call 62; refine (rangeOf_fine _ _ _ h).mono ?_; rintro e w' ⟨rfl, rfl⟩) | (go_at_call 63; refine (none_no _ _ _ (by omega)).mono ?_; rintro e w' ⟨rfl, rfl⟩) | (go_at_call 64; refine (rest_any _ _ _ (by omega) (by omega) (by omega) (by omega)).mono ?_; rintro e w' ⟨rfl, rfl⟩))
    go_ret
    exact ⟨ret_bool (by simp [alignB, h]), by repeat (first | exact Below.refl _ _ | apply Below.drew | (refine Below.alloc ?_ (by simp; try omega) _))⟩
  · have h' : fineB a s = false := by simpa using h
    clear h
    go_enter Tryz.func43, Tryz.ntmps43
    go_wp2_with (first | (go_at_call 62; refine (rangeOf_no _ _ _ h').mono ?_; rintro e w' ⟨rfl, rfl⟩) | (go_at_call 63; refine (none_yes _).mono ?_; rintro e w' ⟨rfl, rfl⟩))
    go_ret
    exact ⟨ret_bool (by simp [alignB, h']), by repeat (first | exact Below.refl _ _ | apply Below.drew | (refine Below.alloc ?_ (by simp; try omega) _))⟩

end Go.Proofs.YthmambhagheocaaGreatDoor
