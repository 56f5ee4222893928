/-
  What l2Rights and l2Extra of the specification answer.
-/
import Derived.Test.YthmambhagheocaaGreatDoorOkay
import Derived.Deep.QuietTactic
import Derived.BigQuiet
import Derived.WalkSmall
import Derived.Deep.CutRange
import Derived.Deep.DeepCutAuto
namespace Go.Proofs.YthmambhagheocaaGreatDoor
open Go.ChangeShapes Go.WideShapes Go.ChangeAt Go.RowKit
set_option linter.unusedVariables false

/-- Rights that are among others. -/
def subB (a b : Int) : Bool := (a % 2 == 0 || b % 2 == 1) && (a / 2 % 2 == 0 || b / 2 % 2 == 1) && (a / 4 == 0 || b / 4 == 1)

set_option maxHeartbeats 400000 in
theorem sub_any (a b : Int) (w : World) (h1 : 0 ≤ a) (h2 : a ≤ 7) (h3 : 0 ≤ b) (h4 : b ≤ 7) :
    Calls Tryz.prog 25 #[.int .i64 a, .int .i64 b] w fun e w' => e = .returned (.bool (subB a b)) ∧ w' = w := by
  go_enter Tryz.func25, Tryz.ntmps25
  go_wp2
  all_goals go_ret
  all_goals exact ⟨ret_bool (by simp [subB, *]), rfl⟩

theorem sub_max (k r : Int) (h1 : 0 ≤ r) (h2 : r ≤ 7) : subB r (maxI k) = withinB r 0 (maxI k) := by
  have h : maxI k = 0 ∨ maxI k = 3 ∨ maxI k = 7 := by
    unfold maxI
    repeat' split
    all_goals decide
  have hr : r = 0 ∨ r = 1 ∨ r = 2 ∨ r = 3 ∨ r = 4 ∨ r = 5 ∨ r = 6 ∨ r = 7 := by omega
  rcases h with h | h | h <;> rw [h] <;> rcases hr with e | e | e | e | e | e | e | e <;> subst e <;> decide

/-- Badge, guard and Free go with the kind, as the specification asks it. -/
def badgeB (k : Int) : Bool := (k == 4) || (k == 5)
def badB (k d : Int) : Bool := !(withinB d 0 (bmaxI k))
def gadB (k q g : Int) : Bool := !(withinB q 0 (gmaxI k) && withinB g 0 (sizeI q - 1))
def fadB (k b f : Int) : Bool := f == 0 || (k == 1 && (decide (0 < f) && decide (f ≤ sizeI b)))

theorem bad_yes (k d : Int) (h : badgeB k = true) : badB k d = (decide (d < 0) || decide (65535 < d)) := by
  have e : bmaxI k = 65535 := by
    unfold bmaxI; rw [if_pos]; simpa [badgeB] using h
  unfold badB withinB; rw [e, Bool.eq_iff_iff]; simp; try omega
theorem bad_no (k d : Int) (h : badgeB k = false) : badB k d = (decide (d < 0) || decide (0 < d)) := by
  have e : bmaxI k = 0 := by
    unfold bmaxI; rw [if_neg]; simpa [badgeB] using h
  unfold badB withinB; rw [e, Bool.eq_iff_iff]; simp; try omega
theorem gad_yes (k q g : Int) (h : (k == 2) = true) : gadB k q g = (decide (q < 0) || decide (8 < q) || decide (g < 0) || decide (sizeI q ≤ g)) := by
  have e : gmaxI k = 8 := by unfold gmaxI; rw [if_pos (by simpa using h)]
  unfold gadB withinB; rw [e, Bool.eq_iff_iff]; simp; try omega
theorem gad_no (k q g : Int) (h : (k == 2) = false) : gadB k q g = (decide (q < 0) || decide (0 < q) || decide (g < 0) || decide (sizeI q ≤ g)) := by
  have e : gmaxI k = 0 := by unfold gmaxI; rw [if_neg (by simpa using h)]
  unfold gadB withinB; rw [e, Bool.eq_iff_iff]; simp; try omega

set_option maxRecDepth 100000 in
set_option maxHeartbeats 2000000 in
theorem extra_any (k a b r d g q f : Int) (o : Bool) (w : World) :
    Calls Tryz.prog 27 #[.agg #[.int .i64 k, .int .i64 a, .int .i64 b, .int .i64 r, .int .i64 d, .int .i64 g, .int .i64 q, .int .i64 f, .bool o]] w fun e w' => e = .returned (.bool (!(badB k d) && !(gadB k q g) && fadB k b f)) ∧ Below w.heap.size w w' := by
  go_enter Tryz.func27, Tryz.ntmps27
  go_upto_region 1 with fail
  go_cut [3] (fun v wx => v = .bool (badgeB k) ∧ wx = (w.alloc (.cells #[.int .i64 k, .int .i64 a, .int .i64 b, .int .i64 r, .int .i64 d, .int .i64 g, .int .i64 q, .int .i64 f, .bool o] 24)))
  case first =>
    cases e4 : (k == 4)
    all_goals
      go_wp2
      go_meet
      case rel => exact ⟨congrArg Value.bool (by simp [badgeB, e4]), rfl⟩
  case rest =>
    obtain ⟨rfl, rfl⟩ := hcut
    go_upto_region 2 with fail
    go_cut [3, 28] (fun _ v wx => v = .bool (badB k d) ∧ wx = (w.alloc (.cells #[.int .i64 k, .int .i64 a, .int .i64 b, .int .i64 r, .int .i64 d, .int .i64 g, .int .i64 q, .int .i64 f, .bool o] 24)))
    case first =>
      cases hb : badgeB k
      · have hx : Hid _ := bad_no k d hb
        by_cases h0 : d < 0 <;> by_cases h1 : 65535 < d <;> by_cases h2 : 0 < d
        all_goals try (exfalso; omega)
        all_goals
          go_wp2
          go_meet
          case rel => exact ⟨congrArg Value.bool (by rw [hx.out]; simp [*]), rfl⟩
      · have hx : Hid _ := bad_yes k d hb
        by_cases h0 : d < 0 <;> by_cases h1 : 65535 < d <;> by_cases h2 : 0 < d
        all_goals try (exfalso; omega)
        all_goals
          go_wp2
          go_meet
          case rel => exact ⟨congrArg Value.bool (by rw [hx.out]; simp [*]), rfl⟩
    case rest =>
      obtain ⟨rfl, rfl⟩ := hcut
      cases hd : badB k d
      · go_upto_region 4 with fail
        go_cut [59] (fun v wx => v = .bool (gadB k q g) ∧ wx.cell? ⟨w.heap.size, 0, none⟩ = some (.int .i64 k) ∧ wx.cell? ⟨w.heap.size, 2, none⟩ = some (.int .i64 b) ∧ wx.cell? ⟨w.heap.size, 7, none⟩ = some (.int .i64 f) ∧ Below w.heap.size w wx)
        case first =>
          cases ek : (k == 2)
          · have hx : Hid _ := gad_no k q g ek
            have hk : (k != 2) = true := by simpa using ek
            by_cases h0 : q < 0
            · have g0 : decide (q < 0) = true := by simpa using h0
              go_quiet ((first | (go_at_call 54; exact Calls.quiet_of_same (sizeSpec_any _ _))))
              go_wp2
              go_meet
              case rel => exact ⟨congrArg Value.bool (by rw [hx.out]; simp [*]), by go_simp, by go_simp, by go_simp, below_drewN ((Below.refl _ _).alloc (Nat.le_refl _) _) _⟩
            · have g0 : decide (q < 0) = false := by simpa using h0
              by_cases h1 : 8 < q
              · have g1 : decide (8 < q) = true := by simpa using h1
                have g2 : decide (0 < q) = true := by simp; omega
                go_quiet ((first | (go_at_call 54; exact Calls.quiet_of_same (sizeSpec_any _ _))))
                go_wp2
                go_meet
                case rel => exact ⟨congrArg Value.bool (by rw [hx.out]; simp [*]), by go_simp, by go_simp, by go_simp, below_drewN ((Below.refl _ _).alloc (Nat.le_refl _) _) _⟩
              · have g1 : decide (8 < q) = false := by simpa using h1
                by_cases h2 : 0 < q
                · have g2 : decide (0 < q) = true := by simpa using h2
                  go_quiet ((first | (go_at_call 54; exact Calls.quiet_of_same (sizeSpec_any _ _))))
                  go_wp2
                  go_meet
                  case rel => exact ⟨congrArg Value.bool (by rw [hx.out]; simp [*]), by go_simp, by go_simp, by go_simp, below_drewN ((Below.refl _ _).alloc (Nat.le_refl _) _) _⟩
                · have g2 : decide (0 < q) = false := by simpa using h2
                  by_cases h3 : g < 0
                  · have g3 : decide (g < 0) = true := by simpa using h3
                    go_quiet ((first | (go_at_call 54; exact Calls.quiet_of_same (sizeSpec_any _ _))))
                    go_wp2
                    go_meet
                    case rel => exact ⟨congrArg Value.bool (by rw [hx.out]; simp [*]), by go_simp, by go_simp, by go_simp, below_drewN ((Below.refl _ _).alloc (Nat.le_refl _) _) _⟩
                  · have g3 : decide (g < 0) = false := by simpa using h3
                    go_quiet ((first | (go_at_call 54; exact Calls.quiet_of_same (sizeSpec_any _ _))))
                    go_wp2
                    go_meet
                    case rel => exact ⟨congrArg Value.bool (by rw [hx.out]; simp [*]), by go_simp, by go_simp, by go_simp, below_drewN ((Below.refl _ _).alloc (Nat.le_refl _) _) _⟩
          · have hx : Hid _ := gad_yes k q g ek
            have hk : (k != 2) = false := by simpa using ek
            by_cases h0 : q < 0
            · have g0 : decide (q < 0) = true := by simpa using h0
              go_quiet ((first | (go_at_call 54; exact Calls.quiet_of_same (sizeSpec_any _ _))))
              go_wp2
              go_meet
              case rel => exact ⟨congrArg Value.bool (by rw [hx.out]; simp [*]), by go_simp, by go_simp, by go_simp, below_drewN ((Below.refl _ _).alloc (Nat.le_refl _) _) _⟩
            · have g0 : decide (q < 0) = false := by simpa using h0
              by_cases h1 : 8 < q
              · have g1 : decide (8 < q) = true := by simpa using h1
                go_quiet ((first | (go_at_call 54; exact Calls.quiet_of_same (sizeSpec_any _ _))))
                go_wp2
                go_meet
                case rel => exact ⟨congrArg Value.bool (by rw [hx.out]; simp [*]), by go_simp, by go_simp, by go_simp, below_drewN ((Below.refl _ _).alloc (Nat.le_refl _) _) _⟩
              · have g1 : decide (8 < q) = false := by simpa using h1
                by_cases h2 : 0 < q
                · have g2 : decide (0 < q) = true := by simpa using h2
                  by_cases h3 : g < 0
                  · have g3 : decide (g < 0) = true := by simpa using h3
                    go_quiet ((first | (go_at_call 54; exact Calls.quiet_of_same (sizeSpec_any _ _))))
                    go_wp2
                    go_meet
                    case rel => exact ⟨congrArg Value.bool (by rw [hx.out]; simp [*]), by go_simp, by go_simp, by go_simp, below_drewN ((Below.refl _ _).alloc (Nat.le_refl _) _) _⟩
                  · have g3 : decide (g < 0) = false := by simpa using h3
                    go_quiet ((first | (go_at_call 54; exact Calls.quiet_of_same (sizeSpec_any _ _))))
                    go_wp2
                    go_meet
                    case rel => exact ⟨congrArg Value.bool (by rw [hx.out]; simp [*]), by go_simp, by go_simp, by go_simp, below_drewN ((Below.refl _ _).alloc (Nat.le_refl _) _) _⟩
                · have g2 : decide (0 < q) = false := by simpa using h2
                  by_cases h3 : g < 0
                  · have g3 : decide (g < 0) = true := by simpa using h3
                    go_quiet ((first | (go_at_call 54; exact Calls.quiet_of_same (sizeSpec_any _ _))))
                    go_wp2
                    go_meet
                    case rel => exact ⟨congrArg Value.bool (by rw [hx.out]; simp [*]), by go_simp, by go_simp, by go_simp, below_drewN ((Below.refl _ _).alloc (Nat.le_refl _) _) _⟩
                  · have g3 : decide (g < 0) = false := by simpa using h3
                    go_quiet ((first | (go_at_call 54; exact Calls.quiet_of_same (sizeSpec_any _ _))))
                    go_wp2
                    go_meet
                    case rel => exact ⟨congrArg Value.bool (by rw [hx.out]; simp [*]), by go_simp, by go_simp, by go_simp, below_drewN ((Below.refl _ _).alloc (Nat.le_refl _) _) _⟩
        case rest =>
          obtain ⟨rfl, hc0, hc2, hc7, hbel⟩ := hcut
          cases hg : gadB k q g
          · go_upto_region 6 with fail
            cases ef : (f == 0)
            · cases ek : (k == 1)
              · go_quiet ((first | (go_at_call 54; exact Calls.quiet_of_same (sizeSpec_any _ _))))
                go_wp2
                go_ret
                exact ⟨ret_bool (by simp [fadB, *]), below_drewN hbel _⟩
              · by_cases h0 : 0 < f
                · have g0 : decide (0 < f) = true := by simpa using h0
                  go_quiet ((first | (go_at_call 54; exact Calls.quiet_of_same (sizeSpec_any _ _))))
                  go_wp2
                  go_ret
                  exact ⟨ret_bool (by simp [fadB, *]), below_drewN hbel _⟩
                · have g0 : decide (0 < f) = false := by simpa using h0
                  go_quiet ((first | (go_at_call 54; exact Calls.quiet_of_same (sizeSpec_any _ _))))
                  go_wp2
                  go_ret
                  exact ⟨ret_bool (by simp [fadB, *]), below_drewN hbel _⟩
            · go_quiet ((first | (go_at_call 54; exact Calls.quiet_of_same (sizeSpec_any _ _))))
              go_wp2
              go_ret
              exact ⟨ret_bool (by simp [fadB, *]), below_drewN hbel _⟩
          · go_wp2
            go_ret
            exact ⟨ret_bool (by simp [hg]), hbel⟩
      · go_wp2
        go_ret
        exact ⟨ret_bool (by simp [hd]), (Below.refl _ _).alloc (Nat.le_refl _) _⟩

end Go.Proofs.YthmambhagheocaaGreatDoor
