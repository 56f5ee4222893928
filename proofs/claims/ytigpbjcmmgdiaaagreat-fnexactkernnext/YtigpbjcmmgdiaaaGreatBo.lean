/-
  Texts of the proof, put together: Extra, OkSpec.
-/
import Derived.Test.YtigpbjcmmgdiaaaGreatBa
import Derived.Deep.QuietTactic
import Derived.BigQuiet
import Derived.WalkSmall
import Derived.Deep.CutRange
import Derived.Deep.DeepCutAuto
import Derived.Deep.RegionHeld3
/-
 What l2Rights and l2Extra of the specification answer.
-/
namespace Go.Proofs.YtigpbjcmmgdiaaaGreat
open Go.ChangeShapes Go.WideShapes Go.ChangeAt Go.RowKit
set_option linter.unusedVariables false

/-- Rights that are among others. -/
def subB (a b : Int) : Bool := (a % 2 == 0 || b % 2 == 1) && (a / 2 % 2 == 0 || b / 2 % 2 == 1) && (a / 4 == 0 || b / 4 == 1)

set_option maxHeartbeats 400000 in
theorem sub_any (a b : Int) (w : World) (h1 : 0 ≤ a) (h2 : a ≤ 7) (h3 : 0 ≤ b) (h4 : b ≤ 7) :
  Calls Tryz.prog 143 #[.int .i64 a, .int .i64 b] w fun e w' => e = .returned (.bool (subB a b)) ∧ w' = w := by
 go_enter Tryz.func143, Tryz.ntmps143
 go_wp2
 all_goals go_ret
 all_goals exact ⟨ret_bool (by simp [subB, *]), rfl⟩

theorem sub_max (k r : Int) (h1 : 0 ≤ r) (h2 : r ≤ 7) : subB r (maxI k) = withinB r 0 (maxI k) := by
 have h : maxI k = 0 ∨ maxI k = 3 ∨ maxI k = 7 := by
  unfold maxI
  repeat' split
  all_goals decide
 have hr : r = 0 ∨ r = 1 ∨ r = 2 ∨ r = 3 ∨ r = 4 ∨ r = 5 ∨ r = 6 ∨ r = 7 := by omega
 rcases h with h | h | h <;> rw [h] <;> rcases hr with e | e | e | e | e | e | e | e <;> subst e <;> decide

/-- Badge, guard and Free go with the kind, as the specification asks it. -/
def badgeB (k : Int) : Bool := (k == 4) || (k == 5)
def badB (k d : Int) : Bool := !(withinB d 0 (bmaxI k))
def gadB (k q g : Int) : Bool := !(withinB q 0 (gmaxI k) && withinB g 0 (sizeI q - 1))
def fadB (k b f : Int) : Bool := f == 0 || (k == 1 && (decide (0 < f) && decide (f ≤ sizeI b)))

theorem bad_yes (k d : Int) (h : badgeB k = true) : badB k d = (decide (d < 0) || decide (65535 < d)) := by
 have e : bmaxI k = 65535 := by
  unfold bmaxI; rw [if_pos]; simpa [badgeB] using h
 unfold badB withinB; rw [e, Bool.eq_iff_iff]; simp; try omega
theorem bad_no (k d : Int) (h : badgeB k = false) : badB k d = (decide (d < 0) || decide (0 < d)) := by
 have e : bmaxI k = 0 := by
  unfold bmaxI; rw [if_neg]; simpa [badgeB] using h
 unfold badB withinB; rw [e, Bool.eq_iff_iff]; simp; try omega
theorem gad_yes (k q g : Int) (h : (k == 2) = true) : gadB k q g = (decide (q < 0) || decide (8 < q) || decide (g < 0) || decide (sizeI q ≤ g)) := by
 have e : gmaxI k = 8 := by unfold gmaxI; rw [if_pos (by simpa using h)]
 unfold gadB withinB; rw [e, Bool.eq_iff_iff]; simp; try omega
theorem gad_no (k q g : Int) (h : (k == 2) = false) : gadB k q g = (decide (q < 0) || decide (0 < q) || decide (g < 0) || decide (sizeI q ≤ g)) := by
 have e : gmaxI k = 0 := by unfold gmaxI; rw [if_neg (by simpa using h)]
 unfold gadB withinB; rw [e, Bool.eq_iff_iff]; simp; try omega

set_option maxRecDepth 100000 in
set_option maxHeartbeats 2000000 in
theorem extra_any (k a b r d g q f : Int) (o : Bool) (w : World) :
  Calls Tryz.prog 145 #[.agg #[.int .i64 k, .int .i64 a, .int .i64 b, .int .i64 r, .int .i64 d, .int .i64 g, .int .i64 q, .int .i64 f, .bool o]] w fun e w' => e = .returned (.bool (!(badB k d) && !(gadB k q g) && fadB k b f)) ∧ Below w.heap.size w w' := by
 go_enter Tryz.func145, Tryz.ntmps145
 go_upto_region 1 with fail
 go_cut [3] (fun v wx => v = .bool (badgeB k) ∧ wx = (w.alloc (.cells #[.int .i64 k, .int .i64 a, .int .i64 b, .int .i64 r, .int .i64 d, .int .i64 g, .int .i64 q, .int .i64 f, .bool o] 33)))
 case first =>
  cases e4 : (k == 4)
  all_goals
   go_wp2
   go_meet
   case rel => exact ⟨congrArg Value.bool (by simp [badgeB, e4]), rfl⟩
 case rest =>
  obtain ⟨rfl, rfl⟩ := hcut
  go_upto_region 2 with fail
  go_cut [3, 28] (fun _ v wx => v = .bool (badB k d) ∧ wx = (w.alloc (.cells #[.int .i64 k, .int .i64 a, .int .i64 b, .int .i64 r, .int .i64 d, .int .i64 g, .int .i64 q, .int .i64 f, .bool o] 33)))
  case first =>
   cases hb : badgeB k
   ·have hx : Hid _ := bad_no k d hb
    by_cases h0 : d < 0 <;> by_cases h1 : 65535 < d <;> by_cases h2 : 0 < d
    all_goals try (exfalso; omega)
    all_goals
     go_wp2
     go_meet
     case rel => exact ⟨congrArg Value.bool (by rw [hx.out]; simp [*]), rfl⟩
   ·have hx : Hid _ := bad_yes k d hb
    by_cases h0 : d < 0 <;> by_cases h1 : 65535 < d <;> by_cases h2 : 0 < d
    all_goals try (exfalso; omega)
    all_goals
     go_wp2
     go_meet
     case rel => exact ⟨congrArg Value.bool (by rw [hx.out]; simp [*]), rfl⟩
  case rest =>
   obtain ⟨rfl, rfl⟩ := hcut
   cases hd : badB k d
   ·go_upto_region 4 with fail
    go_cut [59] (fun v wx => v = .bool (gadB k q g) ∧ wx.cell? ⟨w.heap.size, 0, none⟩ = some (.int .i64 k) ∧ wx.cell? ⟨w.heap.size, 2, none⟩ = some (.int .i64 b) ∧ wx.cell? ⟨w.heap.size, 7, none⟩ = some (.int .i64 f) ∧ Below w.heap.size w wx)
    case first =>
     cases ek : (k == 2)
     ·have hx : Hid _ := gad_no k q g ek
      have hk : (k != 2) = true := by simpa using ek
      by_cases h0 : q < 0
      ·have g0 : decide (q < 0) = true := by simpa using h0
       go_quiet ((first | (go_at_call 87; exact Calls.quiet_of_same (sizeSpec_any _ _))))
       go_wp2
       go_meet
       case rel => exact ⟨congrArg Value.bool (by rw [hx.out]; simp [*]), by go_simp, by go_simp, by go_simp, below_drewN ((Below.refl _ _).alloc (Nat.le_refl _) _) _⟩
      ·have g0 : decide (q < 0) = false := by simpa using h0
       by_cases h1 : 8 < q
       ·have g1 : decide (8 < q) = true := by simpa using h1
        have g2 : decide (0 < q) = true := by simp; omega
        go_quiet ((first | (go_at_call 87; exact Calls.quiet_of_same (sizeSpec_any _ _))))
        go_wp2
        go_meet
        case rel => exact ⟨congrArg Value.bool (by rw [hx.out]; simp [*]), by go_simp, by go_simp, by go_simp, below_drewN ((Below.refl _ _).alloc (Nat.le_refl _) _) _⟩
       ·have g1 : decide (8 < q) = false := by simpa using h1
        by_cases h2 : 0 < q
        ·have g2 : decide (0 < q) = true := by simpa using h2
         go_quiet ((first | (go_at_call 87; exact Calls.quiet_of_same (sizeSpec_any _ _))))
         go_wp2
         go_meet
         case rel => exact ⟨congrArg Value.bool (by rw [hx.out]; simp [*]), by go_simp, by go_simp, by go_simp, below_drewN ((Below.refl _ _).alloc (Nat.le_refl _) _) _⟩
        ·have g2 : decide (0 < q) = false := by simpa using h2
         by_cases h3 : g < 0
         ·have g3 : decide (g < 0) = true := by simpa using h3
          go_quiet ((first | (go_at_call 87; exact Calls.quiet_of_same (sizeSpec_any _ _))))
          go_wp2
          go_meet
          case rel => exact ⟨congrArg Value.bool (by rw [hx.out]; simp [*]), by go_simp, by go_simp, by go_simp, below_drewN ((Below.refl _ _).alloc (Nat.le_refl _) _) _⟩
         ·have g3 : decide (g < 0) = false := by simpa using h3
          go_quiet ((first | (go_at_call 87; exact Calls.quiet_of_same (sizeSpec_any _ _))))
          go_wp2
          go_meet
          case rel => exact ⟨congrArg Value.bool (by rw [hx.out]; simp [*]), by go_simp, by go_simp, by go_simp, below_drewN ((Below.refl _ _).alloc (Nat.le_refl _) _) _⟩
     ·have hx : Hid _ := gad_yes k q g ek
      have hk : (k != 2) = false := by simpa using ek
      by_cases h0 : q < 0
      ·have g0 : decide (q < 0) = true := by simpa using h0
       go_quiet ((first | (go_at_call 87; exact Calls.quiet_of_same (sizeSpec_any _ _))))
       go_wp2
       go_meet
       case rel => exact ⟨congrArg Value.bool (by rw [hx.out]; simp [*]), by go_simp, by go_simp, by go_simp, below_drewN ((Below.refl _ _).alloc (Nat.le_refl _) _) _⟩
      ·have g0 : decide (q < 0) = false := by simpa using h0
       by_cases h1 : 8 < q
       ·have g1 : decide (8 < q) = true := by simpa using h1
        go_quiet ((first | (go_at_call 87; exact Calls.quiet_of_same (sizeSpec_any _ _))))
        go_wp2
        go_meet
        case rel => exact ⟨congrArg Value.bool (by rw [hx.out]; simp [*]), by go_simp, by go_simp, by go_simp, below_drewN ((Below.refl _ _).alloc (Nat.le_refl _) _) _⟩
       ·have g1 : decide (8 < q) = false := by simpa using h1
        by_cases h2 : 0 < q
        ·have g2 : decide (0 < q) = true := by simpa using h2
         by_cases h3 : g < 0
         ·have g3 : decide (g < 0) = true := by simpa using h3
          go_quiet ((first | (go_at_call 87; exact Calls.quiet_of_same (sizeSpec_any _ _))))
          go_wp2
          go_meet
          case rel => exact ⟨congrArg Value.bool (by rw [hx.out]; simp [*]), by go_simp, by go_simp, by go_simp, below_drewN ((Below.refl _ _).alloc (Nat.le_refl _) _) _⟩
         ·have g3 : decide (g < 0) = false := by simpa using h3
          go_quiet ((first | (go_at_call 87; exact Calls.quiet_of_same (sizeSpec_any _ _))))
          go_wp2
          go_meet
          case rel => exact ⟨congrArg Value.bool (by rw [hx.out]; simp [*]), by go_simp, by go_simp, by go_simp, below_drewN ((Below.refl _ _).alloc (Nat.le_refl _) _) _⟩
        ·have g2 : decide (0 < q) = false := by simpa using h2
         by_cases h3 : g < 0
         ·have g3 : decide (g < 0) = true := by simpa using h3
          go_quiet ((first | (go_at_call 87; exact Calls.quiet_of_same (sizeSpec_any _ _))))
          go_wp2
          go_meet
          case rel => exact ⟨congrArg Value.bool (by rw [hx.out]; simp [*]), by go_simp, by go_simp, by go_simp, below_drewN ((Below.refl _ _).alloc (Nat.le_refl _) _) _⟩
         ·have g3 : decide (g < 0) = false := by simpa using h3
          go_quiet ((first | (go_at_call 87; exact Calls.quiet_of_same (sizeSpec_any _ _))))
          go_wp2
          go_meet
          case rel => exact ⟨congrArg Value.bool (by rw [hx.out]; simp [*]), by go_simp, by go_simp, by go_simp, below_drewN ((Below.refl _ _).alloc (Nat.le_refl _) _) _⟩
    case rest =>
     obtain ⟨rfl, hc0, hc2, hc7, hbel⟩ := hcut
     cases hg : gadB k q g
     ·go_upto_region 6 with fail
      cases ef : (f == 0)
      ·cases ek : (k == 1)
       ·go_quiet ((first | (go_at_call 87; exact Calls.quiet_of_same (sizeSpec_any _ _))))
        go_wp2
        go_ret
        exact ⟨ret_bool (by simp [fadB, *]), below_drewN hbel _⟩
       ·by_cases h0 : 0 < f
        ·have g0 : decide (0 < f) = true := by simpa using h0
         go_quiet ((first | (go_at_call 87; exact Calls.quiet_of_same (sizeSpec_any _ _))))
         go_wp2
         go_ret
         exact ⟨ret_bool (by simp [fadB, *]), below_drewN hbel _⟩
        ·have g0 : decide (0 < f) = false := by simpa using h0
         go_quiet ((first | (go_at_call 87; exact Calls.quiet_of_same (sizeSpec_any _ _))))
         go_wp2
         go_ret
         exact ⟨ret_bool (by simp [fadB, *]), below_drewN hbel _⟩
      ·go_quiet ((first | (go_at_call 87; exact Calls.quiet_of_same (sizeSpec_any _ _))))
       go_wp2
       go_ret
       exact ⟨ret_bool (by simp [fadB, *]), below_drewN hbel _⟩
     ·go_wp2
      go_ret
      exact ⟨ret_bool (by simp [hg]), hbel⟩
   ·go_wp2
    go_ret
    exact ⟨ret_bool (by simp [hd]), (Below.refl _ _).alloc (Nat.le_refl _) _⟩

end Go.Proofs.YtigpbjcmmgdiaaaGreat
/-
 What CapOk of the specification answers, at every capability.
-/
namespace Go.Proofs.YtigpbjcmmgdiaaaGreat
open Go.ChangeShapes Go.WideShapes Go.ChangeAt Go.RowKit
set_option linter.unusedVariables false

def extB (k b d g q f : Int) : Bool := !(badB k d) && !(gadB k q g) && fadB k b f

theorem ext_any (k a b r d g q f : Int) (o : Bool) (w : World) :
  Calls Tryz.prog 145 #[.agg #[.int .i64 k, .int .i64 a, .int .i64 b, .int .i64 r, .int .i64 d, .int .i64 g, .int .i64 q, .int .i64 f, .bool o]] w fun e w' => e = .returned (.bool (extB k b d g q f)) ∧ Below w.heap.size w w' := extra_any k a b r d g q f o w

theorem bits_yes (k b : Int) (w : World) (h : bitsB k b = true) :
  Calls Tryz.prog 142 #[.int .i64 k, .int .i64 b] w fun e w' => e = .returned (.bool true) ∧ w' = w := by
 have := bits_any k b w; rw [h] at this; exact this
theorem bits_no (k b : Int) (w : World) (h : bitsB k b = false) :
  Calls Tryz.prog 142 #[.int .i64 k, .int .i64 b] w fun e w' => e = .returned (.bool false) ∧ w' = w := by
 have := bits_any k b w; rw [h] at this; exact this
theorem sub_yes (a b : Int) (w : World) (h1 : 0 ≤ a) (h2 : a ≤ 7) (h3 : 0 ≤ b) (h4 : b ≤ 7) (h : subB a b = true) :
  Calls Tryz.prog 143 #[.int .i64 a, .int .i64 b] w fun e w' => e = .returned (.bool true) ∧ w' = w := by
 have := sub_any a b w h1 h2 h3 h4; rw [h] at this; exact this
theorem sub_no (a b : Int) (w : World) (h1 : 0 ≤ a) (h2 : a ≤ 7) (h3 : 0 ≤ b) (h4 : b ≤ 7) (h : subB a b = false) :
  Calls Tryz.prog 143 #[.int .i64 a, .int .i64 b] w fun e w' => e = .returned (.bool false) ∧ w' = w := by
 have := sub_any a b w h1 h2 h3 h4; rw [h] at this; exact this
theorem maxI_bd (k : Int) : 0 ≤ maxI k ∧ maxI k ≤ 7 := by
 unfold maxI
 repeat' split
 all_goals omega

/-- The first test of CapOk. -/
def failB (k b r d g q f : Int) : Bool := !(bitsB k b && withinB r 0 (maxI k) && extB k b d g q f)

theorem bits_kind {k b : Int} (h : bitsB k b = true) : withinB k 1 7 = true := by
 simp only [bitsB, decide_eq_true_eq] at h
 simp [withinB]; omega
theorem span_no {k b : Int} (h : bitsB k b = false) (h1 : withinB k 1 7 = true) : spanI k b = 0 := by
 have hs := szI_no h
 simp only [bitsB, decide_eq_false_iff_not] at h
 simp only [withinB, decide_eq_true_eq] at h1
 unfold spanI
 by_cases e : k = 7
 ·rw [if_pos e, if_neg (by omega)]
 ·rw [if_neg e]; exact hs
theorem align_zero (a : Int) : alignB a 0 = false := by simp [alignB, fineB]
theorem beside_ext {k b d g q f : Int} (h : bitsB k b = true) : besideB k b d g q f = extB k b d g q f := by
 have hf : withinB f 0 (fmaxI k b) = fadB k b f := by
  simp only [bitsB, decide_eq_true_eq] at h
  unfold withinB fadB fmaxI
  by_cases e : k = 1
  ·subst e
   have hs : szI 1 b = sizeI b := by unfold szI; rw [if_pos rfl, if_pos (by omega)]
   have hb := sizeI_bd b
   rw [if_pos rfl, hs, Bool.eq_iff_iff]; simp; omega
  ·rw [if_neg e, Bool.eq_iff_iff]; simp [e]; omega
 unfold besideB extB badB gadB
 rw [hf]; simp [Bool.and_assoc]
theorem okB_fail {k b r d g q f : Int} (a : Int) (o : Bool) (h : failB k b r d g q f = true) : okB k a b r d g q f o = false := by
 cases h1 : withinB k 1 7
 ·simp [okB, h1]
 ·cases h2 : withinB r 0 (maxI k)
  ·simp [okB, h2]
  ·cases h3 : bitsB k b
   ·simp [okB, span_no h3 h1, align_zero]
   ·have : extB k b d g q f = false := by simpa [failB, h2, h3] using h
    simp [okB, beside_ext h3, this]
theorem okB_go {k b r d g q f : Int} (a : Int) (o : Bool) (h : failB k b r d g q f = false) : okB k a b r d g q f o = ((alignB a (spanI k b) && inB a (spanI k b) 0 4096) && origB k o) := by
 have h' : (bitsB k b = true ∧ withinB r 0 (maxI k) = true) ∧ extB k b d g q f = true := by simpa [failB] using h
 obtain ⟨⟨h1, h2⟩, h3⟩ := h'
 simp [okB, bits_kind h1, h2, beside_ext h1, h3]
theorem span_reply {k b r d g q f : Int} (h : failB k b r d g q f = false) (e : (k == 7) = true) : spanI k b = 32 := by
 have h' : (bitsB k b = true ∧ withinB r 0 (maxI k) = true) ∧ extB k b d g q f = true := by simpa [failB] using h
 have hb := h'.1.1
 have e' : k = 7 := by simpa using e
 simp only [bitsB, decide_eq_true_eq] at hb
 unfold spanI; rw [if_pos e', if_pos (by omega)]
theorem align_fine {a s : Int} (h : alignB a s = true) : 0 ≤ a ∧ 0 < s ∧ a ≤ 4096 ∧ s ≤ 4096 := by
 have : fineB a s = true := by
  unfold alignB at h; revert h; cases fineB a s <;> simp
 exact fineB_true this
theorem in_no {a s : Int} (h : 4096 < a + s) : inB a s 0 4096 = false := by
 unfold inB
 have : decide (a + s ≤ 0 + 4096) = false := by simp; omega
 rw [this, Bool.and_false]
theorem in_yes {a s : Int} (h : 0 ≤ a ∧ 0 < s ∧ a ≤ 4096 ∧ s ≤ 4096) (h1 : a + s ≤ 4096) : inB a s 0 4096 = true := by
 unfold inB
 rw [fineB_mk h, fineB_mk (by omega)]
 simp; omega
theorem bne_of {k c : Int} {x : Bool} (h : (k == c) = x) : (k != c) = !x := by simp [bne, h]
theorem orig_of {k : Int} {x y : Bool} (h1 : (k == 1) = x) (h7 : (k == 7) = y) (o : Bool) : origB k o = (if x then o else if y then !o else true) := by
 unfold origB
 subst h1 h7
 simp

set_option maxRecDepth 100000 in
set_option maxHeartbeats 2000000 in
theorem okSpec_any (k a b r d g q f : Int) (o : Bool) (w : World) :
  Calls Tryz.prog 84 #[.agg #[.int .i64 k, .int .i64 a, .int .i64 b, .int .i64 r, .int .i64 d, .int .i64 g, .int .i64 q, .int .i64 f, .bool o]] w fun e w' => e = .returned (.bool (okB k a b r d g q f o)) ∧ Below w.heap.size w w' := by
 go_enter Tryz.func84, Tryz.ntmps84
 go_upto_region 1 with fail
 go_cut [33] (fun v wx => v = .bool (failB k b r d g q f) ∧ wx.cell? ⟨w.heap.size, 0, none⟩ = some (.int .i64 k) ∧ wx.cell? ⟨w.heap.size, 1, none⟩ = some (.int .i64 a) ∧ wx.cell? ⟨w.heap.size, 2, none⟩ = some (.int .i64 b) ∧ wx.cell? ⟨w.heap.size, 8, none⟩ = some (.bool o) ∧ Below w.heap.size w wx)
 case first =>
  have hm := maxI_bd k
  cases eb : bitsB k b
  ·go_quiet ((first | (go_at_call 142; exact Calls.quiet_of_same (bits_no _ _ _ (by assumption)))))
   go_wp2
   go_meet
   case rel => exact ⟨congrArg Value.bool (by simp [failB, eb]), by go_simp, by go_simp, by go_simp, by go_simp, below_drewN ((Below.refl _ _).alloc (Nat.le_refl _) _) _⟩
  ·by_cases h0 : r < 0
   ·have g0 : decide (r < 0) = true := by simpa using h0
    have hw : withinB r 0 (maxI k) = false := by simp [withinB]; omega
    go_quiet ((first | (go_at_call 142; exact Calls.quiet_of_same (bits_yes _ _ _ (by assumption)))))
    go_wp2
    go_meet
    case rel => exact ⟨congrArg Value.bool (by simp [failB, hw]), by go_simp, by go_simp, by go_simp, by go_simp, below_drewN ((Below.refl _ _).alloc (Nat.le_refl _) _) _⟩
   ·have g0 : decide (r < 0) = false := by simpa using h0
    by_cases h1 : 7 < r
    ·have g1 : decide (7 < r) = true := by simpa using h1
     have hw : withinB r 0 (maxI k) = false := by simp [withinB]; omega
     go_quiet ((first | (go_at_call 142; exact Calls.quiet_of_same (bits_yes _ _ _ (by assumption)))))
     go_wp2
     go_meet
     case rel => exact ⟨congrArg Value.bool (by simp [failB, hw]), by go_simp, by go_simp, by go_simp, by go_simp, below_drewN ((Below.refl _ _).alloc (Nat.le_refl _) _) _⟩
    ·have g1 : decide (7 < r) = false := by simpa using h1
     have hs : Hid _ := sub_max k r (by omega) (by omega)
     cases es : subB r (maxI k)
     ·go_quiet ((first | (go_at_call 142; exact Calls.quiet_of_same (bits_yes _ _ _ (by assumption))) | (go_at_call 144; exact Calls.quiet_of_same (maxSpec_any _ _)) | (go_at_call 143; exact Calls.quiet_of_same (sub_no _ _ _ (by omega) (by omega) (by omega) (by omega) (by assumption)))))
      go_wp2
      go_meet
      case rel => exact ⟨congrArg Value.bool (by simp [failB, ← hs.out, es]), by go_simp, by go_simp, by go_simp, by go_simp, below_drewN ((Below.refl _ _).alloc (Nat.le_refl _) _) _⟩
     ·go_region_held3 (fun w' => w'.cell? ⟨w.heap.size, 0, none⟩ = some (.int .i64 k) ∧ w'.cell? ⟨w.heap.size, 1, none⟩ = some (.int .i64 a) ∧ w'.cell? ⟨w.heap.size, 2, none⟩ = some (.int .i64 b) ∧ w'.cell? ⟨w.heap.size, 3, none⟩ = some (.int .i64 r) ∧ w'.cell? ⟨w.heap.size, 4, none⟩ = some (.int .i64 d) ∧ w'.cell? ⟨w.heap.size, 5, none⟩ = some (.int .i64 g) ∧ w'.cell? ⟨w.heap.size, 6, none⟩ = some (.int .i64 q) ∧ w'.cell? ⟨w.heap.size, 7, none⟩ = some (.int .i64 f) ∧ w'.cell? ⟨w.heap.size, 8, none⟩ = some (.bool o) ∧ w.heap.size < w'.heap.size) (go_simp) (first | (go_at_call 142; refine (bits_yes _ _ _ (by assumption)).mono ?_; rintro e w1 ⟨rfl, rfl⟩) | (go_at_call 144; refine (maxSpec_any _ _).mono ?_; rintro e w1 ⟨rfl, rfl⟩) | (go_at_call 143; refine (sub_yes _ _ _ (by omega) (by omega) (by omega) (by omega) (by assumption)).mono ?_; rintro e w1 ⟨rfl, rfl⟩) | (go_at_call 145; refine (ext_any _ _ _ _ _ _ _ _ _ _).mono ?_; rintro e w1 ⟨rfl, hb⟩; obtain ⟨hc, hf⟩ := bcell hb; have hz : w.heap.size < w1.heap.size := (by have := hb.size; simp at this; omega)))
      all_goals go_wp2
      all_goals go_meet
      case rel => exact ⟨congrArg Value.bool (by simp [failB, eb, ← hs.out, es]), by go_simp, by go_simp, by go_simp, by go_simp, by refine Below.trans ?_ (hb.mono (by simp)); repeat (first | exact Below.refl _ _ | apply Below.drew | (refine below_drewN ?_ _) | (refine Below.alloc ?_ (by simp; try omega) _))⟩
 case rest =>
  obtain ⟨rfl, hc0, hc1, hc2, hc8, hbel⟩ := hcut
  cases ef : failB k b r d g q f
  ·have HO : Hid _ := okB_go a o ef
   cases ek : (k == 7)
   ·have HS : Hid (spanI k b = szI k b) := by unfold Hid spanI; rw [if_neg (by simpa using ek)]
    cases eA : alignB a (szI k b)
    ·go_wp2_with (first | (go_at_call 136; refine (sizeSpecKind_any _ _ _).mono ?_; rintro e w' ⟨rfl, rfl⟩) | (go_at_call 146; refine (alignSpec_any _ _ _).mono ?_; rintro e w' ⟨rfl, rfl⟩))
     go_ret
     exact ⟨ret_bool (by rw [HO.out, HS.out, eA]; rfl), hbel⟩
    ·have hfa := align_fine eA
     by_cases hi : 4096 < a + szI k b
     ·go_wp2_with (first | (go_at_call 136; refine (sizeSpecKind_any _ _ _).mono ?_; rintro e w' ⟨rfl, rfl⟩) | (go_at_call 146; refine (alignSpec_any _ _ _).mono ?_; rintro e w' ⟨rfl, rfl⟩))
      go_ret
      exact ⟨ret_bool (by rw [HO.out, HS.out, in_no hi, Bool.and_false]; rfl), hbel⟩
     ·have n7 : (k != 7) = true := by simp [bne, ek]
      cases e1 : (k == 1) <;> cases o
      all_goals
       have n1 := bne_of e1
       go_wp2_with (first | (go_at_call 136; refine (sizeSpecKind_any _ _ _).mono ?_; rintro e w' ⟨rfl, rfl⟩) | (go_at_call 146; refine (alignSpec_any _ _ _).mono ?_; rintro e w' ⟨rfl, rfl⟩))
       go_ret
       exact ⟨ret_bool (by rw [HO.out, HS.out, eA, in_yes hfa (by omega), orig_of e1 ek]; rfl), hbel⟩
   ·have HS : Hid (spanI k b = 32) := span_reply ef ek
    cases eA : alignB a 32
    ·go_wp2_with (first | (go_at_call 136; refine (sizeSpecKind_any _ _ _).mono ?_; rintro e w' ⟨rfl, rfl⟩) | (go_at_call 146; refine (alignSpec_any _ _ _).mono ?_; rintro e w' ⟨rfl, rfl⟩))
     go_ret
     exact ⟨ret_bool (by rw [HO.out, HS.out, eA]; rfl), hbel⟩
    ·have hfa := align_fine eA
     by_cases hi : 4096 < a + 32
     ·go_wp2_with (first | (go_at_call 136; refine (sizeSpecKind_any _ _ _).mono ?_; rintro e w' ⟨rfl, rfl⟩) | (go_at_call 146; refine (alignSpec_any _ _ _).mono ?_; rintro e w' ⟨rfl, rfl⟩))
      go_ret
      exact ⟨ret_bool (by rw [HO.out, HS.out, in_no hi, Bool.and_false]; rfl), hbel⟩
     ·have e1 : (k == 1) = false := by
       have : k = 7 := by simpa using ek
       simp [this]
      have n7 : (k != 7) = false := by simp [bne, ek]
      have n1 : (k != 1) = true := by simp [bne, e1]
      cases o
      all_goals go_wp2_with (first | (go_at_call 136; refine (sizeSpecKind_any _ _ _).mono ?_; rintro e w' ⟨rfl, rfl⟩) | (go_at_call 146; refine (alignSpec_any _ _ _).mono ?_; rintro e w' ⟨rfl, rfl⟩))
      all_goals go_ret
      all_goals exact ⟨ret_bool (by rw [HO.out, HS.out, eA, in_yes hfa (by omega), orig_of e1 ek]; rfl), hbel⟩
  ·go_wp2
   go_ret
   exact ⟨ret_bool (okB_fail a o ef).symm, hbel⟩

end Go.Proofs.YtigpbjcmmgdiaaaGreat
