/-
  What CapOk of the specification answers, at every capability.
-/
import Derived.Test.YthmambhagheocaaGreatDoorExtra
import Derived.Deep.RegionHeld3
namespace Go.Proofs.YthmambhagheocaaGreatDoor
open Go.ChangeShapes Go.WideShapes Go.ChangeAt Go.RowKit
set_option linter.unusedVariables false

def extB (k b d g q f : Int) : Bool := !(badB k d) && !(gadB k q g) && fadB k b f

theorem ext_any (k a b r d g q f : Int) (o : Bool) (w : World) :
    Calls Tryz.prog 27 #[.agg #[.int .i64 k, .int .i64 a, .int .i64 b, .int .i64 r, .int .i64 d, .int .i64 g, .int .i64 q, .int .i64 f, .bool o]] w fun e w' => e = .returned (.bool (extB k b d g q f)) ∧ Below w.heap.size w w' := extra_any k a b r d g q f o w

theorem bits_yes (k b : Int) (w : World) (h : bitsB k b = true) :
    Calls Tryz.prog 24 #[.int .i64 k, .int .i64 b] w fun e w' => e = .returned (.bool true) ∧ w' = w := by
  have := bits_any k b w; rw [h] at this; exact this
theorem bits_no (k b : Int) (w : World) (h : bitsB k b = false) :
    Calls Tryz.prog 24 #[.int .i64 k, .int .i64 b] w fun e w' => e = .returned (.bool false) ∧ w' = w := by
  have := bits_any k b w; rw [h] at this; exact this
theorem sub_yes (a b : Int) (w : World) (h1 : 0 ≤ a) (h2 : a ≤ 7) (h3 : 0 ≤ b) (h4 : b ≤ 7) (h : subB a b = true) :
    Calls Tryz.prog 25 #[.int .i64 a, .int .i64 b] w fun e w' => e = .returned (.bool true) ∧ w' = w := by
  have := sub_any a b w h1 h2 h3 h4; rw [h] at this; exact this
theorem sub_no (a b : Int) (w : World) (h1 : 0 ≤ a) (h2 : a ≤ 7) (h3 : 0 ≤ b) (h4 : b ≤ 7) (h : subB a b = false) :
    Calls Tryz.prog 25 #[.int .i64 a, .int .i64 b] w fun e w' => e = .returned (.bool false) ∧ w' = w := by
  have := sub_any a b w h1 h2 h3 h4; rw [h] at this; exact this
theorem maxI_bd (k : Int) : 0 ≤ maxI k ∧ maxI k ≤ 7 := by
  unfold maxI
  repeat' split
  all_goals omega

/-- The first test of CapOk. -/
def failB (k b r d g q f : Int) : Bool := !(bitsB k b && withinB r 0 (maxI k) && extB k b d g q f)

theorem bits_kind {k b : Int} (h : bitsB k b = true) : withinB k 1 7 = true := by
  simp only [bitsB, decide_eq_true_eq] at h
  simp [withinB]; omega
theorem span_no {k b : Int} (h : bitsB k b = false) (h1 : withinB k 1 7 = true) : spanI k b = 0 := by
  have hs := szI_no h
  simp only [bitsB, decide_eq_false_iff_not] at h
  simp only [withinB, decide_eq_true_eq] at h1
  unfold spanI
  by_cases e : k = 7
  · rw [if_pos e, if_neg (by omega)]
  · rw [if_neg e]; exact hs
theorem align_zero (a : Int) : alignB a 0 = false := by simp [alignB, fineB]
theorem beside_ext {k b d g q f : Int} (h : bitsB k b = true) : besideB k b d g q f = extB k b d g q f := by
  have hf : withinB f 0 (fmaxI k b) = fadB k b f := by
    simp only [bitsB, decide_eq_true_eq] at h
    unfold withinB fadB fmaxI
    by_cases e : k = 1
    · subst e
      have hs : szI 1 b = sizeI b := by unfold szI; rw [if_pos rfl, if_pos (by omega)]
      have hb := sizeI_bd b
      rw [if_pos rfl, hs, Bool.eq_iff_iff]; simp; omega
    · rw [if_neg e, Bool.eq_iff_iff]; simp [e]; omega
  unfold besideB extB badB gadB
  rw [hf]; simp [Bool.and_assoc]
theorem okB_fail {k b r d g q f : Int} (a : Int) (o : Bool) (h : failB k b r d g q f = true) : okB k a b r d g q f o = false := by
  cases h1 : withinB k 1 7
  · simp [okB, h1]
  · cases h2 : withinB r 0 (maxI k)
    · simp [okB, h2]
    · cases h3 : bitsB k b
      · simp [okB, span_no h3 h1, align_zero]
      · have : extB k b d g q f = false := by simpa [failB, h2, h3] using h
        simp [okB, beside_ext h3, this]
theorem okB_go {k b r d g q f : Int} (a : Int) (o : Bool) (h : failB k b r d g q f = false) : okB k a b r d g q f o = ((alignB a (spanI k b) && inB a (spanI k b) 0 4096) && origB k o) := by
  have h' : (bitsB k b = true ∧ withinB r 0 (maxI k) = true) ∧ extB k b d g q f = true := by simpa [failB] using h
  obtain ⟨⟨h1, h2⟩, h3⟩ := h'
  simp [okB, bits_kind h1, h2, beside_ext h1, h3]
theorem span_reply {k b r d g q f : Int} (h : failB k b r d g q f = false) (e : (k == 7) = true) : spanI k b = 32 := by
  have h' : (bitsB k b = true ∧ withinB r 0 (maxI k) = true) ∧ extB k b d g q f = true := by simpa [failB] using h
  have hb := h'.1.1
  have e' : k = 7 := by simpa using e
  simp only [bitsB, decide_eq_true_eq] at hb
  unfold spanI; rw [if_pos e', if_pos (by omega)]
theorem align_fine {a s : Int} (h : alignB a s = true) : 0 ≤ a ∧ 0 < s ∧ a ≤ 4096 ∧ s ≤ 4096 := by
  have : fineB a s = true := by
    unfold alignB at h; revert h; cases fineB a s <;> simp
  exact fineB_true this
theorem in_no {a s : Int} (h : 4096 < a + s) : inB a s 0 4096 = false := by
  unfold inB
  have : decide (a + s ≤ 0 + 4096) = false := by simp; omega
  rw [this, Bool.and_false]
theorem in_yes {a s : Int} (h : 0 ≤ a ∧ 0 < s ∧ a ≤ 4096 ∧ s ≤ 4096) (h1 : a + s ≤ 4096) : inB a s 0 4096 = true := by
  unfold inB
  rw [fineB_mk h, fineB_mk (by omega)]
  simp; omega
theorem bne_of {k c : Int} {x : Bool} (h : (k == c) = x) : (k != c) = !x := by simp [bne, h]
theorem orig_of {k : Int} {x y : Bool} (h1 : (k == 1) = x) (h7 : (k == 7) = y) (o : Bool) : origB k o = (if x then o else if y then !o else true) := by
  unfold origB
  subst h1 h7
  simp

set_option maxRecDepth 100000 in
set_option maxHeartbeats 2000000 in
theorem okSpec_any (k a b r d g q f : Int) (o : Bool) (w : World) :
    Calls Tryz.prog 9 #[.agg #[.int .i64 k, .int .i64 a, .int .i64 b, .int .i64 r, .int .i64 d, .int .i64 g, .int .i64 q, .int .i64 f, .bool o]] w fun e w' => e = .returned (.bool (okB k a b r d g q f o)) ∧ Below w.heap.size w w' := by
  go_enter Tryz.func9, Tryz.ntmps9
  go_upto_region 1 with fail
  go_cut [33] (fun v wx => v = .bool (failB k b r d g q f) ∧ wx.cell? ⟨w.heap.size, 0, none⟩ = some (.int .i64 k) ∧ wx.cell? ⟨w.heap.size, 1, none⟩ = some (.int .i64 a) ∧ wx.cell? ⟨w.heap.size, 2, none⟩ = some (.int .i64 b) ∧ wx.cell? ⟨w.heap.size, 8, none⟩ = some (.bool o) ∧ Below w.heap.size w wx)
  case first =>
    have hm := maxI_bd k
    cases eb : bitsB k b
    · go_quiet ((first | (go_at_call 24; exact Calls.quiet_of_same (bits_no _ _ _ (by assumption)))))
      go_wp2
      go_meet
      case rel => exact ⟨congrArg Value.bool (by simp [failB, eb]), by go_simp, by go_simp, by go_simp, by go_simp, below_drewN ((Below.refl _ _).alloc (Nat.le_refl _) _) _⟩
    · by_cases h0 : r < 0
      · have g0 : decide (r < 0) = true := by simpa using h0
        have hw : withinB r 0 (maxI k) = false := by simp [withinB]; omega
        go_quiet ((first | (go_at_call 24; exact Calls.quiet_of_same (bits_yes _ _ _ (by assumption)))))
        go_wp2
        go_meet
        case rel => exact ⟨congrArg Value.bool (by simp [failB, hw]), by go_simp, by go_simp, by go_simp, by go_simp, below_drewN ((Below.refl _ _).alloc (Nat.le_refl _) _) _⟩
      · have g0 : decide (r < 0) = false := by simpa using h0
        by_cases h1 : 7 < r
        · have g1 : decide (7 < r) = true := by simpa using h1
          have hw : withinB r 0 (maxI k) = false := by simp [withinB]; omega
          go_quiet ((first | (go_at_call 24; exact Calls.quiet_of_same (bits_yes _ _ _ (by assumption)))))
          go_wp2
          go_meet
          case rel => exact ⟨congrArg Value.bool (by simp [failB, hw]), by go_simp, by go_simp, by go_simp, by go_simp, below_drewN ((Below.refl _ _).alloc (Nat.le_refl _) _) _⟩
        · have g1 : decide (7 < r) = false := by simpa using h1
          have hs : Hid _ := sub_max k r (by omega) (by omega)
          cases es : subB r (maxI k)
          · go_quiet ((first | (go_at_call 24; exact Calls.quiet_of_same (bits_yes _ _ _ (by assumption))) | (go_at_call 26; exact Calls.quiet_of_same (maxSpec_any _ _)) | (go_at_call 25; exact Calls.quiet_of_same (sub_no _ _ _ (by omega) (by omega) (by omega) (by omega) (by assumption)))))
            go_wp2
            go_meet
            case rel => exact ⟨congrArg Value.bool (by simp [failB, ← hs.out, es]), by go_simp, by go_simp, by go_simp, by go_simp, below_drewN ((Below.refl _ _).alloc (Nat.le_refl _) _) _⟩
          · go_region_held3 (fun w' => w'.cell? ⟨w.heap.size, 0, none⟩ = some (.int .i64 k) ∧ w'.cell? ⟨w.heap.size, 1, none⟩ = some (.int .i64 a) ∧ w'.cell? ⟨w.heap.size, 2, none⟩ = some (.int .i64 b) ∧ w'.cell? ⟨w.heap.size, 3, none⟩ = some (.int .i64 r) ∧ w'.cell? ⟨w.heap.size, 4, none⟩ = some (.int .i64 d) ∧ w'.cell? ⟨w.heap.size, 5, none⟩ = some (.int .i64 g) ∧ w'.cell? ⟨w.heap.size, 6, none⟩ = some (.int .i64 q) ∧ w'.cell? ⟨w.heap.size, 7, none⟩ = some (.int .i64 f) ∧ w'.cell? ⟨w.heap.size, 8, none⟩ = some (.bool o) ∧ w.heap.size < w'.heap.size) (go_simp) (first | (go_at_call 24; refine (bits_yes _ _ _ (by assumption)).mono ?_; rintro e w1 ⟨rfl, rfl⟩) | (go_at_call 26; refine (maxSpec_any _ _).mono ?_; rintro e w1 ⟨rfl, rfl⟩) | (go_at_call 25; refine (sub_yes _ _ _ (by omega) (by omega) (by omega) (by omega) (by assumption)).mono ?_; rintro e w1 ⟨rfl, rfl⟩) | (go_at_call 27; refine (ext_any _ _ _ _ _ _ _ _ _ _).mono ?_; rintro e w1 ⟨rfl, hb⟩; obtain ⟨hc, hf⟩ := bcell hb; have hz : w.heap.size < w1.heap.size := (by have := hb.size; simp at this; omega)))
            all_goals go_wp2
            all_goals go_meet
            case rel => exact ⟨congrArg Value.bool (by simp [failB, eb, ← hs.out, es]), by go_simp, by go_simp, by go_simp, by go_simp, by refine Below.trans ?_ (hb.mono (by simp)); repeat (first | exact Below.refl _ _ | apply Below.drew | (refine below_drewN ?_ _) | (refine Below.alloc ?_ (by simp; try omega) _))⟩
  case rest =>
    obtain ⟨rfl, hc0, hc1, hc2, hc8, hbel⟩ := hcut
    cases ef : failB k b r d g q f
    · have HO : Hid _ := okB_go a o ef
      cases ek : (k == 7)
      · have HS : Hid (spanI k b = szI k b) := by unfold Hid spanI; rw [if_neg (by simpa using ek)]
        cases eA : alignB a (szI k b)
        · go_wp2_with (first | (go_at_call 28; refine (sizeSpecKind_any _ _ _).mono ?_; rintro e w' ⟨rfl, rfl⟩) | (go_at_call 29; refine (alignSpec_any _ _ _).mono ?_; rintro e w' ⟨rfl, rfl⟩))
          go_ret
          exact ⟨ret_bool (by rw [HO.out, HS.out, eA]; rfl), hbel⟩
        · have hfa := align_fine eA
          by_cases hi : 4096 < a + szI k b
          · go_wp2_with (first | (go_at_call 28; refine (sizeSpecKind_any _ _ _).mono ?_; rintro e w' ⟨rfl, rfl⟩) | (go_at_call 29; refine (alignSpec_any _ _ _).mono ?_; rintro e w' ⟨rfl, rfl⟩))
            go_ret
            exact ⟨ret_bool (by rw [HO.out, HS.out, in_no hi, Bool.and_false]; rfl), hbel⟩
          · have n7 : (k != 7) = true := by simp [bne, ek]
            cases e1 : (k == 1) <;> cases o
            all_goals
              have n1 := bne_of e1
              go_wp2_with (first | (go_at_call 28; refine (sizeSpecKind_any _ _ _).mono ?_; rintro e w' ⟨rfl, rfl⟩) | (go_at_call 29; refine (alignSpec_any _ _ _).mono ?_; rintro e w' ⟨rfl, rfl⟩))
              go_ret
              exact ⟨ret_bool (by rw [HO.out, HS.out, eA, in_yes hfa (by omega), orig_of e1 ek]; rfl), hbel⟩
      · have HS : Hid (spanI k b = 32) := span_reply ef ek
        cases eA : alignB a 32
        · go_wp2_with (first | (go_at_call 28; refine (sizeSpecKind_any _ _ _).mono ?_; rintro e w' ⟨rfl, rfl⟩) | (go_at_call 29; refine (alignSpec_any _ _ _).mono ?_; rintro e w' ⟨rfl, rfl⟩))
          go_ret
          exact ⟨ret_bool (by rw [HO.out, HS.out, eA]; rfl), hbel⟩
        · have hfa := align_fine eA
          by_cases hi : 4096 < a + 32
          · go_wp2_with (first | (go_at_call 28; refine (sizeSpecKind_any _ _ _).mono ?_; rintro e w' ⟨rfl, rfl⟩) | (go_at_call 29; refine (alignSpec_any _ _ _).mono ?_; rintro e w' ⟨rfl, rfl⟩))
            go_ret
            exact ⟨ret_bool (by rw [HO.out, HS.out, in_no hi, Bool.and_false]; rfl), hbel⟩
          · have e1 : (k == 1) = false := by
              have : k = 7 := by simpa using ek
              simp [this]
            have n7 : (k != 7) = false := by simp [bne, ek]
            have n1 : (k != 1) = true := by simp [bne, e1]
            cases o
            all_goals go_wp2_with (first | (go_at_call 28; refine (sizeSpecKind_any _ _ _).mono ?_; rintro e w' ⟨rfl, rfl⟩) | (go_at_call 29; refine (alignSpec_any _ _ _).mono ?_; rintro e w' ⟨rfl, rfl⟩))
            all_goals go_ret
            all_goals exact ⟨ret_bool (by rw [HO.out, HS.out, eA, in_yes hfa (by omega), orig_of e1 ek]; rfl), hbel⟩
    · go_wp2
      go_ret
      exact ⟨ret_bool (okB_fail a o ef).symm, hbel⟩

end Go.Proofs.YthmambhagheocaaGreatDoor
