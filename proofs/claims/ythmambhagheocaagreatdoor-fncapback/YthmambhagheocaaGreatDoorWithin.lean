/-
  What WordIn of the program answers, at every argument.
-/
import Derived.Test.YthmambhagheocaaGreatDoorImpl
namespace Go.Proofs.YthmambhagheocaaGreatDoor
open Go.ChangeShapes Go.WideShapes Go.ChangeAt Go.RowKit
set_option linter.unusedVariables false

set_option maxHeartbeats 1000000 in
theorem withinM_no (b t : Int) (w : World) :
    Calls Tryz.prog 65 #[.agg #[.int .u32 0, .int .u32 0], .agg #[.int .u32 b, .int .u32 t]] w fun e w' => e = .returned (.bool false) ∧ Below w.heap.size w w' := by
  go_enter Tryz.func65, Tryz.ntmps65
  go_wp2
  refine wp_region_any (by kernel_rfl) ?_
  change wpAny _ _ _ _ _ _ _ (World.drew _)
  refine wpAny_ready (rs := [0]) (by kernel_rfl) (by simp) ?_
  refine AllReady.cons rfl (fun K hK => ?_) AllReady.nil
  go_simp
  refine hK _ _ ?_; clear hK K
  refine wpAny_ready (rs := [1]) (by kernel_rfl) (by simp) ?_
  refine AllReady.cons rfl (fun K hK => ?_) AllReady.nil
  go_simp
  go_wp2_with (first | (go_at_call 63; refine (none_yes _).mono ?_; rintro e w1 ⟨rfl, rfl⟩))
  first | (refine hK _ _ ?_; clear hK K) | skip
  refine wpAny_ready (rs := [2]) (by kernel_rfl) (by simp) ?_
  refine AllReady.cons rfl (fun K hK => ?_) AllReady.nil
  go_simp
  refine hK _ _ ?_; clear hK K
  refine wpAny_ready (rs := [3]) (by kernel_rfl) (by simp) ?_
  refine AllReady.cons rfl (fun K hK => ?_) AllReady.nil
  go_simp
  refine hK _ _ ?_; clear hK K
  refine wpAny_take (i := 4) (v := undef) rfl (by kernel_rfl) (by kernel_rfl) (by kernel_rfl) (fun _ _ _ h => h) (Or.inr ⟨by rfl, rfl⟩) ?_
  refine wpAny_take (i := 5) (v := undef) rfl (by kernel_rfl) (by kernel_rfl) (by kernel_rfl) (fun _ _ _ h => h) (Or.inr ⟨by rfl, rfl⟩) ?_
  refine wpAny_take (i := 6) (v := undef) rfl (by kernel_rfl) (by kernel_rfl) (by kernel_rfl) (fun _ _ _ h => h) (Or.inr ⟨by rfl, rfl⟩) ?_
  refine wpAny_take (i := 7) (v := undef) rfl (by kernel_rfl) (by kernel_rfl) (by kernel_rfl) (fun _ _ _ h => h) (Or.inr ⟨by rfl, rfl⟩) ?_
  refine wpAny_take (i := 8) (v := undef) rfl (by kernel_rfl) (by kernel_rfl) (by kernel_rfl) (fun _ _ _ h => h) (Or.inr ⟨by rfl, rfl⟩) ?_
  refine wpAny_ready (rs := [9]) (by kernel_rfl) (by simp) ?_
  refine AllReady.cons rfl (fun K hK => ?_) AllReady.nil
  go_simp
  refine hK _ _ ?_; clear hK K
  refine wpAny_ready (rs := [10]) (by kernel_rfl) (by simp) ?_
  refine AllReady.cons rfl (fun K hK => ?_) AllReady.nil
  go_simp
  refine hK _ _ ?_; clear hK K
  refine wpAny_done (by kernel_rfl) ?_ _
  go_wp2
  go_ret
  exact ⟨rfl, by repeat (first | exact Below.refl _ _ | apply Below.drew | (refine Below.alloc ?_ (by simp; try omega) _))⟩

set_option maxHeartbeats 1000000 in
theorem withinM_a (a s b t : Int) (w : World) (h1 : 0 ≤ a) (h2 : 0 < s) (h3 : a ≤ 4096) (h4 : s ≤ 4096) (k1 : 0 ≤ b) (k2 : 0 ≤ t) (k3 : b ≤ 4096) (k4 : t ≤ 4096)
    (hp : Hid (comA a s b t = a)) (hq : Hid (comS a s b t = s)) :
    Calls Tryz.prog 65 #[.agg #[.int .u32 a, .int .u32 s], .agg #[.int .u32 b, .int .u32 t]] w fun e w' => e = .returned (.bool true) ∧ Below w.heap.size w w' := by
  go_enter Tryz.func65, Tryz.ntmps65
  go_wp2
  go_region_held3 (fun w' => (w'.cell? ⟨w.heap.size, 0, none⟩ = some (.int .u32 a) ∧ w'.cell? ⟨w.heap.size, 1, none⟩ = some (.int .u32 s)) ∧ (w'.cell? ⟨w.heap.size + 1, 0, none⟩ = some (.int .u32 b) ∧ w'.cell? ⟨w.heap.size + 1, 1, none⟩ = some (.int .u32 t)) ∧ w.heap.size + 1 < w'.heap.size) (go_simp) (first | (go_at_call 63; refine (none_no _ _ _ (by omega)).mono ?_; rintro e w1 ⟨rfl, rfl⟩) | (go_at_call 75; refine (common_is _ _ _ _ a s _ (by omega) (by omega) (by omega) (by omega) (by omega) (by omega) (by omega) (by omega) hp hq).mono ?_; rintro e w1 ⟨rfl, hb⟩; obtain ⟨hc, hf⟩ := bcell hb; have hz : w.heap.size + 1 < w1.heap.size := (by have := hb.size; simp at this; omega)))
  all_goals go_wp2
  all_goals go_ret
  all_goals exact ⟨rfl, by refine Below.trans ?_ (hb.mono (by simp; omega)); repeat (first | exact Below.refl _ _ | apply Below.drew | (refine Below.alloc ?_ (by simp; try omega) _))⟩

set_option maxHeartbeats 1000000 in
theorem withinM_b (a s b t p q : Int) (w : World) (h1 : 0 ≤ a) (h2 : 0 < s) (h3 : a ≤ 4096) (h4 : s ≤ 4096) (k1 : 0 ≤ b) (k2 : 0 ≤ t) (k3 : b ≤ 4096) (k4 : t ≤ 4096)
    (hp : Hid (comA a s b t = p)) (hq : Hid (comS a s b t = q)) (hpa : (p == a) = false) (hpa1 : ¬ p = a) :
    Calls Tryz.prog 65 #[.agg #[.int .u32 a, .int .u32 s], .agg #[.int .u32 b, .int .u32 t]] w fun e w' => e = .returned (.bool false) ∧ Below w.heap.size w w' := by
  go_enter Tryz.func65, Tryz.ntmps65
  go_wp2
  go_region_held3 (fun w' => (w'.cell? ⟨w.heap.size, 0, none⟩ = some (.int .u32 a) ∧ w'.cell? ⟨w.heap.size, 1, none⟩ = some (.int .u32 s)) ∧ (w'.cell? ⟨w.heap.size + 1, 0, none⟩ = some (.int .u32 b) ∧ w'.cell? ⟨w.heap.size + 1, 1, none⟩ = some (.int .u32 t)) ∧ w.heap.size + 1 < w'.heap.size) (go_simp) (first | (go_at_call 63; refine (none_no _ _ _ (by omega)).mono ?_; rintro e w1 ⟨rfl, rfl⟩) | (go_at_call 75; refine (common_is _ _ _ _ p q _ (by omega) (by omega) (by omega) (by omega) (by omega) (by omega) (by omega) (by omega) hp hq).mono ?_; rintro e w1 ⟨rfl, hb⟩; obtain ⟨hc, hf⟩ := bcell hb; have hz : w.heap.size + 1 < w1.heap.size := (by have := hb.size; simp at this; omega)))
  all_goals go_wp2
  all_goals go_ret
  all_goals exact ⟨rfl, by refine Below.trans ?_ (hb.mono (by simp; omega)); repeat (first | exact Below.refl _ _ | apply Below.drew | (refine Below.alloc ?_ (by simp; try omega) _))⟩

set_option maxHeartbeats 1000000 in
theorem withinM_c (a s b t q : Int) (w : World) (h1 : 0 ≤ a) (h2 : 0 < s) (h3 : a ≤ 4096) (h4 : s ≤ 4096) (k1 : 0 ≤ b) (k2 : 0 ≤ t) (k3 : b ≤ 4096) (k4 : t ≤ 4096)
    (hp : Hid (comA a s b t = a)) (hq : Hid (comS a s b t = q)) (hqs : (q == s) = false) (hqs1 : ¬ q = s) :
    Calls Tryz.prog 65 #[.agg #[.int .u32 a, .int .u32 s], .agg #[.int .u32 b, .int .u32 t]] w fun e w' => e = .returned (.bool false) ∧ Below w.heap.size w w' := by
  go_enter Tryz.func65, Tryz.ntmps65
  go_wp2
  go_region_held3 (fun w' => (w'.cell? ⟨w.heap.size, 0, none⟩ = some (.int .u32 a) ∧ w'.cell? ⟨w.heap.size, 1, none⟩ = some (.int .u32 s)) ∧ (w'.cell? ⟨w.heap.size + 1, 0, none⟩ = some (.int .u32 b) ∧ w'.cell? ⟨w.heap.size + 1, 1, none⟩ = some (.int .u32 t)) ∧ w.heap.size + 1 < w'.heap.size) (go_simp) (first | (go_at_call 63; refine (none_no _ _ _ (by omega)).mono ?_; rintro e w1 ⟨rfl, rfl⟩) | (go_at_call 75; refine (common_is _ _ _ _ a q _ (by omega) (by omega) (by omega) (by omega) (by omega) (by omega) (by omega) (by omega) hp hq).mono ?_; rintro e w1 ⟨rfl, hb⟩; obtain ⟨hc, hf⟩ := bcell hb; have hz : w.heap.size + 1 < w1.heap.size := (by have := hb.size; simp at this; omega)))
  all_goals go_wp2
  all_goals go_ret
  all_goals exact ⟨rfl, by refine Below.trans ?_ (hb.mono (by simp; omega)); repeat (first | exact Below.refl _ _ | apply Below.drew | (refine Below.alloc ?_ (by simp; try omega) _))⟩

/-- One range in another, as numbers. -/
theorem withinM_any (a s b t : Int) (w : World) (h1 : 0 ≤ a) (h2 : 0 < s) (h3 : a ≤ 4096) (h4 : s ≤ 4096) (k1 : 0 ≤ b) (k2 : 0 ≤ t) (k3 : b ≤ 4096) (k4 : t ≤ 4096) :
    Calls Tryz.prog 65 #[.agg #[.int .u32 a, .int .u32 s], .agg #[.int .u32 b, .int .u32 t]] w fun e w' => e = .returned (.bool (decide (b ≤ a ∧ a + s ≤ b + t))) ∧ Below w.heap.size w w' := by
  by_cases g : b ≤ a ∧ a + s ≤ b + t
  · rw [decide_eq_true g]
    exact withinM_a a s b t w h1 h2 h3 h4 k1 k2 k3 k4 (by unfold Hid comA; rw [if_neg (by omega)]; omega) (by unfold Hid comS; rw [if_neg (by omega)]; omega)
  · rw [decide_eq_false g]
    by_cases e1 : comA a s b t = a
    · have e2 : ¬ comS a s b t = s := by
        unfold comA at e1; unfold comS
        split at e1 <;> (try rw [if_pos ‹_›]) <;> (try rw [if_neg ‹_›]) <;> omega
      exact withinM_c a s b t _ w h1 h2 h3 h4 k1 k2 k3 k4 e1 rfl (by simpa using e2) e2
    · exact withinM_b a s b t _ _ w h1 h2 h3 h4 k1 k2 k3 k4 rfl rfl (by simpa using e1) e1

set_option maxHeartbeats 1000000 in
theorem inImpl_any (a s b t : Int) (w : World) :
    Calls Tryz.prog 44 #[.int .i64 a, .int .i64 s, .int .i64 b, .int .i64 t] w fun e w' => e = .returned (.bool (inB a s b t)) ∧ Below w.heap.size w w' := by
  cases h : fineB a s
  · have e : inB a s b t = false := by unfold inB; simp [h]
    rw [e]
    cases k : fineB b t
    · go_enter Tryz.func44, Tryz.ntmps44
      go_wp2_with (first | (go_at_call 62; refine (rangeOf_no _ _ _ (by assumption)).mono ?_; rintro e w' ⟨rfl, rfl⟩) | (go_at_call 65; refine (withinM_no _ _ _).mono ?_; rintro e w1 ⟨rfl, hb⟩))
      go_ret
      exact ⟨rfl, (((Below.refl _ _).alloc (Nat.le_refl _) _).alloc (by simp) _).trans (hb.mono (by simp; omega))⟩
    · go_enter Tryz.func44, Tryz.ntmps44
      go_wp2_with (first | (go_at_call 62; refine (rangeOf_no _ _ _ (by assumption)).mono ?_; rintro e w' ⟨rfl, rfl⟩) | (go_at_call 62; refine (rangeOf_fine _ _ _ (by assumption)).mono ?_; rintro e w' ⟨rfl, rfl⟩) | (go_at_call 65; refine (withinM_no _ _ _).mono ?_; rintro e w1 ⟨rfl, hb⟩))
      go_ret
      exact ⟨rfl, (((Below.refl _ _).alloc (Nat.le_refl _) _).alloc (by simp) _).trans (hb.mono (by simp; omega))⟩
  · obtain ⟨h1, h2, h3, h4⟩ := fineB_true h
    cases k : fineB b t
    · have e : inB a s b t = false := by unfold inB; simp [k]
      have HC : Hid _ := (fun w => withinM_any a s 0 0 w h1 h2 h3 h4 (by omega) (by omega) (by omega) (by omega))
      rw [e]
      rw [decide_eq_false (by omega)] at HC
      go_enter Tryz.func44, Tryz.ntmps44
      go_wp2_with (first | (go_at_call 62; refine (rangeOf_no _ _ _ (by assumption)).mono ?_; rintro e w' ⟨rfl, rfl⟩) | (go_at_call 62; refine (rangeOf_fine _ _ _ (by assumption)).mono ?_; rintro e w' ⟨rfl, rfl⟩) | (go_at_call 65; refine (HC.out _).mono ?_; rintro e w1 ⟨rfl, hb⟩))
      go_ret
      exact ⟨rfl, (((Below.refl _ _).alloc (Nat.le_refl _) _).alloc (by simp) _).trans (hb.mono (by simp; omega))⟩
    · obtain ⟨k1, k2, k3, k4⟩ := fineB_true k
      have e : inB a s b t = decide (b ≤ a ∧ a + s ≤ b + t) := by unfold inB; simp [h, k]
      have HC : Hid _ := (fun w => e ▸ withinM_any a s b t w h1 h2 h3 h4 (by omega) (by omega) (by omega) (by omega))
      clear e
      go_enter Tryz.func44, Tryz.ntmps44
      go_wp2_with (first | (go_at_call 62; refine (rangeOf_fine _ _ _ (by assumption)).mono ?_; rintro e w' ⟨rfl, rfl⟩) | (go_at_call 65; refine (HC.out _).mono ?_; rintro e w1 ⟨rfl, hb⟩))
      go_ret
      exact ⟨rfl, (((Below.refl _ _).alloc (Nat.le_refl _) _).alloc (by simp) _).trans (hb.mono (by simp; omega))⟩

end Go.Proofs.YthmambhagheocaaGreatDoor
