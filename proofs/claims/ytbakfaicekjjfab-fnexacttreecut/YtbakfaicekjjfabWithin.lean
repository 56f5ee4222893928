/-
  What WordIn of the program answers, at every argument.
-/
import Derived.Test.YtbakfaicekjjfabImpl
namespace Go.Proofs.Ytbakfaicekjjfab
open Go.ChangeShapes Go.WideShapes Go.ChangeAt Go.RowKit
set_option linter.unusedVariables false

set_option maxHeartbeats 1000000 in
theorem inImpl_no (a s b t : Int) (w : World) (h : fineB a s = false) :
    Calls Try.prog 59 #[.int .i64 a, .int .i64 s, .int .i64 b, .int .i64 t] w fun e w' => e = .returned (.bool false) ∧ Below w.heap.size w w' := by
  go_enter Try.func59, Try.ntmps59
  go_wp2_with (first | (go_at_call 64; refine (rangeOf_no _ _ _ (by assumption)).mono ?_; rintro e w' ⟨rfl, rfl⟩))
  refine wp_region_any (by kernel_rfl) ?_
  change wpAny _ _ _ _ _ _ _ (World.drew _)
  refine wpAny_ready (rs := [0]) (by kernel_rfl) (by simp) ?_
  refine AllReady.cons rfl (fun K hK => ?_) AllReady.nil
  go_simp
  refine hK _ _ ?_; clear hK K
  refine wpAny_ready (rs := [1]) (by kernel_rfl) (by simp) ?_
  refine AllReady.cons rfl (fun K hK => ?_) AllReady.nil
  go_simp
  go_wp2_with (first | (go_at_call 65; refine (none_yes _).mono ?_; rintro e w1 ⟨rfl, rfl⟩))
  first | (refine hK _ _ ?_; clear hK K) | skip
  refine wpAny_ready (rs := [2]) (by kernel_rfl) (by simp) ?_
  refine AllReady.cons rfl (fun K hK => ?_) AllReady.nil
  go_simp
  refine hK _ _ ?_; clear hK K
  refine wpAny_ready (rs := [3]) (by kernel_rfl) (by simp) ?_
  refine AllReady.cons rfl (fun K hK => ?_) AllReady.nil
  go_simp
  refine hK _ _ ?_; clear hK K
  refine wpAny_take (i := 4) (v := undef) rfl (by kernel_rfl) (by kernel_rfl) (by kernel_rfl) (fun _ _ _ h => h) (Or.inr ⟨by rfl, rfl⟩) ?_
  refine wpAny_take (i := 5) (v := undef) rfl (by kernel_rfl) (by kernel_rfl) (by kernel_rfl) (fun _ _ _ h => h) (Or.inr ⟨by rfl, rfl⟩) ?_
  refine wpAny_take (i := 6) (v := undef) rfl (by kernel_rfl) (by kernel_rfl) (by kernel_rfl) (fun _ _ _ h => h) (Or.inr ⟨by rfl, rfl⟩) ?_
  refine wpAny_take (i := 7) (v := undef) rfl (by kernel_rfl) (by kernel_rfl) (by kernel_rfl) (fun _ _ _ h => h) (Or.inr ⟨by rfl, rfl⟩) ?_
  refine wpAny_take (i := 8) (v := undef) rfl (by kernel_rfl) (by kernel_rfl) (by kernel_rfl) (fun _ _ _ h => h) (Or.inr ⟨by rfl, rfl⟩) ?_
  refine wpAny_take (i := 9) (v := undef) rfl (by kernel_rfl) (by kernel_rfl) (by kernel_rfl) (fun _ _ _ h => h) (Or.inr ⟨by rfl, rfl⟩) ?_
  refine wpAny_take (i := 10) (v := undef) rfl (by kernel_rfl) (by kernel_rfl) (by kernel_rfl) (fun _ _ _ h => h) (Or.inr ⟨by rfl, rfl⟩) ?_
  refine wpAny_ready (rs := [11]) (by kernel_rfl) (by simp) ?_
  refine AllReady.cons rfl (fun K hK => ?_) AllReady.nil
  go_simp
  refine hK _ _ ?_; clear hK K
  refine wpAny_ready (rs := [12]) (by kernel_rfl) (by simp) ?_
  refine AllReady.cons rfl (fun K hK => ?_) AllReady.nil
  go_simp
  refine hK _ _ ?_; clear hK K
  refine wpAny_done (by kernel_rfl) ?_ _
  go_wp2
  go_ret
  exact ⟨rfl, by repeat (first | exact Below.refl _ _ | apply Below.drew | (refine Below.alloc ?_ (by simp; try omega) _))⟩

set_option maxHeartbeats 1000000 in
theorem inImpl_a (a s b t : Int) (w : World) (h : fineB a s = true) (h1 : 0 ≤ a) (h2 : 0 < s) (h3 : a ≤ 4096) (h4 : s ≤ 4096) (k : fineB b t = true) (k1 : 0 ≤ b) (k2 : 0 < t) (k3 : b ≤ 4096) (k4 : t ≤ 4096)
    (hp : Hid (comA a s b t = a)) (hq : Hid (comS a s b t = s)) :
    Calls Try.prog 59 #[.int .i64 a, .int .i64 s, .int .i64 b, .int .i64 t] w fun e w' => e = .returned (.bool true) ∧ Below w.heap.size w w' := by
  go_enter Try.func59, Try.ntmps59
  go_wp2_with (first | (go_at_call 64; refine (rangeOf_fine _ _ _ (by assumption)).mono ?_; rintro e w' ⟨rfl, rfl⟩))
  go_region_held3 (fun w' => w'.cell? ⟨w.heap.size + 1, 0, none⟩ = some (.int .u32 a) ∧ w'.cell? ⟨w.heap.size + 1, 1, none⟩ = some (.int .u32 s) ∧ w.heap.size + 1 < w'.heap.size) (go_simp) (first | (go_at_call 65; refine (none_no _ _ _ (by omega)).mono ?_; rintro e w1 ⟨rfl, rfl⟩) | (go_at_call 64; refine (rangeOf_fine _ _ _ (by assumption)).mono ?_; rintro e w1 ⟨rfl, rfl⟩) | (go_at_call 68; refine (common_is _ _ _ _ a s _ (by omega) (by omega) (by omega) (by omega) (by omega) (by omega) (by omega) (by omega) hp hq).mono ?_; rintro e w1 ⟨rfl, hb⟩; obtain ⟨hc, hf⟩ := bcell hb; have hz : w.heap.size + 1 < w1.heap.size := (by have := hb.size; simp at this; omega)))
  all_goals go_wp2
  all_goals go_ret
  all_goals exact ⟨rfl, by refine Below.trans ?_ (hb.mono (by simp; omega)); repeat (first | exact Below.refl _ _ | apply Below.drew | (refine Below.alloc ?_ (by simp; try omega) _))⟩

set_option maxHeartbeats 1000000 in
theorem inImpl_b (a s b t p q : Int) (w : World) (h : fineB a s = true) (h1 : 0 ≤ a) (h2 : 0 < s) (h3 : a ≤ 4096) (h4 : s ≤ 4096) (k : fineB b t = true) (k1 : 0 ≤ b) (k2 : 0 < t) (k3 : b ≤ 4096) (k4 : t ≤ 4096)
    (hp : Hid (comA a s b t = p)) (hq : Hid (comS a s b t = q)) (hpa : (p == a) = false) (hpa1 : ¬ p = a) :
    Calls Try.prog 59 #[.int .i64 a, .int .i64 s, .int .i64 b, .int .i64 t] w fun e w' => e = .returned (.bool false) ∧ Below w.heap.size w w' := by
  go_enter Try.func59, Try.ntmps59
  go_wp2_with (first | (go_at_call 64; refine (rangeOf_fine _ _ _ (by assumption)).mono ?_; rintro e w' ⟨rfl, rfl⟩))
  go_region_held3 (fun w' => w'.cell? ⟨w.heap.size + 1, 0, none⟩ = some (.int .u32 a) ∧ w'.cell? ⟨w.heap.size + 1, 1, none⟩ = some (.int .u32 s) ∧ w.heap.size + 1 < w'.heap.size) (go_simp) (first | (go_at_call 65; refine (none_no _ _ _ (by omega)).mono ?_; rintro e w1 ⟨rfl, rfl⟩) | (go_at_call 64; refine (rangeOf_fine _ _ _ (by assumption)).mono ?_; rintro e w1 ⟨rfl, rfl⟩) | (go_at_call 68; refine (common_is _ _ _ _ p q _ (by omega) (by omega) (by omega) (by omega) (by omega) (by omega) (by omega) (by omega) hp hq).mono ?_; rintro e w1 ⟨rfl, hb⟩; obtain ⟨hc, hf⟩ := bcell hb; have hz : w.heap.size + 1 < w1.heap.size := (by have := hb.size; simp at this; omega)))
  all_goals go_wp2
  all_goals go_ret
  all_goals exact ⟨rfl, by refine Below.trans ?_ (hb.mono (by simp; omega)); repeat (first | exact Below.refl _ _ | apply Below.drew | (refine Below.alloc ?_ (by simp; try omega) _))⟩

set_option maxHeartbeats 1000000 in
theorem inImpl_c (a s b t q : Int) (w : World) (h : fineB a s = true) (h1 : 0 ≤ a) (h2 : 0 < s) (h3 : a ≤ 4096) (h4 : s ≤ 4096) (k : fineB b t = true) (k1 : 0 ≤ b) (k2 : 0 < t) (k3 : b ≤ 4096) (k4 : t ≤ 4096)
    (hp : Hid (comA a s b t = a)) (hq : Hid (comS a s b t = q)) (hqs : (q == s) = false) (hqs1 : ¬ q = s) :
    Calls Try.prog 59 #[.int .i64 a, .int .i64 s, .int .i64 b, .int .i64 t] w fun e w' => e = .returned (.bool false) ∧ Below w.heap.size w w' := by
  go_enter Try.func59, Try.ntmps59
  go_wp2_with (first | (go_at_call 64; refine (rangeOf_fine _ _ _ (by assumption)).mono ?_; rintro e w' ⟨rfl, rfl⟩))
  go_region_held3 (fun w' => w'.cell? ⟨w.heap.size + 1, 0, none⟩ = some (.int .u32 a) ∧ w'.cell? ⟨w.heap.size + 1, 1, none⟩ = some (.int .u32 s) ∧ w.heap.size + 1 < w'.heap.size) (go_simp) (first | (go_at_call 65; refine (none_no _ _ _ (by omega)).mono ?_; rintro e w1 ⟨rfl, rfl⟩) | (go_at_call 64; refine (rangeOf_fine _ _ _ (by assumption)).mono ?_; rintro e w1 ⟨rfl, rfl⟩) | (go_at_call 68; refine (common_is _ _ _ _ a q _ (by omega) (by omega) (by omega) (by omega) (by omega) (by omega) (by omega) (by omega) hp hq).mono ?_; rintro e w1 ⟨rfl, hb⟩; obtain ⟨hc, hf⟩ := bcell hb; have hz : w.heap.size + 1 < w1.heap.size := (by have := hb.size; simp at this; omega)))
  all_goals go_wp2
  all_goals go_ret
  all_goals exact ⟨rfl, by refine Below.trans ?_ (hb.mono (by simp; omega)); repeat (first | exact Below.refl _ _ | apply Below.drew | (refine Below.alloc ?_ (by simp; try omega) _))⟩

set_option maxHeartbeats 1000000 in
theorem inImpl_d (a s b t : Int) (w : World) (h : fineB a s = true) (h1 : 0 ≤ a) (h2 : 0 < s) (h3 : a ≤ 4096) (h4 : s ≤ 4096) (k : fineB b t = false)
    (hp : Hid (comA a s 0 0 = 0)) (hq : Hid (comS a s 0 0 = 0)) (hs : ((0 : Int) == s) = false) (hs1 : ¬ (0 : Int) = s) :
    Calls Try.prog 59 #[.int .i64 a, .int .i64 s, .int .i64 b, .int .i64 t] w fun e w' => e = .returned (.bool false) ∧ Below w.heap.size w w' := by
  by_cases e0 : (0 : Int) = a
  · subst e0
    go_enter Try.func59, Try.ntmps59
    go_wp2_with (first | (go_at_call 64; refine (rangeOf_fine _ _ _ (by assumption)).mono ?_; rintro e w' ⟨rfl, rfl⟩))
    go_region_held3 (fun w' => w'.cell? ⟨w.heap.size + 1, 0, none⟩ = some (.int .u32 0) ∧ w'.cell? ⟨w.heap.size + 1, 1, none⟩ = some (.int .u32 s) ∧ w.heap.size + 1 < w'.heap.size) (go_simp) (first | (go_at_call 65; refine (none_no _ _ _ (by omega)).mono ?_; rintro e w1 ⟨rfl, rfl⟩) | (go_at_call 64; refine (rangeOf_no _ _ _ (by assumption)).mono ?_; rintro e w1 ⟨rfl, rfl⟩) | (go_at_call 68; refine (common_is _ _ _ _ 0 0 _ (by omega) (by omega) (by omega) (by omega) (by omega) (by omega) (by omega) (by omega) hp hq).mono ?_; rintro e w1 ⟨rfl, hb⟩; obtain ⟨hc, hf⟩ := bcell hb; have hz : w.heap.size + 1 < w1.heap.size := (by have := hb.size; simp at this; omega)))
    all_goals go_wp2
    all_goals go_ret
    all_goals exact ⟨rfl, by refine Below.trans ?_ (hb.mono (by simp; omega)); repeat (first | exact Below.refl _ _ | apply Below.drew | (refine Below.alloc ?_ (by simp; try omega) _))⟩
  · have e1 : ((0 : Int) == a) = false := by simpa using e0
    go_enter Try.func59, Try.ntmps59
    go_wp2_with (first | (go_at_call 64; refine (rangeOf_fine _ _ _ (by assumption)).mono ?_; rintro e w' ⟨rfl, rfl⟩))
    go_region_held3 (fun w' => w'.cell? ⟨w.heap.size + 1, 0, none⟩ = some (.int .u32 a) ∧ w'.cell? ⟨w.heap.size + 1, 1, none⟩ = some (.int .u32 s) ∧ w.heap.size + 1 < w'.heap.size) (go_simp) (first | (go_at_call 65; refine (none_no _ _ _ (by omega)).mono ?_; rintro e w1 ⟨rfl, rfl⟩) | (go_at_call 64; refine (rangeOf_no _ _ _ (by assumption)).mono ?_; rintro e w1 ⟨rfl, rfl⟩) | (go_at_call 68; refine (common_is _ _ _ _ 0 0 _ (by omega) (by omega) (by omega) (by omega) (by omega) (by omega) (by omega) (by omega) hp hq).mono ?_; rintro e w1 ⟨rfl, hb⟩; obtain ⟨hc, hf⟩ := bcell hb; have hz : w.heap.size + 1 < w1.heap.size := (by have := hb.size; simp at this; omega)))
    all_goals go_wp2
    all_goals go_ret
    all_goals exact ⟨rfl, by refine Below.trans ?_ (hb.mono (by simp; omega)); repeat (first | exact Below.refl _ _ | apply Below.drew | (refine Below.alloc ?_ (by simp; try omega) _))⟩

theorem inImpl_any (a s b t : Int) (w : World) :
    Calls Try.prog 59 #[.int .i64 a, .int .i64 s, .int .i64 b, .int .i64 t] w fun e w' => e = .returned (.bool (inB a s b t)) ∧ Below w.heap.size w w' := by
  by_cases h : fineB a s = true
  · obtain ⟨h1, h2, h3, h4⟩ := fineB_true h
    by_cases k : fineB b t = true
    · obtain ⟨k1, k2, k3, k4⟩ := fineB_true k
      by_cases g : b ≤ a ∧ a + s ≤ b + t
      · have e : inB a s b t = true := by unfold inB; simp [h, k, g]
        rw [e]
        exact inImpl_a a s b t w h h1 h2 h3 h4 k k1 k2 k3 k4 (by unfold Hid comA; rw [if_neg (by omega)]; omega) (by unfold Hid comS; rw [if_neg (by omega)]; omega)
      · have e : inB a s b t = false := by unfold inB; simp [h, k]; omega
        rw [e]
        by_cases e1 : comA a s b t = a
        · have e2 : ¬ comS a s b t = s := by
            unfold comA at e1; unfold comS
            split at e1 <;> (try rw [if_pos ‹_›]) <;> (try rw [if_neg ‹_›]) <;> omega
          exact inImpl_c a s b t _ w h h1 h2 h3 h4 k k1 k2 k3 k4 e1 rfl (by simpa using e2) e2
        · exact inImpl_b a s b t _ _ w h h1 h2 h3 h4 k k1 k2 k3 k4 rfl rfl (by simpa using e1) e1
    · have k' : fineB b t = false := by simpa using k
      have e : inB a s b t = false := by unfold inB; simp [k']
      rw [e]
      exact inImpl_d a s b t w h h1 h2 h3 h4 k' (by unfold Hid comA; rw [if_pos (by omega)]) (by unfold Hid comS; rw [if_pos (by omega)]) (by simp; omega) (by omega)
  · have h' : fineB a s = false := by simpa using h
    have e : inB a s b t = false := by unfold inB; simp [h']
    rw [e]
    exact inImpl_no a s b t w h'

end Go.Proofs.Ytbakfaicekjjfab
