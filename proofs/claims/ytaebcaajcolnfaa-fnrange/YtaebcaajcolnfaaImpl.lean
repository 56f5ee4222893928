/-
  What WordUp, WordMeet and WordIn of the program answer, each at every argument.
-/
import Derived.Test.YtaebcaajcolnfaaWords
namespace Go.Proofs.Ytaebcaajcolnfaa
open Go.ChangeShapes Go.WideShapes Go.ChangeAt Go.RowKit
set_option linter.unusedVariables false

theorem wrap_both (n : Int) (h0 : 0 ≤ n) (h1 : n ≤ 10000) : IntKind.i64.wrap (IntKind.u32.wrap n) = n := by
  have e : IntKind.u32.wrap n = n := by simp [IntKind.wrap, IntKind.bits, IntKind.signed]; omega
  rw [e]; simp [IntKind.wrap, IntKind.bits, IntKind.signed]; omega

set_option maxHeartbeats 1000000 in
theorem upImpl_fine (a s : Int) (w : World) (h : fineB a s = true) (h1 : 0 ≤ a) (h2 : 0 < s) (h3 : a ≤ 4096) (h4 : s ≤ 4096) (hr0 : 0 ≤ a % s) (hr1 : a % s < s) :
    Calls Try.prog 12 #[.int .i64 a, .int .i64 s] w fun e w' => e = .returned (.int .i64 (upTo a s)) ∧ Below w.heap.size w w' := by
  by_cases e : a % s = 0
  · have HE : Hid (a % s = 0) := e
    have e' : (a % s == 0) = true := by simp [e]
    clear e
    go_enter Try.func12, Try.ntmps12
    go_wp2_with (first | (go_at_call 31; refine (rangeOf_fine _ _ _ h).mono ?_; rintro e w' ⟨rfl, rfl⟩) | (go_at_call 33; refine (none_no _ _ _ (by omega)).mono ?_; rintro e w' ⟨rfl, rfl⟩) | (go_at_call 36; refine (rest_any _ _ _ (by omega) (by omega) (by omega) (by omega)).mono ?_; rintro e w' ⟨rfl, rfl⟩))
    go_ret
    exact ⟨ret_int (by unfold upTo; rw [if_pos HE.out]), by repeat (first | exact Below.refl _ _ | apply Below.drew | (refine Below.alloc ?_ (by simp; try omega) _))⟩
  · have HE : Hid (¬ a % s = 0) := e
    have e' : (a % s == 0) = false := by simp [e]
    clear e
    go_enter Try.func12, Try.ntmps12
    go_wp2_with (first | (go_at_call 31; refine (rangeOf_fine _ _ _ h).mono ?_; rintro e w' ⟨rfl, rfl⟩) | (go_at_call 33; refine (none_no _ _ _ (by omega)).mono ?_; rintro e w' ⟨rfl, rfl⟩) | (go_at_call 36; refine (rest_any _ _ _ (by omega) (by omega) (by omega) (by omega)).mono ?_; rintro e w' ⟨rfl, rfl⟩))
    go_region_held3 (fun w' => w'.cell? ⟨w.heap.size + 1, 0, none⟩ = some (.int .u32 a) ∧ w'.cell? ⟨w.heap.size + 1, 1, none⟩ = some (.int .u32 s)) (go_simp) (first | (go_at_call 37; refine (end_any _ _ _ (by omega) (by omega) (by omega) (by omega)).mono ?_; rintro e w1 ⟨rfl, rfl⟩) | (go_at_call 36; refine (rest_any _ _ _ (by omega) (by omega) (by omega) (by omega)).mono ?_; rintro e w1 ⟨rfl, rfl⟩))
    all_goals go_wp2
    all_goals go_ret
    all_goals exact ⟨ret_int (by unfold upTo; rw [if_neg HE.out]; exact wrap_both _ (by omega) (by omega)), by repeat (first | exact Below.refl _ _ | apply Below.drew | (refine Below.alloc ?_ (by simp; try omega) _))⟩

theorem upImpl_any (a s : Int) (w : World) :
    Calls Try.prog 12 #[.int .i64 a, .int .i64 s] w fun e w' => e = .returned (.int .i64 (upI a s)) ∧ Below w.heap.size w w' := by
  by_cases h : fineB a s = true
  · obtain ⟨h1, h2, h3, h4⟩ := fineB_true h
    have e : upI a s = upTo a s := by unfold upI upTo; rw [if_pos h]
    rw [e]
    exact upImpl_fine a s w h h1 h2 h3 h4 (Int.emod_nonneg a (by omega)) (Int.emod_lt_of_pos a h2)
  · have h' : fineB a s = false := by simpa using h
    have e : upI a s = 0 := by unfold upI; rw [if_neg h]
    rw [e]
    clear h e
    go_enter Try.func12, Try.ntmps12
    go_wp2_with (first | (go_at_call 31; refine (rangeOf_no _ _ _ h').mono ?_; rintro e w' ⟨rfl, rfl⟩) | (go_at_call 33; refine (none_yes _).mono ?_; rintro e w' ⟨rfl, rfl⟩))
    go_ret
    exact ⟨rfl, by repeat (first | exact Below.refl _ _ | apply Below.drew | (refine Below.alloc ?_ (by simp; try omega) _))⟩

theorem common_is (x y z t p q : Int) (w : World) (hx0 : 0 ≤ x) (hx : x ≤ 4096) (hy0 : 0 ≤ y) (hy : y ≤ 4096) (hz0 : 0 ≤ z) (hz : z ≤ 4096) (ht0 : 0 ≤ t) (ht : t ≤ 4096) (hp : Hid (comA x y z t = p)) (hq : Hid (comS x y z t = q)) :
    Calls Try.prog 32 #[.agg #[.int .u32 x, .int .u32 y], .agg #[.int .u32 z, .int .u32 t]] w fun e w' => e = .returned (.agg #[.int .u32 p, .int .u32 q]) ∧ Below w.heap.size w w' := by
  have := common_any x y z t w hx0 hx hy0 hy hz0 hz ht0 ht
  rw [hp.out, hq.out] at this
  exact this

theorem meetImpl_any (a s b t : Int) (w : World) :
    Calls Try.prog 9 #[.int .i64 a, .int .i64 s, .int .i64 b, .int .i64 t] w fun e w' => e = .returned (.bool (meetB a s b t)) ∧ Below w.heap.size w w' := by
  by_cases h : fineB a s = true
  · by_cases k : fineB b t = true
    · obtain ⟨h1, h2, h3, h4⟩ := fineB_true h
      obtain ⟨k1, k2, k3, k4⟩ := fineB_true k
      by_cases g : a < b + t ∧ b < a + s
      · have HM : Hid (meetB a s b t = true) := by unfold Hid meetB; simp [h, k, g]
        have hp : Hid (comA a s b t = max a b) := by unfold Hid comA; rw [if_neg (by omega)]
        have hq : Hid (comS a s b t = min (a + s) (b + t) - max a b) := by unfold Hid comS; rw [if_neg (by omega)]
        have hq1 : 1 ≤ min (a + s) (b + t) - max a b := by omega
        generalize min (a + s) (b + t) - max a b = q at *
        generalize max a b = p at *
        clear g
        go_enter Try.func9, Try.ntmps9
        go_wp2_with (first | (go_at_call 31; refine (rangeOf_fine _ _ _ (by assumption)).mono ?_; rintro e w' ⟨rfl, rfl⟩) | (go_at_call 32; refine (common_is _ _ _ _ p q _ (by omega) (by omega) (by omega) (by omega) (by omega) (by omega) (by omega) (by omega) hp hq).mono ?_; rintro e w1 ⟨rfl, hb⟩) | (go_at_call 33; refine (none_no _ _ _ (by omega)).mono ?_; rintro e w' ⟨rfl, rfl⟩))
        go_ret
        exact ⟨ret_bool HM.out.symm, (((((Below.refl _ _).alloc (Nat.le_refl _) _).alloc (by simp) _).trans (hb.mono (by simp; omega)))).alloc (by have := hb.size; simp at this; omega) _⟩
      · have HM : Hid (meetB a s b t = false) := by unfold Hid meetB; simp [h, k]; omega
        have hp : Hid (comA a s b t = 0) := by unfold Hid comA; rw [if_pos (by omega)]
        have hq : Hid (comS a s b t = 0) := by unfold Hid comS; rw [if_pos (by omega)]
        clear g
        go_enter Try.func9, Try.ntmps9
        go_wp2_with (first | (go_at_call 31; refine (rangeOf_fine _ _ _ (by assumption)).mono ?_; rintro e w' ⟨rfl, rfl⟩) | (go_at_call 32; refine (common_is _ _ _ _ 0 0 _ (by omega) (by omega) (by omega) (by omega) (by omega) (by omega) (by omega) (by omega) hp hq).mono ?_; rintro e w1 ⟨rfl, hb⟩) | (go_at_call 33; refine (none_yes _).mono ?_; rintro e w' ⟨rfl, rfl⟩))
        go_ret
        exact ⟨ret_bool HM.out.symm, (((((Below.refl _ _).alloc (Nat.le_refl _) _).alloc (by simp) _).trans (hb.mono (by simp; omega)))).alloc (by have := hb.size; simp at this; omega) _⟩
    · have k' : fineB b t = false := by simpa using k
      obtain ⟨h1, h2, h3, h4⟩ := fineB_true h
      have HM : Hid (meetB a s b t = false) := by unfold Hid meetB; simp [k']
      have hp : Hid (comA a s 0 0 = 0) := by unfold Hid comA; rw [if_pos (by omega)]
      have hq : Hid (comS a s 0 0 = 0) := by unfold Hid comS; rw [if_pos (by omega)]
      clear k
      go_enter Try.func9, Try.ntmps9
      go_wp2_with (first | (go_at_call 31; refine (rangeOf_fine _ _ _ (by assumption)).mono ?_; rintro e w' ⟨rfl, rfl⟩) | (go_at_call 31; refine (rangeOf_no _ _ _ (by assumption)).mono ?_; rintro e w' ⟨rfl, rfl⟩) | (go_at_call 32; refine (common_is _ _ _ _ 0 0 _ (by omega) (by omega) (by omega) (by omega) (by omega) (by omega) (by omega) (by omega) hp hq).mono ?_; rintro e w1 ⟨rfl, hb⟩) | (go_at_call 33; refine (none_yes _).mono ?_; rintro e w' ⟨rfl, rfl⟩))
      go_ret
      exact ⟨ret_bool HM.out.symm, (((((Below.refl _ _).alloc (Nat.le_refl _) _).alloc (by simp) _).trans (hb.mono (by simp; omega)))).alloc (by have := hb.size; simp at this; omega) _⟩
  · have h' : fineB a s = false := by simpa using h
    have HM : Hid (meetB a s b t = false) := by unfold Hid meetB; simp [h']
    clear h
    by_cases k : fineB b t = true
    · obtain ⟨k1, k2, k3, k4⟩ := fineB_true k
      have hp : Hid (comA 0 0 b t = 0) := by unfold Hid comA; rw [if_pos (by omega)]
      have hq : Hid (comS 0 0 b t = 0) := by unfold Hid comS; rw [if_pos (by omega)]
      go_enter Try.func9, Try.ntmps9
      go_wp2_with (first | (go_at_call 31; refine (rangeOf_no _ _ _ (by assumption)).mono ?_; rintro e w' ⟨rfl, rfl⟩) | (go_at_call 31; refine (rangeOf_fine _ _ _ (by assumption)).mono ?_; rintro e w' ⟨rfl, rfl⟩) | (go_at_call 32; refine (common_is _ _ _ _ 0 0 _ (by omega) (by omega) (by omega) (by omega) (by omega) (by omega) (by omega) (by omega) hp hq).mono ?_; rintro e w1 ⟨rfl, hb⟩) | (go_at_call 33; refine (none_yes _).mono ?_; rintro e w' ⟨rfl, rfl⟩))
      go_ret
      exact ⟨ret_bool HM.out.symm, (((((Below.refl _ _).alloc (Nat.le_refl _) _).alloc (by simp) _).trans (hb.mono (by simp; omega)))).alloc (by have := hb.size; simp at this; omega) _⟩
    · have k' : fineB b t = false := by simpa using k
      clear k
      have hp : Hid (comA 0 0 0 0 = 0) := by unfold Hid comA; rw [if_pos (by omega)]
      have hq : Hid (comS 0 0 0 0 = 0) := by unfold Hid comS; rw [if_pos (by omega)]
      go_enter Try.func9, Try.ntmps9
      go_wp2_with (first | (go_at_call 31; refine (rangeOf_no _ _ _ (by assumption)).mono ?_; rintro e w' ⟨rfl, rfl⟩) | (go_at_call 32; refine (common_is _ _ _ _ 0 0 _ (by omega) (by omega) (by omega) (by omega) (by omega) (by omega) (by omega) (by omega) hp hq).mono ?_; rintro e w1 ⟨rfl, hb⟩) | (go_at_call 33; refine (none_yes _).mono ?_; rintro e w' ⟨rfl, rfl⟩))
      go_ret
      exact ⟨ret_bool HM.out.symm, (((((Below.refl _ _).alloc (Nat.le_refl _) _).alloc (by simp) _).trans (hb.mono (by simp; omega)))).alloc (by have := hb.size; simp at this; omega) _⟩

end Go.Proofs.Ytaebcaajcolnfaa
