/-
  What CapText of the program answers, at every capability.
-/
import Derived.Test.YthmambhagheocaaGreatDoorTextL
import Derived.Test.YthmambhagheocaaGreatDoorOkImpl
import Derived.Test.YthmambhagheocaaGreatDoorBounds
import Derived.Test.YthmambhagheocaaGreatDoorMem
import Derived.Test.YthmambhagheocaaGreatDoorCapIn
namespace Go.Proofs.YthmambhagheocaaGreatDoor
open Go.ChangeShapes Go.WideShapes Go.ChangeAt Go.RowKit
set_option linter.unusedVariables false

set_option maxHeartbeats 1000000 in
theorem textImpl_1t (a b r d g q f : Int) (w : World) (h : okB 1 a b r d g q f true = true) (ha : 0 ≤ a ∧ a ≤ 65535) (hb : 0 ≤ b ∧ b ≤ 65535) (hr0 : 0 ≤ r) (hr1 : r ≤ 7) (hd : 0 ≤ d ∧ d ≤ 65535) (hg : 0 ≤ g ∧ g ≤ 65535) (hq : 0 ≤ q ∧ q ≤ 65535) (hf : 0 ≤ f ∧ f ≤ 65535) (htab : Lib.TabIs Tryz.prog w "internal/strconv.uint64pow10" .u64 Lib.pow10Tab) :
    Calls Tryz.prog 8 #[.agg #[.int .i64 1, .int .i64 a, .int .i64 b, .int .i64 r, .int .i64 d, .int .i64 g, .int .i64 q, .int .i64 f, .bool true]] w fun e w' => e = .returned (.string ⟨(textL 1 a b r d g q f true).toArray⟩) ∧ Below w.heap.size w w' := by
  have hA := bytes_app
  have hM := wordM_1
  have TB := Lib.tabBelow_of_tabIs htab
  have hN : (nameL 1).length ≤ 10 := by decide
  have hL0 := partL_le 0 a b r d g q f ha hb hr0 hr1 hd hg hq hf
  have hL1 := partL_le 1 a b r d g q f ha hb hr0 hr1 hd hg hq hf
  have hL6 := partL_le 6 a b r d g q f ha hb hr0 hr1 hd hg hq hf
  go_enter Tryz.func8, Tryz.ntmps8
  go_wp2_with (first
    | (go_at_call 14; refine (on_calls (okImpl_any _ _ _ _ _ _ _ _ _ _ (by omega) (by omega)) (by first | assumption | exact Below.refl _ _)).mono ?_; rintro e w1 ⟨rfl, hb1⟩; obtain ⟨hc1, hf1⟩ := bcell hb1; have hz1 : w.heap.size < w1.heap.size := (by have := hb1.size; simp at this; omega))
    | (go_at_call 17; refine (kindOf_any _ _).mono ?_; rintro e w' ⟨rfl, rfl⟩; rw [kindV_1])
    | (go_at_call 131; refine (word_1 _).mono ?_; rintro e w' ⟨rfl, rfl⟩)
    | (go_at_call 21; rw [← kindV_1]; refine (parts_1 _).mono ?_; rintro e w' ⟨rfl, rfl⟩))
  have HB : Holds9 ((w'.alloc (.cells #[] 77)).alloc (.cells #[.int .i64 0, .int .i64 1, .int .i64 6] 53)) w.heap.size (.int .i64 1) (.int .i64 a) (.int .i64 b) (.int .i64 r) (.int .i64 d) (.int .i64 g) (.int .i64 q) (.int .i64 f) (.bool true) := (((Holds9.alloc w (.int .i64 1) (.int .i64 a) (.int .i64 b) (.int .i64 r) (.int .i64 d) (.int .i64 g) (.int .i64 q) (.int .i64 f) (.bool true) 24).below hb1 (by simp)).allocs hz1 _).allocs (by simp; omega) _
  have hp0 : ((w'.alloc (.cells #[] 77)).alloc (.cells #[.int .i64 0, .int .i64 1, .int .i64 6] 53)).cell? ⟨w'.heap.size + 1, 0, none⟩ = some (.int .i64 0) := by go_simp
  have hp1 : ((w'.alloc (.cells #[] 77)).alloc (.cells #[.int .i64 0, .int .i64 1, .int .i64 6] 53)).cell? ⟨w'.heap.size + 1, 1, none⟩ = some (.int .i64 1) := by go_simp
  have hp2 : ((w'.alloc (.cells #[] 77)).alloc (.cells #[.int .i64 0, .int .i64 1, .int .i64 6] 53)).cell? ⟨w'.heap.size + 1, 2, none⟩ = some (.int .i64 6) := by go_simp
  have hB2 : Below w.heap.size w ((w'.alloc (.cells #[] 77)).alloc (.cells #[.int .i64 0, .int .i64 1, .int .i64 6] 53)) := ((((Below.refl _ _).alloc (Nat.le_refl _) _).trans (hb1.mono (by simp))).alloc (by omega) _).alloc (by simp; omega) _
  have hs0 : w.heap.size < ((w'.alloc (.cells #[] 77)).alloc (.cells #[.int .i64 0, .int .i64 1, .int .i64 6] 53)).heap.size := by simp; omega
  have hs1 : w'.heap.size + 1 < ((w'.alloc (.cells #[] 77)).alloc (.cells #[.int .i64 0, .int .i64 1, .int .i64 6] 53)).heap.size := by simp
  clear hc1 hf1 hb1
  generalize ((w'.alloc (.cells #[] 77)).alloc (.cells #[.int .i64 0, .int .i64 1, .int .i64 6] 53)) = W2 at HB hp0 hp1 hp2 hB2 hs0 hs1 ⊢
  generalize w'.heap.size + 1 = B at hp0 hp1 hp2 hs1 ⊢
  have TB2 : ∀ w'', Below W2.heap.size W2 w'' → Lib.TabIs Tryz.prog w'' "internal/strconv.uint64pow10" .u64 Lib.pow10Tab := fun w'' h => TB w'' (hB2.trans (h.mono (by omega)))
  obtain ⟨c0, c1, c2, c3, c4, c5, c6, c7, c8⟩ := HB
  refine wp_loop_rounds 4 ?_
  rw [rounds_succ]
  go_wp2_with (first | (go_at_call 23; refine (on_calls (W := W2) (part_0 _ _ _ _ _ _ _ _ _ _ ha hb hr0 hr1 hd hg hq hf (TB2 _ (by first | assumption | exact Below.refl _ _))) (by first | assumption | exact Below.refl _ _)).mono ?_; rintro e w3 ⟨rfl, hb3⟩; obtain ⟨hc3, hf3⟩ := bcell hb3))
  rw [rounds_succ]
  go_wp2_with (first | (go_at_call 23; refine (on_calls (W := W2) (part_1 _ _ _ _ _ _ _ _ _ _ ha hb hr0 hr1 hd hg hq hf (TB2 _ (by first | assumption | exact Below.refl _ _))) (by first | assumption | exact Below.refl _ _)).mono ?_; rintro e w3 ⟨rfl, hb3⟩; obtain ⟨hc3, hf3⟩ := bcell hb3))
  rw [rounds_succ]
  go_wp2_with (first | (go_at_call 23; refine (on_calls (W := W2) (part_6 _ _ _ _ _ _ _ _ _ _ ha hb hr0 hr1 hd hg hq hf (TB2 _ (by first | assumption | exact Below.refl _ _))) (by first | assumption | exact Below.refl _ _)).mono ?_; rintro e w3 ⟨rfl, hb3⟩; obtain ⟨hc3, hf3⟩ := bcell hb3))
  rw [rounds_succ]
  go_wp2_with fail
  go_ret
  exact ⟨ret_str (by simp [textL, tailL, partL]), hB2.trans (hb3.mono (by omega))⟩

set_option maxHeartbeats 1000000 in
theorem textImpl_2t (a b r d g q f : Int) (w : World) (h : okB 2 a b r d g q f true = true) (ha : 0 ≤ a ∧ a ≤ 65535) (hb : 0 ≤ b ∧ b ≤ 65535) (hr0 : 0 ≤ r) (hr1 : r ≤ 7) (hd : 0 ≤ d ∧ d ≤ 65535) (hg : 0 ≤ g ∧ g ≤ 65535) (hq : 0 ≤ q ∧ q ≤ 65535) (hf : 0 ≤ f ∧ f ≤ 65535) (htab : Lib.TabIs Tryz.prog w "internal/strconv.uint64pow10" .u64 Lib.pow10Tab) :
    Calls Tryz.prog 8 #[.agg #[.int .i64 2, .int .i64 a, .int .i64 b, .int .i64 r, .int .i64 d, .int .i64 g, .int .i64 q, .int .i64 f, .bool true]] w fun e w' => e = .returned (.string ⟨(textL 2 a b r d g q f true).toArray⟩) ∧ Below w.heap.size w w' := by
  have hA := bytes_app
  have hM := wordM_2
  have TB := Lib.tabBelow_of_tabIs htab
  have hN : (nameL 2).length ≤ 10 := by decide
  have hL0 := partL_le 0 a b r d g q f ha hb hr0 hr1 hd hg hq hf
  have hL1 := partL_le 1 a b r d g q f ha hb hr0 hr1 hd hg hq hf
  have hL4 := partL_le 4 a b r d g q f ha hb hr0 hr1 hd hg hq hf
  have hL5 := partL_le 5 a b r d g q f ha hb hr0 hr1 hd hg hq hf
  go_enter Tryz.func8, Tryz.ntmps8
  go_wp2_with (first
    | (go_at_call 14; refine (on_calls (okImpl_any _ _ _ _ _ _ _ _ _ _ (by omega) (by omega)) (by first | assumption | exact Below.refl _ _)).mono ?_; rintro e w1 ⟨rfl, hb1⟩; obtain ⟨hc1, hf1⟩ := bcell hb1; have hz1 : w.heap.size < w1.heap.size := (by have := hb1.size; simp at this; omega))
    | (go_at_call 17; refine (kindOf_any _ _).mono ?_; rintro e w' ⟨rfl, rfl⟩; rw [kindV_2])
    | (go_at_call 128; refine (word_2 _).mono ?_; rintro e w' ⟨rfl, rfl⟩)
    | (go_at_call 21; rw [← kindV_2]; refine (parts_2 _).mono ?_; rintro e w' ⟨rfl, rfl⟩))
  have HB : Holds9 ((w'.alloc (.cells #[] 45)).alloc (.cells #[.int .i64 0, .int .i64 1, .int .i64 4, .int .i64 5] 53)) w.heap.size (.int .i64 2) (.int .i64 a) (.int .i64 b) (.int .i64 r) (.int .i64 d) (.int .i64 g) (.int .i64 q) (.int .i64 f) (.bool true) := (((Holds9.alloc w (.int .i64 2) (.int .i64 a) (.int .i64 b) (.int .i64 r) (.int .i64 d) (.int .i64 g) (.int .i64 q) (.int .i64 f) (.bool true) 24).below hb1 (by simp)).allocs hz1 _).allocs (by simp; omega) _
  have hp0 : ((w'.alloc (.cells #[] 45)).alloc (.cells #[.int .i64 0, .int .i64 1, .int .i64 4, .int .i64 5] 53)).cell? ⟨w'.heap.size + 1, 0, none⟩ = some (.int .i64 0) := by go_simp
  have hp1 : ((w'.alloc (.cells #[] 45)).alloc (.cells #[.int .i64 0, .int .i64 1, .int .i64 4, .int .i64 5] 53)).cell? ⟨w'.heap.size + 1, 1, none⟩ = some (.int .i64 1) := by go_simp
  have hp2 : ((w'.alloc (.cells #[] 45)).alloc (.cells #[.int .i64 0, .int .i64 1, .int .i64 4, .int .i64 5] 53)).cell? ⟨w'.heap.size + 1, 2, none⟩ = some (.int .i64 4) := by go_simp
  have hp3 : ((w'.alloc (.cells #[] 45)).alloc (.cells #[.int .i64 0, .int .i64 1, .int .i64 4, .int .i64 5] 53)).cell? ⟨w'.heap.size + 1, 3, none⟩ = some (.int .i64 5) := by go_simp
  have hB2 : Below w.heap.size w ((w'.alloc (.cells #[] 45)).alloc (.cells #[.int .i64 0, .int .i64 1, .int .i64 4, .int .i64 5] 53)) := ((((Below.refl _ _).alloc (Nat.le_refl _) _).trans (hb1.mono (by simp))).alloc (by omega) _).alloc (by simp; omega) _
  have hs0 : w.heap.size < ((w'.alloc (.cells #[] 45)).alloc (.cells #[.int .i64 0, .int .i64 1, .int .i64 4, .int .i64 5] 53)).heap.size := by simp; omega
  have hs1 : w'.heap.size + 1 < ((w'.alloc (.cells #[] 45)).alloc (.cells #[.int .i64 0, .int .i64 1, .int .i64 4, .int .i64 5] 53)).heap.size := by simp
  clear hc1 hf1 hb1
  generalize ((w'.alloc (.cells #[] 45)).alloc (.cells #[.int .i64 0, .int .i64 1, .int .i64 4, .int .i64 5] 53)) = W2 at HB hp0 hp1 hp2 hp3 hB2 hs0 hs1 ⊢
  generalize w'.heap.size + 1 = B at hp0 hp1 hp2 hp3 hs1 ⊢
  have TB2 : ∀ w'', Below W2.heap.size W2 w'' → Lib.TabIs Tryz.prog w'' "internal/strconv.uint64pow10" .u64 Lib.pow10Tab := fun w'' h => TB w'' (hB2.trans (h.mono (by omega)))
  obtain ⟨c0, c1, c2, c3, c4, c5, c6, c7, c8⟩ := HB
  refine wp_loop_rounds 5 ?_
  rw [rounds_succ]
  go_wp2_with (first | (go_at_call 23; refine (on_calls (W := W2) (part_0 _ _ _ _ _ _ _ _ _ _ ha hb hr0 hr1 hd hg hq hf (TB2 _ (by first | assumption | exact Below.refl _ _))) (by first | assumption | exact Below.refl _ _)).mono ?_; rintro e w3 ⟨rfl, hb3⟩; obtain ⟨hc3, hf3⟩ := bcell hb3))
  rw [rounds_succ]
  go_wp2_with (first | (go_at_call 23; refine (on_calls (W := W2) (part_1 _ _ _ _ _ _ _ _ _ _ ha hb hr0 hr1 hd hg hq hf (TB2 _ (by first | assumption | exact Below.refl _ _))) (by first | assumption | exact Below.refl _ _)).mono ?_; rintro e w3 ⟨rfl, hb3⟩; obtain ⟨hc3, hf3⟩ := bcell hb3))
  rw [rounds_succ]
  go_wp2_with (first | (go_at_call 23; refine (on_calls (W := W2) (part_4 _ _ _ _ _ _ _ _ _ _ ha hb hr0 hr1 hd hg hq hf (TB2 _ (by first | assumption | exact Below.refl _ _))) (by first | assumption | exact Below.refl _ _)).mono ?_; rintro e w3 ⟨rfl, hb3⟩; obtain ⟨hc3, hf3⟩ := bcell hb3))
  rw [rounds_succ]
  go_wp2_with (first | (go_at_call 23; refine (on_calls (W := W2) (part_5 _ _ _ _ _ _ _ _ _ _ ha hb hr0 hr1 hd hg hq hf (TB2 _ (by first | assumption | exact Below.refl _ _))) (by first | assumption | exact Below.refl _ _)).mono ?_; rintro e w3 ⟨rfl, hb3⟩; obtain ⟨hc3, hf3⟩ := bcell hb3))
  rw [rounds_succ]
  go_wp2_with fail
  go_ret
  exact ⟨ret_str (by simp [textL, tailL, partL]), hB2.trans (hb3.mono (by omega))⟩

set_option maxHeartbeats 1000000 in
theorem textImpl_2f (a b r d g q f : Int) (w : World) (h : okB 2 a b r d g q f false = true) (ha : 0 ≤ a ∧ a ≤ 65535) (hb : 0 ≤ b ∧ b ≤ 65535) (hr0 : 0 ≤ r) (hr1 : r ≤ 7) (hd : 0 ≤ d ∧ d ≤ 65535) (hg : 0 ≤ g ∧ g ≤ 65535) (hq : 0 ≤ q ∧ q ≤ 65535) (hf : 0 ≤ f ∧ f ≤ 65535) (htab : Lib.TabIs Tryz.prog w "internal/strconv.uint64pow10" .u64 Lib.pow10Tab) :
    Calls Tryz.prog 8 #[.agg #[.int .i64 2, .int .i64 a, .int .i64 b, .int .i64 r, .int .i64 d, .int .i64 g, .int .i64 q, .int .i64 f, .bool false]] w fun e w' => e = .returned (.string ⟨(textL 2 a b r d g q f false).toArray⟩) ∧ Below w.heap.size w w' := by
  have hA := bytes_app
  have hM := wordM_2
  have TB := Lib.tabBelow_of_tabIs htab
  have hN : (nameL 2).length ≤ 10 := by decide
  have hL0 := partL_le 0 a b r d g q f ha hb hr0 hr1 hd hg hq hf
  have hL1 := partL_le 1 a b r d g q f ha hb hr0 hr1 hd hg hq hf
  have hL4 := partL_le 4 a b r d g q f ha hb hr0 hr1 hd hg hq hf
  have hL5 := partL_le 5 a b r d g q f ha hb hr0 hr1 hd hg hq hf
  go_enter Tryz.func8, Tryz.ntmps8
  go_wp2_with (first
    | (go_at_call 14; refine (on_calls (okImpl_any _ _ _ _ _ _ _ _ _ _ (by omega) (by omega)) (by first | assumption | exact Below.refl _ _)).mono ?_; rintro e w1 ⟨rfl, hb1⟩; obtain ⟨hc1, hf1⟩ := bcell hb1; have hz1 : w.heap.size < w1.heap.size := (by have := hb1.size; simp at this; omega))
    | (go_at_call 17; refine (kindOf_any _ _).mono ?_; rintro e w' ⟨rfl, rfl⟩; rw [kindV_2])
    | (go_at_call 128; refine (word_2 _).mono ?_; rintro e w' ⟨rfl, rfl⟩)
    | (go_at_call 21; rw [← kindV_2]; refine (parts_2 _).mono ?_; rintro e w' ⟨rfl, rfl⟩))
  have HB : Holds9 ((w'.alloc (.cells #[] 45)).alloc (.cells #[.int .i64 0, .int .i64 1, .int .i64 4, .int .i64 5] 53)) w.heap.size (.int .i64 2) (.int .i64 a) (.int .i64 b) (.int .i64 r) (.int .i64 d) (.int .i64 g) (.int .i64 q) (.int .i64 f) (.bool false) := (((Holds9.alloc w (.int .i64 2) (.int .i64 a) (.int .i64 b) (.int .i64 r) (.int .i64 d) (.int .i64 g) (.int .i64 q) (.int .i64 f) (.bool false) 24).below hb1 (by simp)).allocs hz1 _).allocs (by simp; omega) _
  have hp0 : ((w'.alloc (.cells #[] 45)).alloc (.cells #[.int .i64 0, .int .i64 1, .int .i64 4, .int .i64 5] 53)).cell? ⟨w'.heap.size + 1, 0, none⟩ = some (.int .i64 0) := by go_simp
  have hp1 : ((w'.alloc (.cells #[] 45)).alloc (.cells #[.int .i64 0, .int .i64 1, .int .i64 4, .int .i64 5] 53)).cell? ⟨w'.heap.size + 1, 1, none⟩ = some (.int .i64 1) := by go_simp
  have hp2 : ((w'.alloc (.cells #[] 45)).alloc (.cells #[.int .i64 0, .int .i64 1, .int .i64 4, .int .i64 5] 53)).cell? ⟨w'.heap.size + 1, 2, none⟩ = some (.int .i64 4) := by go_simp
  have hp3 : ((w'.alloc (.cells #[] 45)).alloc (.cells #[.int .i64 0, .int .i64 1, .int .i64 4, .int .i64 5] 53)).cell? ⟨w'.heap.size + 1, 3, none⟩ = some (.int .i64 5) := by go_simp
  have hB2 : Below w.heap.size w ((w'.alloc (.cells #[] 45)).alloc (.cells #[.int .i64 0, .int .i64 1, .int .i64 4, .int .i64 5] 53)) := ((((Below.refl _ _).alloc (Nat.le_refl _) _).trans (hb1.mono (by simp))).alloc (by omega) _).alloc (by simp; omega) _
  have hs0 : w.heap.size < ((w'.alloc (.cells #[] 45)).alloc (.cells #[.int .i64 0, .int .i64 1, .int .i64 4, .int .i64 5] 53)).heap.size := by simp; omega
  have hs1 : w'.heap.size + 1 < ((w'.alloc (.cells #[] 45)).alloc (.cells #[.int .i64 0, .int .i64 1, .int .i64 4, .int .i64 5] 53)).heap.size := by simp
  clear hc1 hf1 hb1
  generalize ((w'.alloc (.cells #[] 45)).alloc (.cells #[.int .i64 0, .int .i64 1, .int .i64 4, .int .i64 5] 53)) = W2 at HB hp0 hp1 hp2 hp3 hB2 hs0 hs1 ⊢
  generalize w'.heap.size + 1 = B at hp0 hp1 hp2 hp3 hs1 ⊢
  have TB2 : ∀ w'', Below W2.heap.size W2 w'' → Lib.TabIs Tryz.prog w'' "internal/strconv.uint64pow10" .u64 Lib.pow10Tab := fun w'' h => TB w'' (hB2.trans (h.mono (by omega)))
  obtain ⟨c0, c1, c2, c3, c4, c5, c6, c7, c8⟩ := HB
  refine wp_loop_rounds 5 ?_
  rw [rounds_succ]
  go_wp2_with (first | (go_at_call 23; refine (on_calls (W := W2) (part_0 _ _ _ _ _ _ _ _ _ _ ha hb hr0 hr1 hd hg hq hf (TB2 _ (by first | assumption | exact Below.refl _ _))) (by first | assumption | exact Below.refl _ _)).mono ?_; rintro e w3 ⟨rfl, hb3⟩; obtain ⟨hc3, hf3⟩ := bcell hb3))
  rw [rounds_succ]
  go_wp2_with (first | (go_at_call 23; refine (on_calls (W := W2) (part_1 _ _ _ _ _ _ _ _ _ _ ha hb hr0 hr1 hd hg hq hf (TB2 _ (by first | assumption | exact Below.refl _ _))) (by first | assumption | exact Below.refl _ _)).mono ?_; rintro e w3 ⟨rfl, hb3⟩; obtain ⟨hc3, hf3⟩ := bcell hb3))
  rw [rounds_succ]
  go_wp2_with (first | (go_at_call 23; refine (on_calls (W := W2) (part_4 _ _ _ _ _ _ _ _ _ _ ha hb hr0 hr1 hd hg hq hf (TB2 _ (by first | assumption | exact Below.refl _ _))) (by first | assumption | exact Below.refl _ _)).mono ?_; rintro e w3 ⟨rfl, hb3⟩; obtain ⟨hc3, hf3⟩ := bcell hb3))
  rw [rounds_succ]
  go_wp2_with (first | (go_at_call 23; refine (on_calls (W := W2) (part_5 _ _ _ _ _ _ _ _ _ _ ha hb hr0 hr1 hd hg hq hf (TB2 _ (by first | assumption | exact Below.refl _ _))) (by first | assumption | exact Below.refl _ _)).mono ?_; rintro e w3 ⟨rfl, hb3⟩; obtain ⟨hc3, hf3⟩ := bcell hb3))
  rw [rounds_succ]
  go_wp2_with fail
  go_ret
  exact ⟨ret_str (by simp [textL, tailL, partL]), hB2.trans (hb3.mono (by omega))⟩

set_option maxHeartbeats 1000000 in
theorem textImpl_3t (a b r d g q f : Int) (w : World) (h : okB 3 a b r d g q f true = true) (ha : 0 ≤ a ∧ a ≤ 65535) (hb : 0 ≤ b ∧ b ≤ 65535) (hr0 : 0 ≤ r) (hr1 : r ≤ 7) (hd : 0 ≤ d ∧ d ≤ 65535) (hg : 0 ≤ g ∧ g ≤ 65535) (hq : 0 ≤ q ∧ q ≤ 65535) (hf : 0 ≤ f ∧ f ≤ 65535) (htab : Lib.TabIs Tryz.prog w "internal/strconv.uint64pow10" .u64 Lib.pow10Tab) :
    Calls Tryz.prog 8 #[.agg #[.int .i64 3, .int .i64 a, .int .i64 b, .int .i64 r, .int .i64 d, .int .i64 g, .int .i64 q, .int .i64 f, .bool true]] w fun e w' => e = .returned (.string ⟨(textL 3 a b r d g q f true).toArray⟩) ∧ Below w.heap.size w w' := by
  have hA := bytes_app
  have hM := wordM_3
  have TB := Lib.tabBelow_of_tabIs htab
  have hN : (nameL 3).length ≤ 10 := by decide
  have hL0 := partL_le 0 a b r d g q f ha hb hr0 hr1 hd hg hq hf
  go_enter Tryz.func8, Tryz.ntmps8
  go_wp2_with (first
    | (go_at_call 14; refine (on_calls (okImpl_any _ _ _ _ _ _ _ _ _ _ (by omega) (by omega)) (by first | assumption | exact Below.refl _ _)).mono ?_; rintro e w1 ⟨rfl, hb1⟩; obtain ⟨hc1, hf1⟩ := bcell hb1; have hz1 : w.heap.size < w1.heap.size := (by have := hb1.size; simp at this; omega))
    | (go_at_call 17; refine (kindOf_any _ _).mono ?_; rintro e w' ⟨rfl, rfl⟩; rw [kindV_3])
    | (go_at_call 134; refine (word_3 _).mono ?_; rintro e w' ⟨rfl, rfl⟩)
    | (go_at_call 21; rw [← kindV_3]; refine (parts_3 _).mono ?_; rintro e w' ⟨rfl, rfl⟩))
  have HB : Holds9 ((w'.alloc (.cells #[] 78)).alloc (.cells #[.int .i64 0] 53)) w.heap.size (.int .i64 3) (.int .i64 a) (.int .i64 b) (.int .i64 r) (.int .i64 d) (.int .i64 g) (.int .i64 q) (.int .i64 f) (.bool true) := (((Holds9.alloc w (.int .i64 3) (.int .i64 a) (.int .i64 b) (.int .i64 r) (.int .i64 d) (.int .i64 g) (.int .i64 q) (.int .i64 f) (.bool true) 24).below hb1 (by simp)).allocs hz1 _).allocs (by simp; omega) _
  have hp0 : ((w'.alloc (.cells #[] 78)).alloc (.cells #[.int .i64 0] 53)).cell? ⟨w'.heap.size + 1, 0, none⟩ = some (.int .i64 0) := by go_simp
  have hB2 : Below w.heap.size w ((w'.alloc (.cells #[] 78)).alloc (.cells #[.int .i64 0] 53)) := ((((Below.refl _ _).alloc (Nat.le_refl _) _).trans (hb1.mono (by simp))).alloc (by omega) _).alloc (by simp; omega) _
  have hs0 : w.heap.size < ((w'.alloc (.cells #[] 78)).alloc (.cells #[.int .i64 0] 53)).heap.size := by simp; omega
  have hs1 : w'.heap.size + 1 < ((w'.alloc (.cells #[] 78)).alloc (.cells #[.int .i64 0] 53)).heap.size := by simp
  clear hc1 hf1 hb1
  generalize ((w'.alloc (.cells #[] 78)).alloc (.cells #[.int .i64 0] 53)) = W2 at HB hp0 hB2 hs0 hs1 ⊢
  generalize w'.heap.size + 1 = B at hp0 hs1 ⊢
  have TB2 : ∀ w'', Below W2.heap.size W2 w'' → Lib.TabIs Tryz.prog w'' "internal/strconv.uint64pow10" .u64 Lib.pow10Tab := fun w'' h => TB w'' (hB2.trans (h.mono (by omega)))
  obtain ⟨c0, c1, c2, c3, c4, c5, c6, c7, c8⟩ := HB
  refine wp_loop_rounds 2 ?_
  rw [rounds_succ]
  go_wp2_with (first | (go_at_call 23; refine (on_calls (W := W2) (part_0 _ _ _ _ _ _ _ _ _ _ ha hb hr0 hr1 hd hg hq hf (TB2 _ (by first | assumption | exact Below.refl _ _))) (by first | assumption | exact Below.refl _ _)).mono ?_; rintro e w3 ⟨rfl, hb3⟩; obtain ⟨hc3, hf3⟩ := bcell hb3))
  rw [rounds_succ]
  go_wp2_with fail
  go_ret
  exact ⟨ret_str (by simp [textL, tailL, partL]), hB2.trans (hb3.mono (by omega))⟩

set_option maxHeartbeats 1000000 in
theorem textImpl_3f (a b r d g q f : Int) (w : World) (h : okB 3 a b r d g q f false = true) (ha : 0 ≤ a ∧ a ≤ 65535) (hb : 0 ≤ b ∧ b ≤ 65535) (hr0 : 0 ≤ r) (hr1 : r ≤ 7) (hd : 0 ≤ d ∧ d ≤ 65535) (hg : 0 ≤ g ∧ g ≤ 65535) (hq : 0 ≤ q ∧ q ≤ 65535) (hf : 0 ≤ f ∧ f ≤ 65535) (htab : Lib.TabIs Tryz.prog w "internal/strconv.uint64pow10" .u64 Lib.pow10Tab) :
    Calls Tryz.prog 8 #[.agg #[.int .i64 3, .int .i64 a, .int .i64 b, .int .i64 r, .int .i64 d, .int .i64 g, .int .i64 q, .int .i64 f, .bool false]] w fun e w' => e = .returned (.string ⟨(textL 3 a b r d g q f false).toArray⟩) ∧ Below w.heap.size w w' := by
  have hA := bytes_app
  have hM := wordM_3
  have TB := Lib.tabBelow_of_tabIs htab
  have hN : (nameL 3).length ≤ 10 := by decide
  have hL0 := partL_le 0 a b r d g q f ha hb hr0 hr1 hd hg hq hf
  go_enter Tryz.func8, Tryz.ntmps8
  go_wp2_with (first
    | (go_at_call 14; refine (on_calls (okImpl_any _ _ _ _ _ _ _ _ _ _ (by omega) (by omega)) (by first | assumption | exact Below.refl _ _)).mono ?_; rintro e w1 ⟨rfl, hb1⟩; obtain ⟨hc1, hf1⟩ := bcell hb1; have hz1 : w.heap.size < w1.heap.size := (by have := hb1.size; simp at this; omega))
    | (go_at_call 17; refine (kindOf_any _ _).mono ?_; rintro e w' ⟨rfl, rfl⟩; rw [kindV_3])
    | (go_at_call 134; refine (word_3 _).mono ?_; rintro e w' ⟨rfl, rfl⟩)
    | (go_at_call 21; rw [← kindV_3]; refine (parts_3 _).mono ?_; rintro e w' ⟨rfl, rfl⟩))
  have HB : Holds9 ((w'.alloc (.cells #[] 78)).alloc (.cells #[.int .i64 0] 53)) w.heap.size (.int .i64 3) (.int .i64 a) (.int .i64 b) (.int .i64 r) (.int .i64 d) (.int .i64 g) (.int .i64 q) (.int .i64 f) (.bool false) := (((Holds9.alloc w (.int .i64 3) (.int .i64 a) (.int .i64 b) (.int .i64 r) (.int .i64 d) (.int .i64 g) (.int .i64 q) (.int .i64 f) (.bool false) 24).below hb1 (by simp)).allocs hz1 _).allocs (by simp; omega) _
  have hp0 : ((w'.alloc (.cells #[] 78)).alloc (.cells #[.int .i64 0] 53)).cell? ⟨w'.heap.size + 1, 0, none⟩ = some (.int .i64 0) := by go_simp
  have hB2 : Below w.heap.size w ((w'.alloc (.cells #[] 78)).alloc (.cells #[.int .i64 0] 53)) := ((((Below.refl _ _).alloc (Nat.le_refl _) _).trans (hb1.mono (by simp))).alloc (by omega) _).alloc (by simp; omega) _
  have hs0 : w.heap.size < ((w'.alloc (.cells #[] 78)).alloc (.cells #[.int .i64 0] 53)).heap.size := by simp; omega
  have hs1 : w'.heap.size + 1 < ((w'.alloc (.cells #[] 78)).alloc (.cells #[.int .i64 0] 53)).heap.size := by simp
  clear hc1 hf1 hb1
  generalize ((w'.alloc (.cells #[] 78)).alloc (.cells #[.int .i64 0] 53)) = W2 at HB hp0 hB2 hs0 hs1 ⊢
  generalize w'.heap.size + 1 = B at hp0 hs1 ⊢
  have TB2 : ∀ w'', Below W2.heap.size W2 w'' → Lib.TabIs Tryz.prog w'' "internal/strconv.uint64pow10" .u64 Lib.pow10Tab := fun w'' h => TB w'' (hB2.trans (h.mono (by omega)))
  obtain ⟨c0, c1, c2, c3, c4, c5, c6, c7, c8⟩ := HB
  refine wp_loop_rounds 2 ?_
  rw [rounds_succ]
  go_wp2_with (first | (go_at_call 23; refine (on_calls (W := W2) (part_0 _ _ _ _ _ _ _ _ _ _ ha hb hr0 hr1 hd hg hq hf (TB2 _ (by first | assumption | exact Below.refl _ _))) (by first | assumption | exact Below.refl _ _)).mono ?_; rintro e w3 ⟨rfl, hb3⟩; obtain ⟨hc3, hf3⟩ := bcell hb3))
  rw [rounds_succ]
  go_wp2_with fail
  go_ret
  exact ⟨ret_str (by simp [textL, tailL, partL]), hB2.trans (hb3.mono (by omega))⟩

end Go.Proofs.YthmambhagheocaaGreatDoor
