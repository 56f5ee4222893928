/-
  What CapText of the specification answers, at every capability.
-/
import Derived.Test.YthmambhagheocaaGreatDoorTextL
import Derived.Test.YthmambhagheocaaGreatDoorBounds
import Derived.Test.YthmambhagheocaaGreatDoorMem
import Derived.Test.YthmambhagheocaaGreatDoorCapIn
import Derived.Lib.QuietBelow
namespace Go.Proofs.YthmambhagheocaaGreatDoor
open Go.ChangeShapes Go.WideShapes Go.ChangeAt Go.RowKit
set_option linter.unusedVariables false

theorem lettersSpec_bel (r : Int) (w : World) (h0 : 0 ≤ r) (h1 : r ≤ 7) :
    Calls Tryz.prog 58 #[.int .i64 r] w fun e w' => e = .returned (.string ⟨(lettersL r).toArray⟩) ∧ Below w.heap.size w w' :=
  (lettersSpec_any r w h0 h1).mono fun e w' ⟨he, hw⟩ => ⟨he, by rw [hw]; exact Below.refl _ _⟩

set_option maxHeartbeats 1000000 in
theorem textSpec_1t (a b r d g q f : Int) (w : World) (h : okB 1 a b r d g q f true = true) (ha : 0 ≤ a ∧ a ≤ 65535) (hb : 0 ≤ b ∧ b ≤ 65535) (hr0 : 0 ≤ r) (hr1 : r ≤ 7) (hd : 0 ≤ d ∧ d ≤ 65535) (hg : 0 ≤ g ∧ g ≤ 65535) (hq : 0 ≤ q ∧ q ≤ 65535) (hf : 0 ≤ f ∧ f ≤ 65535) :
    Calls Tryz.prog 35 #[.agg #[.int .i64 1, .int .i64 a, .int .i64 b, .int .i64 r, .int .i64 d, .int .i64 g, .int .i64 q, .int .i64 f, .bool true]] w fun e w' => e = .returned (.string ⟨(textL 1 a b r d g q f true).toArray⟩) ∧ Below w.heap.size w w' := by
  have hA := bytes_app
  have hN : (nameL 1).length ≤ 10 := by decide
  have hLr := partL_le 2 a b r d g q f ha hb hr0 hr1 hd hg hq hf
  simp only [partL, reduceIte, Int.reduceEq] at hLr
  have hLa := Lib.itoa_length_le a (by omega) (by omega)
  have hLb := Lib.itoa_length_le b (by omega) (by omega)
  have hLd := Lib.itoa_length_le d (by omega) (by omega)
  have hLg := Lib.itoa_length_le g (by omega) (by omega)
  have hLq := Lib.itoa_length_le q (by omega) (by omega)
  have hLf := Lib.itoa_length_le f (by omega) (by omega)
  go_enter Tryz.func35, Tryz.ntmps35
  go_wp2_with (first
    | (go_at_call 9; refine (on_calls (okSpec_any _ _ _ _ _ _ _ _ _ _) (by first | assumption | exact Below.refl _ _)).mono ?_; rintro e w1 ⟨rfl, hb1⟩; obtain ⟨hc1, hf1⟩ := bcell hb1)
    | (go_at_call 40; refine (on_calls (name_1 _) (by first | assumption | exact Below.refl _ _)).mono ?_; rintro e w1 ⟨rfl, hb1⟩; obtain ⟨hc1, hf1⟩ := bcell hb1)
    | (go_at_call 57; refine (on_calls (dec_any _ _ (by omega) (by omega)) (by first | assumption | exact Below.refl _ _)).mono ?_; rintro e w1 ⟨rfl, hb1⟩; obtain ⟨hc1, hf1⟩ := bcell hb1))
  have HH := (Holds9.alloc w (.int .i64 1) (.int .i64 a) (.int .i64 b) (.int .i64 r) (.int .i64 d) (.int .i64 g) (.int .i64 q) (.int .i64 f) (.bool true) 24).below hb1 (by simp)
  have hB1 : Below w.heap.size w w1 := ((Below.refl _ _).alloc (Nat.le_refl _) _).trans (hb1.mono (by simp))
  have hz : w.heap.size ≤ w1.heap.size := hB1.size
  have x2 := cell_regrown HH.c2
  have x7 := cell_regrown HH.c7
  clear hb1 hc1 hf1 HH hA
  obtain ⟨S0, hS0⟩ : ∃ S : ByteArray, (⟨(nameL 1 ++ 42 :: 32 :: Lib.itoa a).toArray⟩ : ByteArray) = S := ⟨_, rfl⟩
  have hz0 : S0.size ≤ 100 := by rw [← hS0]; show (nameL 1 ++ 42 :: 32 :: Lib.itoa a).length ≤ 100; simp; omega
  rw [hS0]
  have HS : Hid _ := hS0
  clear hS0
  have n0 : ¬ 9223372036854775807 < S0.size + 1 := by omega
  have n1 : ¬ 9223372036854775807 < S0.size + 1 + (Lib.itoa b).length := by omega
  have n2 : ¬ 9223372036854775807 < S0.size + 1 + (Lib.itoa b).length + 1 := by omega
  have n3 : ¬ 9223372036854775807 < S0.size + 1 + (Lib.itoa b).length + 1 + (Lib.itoa f).length := by omega
  refine wp_region_quiet_below (by kernel_rfl) (by kernel_rfl) ?_
  repeat (quiet_step (first | (go_at_call 57; exact Calls.regrown_of (dec_any _ _ (by omega) (by omega)))))
  refine wpQuiet_nil ?_
  intro _ hw'
  obtain ⟨⟨dq, osq⟩, hw''⟩ := hw'
  subst hw''
  go_wp2
  go_ret
  exact ⟨ret_str (by rw [← HS.out]; simp only [bytes_app]; simp [textL, tailL]), hB1.trans ((below_regrown w1 dq osq).mono hz)⟩

set_option maxHeartbeats 1000000 in
theorem textSpec_2t (a b r d g q f : Int) (w : World) (h : okB 2 a b r d g q f true = true) (ha : 0 ≤ a ∧ a ≤ 65535) (hb : 0 ≤ b ∧ b ≤ 65535) (hr0 : 0 ≤ r) (hr1 : r ≤ 7) (hd : 0 ≤ d ∧ d ≤ 65535) (hg : 0 ≤ g ∧ g ≤ 65535) (hq : 0 ≤ q ∧ q ≤ 65535) (hf : 0 ≤ f ∧ f ≤ 65535) :
    Calls Tryz.prog 35 #[.agg #[.int .i64 2, .int .i64 a, .int .i64 b, .int .i64 r, .int .i64 d, .int .i64 g, .int .i64 q, .int .i64 f, .bool true]] w fun e w' => e = .returned (.string ⟨(textL 2 a b r d g q f true).toArray⟩) ∧ Below w.heap.size w w' := by
  have hA := bytes_app
  have hN : (nameL 2).length ≤ 10 := by decide
  have hLr := partL_le 2 a b r d g q f ha hb hr0 hr1 hd hg hq hf
  simp only [partL, reduceIte, Int.reduceEq] at hLr
  have hLa := Lib.itoa_length_le a (by omega) (by omega)
  have hLb := Lib.itoa_length_le b (by omega) (by omega)
  have hLd := Lib.itoa_length_le d (by omega) (by omega)
  have hLg := Lib.itoa_length_le g (by omega) (by omega)
  have hLq := Lib.itoa_length_le q (by omega) (by omega)
  have hLf := Lib.itoa_length_le f (by omega) (by omega)
  go_enter Tryz.func35, Tryz.ntmps35
  go_wp2_with (first
    | (go_at_call 9; refine (on_calls (okSpec_any _ _ _ _ _ _ _ _ _ _) (by first | assumption | exact Below.refl _ _)).mono ?_; rintro e w1 ⟨rfl, hb1⟩; obtain ⟨hc1, hf1⟩ := bcell hb1)
    | (go_at_call 40; refine (on_calls (name_2 _) (by first | assumption | exact Below.refl _ _)).mono ?_; rintro e w1 ⟨rfl, hb1⟩; obtain ⟨hc1, hf1⟩ := bcell hb1)
    | (go_at_call 57; refine (on_calls (dec_any _ _ (by omega) (by omega)) (by first | assumption | exact Below.refl _ _)).mono ?_; rintro e w1 ⟨rfl, hb1⟩; obtain ⟨hc1, hf1⟩ := bcell hb1))
  have HH := (Holds9.alloc w (.int .i64 2) (.int .i64 a) (.int .i64 b) (.int .i64 r) (.int .i64 d) (.int .i64 g) (.int .i64 q) (.int .i64 f) (.bool true) 24).below hb1 (by simp)
  have hB1 : Below w.heap.size w w1 := ((Below.refl _ _).alloc (Nat.le_refl _) _).trans (hb1.mono (by simp))
  have hz : w.heap.size ≤ w1.heap.size := hB1.size
  have x2 := cell_regrown HH.c2
  have x5 := cell_regrown HH.c5
  have x6 := cell_regrown HH.c6
  clear hb1 hc1 hf1 HH hA
  obtain ⟨S0, hS0⟩ : ∃ S : ByteArray, (⟨(nameL 2 ++ 42 :: 32 :: Lib.itoa a).toArray⟩ : ByteArray) = S := ⟨_, rfl⟩
  have hz0 : S0.size ≤ 100 := by rw [← hS0]; show (nameL 2 ++ 42 :: 32 :: Lib.itoa a).length ≤ 100; simp; omega
  rw [hS0]
  have HS : Hid _ := hS0
  clear hS0
  have n0 : ¬ 9223372036854775807 < S0.size + 1 := by omega
  have n1 : ¬ 9223372036854775807 < S0.size + 1 + (Lib.itoa b).length := by omega
  have n2 : ¬ 9223372036854775807 < S0.size + 1 + (Lib.itoa b).length + 1 := by omega
  have n3 : ¬ 9223372036854775807 < S0.size + 1 + (Lib.itoa b).length + 1 + (Lib.itoa g).length := by omega
  have n4 : ¬ 9223372036854775807 < S0.size + 1 + (Lib.itoa b).length + 1 + (Lib.itoa g).length + 1 := by omega
  have n5 : ¬ 9223372036854775807 < S0.size + 1 + (Lib.itoa b).length + 1 + (Lib.itoa g).length + 1 + (Lib.itoa q).length := by omega
  refine wp_region_quiet_below (by kernel_rfl) (by kernel_rfl) ?_
  repeat (quiet_step (first | (go_at_call 57; exact Calls.regrown_of (dec_any _ _ (by omega) (by omega)))))
  refine wpQuiet_nil ?_
  intro _ hw'
  obtain ⟨⟨dq, osq⟩, hw''⟩ := hw'
  subst hw''
  go_wp2
  go_ret
  exact ⟨ret_str (by rw [← HS.out]; simp only [bytes_app]; simp [textL, tailL]), hB1.trans ((below_regrown w1 dq osq).mono hz)⟩

set_option maxHeartbeats 1000000 in
theorem textSpec_2f (a b r d g q f : Int) (w : World) (h : okB 2 a b r d g q f false = true) (ha : 0 ≤ a ∧ a ≤ 65535) (hb : 0 ≤ b ∧ b ≤ 65535) (hr0 : 0 ≤ r) (hr1 : r ≤ 7) (hd : 0 ≤ d ∧ d ≤ 65535) (hg : 0 ≤ g ∧ g ≤ 65535) (hq : 0 ≤ q ∧ q ≤ 65535) (hf : 0 ≤ f ∧ f ≤ 65535) :
    Calls Tryz.prog 35 #[.agg #[.int .i64 2, .int .i64 a, .int .i64 b, .int .i64 r, .int .i64 d, .int .i64 g, .int .i64 q, .int .i64 f, .bool false]] w fun e w' => e = .returned (.string ⟨(textL 2 a b r d g q f false).toArray⟩) ∧ Below w.heap.size w w' := by
  have hA := bytes_app
  have hN : (nameL 2).length ≤ 10 := by decide
  have hLr := partL_le 2 a b r d g q f ha hb hr0 hr1 hd hg hq hf
  simp only [partL, reduceIte, Int.reduceEq] at hLr
  have hLa := Lib.itoa_length_le a (by omega) (by omega)
  have hLb := Lib.itoa_length_le b (by omega) (by omega)
  have hLd := Lib.itoa_length_le d (by omega) (by omega)
  have hLg := Lib.itoa_length_le g (by omega) (by omega)
  have hLq := Lib.itoa_length_le q (by omega) (by omega)
  have hLf := Lib.itoa_length_le f (by omega) (by omega)
  go_enter Tryz.func35, Tryz.ntmps35
  go_wp2_with (first
    | (go_at_call 9; refine (on_calls (okSpec_any _ _ _ _ _ _ _ _ _ _) (by first | assumption | exact Below.refl _ _)).mono ?_; rintro e w1 ⟨rfl, hb1⟩; obtain ⟨hc1, hf1⟩ := bcell hb1)
    | (go_at_call 40; refine (on_calls (name_2 _) (by first | assumption | exact Below.refl _ _)).mono ?_; rintro e w1 ⟨rfl, hb1⟩; obtain ⟨hc1, hf1⟩ := bcell hb1)
    | (go_at_call 57; refine (on_calls (dec_any _ _ (by omega) (by omega)) (by first | assumption | exact Below.refl _ _)).mono ?_; rintro e w1 ⟨rfl, hb1⟩; obtain ⟨hc1, hf1⟩ := bcell hb1))
  have HH := (Holds9.alloc w (.int .i64 2) (.int .i64 a) (.int .i64 b) (.int .i64 r) (.int .i64 d) (.int .i64 g) (.int .i64 q) (.int .i64 f) (.bool false) 24).below hb1 (by simp)
  have hB1 : Below w.heap.size w w1 := ((Below.refl _ _).alloc (Nat.le_refl _) _).trans (hb1.mono (by simp))
  have hz : w.heap.size ≤ w1.heap.size := hB1.size
  have x2 := cell_regrown HH.c2
  have x5 := cell_regrown HH.c5
  have x6 := cell_regrown HH.c6
  clear hb1 hc1 hf1 HH hA
  obtain ⟨S0, hS0⟩ : ∃ S : ByteArray, (⟨(nameL 2 ++ 32 :: Lib.itoa a).toArray⟩ : ByteArray) = S := ⟨_, rfl⟩
  have hz0 : S0.size ≤ 100 := by rw [← hS0]; show (nameL 2 ++ 32 :: Lib.itoa a).length ≤ 100; simp; omega
  rw [hS0]
  have HS : Hid _ := hS0
  clear hS0
  have n0 : ¬ 9223372036854775807 < S0.size + 1 := by omega
  have n1 : ¬ 9223372036854775807 < S0.size + 1 + (Lib.itoa b).length := by omega
  have n2 : ¬ 9223372036854775807 < S0.size + 1 + (Lib.itoa b).length + 1 := by omega
  have n3 : ¬ 9223372036854775807 < S0.size + 1 + (Lib.itoa b).length + 1 + (Lib.itoa g).length := by omega
  have n4 : ¬ 9223372036854775807 < S0.size + 1 + (Lib.itoa b).length + 1 + (Lib.itoa g).length + 1 := by omega
  have n5 : ¬ 9223372036854775807 < S0.size + 1 + (Lib.itoa b).length + 1 + (Lib.itoa g).length + 1 + (Lib.itoa q).length := by omega
  refine wp_region_quiet_below (by kernel_rfl) (by kernel_rfl) ?_
  repeat (quiet_step (first | (go_at_call 57; exact Calls.regrown_of (dec_any _ _ (by omega) (by omega)))))
  refine wpQuiet_nil ?_
  intro _ hw'
  obtain ⟨⟨dq, osq⟩, hw''⟩ := hw'
  subst hw''
  go_wp2
  go_ret
  exact ⟨ret_str (by rw [← HS.out]; simp only [bytes_app]; simp [textL, tailL]), hB1.trans ((below_regrown w1 dq osq).mono hz)⟩

end Go.Proofs.YthmambhagheocaaGreatDoor
