/-
  What the calls of the law FnCapBelow answer, at every capability whose rights are a number of int64.
-/
import Derived.Test.YtaebcaajcolnfaaGivesLess
namespace Go.Proofs.Ytaebcaajcolnfaa
open Go.ChangeShapes Go.WideShapes Go.ChangeAt Go.RowKit
set_option linter.unusedVariables false

theorem belowImpl_true {k1 a1 b1 r1 d1 g1 q1 f1 k2 a2 b2 r2 d2 g2 q2 f2 : Int} {o1 o2 : Bool} (h : belowB k1 a1 b1 r1 d1 g1 q1 f1 o1 k2 a2 b2 r2 d2 g2 q2 f2 o2 = true) (w : World) :
    Calls Try.prog 22 #[.agg #[.int .i64 k1, .int .i64 a1, .int .i64 b1, .int .i64 r1, .int .i64 d1, .int .i64 g1, .int .i64 q1, .int .i64 f1, .bool o1], .agg #[.int .i64 k2, .int .i64 a2, .int .i64 b2, .int .i64 r2, .int .i64 d2, .int .i64 g2, .int .i64 q2, .int .i64 f2, .bool o2]] w fun e w' => e = .returned (.bool true) ∧ Below w.heap.size w w' := by
  have h' := h
  simp only [belowB, Bool.and_eq_true] at h'
  obtain ⟨_, _, _, ⟨r10, r11⟩, _⟩ := ok_bounds h'.1.1
  obtain ⟨_, _, _, ⟨r20, r21⟩, _⟩ := ok_bounds h'.1.2
  have := belowImpl_any k1 a1 b1 r1 d1 g1 q1 f1 k2 a2 b2 r2 d2 g2 q2 f2 o1 o2 w (by omega) (by omega) (by omega) (by omega)
  rw [h] at this; exact this

theorem okImpl_true {k a b r d g q f : Int} {o : Bool} (h : okB k a b r d g q f o = true) (w : World) :
    Calls Try.prog 21 #[.agg #[.int .i64 k, .int .i64 a, .int .i64 b, .int .i64 r, .int .i64 d, .int .i64 g, .int .i64 q, .int .i64 f, .bool o]] w fun e w' => e = .returned (.bool true) ∧ Below w.heap.size w w' := by
  obtain ⟨_, _, _, ⟨r10, r11⟩, _⟩ := ok_bounds h
  have := okImpl_any k a b r d g q f o w (by omega) (by omega)
  rw [h] at this; exact this

theorem zero_copy : copyB 0 0 0 0 0 0 0 0 false = false := by decide
theorem zero_mint (n x : Int) : mintB 0 0 0 0 0 0 0 0 false n x = false := by simp [mintB, zero_copy]

theorem below_calls : ∀ (c0 c1 c2 c3 c4 c5 c6 c7 m n x : Int) (c8 : Bool), (-10 ≤ c3 ∧ c3 ≤ 10) → (0 ≤ m ∧ m ≤ 4294967295) → (0 ≤ n ∧ n ≤ 4294967295) → (0 ≤ x ∧ x ≤ 4294967295) → ∃ (a0 a1 a2 a3 a4 a5 a6 a7 b0 b1 b2 b3 b4 b5 b6 b7 d0 d1 d2 d3 d4 d5 d6 d7 e0 e1 e2 e3 e4 e5 e6 e7 : Int) (a8 b8 d8 e8 ok fine can may : Bool),
      (∀ w : World, Calls Try.prog 18 #[.agg #[.int .i64 c0, .int .i64 c1, .int .i64 c2, .int .i64 c3, .int .i64 c4, .int .i64 c5, .int .i64 c6, .int .i64 c7, .bool c8], .int .u32 m] w fun e w' => e = .returned (.tuple #[.agg #[.int .i64 a0, .int .i64 a1, .int .i64 a2, .int .i64 a3, .int .i64 a4, .int .i64 a5, .int .i64 a6, .int .i64 a7, .bool a8], .bool ok]) ∧ Below w.heap.size w w') ∧
      (∀ w : World, Calls Try.prog 19 #[.agg #[.int .i64 c0, .int .i64 c1, .int .i64 c2, .int .i64 c3, .int .i64 c4, .int .i64 c5, .int .i64 c6, .int .i64 c7, .bool c8], .int .u32 m] w fun e w' => e = .returned (.tuple #[.agg #[.int .i64 a0, .int .i64 a1, .int .i64 a2, .int .i64 a3, .int .i64 a4, .int .i64 a5, .int .i64 a6, .int .i64 a7, .bool a8], .bool ok]) ∧ Below w.heap.size w w') ∧
      (∀ w : World, Calls Try.prog 20 #[.agg #[.int .i64 a0, .int .i64 a1, .int .i64 a2, .int .i64 a3, .int .i64 a4, .int .i64 a5, .int .i64 a6, .int .i64 a7, .bool a8], .int .u32 n, .int .u32 x] w fun e w' => e = .returned (.tuple #[.agg #[.int .i64 b0, .int .i64 b1, .int .i64 b2, .int .i64 b3, .int .i64 b4, .int .i64 b5, .int .i64 b6, .int .i64 b7, .bool b8], .bool fine]) ∧ Below w.heap.size w w') ∧
      (∀ w : World, Calls Try.prog 20 #[.agg #[.int .i64 c0, .int .i64 c1, .int .i64 c2, .int .i64 c3, .int .i64 c4, .int .i64 c5, .int .i64 c6, .int .i64 c7, .bool c8], .int .u32 m, .int .u32 x] w fun e w' => e = .returned (.tuple #[.agg #[.int .i64 d0, .int .i64 d1, .int .i64 d2, .int .i64 d3, .int .i64 d4, .int .i64 d5, .int .i64 d6, .int .i64 d7, .bool d8], .bool can]) ∧ Below w.heap.size w w') ∧
      (∀ w : World, Calls Try.prog 18 #[.agg #[.int .i64 d0, .int .i64 d1, .int .i64 d2, .int .i64 d3, .int .i64 d4, .int .i64 d5, .int .i64 d6, .int .i64 d7, .bool d8], .int .u32 n] w fun e w' => e = .returned (.tuple #[.agg #[.int .i64 e0, .int .i64 e1, .int .i64 e2, .int .i64 e3, .int .i64 e4, .int .i64 e5, .int .i64 e6, .int .i64 e7, .bool e8], .bool may]) ∧ Below w.heap.size w w') ∧
      (∀ w : World, Calls Try.prog 18 #[.agg #[.int .i64 a0, .int .i64 a1, .int .i64 a2, .int .i64 a3, .int .i64 a4, .int .i64 a5, .int .i64 a6, .int .i64 a7, .bool a8], .int .u32 7] w fun e w' => e = .returned (.tuple #[.agg #[.int .i64 a0, .int .i64 a1, .int .i64 a2, .int .i64 a3, .int .i64 a4, .int .i64 a5, .int .i64 a6, .int .i64 a7, .bool a8], .bool ok]) ∧ Below w.heap.size w w') ∧
      (ok = true → ∀ w : World, Calls Try.prog 21 #[.agg #[.int .i64 a0, .int .i64 a1, .int .i64 a2, .int .i64 a3, .int .i64 a4, .int .i64 a5, .int .i64 a6, .int .i64 a7, .bool a8]] w fun e w' => e = .returned (.bool true) ∧ Below w.heap.size w w') ∧
      (ok = true → ∀ w : World, Calls Try.prog 22 #[.agg #[.int .i64 a0, .int .i64 a1, .int .i64 a2, .int .i64 a3, .int .i64 a4, .int .i64 a5, .int .i64 a6, .int .i64 a7, .bool a8], .agg #[.int .i64 c0, .int .i64 c1, .int .i64 c2, .int .i64 c3, .int .i64 c4, .int .i64 c5, .int .i64 c6, .int .i64 c7, .bool c8]] w fun e w' => e = .returned (.bool true) ∧ Below w.heap.size w w') ∧
      (fine = true → ∀ w : World, Calls Try.prog 21 #[.agg #[.int .i64 b0, .int .i64 b1, .int .i64 b2, .int .i64 b3, .int .i64 b4, .int .i64 b5, .int .i64 b6, .int .i64 b7, .bool b8]] w fun e w' => e = .returned (.bool true) ∧ Below w.heap.size w w') ∧
      (fine = true → ∀ w : World, Calls Try.prog 22 #[.agg #[.int .i64 b0, .int .i64 b1, .int .i64 b2, .int .i64 b3, .int .i64 b4, .int .i64 b5, .int .i64 b6, .int .i64 b7, .bool b8], .agg #[.int .i64 a0, .int .i64 a1, .int .i64 a2, .int .i64 a3, .int .i64 a4, .int .i64 a5, .int .i64 a6, .int .i64 a7, .bool a8]] w fun e w' => e = .returned (.bool true) ∧ Below w.heap.size w w') ∧
      (fine = true → ∀ w : World, Calls Try.prog 22 #[.agg #[.int .i64 b0, .int .i64 b1, .int .i64 b2, .int .i64 b3, .int .i64 b4, .int .i64 b5, .int .i64 b6, .int .i64 b7, .bool b8], .agg #[.int .i64 c0, .int .i64 c1, .int .i64 c2, .int .i64 c3, .int .i64 c4, .int .i64 c5, .int .i64 c6, .int .i64 c7, .bool c8]] w fun e w' => e = .returned (.bool true) ∧ Below w.heap.size w w') ∧
      (can = true → ∀ w : World, Calls Try.prog 22 #[.agg #[.int .i64 d0, .int .i64 d1, .int .i64 d2, .int .i64 d3, .int .i64 d4, .int .i64 d5, .int .i64 d6, .int .i64 d7, .bool d8], .agg #[.int .i64 c0, .int .i64 c1, .int .i64 c2, .int .i64 c3, .int .i64 c4, .int .i64 c5, .int .i64 c6, .int .i64 c7, .bool c8]] w fun e w' => e = .returned (.bool true) ∧ Below w.heap.size w w') ∧
      (can = true → ∀ w : World, Calls Try.prog 22 #[.agg #[.int .i64 e0, .int .i64 e1, .int .i64 e2, .int .i64 e3, .int .i64 e4, .int .i64 e5, .int .i64 e6, .int .i64 e7, .bool e8], .agg #[.int .i64 c0, .int .i64 c1, .int .i64 c2, .int .i64 c3, .int .i64 c4, .int .i64 c5, .int .i64 c6, .int .i64 c7, .bool c8]] w fun e w' => e = .returned (.bool true) ∧ Below w.heap.size w w') ∧
      (ok = false → fine = false ∧ can = false ∧ may = false) ∧ (can = true → may = true) ∧ a8 = false ∧ b8 = false ∧ d8 = false := by
  intro c0 c1 c2 c3 c4 c5 c6 c7 m n x c8 hr hm hn hx
  cases hc : copyB c0 c1 c2 c3 c4 c5 c6 c7 c8
  · have hmc : mintB c0 c1 c2 c3 c4 c5 c6 c7 c8 m x = false := by simp [mintB, hc]
    refine ⟨0, 0, 0, 0, 0, 0, 0, 0, 0, 0, 0, 0, 0, 0, 0, 0, 0, 0, 0, 0, 0, 0, 0, 0, 0, 0, 0, 0, 0, 0, 0, 0, false, false, false, false, false, false, false, false, fun w => copyImpl_no _ _ _ _ _ _ _ _ _ _ w (by omega) (by omega) hc, fun w => copySpec_no _ _ _ _ _ _ _ _ _ _ w (by omega) (by omega) hc, fun w => mintImpl_not _ _ _ _ _ _ _ _ _ _ _ w (by omega) (by omega) hn.1 hn.2 hx.1 hx.2 (zero_mint n x), fun w => mintImpl_not _ _ _ _ _ _ _ _ _ _ _ w (by omega) (by omega) hm.1 hm.2 hx.1 hx.2 hmc, fun w => copyImpl_no _ _ _ _ _ _ _ _ _ _ w (by omega) (by omega) zero_copy, fun w => copyImpl_no _ _ _ _ _ _ _ _ _ _ w (by omega) (by omega) zero_copy, ?_⟩
    simp
  · obtain ⟨hoa, hca, hac, hse⟩ := copied (m := m) hc
    have hra : 0 ≤ bothI c3 (m % 8) ∧ bothI c3 (m % 8) ≤ 7 := (ok_bounds hoa).2.2.2.1
    have back : ∀ w : World, Calls Try.prog 18 #[.agg #[.int .i64 c0, .int .i64 c1, .int .i64 c2, .int .i64 (bothI c3 (m % 8)), .int .i64 c4, .int .i64 c5, .int .i64 c6, .int .i64 c7, .bool false], .int .u32 7] w fun e w' => e = .returned (.tuple #[.agg #[.int .i64 c0, .int .i64 c1, .int .i64 c2, .int .i64 (bothI c3 (m % 8)), .int .i64 c4, .int .i64 c5, .int .i64 c6, .int .i64 c7, .bool false], .bool true]) ∧ Below w.heap.size w w' := fun w => by
      have := copyImpl_yes _ _ _ _ _ _ _ _ 7 _ w (by omega) (by omega) hca
      have e : bothI (bothI c3 (m % 8)) (7 % 8) = bothI c3 (m % 8) := hse
      rw [e] at this; exact this
    cases hf : mintB c0 c1 c2 (bothI c3 (m % 8)) c4 c5 c6 c7 false n x
    all_goals cases hd : mintB c0 c1 c2 c3 c4 c5 c6 c7 c8 m x
    · refine ⟨c0, c1, c2, bothI c3 (m % 8), c4, c5, c6, c7, 0, 0, 0, 0, 0, 0, 0, 0, 0, 0, 0, 0, 0, 0, 0, 0, 0, 0, 0, 0, 0, 0, 0, 0, false, false, false, false, true, false, false, false, fun w => copyImpl_yes _ _ _ _ _ _ _ _ _ _ w hm.1 hm.2 hc, fun w => copySpec_yes _ _ _ _ _ _ _ _ _ _ w hm.1 hm.2 hc, fun w => mintImpl_not _ _ _ _ _ _ _ _ _ _ _ w (by omega) (by omega) hn.1 hn.2 hx.1 hx.2 hf, fun w => mintImpl_not _ _ _ _ _ _ _ _ _ _ _ w (by omega) (by omega) hm.1 hm.2 hx.1 hx.2 hd, fun w => copyImpl_no _ _ _ _ _ _ _ _ _ _ w (by omega) (by omega) zero_copy, back, fun _ => okImpl_true hoa, fun _ => belowImpl_true hac, ?_⟩
      simp
    · obtain ⟨_, hcd, hdc⟩ := minted hd hx.1
      obtain ⟨_, _, hed, _⟩ := copied (m := n) hcd
      refine ⟨c0, c1, c2, bothI c3 (m % 8), c4, c5, c6, c7, 0, 0, 0, 0, 0, 0, 0, 0, _, _, _, _, _, _, _, _, _, _, _, _, _, _, _, _, false, false, false, false, true, false, true, true, fun w => copyImpl_yes _ _ _ _ _ _ _ _ _ _ w hm.1 hm.2 hc, fun w => copySpec_yes _ _ _ _ _ _ _ _ _ _ w hm.1 hm.2 hc, fun w => mintImpl_not _ _ _ _ _ _ _ _ _ _ _ w (by omega) (by omega) hn.1 hn.2 hx.1 hx.2 hf, fun w => mintImpl_given _ _ _ _ _ _ _ _ _ _ _ w hm.1 hm.2 hx.1 hx.2 hd, fun w => copyImpl_yes _ _ _ _ _ _ _ _ _ _ w hn.1 hn.2 hcd, back, fun _ => okImpl_true hoa, fun _ => belowImpl_true hac, fun h => Bool.noConfusion h, fun h => Bool.noConfusion h, fun h => Bool.noConfusion h, fun _ => belowImpl_true hdc, fun _ => belowImpl_true (below_trans hed hdc), ?_⟩
      simp
    · obtain ⟨_, hcb, hba⟩ := minted hf hx.1
      refine ⟨c0, c1, c2, bothI c3 (m % 8), c4, c5, c6, c7, _, _, _, _, _, _, _, _, 0, 0, 0, 0, 0, 0, 0, 0, 0, 0, 0, 0, 0, 0, 0, 0, false, false, false, false, true, true, false, false, fun w => copyImpl_yes _ _ _ _ _ _ _ _ _ _ w hm.1 hm.2 hc, fun w => copySpec_yes _ _ _ _ _ _ _ _ _ _ w hm.1 hm.2 hc, fun w => mintImpl_given _ _ _ _ _ _ _ _ _ _ _ w hn.1 hn.2 hx.1 hx.2 hf, fun w => mintImpl_not _ _ _ _ _ _ _ _ _ _ _ w (by omega) (by omega) hm.1 hm.2 hx.1 hx.2 hd, fun w => copyImpl_no _ _ _ _ _ _ _ _ _ _ w (by omega) (by omega) zero_copy, back, fun _ => okImpl_true hoa, fun _ => belowImpl_true hac, fun _ => okImpl_true (copy_of hcb).1, fun _ => belowImpl_true hba, fun _ => belowImpl_true (below_trans hba hac), fun h => Bool.noConfusion h, fun h => Bool.noConfusion h, ?_⟩
      simp
    · obtain ⟨_, hcd, hdc⟩ := minted hd hx.1
      obtain ⟨_, _, hed, _⟩ := copied (m := n) hcd
      obtain ⟨_, hcb, hba⟩ := minted hf hx.1
      refine ⟨c0, c1, c2, bothI c3 (m % 8), c4, c5, c6, c7, _, _, _, _, _, _, _, _, _, _, _, _, _, _, _, _, _, _, _, _, _, _, _, _, false, false, false, false, true, true, true, true, fun w => copyImpl_yes _ _ _ _ _ _ _ _ _ _ w hm.1 hm.2 hc, fun w => copySpec_yes _ _ _ _ _ _ _ _ _ _ w hm.1 hm.2 hc, fun w => mintImpl_given _ _ _ _ _ _ _ _ _ _ _ w hn.1 hn.2 hx.1 hx.2 hf, fun w => mintImpl_given _ _ _ _ _ _ _ _ _ _ _ w hm.1 hm.2 hx.1 hx.2 hd, fun w => copyImpl_yes _ _ _ _ _ _ _ _ _ _ w hn.1 hn.2 hcd, back, fun _ => okImpl_true hoa, fun _ => belowImpl_true hac, fun _ => okImpl_true (copy_of hcb).1, fun _ => belowImpl_true hba, fun _ => belowImpl_true (below_trans hba hac), fun _ => belowImpl_true hdc, fun _ => belowImpl_true (below_trans hed hdc), ?_⟩
      simp

end Go.Proofs.Ytaebcaajcolnfaa
