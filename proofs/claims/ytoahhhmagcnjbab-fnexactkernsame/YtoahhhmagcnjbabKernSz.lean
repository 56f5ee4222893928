/-
  How large a state is, by the laws.
-/
import Derived.Test.YtoahhhmagcnjbabKernData
import Derived.Laws.ResultCell
namespace Go.Proofs.Ytoahhhmagcnjbab
open Go.ChangeShapes Go.WideShapes Go.ChangeAt Go.RowKit
set_option linter.unusedVariables false

set_option maxRecDepth 100000 in
set_option maxHeartbeats 40000000 in
theorem szK_any (K : QK) (q0 : Int) (w : World) (h0q0 : 0 ≤ q0) (h2q0 : q0 ≤ 1048576) (h : K.Long) (hK : KernIn w K) :
    Calls Try.prog 4 #[.agg #[.int .i64 K.bits, .int .i64 K.ticks, .slice K.sP K.sl.length K.sc, .slice K.tP K.tl.length K.tc, .slice K.eP K.el.length K.ec, .slice K.nP K.nl.length K.nc, .slice K.fP K.fl.length K.fc, .slice K.r0.P K.r0.l.length K.r0.c, .slice K.r1.P K.r1.l.length K.r1.c, .slice K.r2.P K.r2.l.length K.r2.c, .slice K.r3.P K.r3.l.length K.r3.c, .slice K.r4.P K.r4.l.length K.r4.c, .slice K.r5.P K.r5.l.length K.r5.c, .slice K.r6.P K.r6.l.length K.r6.c, .slice K.r7.P K.r7.l.length K.r7.c], .int .i64 q0] w fun r w' => r = .returned (.int .i64 (szR (K.sz : Int) q0)) ∧ Below w.heap.size w w' := by
  have kb := boxV w K 30
  have bW : Below w.heap.size w (w.alloc (.cells #[.int .i64 K.bits, .int .i64 K.ticks, .slice K.sP K.sl.length K.sc, .slice K.tP K.tl.length K.tc, .slice K.eP K.el.length K.ec, .slice K.nP K.nl.length K.nc, .slice K.fP K.fl.length K.fc, .slice K.r0.P K.r0.l.length K.r0.c, .slice K.r1.P K.r1.l.length K.r1.c, .slice K.r2.P K.r2.l.length K.r2.c, .slice K.r3.P K.r3.l.length K.r3.c, .slice K.r4.P K.r4.l.length K.r4.c, .slice K.r5.P K.r5.l.length K.r5.c, .slice K.r6.P K.r6.l.length K.r6.c, .slice K.r7.P K.r7.l.length K.r7.c] 30)) := (Below.refl _ w).alloc (Nat.le_refl _) _
  go_enter Try.func4, Try.ntmps4
  go_upto_region 1 with fail
  generalize hW0 : w.alloc (.cells #[.int .i64 K.bits, .int .i64 K.ticks, .slice K.sP K.sl.length K.sc, .slice K.tP K.tl.length K.tc, .slice K.eP K.el.length K.ec, .slice K.nP K.nl.length K.nc, .slice K.fP K.fl.length K.fc, .slice K.r0.P K.r0.l.length K.r0.c, .slice K.r1.P K.r1.l.length K.r1.c, .slice K.r2.P K.r2.l.length K.r2.c, .slice K.r3.P K.r3.l.length K.r3.c, .slice K.r4.P K.r4.l.length K.r4.c, .slice K.r5.P K.r5.l.length K.r5.c, .slice K.r6.P K.r6.l.length K.r6.c, .slice K.r7.P K.r7.l.length K.r7.c] 30) = w0 at kb bW ⊢
  clear hW0
  have g2 : w0.cell? ⟨w.heap.size, 2, none⟩ = some (.slice K.sP K.sl.length K.sc) := atV kb 2 _ rfl
  by_cases hc0 : (K.sl.length : Int) ≤ q0
  · have HC : Hid (Calls _ _ _ _ _) := szS_any K.sP K.sc K.sl.length q0 w0 h0q0 h2q0 h.s
    rw [szR_pos hc0] at HC
    obtain ⟨q1, eq1⟩ : ∃ x, q0 - (K.sl.length : Int) = x := ⟨_, rfl⟩
    have h0q1 : 0 ≤ q1 := by omega
    have h1q1 : ¬ q1 < 0 := by omega
    have h2q1 : q1 ≤ 1048576 := by omega
    rw [eq1] at HC
    have Eq1 : Hid _ := eq1
    clear eq1
    go_upto_region 4 with ((go_at_call 9; refine Calls.mono HC.out ?_; rintro r w1 ⟨rfl, rfl⟩))
    clear HC g2
    have g3 : w0.cell? ⟨w.heap.size, 3, none⟩ = some (.slice K.tP K.tl.length K.tc) := atV kb 3 _ rfl
    by_cases hc1 : (K.tl.length : Int) ≤ q1
    · have HC : Hid (Calls _ _ _ _ _) := szT_any K.tP K.tc K.tl.length q1 w0 h0q1 h2q1 h.t
      rw [szR_pos hc1] at HC
      obtain ⟨q2, eq2⟩ : ∃ x, q1 - (K.tl.length : Int) = x := ⟨_, rfl⟩
      have h0q2 : 0 ≤ q2 := by omega
      have h1q2 : ¬ q2 < 0 := by omega
      have h2q2 : q2 ≤ 1048576 := by omega
      rw [eq2] at HC
      have Eq2 : Hid _ := eq2
      clear eq2
      go_upto_region 7 with ((go_at_call 10; refine Calls.mono HC.out ?_; rintro r w2 ⟨rfl, rfl⟩))
      clear HC g3
      have g4 : w0.cell? ⟨w.heap.size, 4, none⟩ = some (.slice K.eP K.el.length K.ec) := atV kb 4 _ rfl
      by_cases hc2 : ((K.el.length + sumE K.el : Nat) : Int) ≤ q2
      · have HC : Hid (Calls _ _ _ _ _) := szE_any K.eP K.ec K.el q2 w0 h0q2 h2q2 h.e h.ei (hK.e.below bW)
        rw [szR_pos hc2] at HC
        obtain ⟨q3, eq3⟩ : ∃ x, q2 - ((K.el.length + sumE K.el : Nat) : Int) = x := ⟨_, rfl⟩
        have h0q3 : 0 ≤ q3 := by omega
        have h1q3 : ¬ q3 < 0 := by omega
        have h2q3 : q3 ≤ 1048576 := by omega
        rw [eq3] at HC
        have Eq3 : Hid _ := eq3
        clear eq3
        go_upto_region 10 with ((go_at_call 11; refine Calls.mono HC.out ?_; rintro r w3 ⟨rfl, hb⟩))
        clear HC g4
        have kb := kb.below hb
        have bW := bW.trans (hb.mono bW.size)
        clear hb
        have g5 : w3.cell? ⟨w.heap.size, 5, none⟩ = some (.slice K.nP K.nl.length K.nc) := atV kb 5 _ rfl
        by_cases hc3 : ((K.nl.length + sumN K.nl : Nat) : Int) ≤ q3
        · have HC : Hid (Calls _ _ _ _ _) := szN_any K.nP K.nc K.nl q3 w3 h0q3 h2q3 h.n h.ni (hK.n.below bW)
          rw [szR_pos hc3] at HC
          obtain ⟨q4, eq4⟩ : ∃ x, q3 - ((K.nl.length + sumN K.nl : Nat) : Int) = x := ⟨_, rfl⟩
          have h0q4 : 0 ≤ q4 := by omega
          have h1q4 : ¬ q4 < 0 := by omega
          have h2q4 : q4 ≤ 1048576 := by omega
          rw [eq4] at HC
          have Eq4 : Hid _ := eq4
          clear eq4
          go_upto_region 13 with ((go_at_call 12; refine Calls.mono HC.out ?_; rintro r w4 ⟨rfl, hb⟩))
          clear HC g5
          have kb := kb.below hb
          have bW := bW.trans (hb.mono bW.size)
          clear hb
          have g6 : w4.cell? ⟨w.heap.size, 6, none⟩ = some (.slice K.fP K.fl.length K.fc) := atV kb 6 _ rfl
          by_cases hc4 : ((K.fl.length + sumF K.fl : Nat) : Int) ≤ q4
          · have HC : Hid (Calls _ _ _ _ _) := szF_any K.fP K.fc K.fl q4 w4 h0q4 h2q4 h.f h.fi (hK.f.below bW)
            rw [szR_pos hc4] at HC
            obtain ⟨q5, eq5⟩ : ∃ x, q4 - ((K.fl.length + sumF K.fl : Nat) : Int) = x := ⟨_, rfl⟩
            have h0q5 : 0 ≤ q5 := by omega
            have h1q5 : ¬ q5 < 0 := by omega
            have h2q5 : q5 ≤ 1048576 := by omega
            rw [eq5] at HC
            have Eq5 : Hid _ := eq5
            clear eq5
            go_upto_region 16 with ((go_at_call 13; refine Calls.mono HC.out ?_; rintro r w5 ⟨rfl, hb⟩))
            clear HC g6
            have kb := kb.below hb
            have bW := bW.trans (hb.mono bW.size)
            clear hb
            have g7 : w5.cell? ⟨w.heap.size, 7, none⟩ = some (.slice K.r0.P K.r0.l.length K.r0.c) := atV kb 7 _ rfl
            have g8 : w5.cell? ⟨w.heap.size, 8, none⟩ = some (.slice K.r1.P K.r1.l.length K.r1.c) := atV kb 8 _ rfl
            have g9 : w5.cell? ⟨w.heap.size, 9, none⟩ = some (.slice K.r2.P K.r2.l.length K.r2.c) := atV kb 9 _ rfl
            have g10 : w5.cell? ⟨w.heap.size, 10, none⟩ = some (.slice K.r3.P K.r3.l.length K.r3.c) := atV kb 10 _ rfl
            have g11 : w5.cell? ⟨w.heap.size, 11, none⟩ = some (.slice K.r4.P K.r4.l.length K.r4.c) := atV kb 11 _ rfl
            have g12 : w5.cell? ⟨w.heap.size, 12, none⟩ = some (.slice K.r5.P K.r5.l.length K.r5.c) := atV kb 12 _ rfl
            have g13 : w5.cell? ⟨w.heap.size, 13, none⟩ = some (.slice K.r6.P K.r6.l.length K.r6.c) := atV kb 13 _ rfl
            have g14 : w5.cell? ⟨w.heap.size, 14, none⟩ = some (.slice K.r7.P K.r7.l.length K.r7.c) := atV kb 14 _ rfl
            by_cases hc5 : (sumQ [K.r0, K.r1, K.r2, K.r3, K.r4, K.r5, K.r6, K.r7] : Int) ≤ q5
            · have HC : Hid (Calls _ _ _ _ _) := szQ_any K.r0 K.r1 K.r2 K.r3 K.r4 K.r5 K.r6 K.r7 q5 w5 h0q5 h2q5 h.r
              rw [szR_pos hc5] at HC
              obtain ⟨q6, eq6⟩ : ∃ x, q5 - (sumQ [K.r0, K.r1, K.r2, K.r3, K.r4, K.r5, K.r6, K.r7] : Int) = x := ⟨_, rfl⟩
              have h0q6 : 0 ≤ q6 := by omega
              have h1q6 : ¬ q6 < 0 := by omega
              have h2q6 : q6 ≤ 1048576 := by omega
              rw [eq6] at HC
              have Eq6 : Hid _ := eq6
              clear eq6
              go_wp2_with ((go_at_call 14; refine Calls.mono HC.out ?_; rintro r w6 ⟨rfl, hb⟩))
              go_ret
              exact ⟨ret_int (by rw [szR_pos (by unfold QK.sz; have := Eq1.out; have := Eq2.out; have := Eq3.out; have := Eq4.out; have := Eq5.out; have := Eq6.out; omega)]; unfold QK.sz; have := Eq1.out; have := Eq2.out; have := Eq3.out; have := Eq4.out; have := Eq5.out; have := Eq6.out; omega), bW.trans (hb.mono bW.size)⟩
            · have HC : Hid (Calls _ _ _ _ _) := szQ_any K.r0 K.r1 K.r2 K.r3 K.r4 K.r5 K.r6 K.r7 q5 w5 h0q5 h2q5 h.r
              rw [szR_neg hc5] at HC
              go_wp2_with ((go_at_call 14; refine Calls.mono HC.out ?_; rintro r w6 ⟨rfl, hb⟩))
              go_ret
              exact ⟨ret_int (szR_neg (by unfold QK.sz; have := Eq1.out; have := Eq2.out; have := Eq3.out; have := Eq4.out; have := Eq5.out; omega)).symm, bW.trans (hb.mono bW.size)⟩
          · have HC : Hid (Calls _ _ _ _ _) := szF_any K.fP K.fc K.fl q4 w4 h0q4 h2q4 h.f h.fi (hK.f.below bW)
            rw [szR_neg hc4] at HC
            go_wp2_with ((go_at_call 13; refine Calls.mono HC.out ?_; rintro r w5 ⟨rfl, hb⟩))
            go_ret
            exact ⟨ret_int (szR_neg (by unfold QK.sz; have := Eq1.out; have := Eq2.out; have := Eq3.out; have := Eq4.out; omega)).symm, bW.trans (hb.mono bW.size)⟩
        · have HC : Hid (Calls _ _ _ _ _) := szN_any K.nP K.nc K.nl q3 w3 h0q3 h2q3 h.n h.ni (hK.n.below bW)
          rw [szR_neg hc3] at HC
          go_wp2_with ((go_at_call 12; refine Calls.mono HC.out ?_; rintro r w4 ⟨rfl, hb⟩))
          go_ret
          exact ⟨ret_int (szR_neg (by unfold QK.sz; have := Eq1.out; have := Eq2.out; have := Eq3.out; omega)).symm, bW.trans (hb.mono bW.size)⟩
      · have HC : Hid (Calls _ _ _ _ _) := szE_any K.eP K.ec K.el q2 w0 h0q2 h2q2 h.e h.ei (hK.e.below bW)
        rw [szR_neg hc2] at HC
        go_wp2_with ((go_at_call 11; refine Calls.mono HC.out ?_; rintro r w3 ⟨rfl, hb⟩))
        go_ret
        exact ⟨ret_int (szR_neg (by unfold QK.sz; have := Eq1.out; have := Eq2.out; omega)).symm, bW.trans (hb.mono bW.size)⟩
    · have HC : Hid (Calls _ _ _ _ _) := szT_any K.tP K.tc K.tl.length q1 w0 h0q1 h2q1 h.t
      rw [szR_neg hc1] at HC
      go_wp2_with ((go_at_call 10; refine Calls.mono HC.out ?_; rintro r w2 ⟨rfl, rfl⟩))
      go_ret
      exact ⟨ret_int (szR_neg (by unfold QK.sz; have := Eq1.out; omega)).symm, bW⟩
  · have HC : Hid (Calls _ _ _ _ _) := szS_any K.sP K.sc K.sl.length q0 w0 h0q0 h2q0 h.s
    rw [szR_neg hc0] at HC
    go_wp2_with ((go_at_call 9; refine Calls.mono HC.out ?_; rintro r w1 ⟨rfl, rfl⟩))
    go_ret
    exact ⟨ret_int (szR_neg (by unfold QK.sz; omega)).symm, bW⟩

end Go.Proofs.Ytoahhhmagcnjbab
