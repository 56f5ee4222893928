/-
  The specification's check of something shared.
-/
import Derived.Test.YtjiignkappabpaaDoorBootLnkF
import Derived.Test.YtjiignkappabpaaDoorExtra
namespace Go.Proofs.YtjiignkappabpaaDoor
open Go.ChangeShapes Go.WideShapes Go.ChangeAt Go.RowKit
set_option linter.unusedVariables false

theorem maxI_46 {k : Int} (hk : 4 ≤ k ∧ k ≤ 6) : maxI k = 7 ∨ maxI k = 3 := by
  obtain rfl | rfl | rfl : k = 4 ∨ k = 5 ∨ k = 6 := by omega
  all_goals decide
theorem subB_le {r m : Int} (h0 : 0 ≤ r) (h1 : r ≤ 7) (hm : m = 7 ∨ m = 3) : subB r m = decide (r ≤ m) := by
  have : r = 0 ∨ r = 1 ∨ r = 2 ∨ r = 3 ∨ r = 4 ∨ r = 5 ∨ r = 6 ∨ r = 7 := by omega
  rcases hm with rfl | rfl <;> rcases this with rfl | rfl | rfl | rfl | rfl | rfl | rfl | rfl <;> decide

/-! ### A round's region. -/
def linkOkB (n : Int) (x : LP) : Bool := linkB n x && decide ((x.2.2.length : Int) ≤ 15)
def lnkSInv (w : World) (pv lv : List Value) (l : List QO) (kd n : Int) (i : Value) (w' : World) : Prop :=
  ∃ k : Nat, k ≤ l.length ∧ i = .int .i64 k ∧ (l.take k).all (toB kd n) = true ∧ Bx w' w.heap.size 31 pv ∧ Bx w' (w.heap.size + 1) 43 lv ∧ Below w.heap.size w w'

set_option maxRecDepth 100000 in
set_option maxHeartbeats 8000000 in
theorem lnkS_any (bits : Int) (dP : Option Addr) (dc : Nat) (dl : List QD) (lP : Option Addr) (lln lc : Nat) (kd bt : Int) (P : Option Addr) (c : Nat) (l : List QO) (w : World) (hd : dl.length ≤ 1000) (hl : l.length ≤ 1048576) (hL : LiesG fO w P l) :
    Calls Tryd.prog 12 #[.agg #[.int .i64 bits, .slice dP dl.length dc, .slice lP lln lc], .agg #[.int .i64 kd, .int .i64 bt, .slice P l.length c]] w fun e w' => e = .returned (.bool (linkOkB dl.length (kd, bt, l))) ∧ Below w.heap.size w w' := by
  have bw : Below w.heap.size w ((w.alloc (.cells #[.int .i64 bits, .slice dP dl.length dc, .slice lP lln lc] 31)).alloc (.cells #[.int .i64 kd, .int .i64 bt, .slice P l.length c] 43)) := ((Below.refl _ _).alloc (Nat.le_refl _) _).alloc (by simp) _
  have hx1 := (Bx.new w 31 [.int .i64 bits, .slice dP dl.length dc, .slice lP lln lc]).alloc (.cells #[.int .i64 kd, .int .i64 bt, .slice P l.length c] 43)
  have hx2 := Bx.newAt (w.alloc (.cells #[.int .i64 bits, .slice dP dl.length dc, .slice lP lln lc] 31)) 43 [.int .i64 kd, .int .i64 bt, .slice P l.length c] (c := w.heap.size + 1) (by simp)
  by_cases h1 : kd < 4
  · have HV : Hid (linkOkB dl.length (kd, bt, l) = false) := by unfold Hid linkOkB; simp [linkB, kindB, withinB]; omega
    go_enter Tryd.func12, Tryd.ntmps12
    go_wp2
    go_ret
    exact ⟨ret_bool HV.out.symm, bw⟩
  · by_cases h2 : kd > 6
    · have HV : Hid (linkOkB dl.length (kd, bt, l) = false) := by unfold Hid linkOkB; simp [linkB, kindB, withinB]; omega
      go_enter Tryd.func12, Tryd.ntmps12
      go_wp2
      go_ret
      exact ⟨ret_bool HV.out.symm, bw⟩
    · have hkd : 4 ≤ kd ∧ kd ≤ 6 := by omega
      have HB := bits_any kd bt
      cases h3 : bitsB kd bt
      · rw [h3] at HB
        have HV : Hid (linkOkB dl.length (kd, bt, l) = false) := by unfold Hid linkOkB; simp [linkB, kindB, szI_no h3]
        have HBH : Hid _ := HB
        clear HB h3
        go_enter Tryd.func12, Tryd.ntmps12
        go_wp2_with ((go_at_call 21; refine Calls.mono (HBH.out _) ?_; rintro e w1 ⟨rfl, rfl⟩))
        go_ret
        exact ⟨ret_bool HV.out.symm, bw⟩
      · rw [h3] at HB
        have hsz : (szI kd bt == 0) = false := by
          obtain rfl | rfl | rfl : kd = 4 ∨ kd = 5 ∨ kd = 6 := by omega
          · simp [bitsB] at h3; subst h3; decide
          · simp [bitsB] at h3; subst h3; decide
          · simp [bitsB] at h3
            have : bt = 0 ∨ bt = 1 ∨ bt = 2 ∨ bt = 3 ∨ bt = 4 ∨ bt = 5 ∨ bt = 6 := by omega
            rcases this with rfl | rfl | rfl | rfl | rfl | rfl | rfl <;> decide
        have HBH : Hid _ := HB
        clear HB h3
        by_cases h4 : (l.length : Int) > 15
        · have HV : Hid (linkOkB dl.length (kd, bt, l) = false) := by unfold Hid linkOkB; simp; intro _; omega
          go_enter Tryd.func12, Tryd.ntmps12
          go_wp2_with ((go_at_call 21; refine Calls.mono (HBH.out _) ?_; rintro e w1 ⟨rfl, rfl⟩))
          go_ret
          exact ⟨ret_bool HV.out.symm, bw⟩
        · have HV : Hid (linkOkB dl.length (kd, bt, l) = l.all (toB kd dl.length)) := by
            unfold Hid linkOkB
            show (linkB dl.length (kd, bt, l) && decide ((l.length : Int) ≤ 15)) = _
            rw [decide_eq_true (show (l.length : Int) ≤ 15 by omega), Bool.and_true]
            simp [linkB, kindB, withinB, hsz, hkd]
          go_enter Tryd.func12, Tryd.ntmps12
          go_wp2_with ((go_at_call 21; refine Calls.mono (HBH.out _) ?_; rintro e w1 ⟨rfl, rfl⟩))
          go_loopw [5] (fun i w' => lnkSInv w [.int .i64 bits, .slice dP dl.length dc, .slice lP lln lc] [.int .i64 kd, .int .i64 bt, .slice P l.length c] l kd dl.length i w') (fun i w' => l.length - (intOf i).toNat)
          case atStart => exact ⟨0, Nat.zero_le _, rfl, rfl, hx1, hx2, bw⟩
          case round =>
            clear hx1 hx2
            obtain ⟨k, hk, rfl, hv, hx1, hx2, hB⟩ := hrel
            have hL1 := hL.below hB
            have y2 := hx2.cell 2 _ rfl
            by_cases hlt : k < l.length
            · obtain ⟨B, O, rfl⟩ := hL1.has hlt
              have cc := atO hL1 hlt
              have hat := all_take (toB kd dl.length) hlt
              generalize hs : l[k] = x at cc hat
              have HM : Hid (x ∈ l) := by unfold Hid; rw [← hs]; exact List.getElem_mem hlt
              clear hs
              rw [hv, Bool.true_and] at hat
              have HT : Hid _ := hat
              clear hat
              obtain ⟨p0, p1, p2⟩ := cc
              have hk1 : (k : Int) < (l.length : Int) := by omega
              have HNO : toB kd dl.length x = false → l.all (toB kd dl.length) = false := fun h => by
                rw [Bool.eq_false_iff]
                intro h'
                have := (List.all_eq_true.1 h') x HM.out
                rw [h] at this; cases this
              have HNH : Hid _ := HNO
              clear HNO
              go_upto_region 7 with fail
              have bA : Below wr.heap.size wr (wr.alloc (.cells #[.int .i64 x.dm, .int .i64 x.rt, .int .i64 x.bd] 61)) := (Below.refl _ _).alloc (Nat.le_refl _) _
              have q1 := hx1.below bA
              have q2 := hx2.below bA
              have q3 := Bx.new wr 61 [.int .i64 x.dm, .int .i64 x.rt, .int .i64 x.bd]
              have hBA := hB.trans (bA.mono hB.size)
              clear p0 p1 p2 y2 hL1
              generalize wr.alloc (.cells #[.int .i64 x.dm, .int .i64 x.rt, .int .i64 x.bd] 61) = wA at bA q1 q2 q3 hBA ⊢
              have z1 := cell_regrown (q1.cell 1 _ rfl)
              have z2 := cell_regrown (q2.cell 0 _ rfl)
              have z30 := cell_regrown (q3.cell 0 _ rfl)
              have z31 := cell_regrown (q3.cell 1 _ rfl)
              have z32 := cell_regrown (q3.cell 2 _ rfl)
              have hmx := maxI_46 hkd
              obtain ⟨n, hn⟩ : ∃ n : Int, n = (dl.length : Int) := ⟨_, rfl⟩
              have HNN : Hid _ := hn
              have hm7 : 0 ≤ maxI kd ∧ maxI kd ≤ 7 := by omega
              clear hn
              by_cases G0 : x.dm < 0
              · have HF : Hid (toB kd dl.length x = false) := by unfold Hid; simp [toB, withinB]; intros; first | omega | (unfold badgeI; split <;> omega)
                have g0 : decide (x.dm < 0) = true := by simpa using G0
                refine wq_region (by kernel_rfl) (by kernel_rfl) ?_
                repeat (first | (refine wq_step (fun K hK => ?_); go_simp; first | (refine hK _ ?_; clear hK K)))
                refine wq_nil ?_
                intro _ hw'
                obtain ⟨⟨dq, osq⟩, hw''⟩ := hw'
                subst hw''
                have bw2 := hBA.trans ((below_regrown wA dq osq).mono hBA.size)
                go_wp2
                go_ret
                refine ⟨ret_bool ?_, bw2⟩
                rw [HV.out, HNH.out]
                exact HF.out
              · skip
                by_cases G1 : x.dm ≥ (dl.length : Int)
                · have HF : Hid (toB kd dl.length x = false) := by unfold Hid; simp [toB, withinB]; intros; first | omega | (unfold badgeI; split <;> omega)
                  have g0 : decide (x.dm < 0) = false := by simpa using G0
                  have g1 : decide (x.dm ≥ (dl.length : Int)) = true := by simpa using G1
                  refine wq_region (by kernel_rfl) (by kernel_rfl) ?_
                  repeat (first | (refine wq_step (fun K hK => ?_); go_simp; first | (refine hK _ ?_; clear hK K)))
                  refine wq_nil ?_
                  intro _ hw'
                  obtain ⟨⟨dq, osq⟩, hw''⟩ := hw'
                  subst hw''
                  have bw2 := hBA.trans ((below_regrown wA dq osq).mono hBA.size)
                  go_wp2
                  go_ret
                  refine ⟨ret_bool ?_, bw2⟩
                  rw [HV.out, HNH.out]
                  exact HF.out
                · skip
                  by_cases G2 : x.rt < 0
                  · have HF : Hid (toB kd dl.length x = false) := by unfold Hid; simp [toB, withinB]; intros; first | omega | (unfold badgeI; split <;> omega)
                    have g0 : decide (x.dm < 0) = false := by simpa using G0
                    have g1 : decide (x.dm ≥ (dl.length : Int)) = false := by simpa using G1
                    have g2 : decide (x.rt < 0) = true := by simpa using G2
                    refine wq_region (by kernel_rfl) (by kernel_rfl) ?_
                    repeat (first | (refine wq_step (fun K hK => ?_); go_simp; first | (refine hK _ ?_; clear hK K)))
                    refine wq_nil ?_
                    intro _ hw'
                    obtain ⟨⟨dq, osq⟩, hw''⟩ := hw'
                    subst hw''
                    have bw2 := hBA.trans ((below_regrown wA dq osq).mono hBA.size)
                    go_wp2
                    go_ret
                    refine ⟨ret_bool ?_, bw2⟩
                    rw [HV.out, HNH.out]
                    exact HF.out
                  · skip
                    by_cases G3 : x.rt > 7
                    · have HF : Hid (toB kd dl.length x = false) := by unfold Hid; simp [toB, withinB]; intros; first | omega | (unfold badgeI; split <;> omega)
                      have g0 : decide (x.dm < 0) = false := by simpa using G0
                      have g1 : decide (x.dm ≥ (dl.length : Int)) = false := by simpa using G1
                      have g2 : decide (x.rt < 0) = false := by simpa using G2
                      have g3 : decide (x.rt > 7) = true := by simpa using G3
                      refine wq_region (by kernel_rfl) (by kernel_rfl) ?_
                      repeat (first | (refine wq_step (fun K hK => ?_); go_simp; first | (refine hK _ ?_; clear hK K)))
                      refine wq_nil ?_
                      intro _ hw'
                      obtain ⟨⟨dq, osq⟩, hw''⟩ := hw'
                      subst hw''
                      have bw2 := hBA.trans ((below_regrown wA dq osq).mono hBA.size)
                      go_wp2
                      go_ret
                      refine ⟨ret_bool ?_, bw2⟩
                      rw [HV.out, HNH.out]
                      exact HF.out
                    · skip
                      have hsb := subB_le (r := x.rt) (m := maxI kd) (by omega) (by omega) hmx
                      cases G4 : subB x.rt (maxI kd)
                      · rw [G4] at hsb
                        have hsb2 : ¬ x.rt ≤ maxI kd := by simpa using hsb.symm
                        have HF : Hid (toB kd dl.length x = false) := by unfold Hid; simp [toB, withinB]; intros; omega
                        clear hsb
                        have g0 : decide (x.dm < 0) = false := by simpa using G0
                        have g1 : decide (x.dm ≥ (dl.length : Int)) = false := by simpa using G1
                        have g2 : decide (x.rt < 0) = false := by simpa using G2
                        have g3 : decide (x.rt > 7) = false := by simpa using G3
                        have g4 : subB x.rt (maxI kd) = false := by simpa using G4
                        refine wq_region (by kernel_rfl) (by kernel_rfl) ?_
                        repeat (first | (refine wq_step (fun K hK => ?_); go_simp; first | (refine hK _ ?_; clear hK K) | (apply Exists.intro; refine ⟨fun _ => ?_, hK _ ?_⟩; (first | (go_at_call 23; exact Calls.regrown_of (Calls.mono (maxSpec_any _ _) (fun e w' h => ⟨h.1, h.2 ▸ Below.refl _ _⟩))) | (go_at_call 22; exact Calls.regrown_of (Calls.mono (sub_any _ _ _ (by omega) (by omega) (by omega) (by omega)) (fun e w' h => ⟨h.1.trans (by rw [g4]), h.2 ▸ Below.refl _ _⟩)))); clear hK K)))
                        refine wq_nil ?_
                        intro _ hw'
                        obtain ⟨⟨dq, osq⟩, hw''⟩ := hw'
                        subst hw''
                        have bw2 := hBA.trans ((below_regrown wA dq osq).mono hBA.size)
                        go_wp2
                        go_ret
                        refine ⟨ret_bool ?_, bw2⟩
                        rw [HV.out, HNH.out]
                        exact HF.out
                      · rw [G4] at hsb
                        have hsb2 : x.rt ≤ maxI kd := by simpa using hsb.symm
                        clear hsb
                        by_cases G5 : x.bd < 0
                        · have HF : Hid (toB kd dl.length x = false) := by unfold Hid; simp [toB, withinB]; intros; first | omega | (unfold badgeI; split <;> omega)
                          have g0 : decide (x.dm < 0) = false := by simpa using G0
                          have g1 : decide (x.dm ≥ (dl.length : Int)) = false := by simpa using G1
                          have g2 : decide (x.rt < 0) = false := by simpa using G2
                          have g3 : decide (x.rt > 7) = false := by simpa using G3
                          have g4 : subB x.rt (maxI kd) = true := by simpa using G4
                          have g5 : decide (x.bd < 0) = true := by simpa using G5
                          refine wq_region (by kernel_rfl) (by kernel_rfl) ?_
                          repeat (first | (refine wq_step (fun K hK => ?_); go_simp; first | (refine hK _ ?_; clear hK K) | (apply Exists.intro; refine ⟨fun _ => ?_, hK _ ?_⟩; (first | (go_at_call 23; exact Calls.regrown_of (Calls.mono (maxSpec_any _ _) (fun e w' h => ⟨h.1, h.2 ▸ Below.refl _ _⟩))) | (go_at_call 22; exact Calls.regrown_of (Calls.mono (sub_any _ _ _ (by omega) (by omega) (by omega) (by omega)) (fun e w' h => ⟨h.1.trans (by rw [g4]), h.2 ▸ Below.refl _ _⟩)))); clear hK K)))
                          refine wq_nil ?_
                          intro _ hw'
                          obtain ⟨⟨dq, osq⟩, hw''⟩ := hw'
                          subst hw''
                          have bw2 := hBA.trans ((below_regrown wA dq osq).mono hBA.size)
                          go_wp2
                          go_ret
                          refine ⟨ret_bool ?_, bw2⟩
                          rw [HV.out, HNH.out]
                          exact HF.out
                        · skip
                          by_cases G6 : x.bd > 65535
                          · have HF : Hid (toB kd dl.length x = false) := by unfold Hid; simp [toB, withinB]; intros; first | omega | (unfold badgeI; split <;> omega)
                            have g0 : decide (x.dm < 0) = false := by simpa using G0
                            have g1 : decide (x.dm ≥ (dl.length : Int)) = false := by simpa using G1
                            have g2 : decide (x.rt < 0) = false := by simpa using G2
                            have g3 : decide (x.rt > 7) = false := by simpa using G3
                            have g4 : subB x.rt (maxI kd) = true := by simpa using G4
                            have g5 : decide (x.bd < 0) = false := by simpa using G5
                            have g6 : decide (x.bd > 65535) = true := by simpa using G6
                            refine wq_region (by kernel_rfl) (by kernel_rfl) ?_
                            repeat (first | (refine wq_step (fun K hK => ?_); go_simp; first | (refine hK _ ?_; clear hK K) | (apply Exists.intro; refine ⟨fun _ => ?_, hK _ ?_⟩; (first | (go_at_call 23; exact Calls.regrown_of (Calls.mono (maxSpec_any _ _) (fun e w' h => ⟨h.1, h.2 ▸ Below.refl _ _⟩))) | (go_at_call 22; exact Calls.regrown_of (Calls.mono (sub_any _ _ _ (by omega) (by omega) (by omega) (by omega)) (fun e w' h => ⟨h.1.trans (by rw [g4]), h.2 ▸ Below.refl _ _⟩)))); clear hK K)))
                            refine wq_nil ?_
                            intro _ hw'
                            obtain ⟨⟨dq, osq⟩, hw''⟩ := hw'
                            subst hw''
                            have bw2 := hBA.trans ((below_regrown wA dq osq).mono hBA.size)
                            go_wp2
                            go_ret
                            refine ⟨ret_bool ?_, bw2⟩
                            rw [HV.out, HNH.out]
                            exact HF.out
                          · skip
                            by_cases G7 : x.bd > 0
                            · skip
                              cases G8 : (kd == 6)
                              · have hk6 : ¬ kd = 6 := by simpa using G8
                                have HF : Hid (toB kd dl.length x = true) := by unfold Hid; simp [toB, withinB, badgeI, hk6]; omega
                                have g0 : decide (x.dm < 0) = false := by simpa using G0
                                have g1 : decide (x.dm ≥ (dl.length : Int)) = false := by simpa using G1
                                have g2 : decide (x.rt < 0) = false := by simpa using G2
                                have g3 : decide (x.rt > 7) = false := by simpa using G3
                                have g4 : subB x.rt (maxI kd) = true := by simpa using G4
                                have g5 : decide (x.bd < 0) = false := by simpa using G5
                                have g6 : decide (x.bd > 65535) = false := by simpa using G6
                                have g7 : decide (x.bd > 0) = true := by simpa using G7
                                have g8 : (kd == 6) = false := by simpa using G8
                                refine wq_region (by kernel_rfl) (by kernel_rfl) ?_
                                repeat (first | (refine wq_step (fun K hK => ?_); go_simp; first | (refine hK _ ?_; clear hK K) | (apply Exists.intro; refine ⟨fun _ => ?_, hK _ ?_⟩; (first | (go_at_call 23; exact Calls.regrown_of (Calls.mono (maxSpec_any _ _) (fun e w' h => ⟨h.1, h.2 ▸ Below.refl _ _⟩))) | (go_at_call 22; exact Calls.regrown_of (Calls.mono (sub_any _ _ _ (by omega) (by omega) (by omega) (by omega)) (fun e w' h => ⟨h.1.trans (by rw [g4]), h.2 ▸ Below.refl _ _⟩)))); clear hK K)))
                                refine wq_nil ?_
                                intro _ hw'
                                obtain ⟨⟨dq, osq⟩, hw''⟩ := hw'
                                subst hw''
                                have bw2 := hBA.trans ((below_regrown wA dq osq).mono hBA.size)
                                have r1 := q1.below (below_regrown wA dq osq)
                                have r2 := q2.below (below_regrown wA dq osq)
                                go_wp2
                                go_roundw
                                case rel => exact ⟨k + 1, by omega, by go_num, by rw [HT.out]; exact HF.out, r1, r2, bw2⟩
                                case measure => simp [intOf]; omega
                              · have hk6 : kd = 6 := by simpa using G8
                                have HF : Hid (toB kd dl.length x = false) := by unfold Hid; simp [toB, withinB, badgeI, hk6]; intros; omega
                                clear hk6
                                have g0 : decide (x.dm < 0) = false := by simpa using G0
                                have g1 : decide (x.dm ≥ (dl.length : Int)) = false := by simpa using G1
                                have g2 : decide (x.rt < 0) = false := by simpa using G2
                                have g3 : decide (x.rt > 7) = false := by simpa using G3
                                have g4 : subB x.rt (maxI kd) = true := by simpa using G4
                                have g5 : decide (x.bd < 0) = false := by simpa using G5
                                have g6 : decide (x.bd > 65535) = false := by simpa using G6
                                have g7 : decide (x.bd > 0) = true := by simpa using G7
                                have g8 : (kd == 6) = true := by simpa using G8
                                refine wq_region (by kernel_rfl) (by kernel_rfl) ?_
                                repeat (first | (refine wq_step (fun K hK => ?_); go_simp; first | (refine hK _ ?_; clear hK K) | (apply Exists.intro; refine ⟨fun _ => ?_, hK _ ?_⟩; (first | (go_at_call 23; exact Calls.regrown_of (Calls.mono (maxSpec_any _ _) (fun e w' h => ⟨h.1, h.2 ▸ Below.refl _ _⟩))) | (go_at_call 22; exact Calls.regrown_of (Calls.mono (sub_any _ _ _ (by omega) (by omega) (by omega) (by omega)) (fun e w' h => ⟨h.1.trans (by rw [g4]), h.2 ▸ Below.refl _ _⟩)))); clear hK K)))
                                refine wq_nil ?_
                                intro _ hw'
                                obtain ⟨⟨dq, osq⟩, hw''⟩ := hw'
                                subst hw''
                                have bw2 := hBA.trans ((below_regrown wA dq osq).mono hBA.size)
                                go_wp2
                                go_ret
                                refine ⟨ret_bool ?_, bw2⟩
                                rw [HV.out, HNH.out]
                                exact HF.out
                            · have HF : Hid (toB kd dl.length x = true) := by unfold Hid; simp [toB, withinB]; unfold badgeI; split <;> omega
                              have g0 : decide (x.dm < 0) = false := by simpa using G0
                              have g1 : decide (x.dm ≥ (dl.length : Int)) = false := by simpa using G1
                              have g2 : decide (x.rt < 0) = false := by simpa using G2
                              have g3 : decide (x.rt > 7) = false := by simpa using G3
                              have g4 : subB x.rt (maxI kd) = true := by simpa using G4
                              have g5 : decide (x.bd < 0) = false := by simpa using G5
                              have g6 : decide (x.bd > 65535) = false := by simpa using G6
                              have g7 : decide (x.bd > 0) = false := by simpa using G7
                              refine wq_region (by kernel_rfl) (by kernel_rfl) ?_
                              repeat (first | (refine wq_step (fun K hK => ?_); go_simp; first | (refine hK _ ?_; clear hK K) | (apply Exists.intro; refine ⟨fun _ => ?_, hK _ ?_⟩; (first | (go_at_call 23; exact Calls.regrown_of (Calls.mono (maxSpec_any _ _) (fun e w' h => ⟨h.1, h.2 ▸ Below.refl _ _⟩))) | (go_at_call 22; exact Calls.regrown_of (Calls.mono (sub_any _ _ _ (by omega) (by omega) (by omega) (by omega)) (fun e w' h => ⟨h.1.trans (by rw [g4]), h.2 ▸ Below.refl _ _⟩)))); clear hK K)))
                              refine wq_nil ?_
                              intro _ hw'
                              obtain ⟨⟨dq, osq⟩, hw''⟩ := hw'
                              subst hw''
                              have bw2 := hBA.trans ((below_regrown wA dq osq).mono hBA.size)
                              have r1 := q1.below (below_regrown wA dq osq)
                              have r2 := q2.below (below_regrown wA dq osq)
                              go_wp2
                              go_roundw
                              case rel => exact ⟨k + 1, by omega, by go_num, by rw [HT.out]; exact HF.out, r1, r2, bw2⟩
                              case measure => simp [intOf]; omega
            · have hk1 : ¬ (k : Int) < (l.length : Int) := by omega
              rw [List.take_of_length_le (by omega)] at hv
              go_wp2
              go_ret
              exact ⟨ret_bool (by rw [HV.out, hv]), hB⟩

end Go.Proofs.YtjiignkappabpaaDoor
