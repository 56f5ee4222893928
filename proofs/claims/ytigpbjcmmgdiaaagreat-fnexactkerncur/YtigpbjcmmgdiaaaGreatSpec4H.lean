/-
 What the specification asks of the rows of objects: one of each original, in the order of their addresses. Condition: the state lies in memory.
-/
import Derived.Test.YtigpbjcmmgdiaaaGreatBq
import Derived.Test.YtigpbjcmmgdiaaaGreatBa
namespace Go.Proofs.YtigpbjcmmgdiaaaGreat
open Go.ChangeShapes Go.WideShapes Go.ChangeAt Go.RowKit
set_option linter.unusedVariables false

theorem wordSizeS_bel (b : Int) (w : World) :
  Calls Tryz.prog 87 #[.int .i64 b] w fun e w' => e = .returned (.int .i64 (sizeI b)) ∧ Below w.heap.size w w' :=
 (sizeSpec_any b w).mono fun e w' ⟨h1, h2⟩ => ⟨h1, by rw [h2]; exact Below.refl _ _⟩

set_option maxRecDepth 100000 in
set_option maxHeartbeats 40000000 in
theorem l4Objects_any (K : QK) (w : World) (hs : K.Short) (h : KernIn w K) :
  Calls Tryz.prog 53 #[.agg #[.int .i64 K.bits, .int .i64 K.ticks, .slice K.sP K.sl.length K.sc, .slice K.tP K.tl.length K.tc, .slice K.eP K.el.length K.ec, .slice K.nP K.nl.length K.nc, .slice K.fP K.fl.length K.fc, .slice K.r0.P K.r0.l.length K.r0.c, .slice K.r1.P K.r1.l.length K.r1.c, .slice K.r2.P K.r2.l.length K.r2.c, .slice K.r3.P K.r3.l.length K.r3.c, .slice K.r4.P K.r4.l.length K.r4.c, .slice K.r5.P K.r5.l.length K.r5.c, .slice K.r6.P K.r6.l.length K.r6.c, .slice K.r7.P K.r7.l.length K.r7.c]] w fun e w' => e = .returned (.bool (objectsB K)) ∧ Below w.heap.size w w' := by
 have hb0 := KBox.new h 42
 have HC := fun k W (hW : KernIn W K) => l4Count_any K k W hs hW
 obtain ⟨N, hN⟩ : ∃ N : Int → Int, cntI K.sl = N := ⟨_, rfl⟩
 have HC2 : ∀ (k : Int) W, KernIn W K → Calls Tryz.prog 85 #[.agg #[.int .i64 K.bits, .int .i64 K.ticks, .slice K.sP K.sl.length K.sc, .slice K.tP K.tl.length K.tc, .slice K.eP K.el.length K.ec, .slice K.nP K.nl.length K.nc, .slice K.fP K.fl.length K.fc, .slice K.r0.P K.r0.l.length K.r0.c, .slice K.r1.P K.r1.l.length K.r1.c, .slice K.r2.P K.r2.l.length K.r2.c, .slice K.r3.P K.r3.l.length K.r3.c, .slice K.r4.P K.r4.l.length K.r4.c, .slice K.r5.P K.r5.l.length K.r5.c, .slice K.r6.P K.r6.l.length K.r6.c, .slice K.r7.P K.r7.l.length K.r7.c], .int .i64 k] W fun e w' => e = .returned (.int .i64 (N k)) ∧ Below W.heap.size W w' := fun k W hW => by rw [← hN]; exact HC k W hW
 have H3 : Hid _ := HC2
 have HOB : Hid (objectsB K = (((K.tl.length : Int) == (N 3)) && ((K.el.length : Int) == (N 4)) && ((K.nl.length : Int) == (N 5)) && ((K.fl.length : Int) == (N 6)) && objsB K.sl 3 (K.tl.map QT.a0) && objsB K.sl 4 (K.el.map QE.ad) && objsB K.sl 5 (K.nl.map QN.ad) && framesB K.sl K.fl)) := by unfold Hid objectsB; rw [hN]
 clear hN HC HC2
 go_enter Tryz.func53, Tryz.ntmps53
 go_upto_region 1 with fail
 generalize w.alloc (.cells #[.int .i64 K.bits, .int .i64 K.ticks, .slice K.sP K.sl.length K.sc, .slice K.tP K.tl.length K.tc, .slice K.eP K.el.length K.ec, .slice K.nP K.nl.length K.nc, .slice K.fP K.fl.length K.fc, .slice K.r0.P K.r0.l.length K.r0.c, .slice K.r1.P K.r1.l.length K.r1.c, .slice K.r2.P K.r2.l.length K.r2.c, .slice K.r3.P K.r3.l.length K.r3.c, .slice K.r4.P K.r4.l.length K.r4.c, .slice K.r5.P K.r5.l.length K.r5.c, .slice K.r6.P K.r6.l.length K.r6.c, .slice K.r7.P K.r7.l.length K.r7.c] 42) = W0 at hb0 ⊢
 have bb := hb0
 obtain ⟨g0, g1, g2, g3, g4, g5, g6, g7, g8, g9, g10, g11, g12, g13, g14⟩ := KBox.facts bb
 have p0 := cell_regrown g0
 have p1 := cell_regrown g1
 have p2 := cell_regrown g2
 have p3 := cell_regrown g3
 have p4 := cell_regrown g4
 have p5 := cell_regrown g5
 have p6 := cell_regrown g6
 have p7 := cell_regrown g7
 have p8 := cell_regrown g8
 have p9 := cell_regrown g9
 have p10 := cell_regrown g10
 have p11 := cell_regrown g11
 have p12 := cell_regrown g12
 have p13 := cell_regrown g13
 have p14 := cell_regrown g14
 clear g0 g1 g2 g3 g4 g5 g6 g7 g8 g9 g10 g11 g12 g13 g14
 cases e3 : ((K.tl.length : Int) == (N 3))
 ·as_aux_lemma =>
  have b3 : ((K.tl.length : Int) != (N 3)) = true := by rw [bne, e3]; rfl
  have HV : Hid (objectsB K = false) := by unfold Hid; rw [HOB.out, e3]; simp
  refine wq_region (by kernel_rfl) (by kernel_rfl) ?_
  repeat (first | (refine wq_step (fun K hK => ?_); go_simp; first | (refine hK _ ?_; clear hK K) | (apply Exists.intro; refine ⟨fun _ => ?_, hK _ ?_⟩; (first | (go_at_call 85; exact Calls.regrown_of (H3.out _ _ (bb.b.below (below_regrown _ _ _))))); clear hK K)))
  refine wq_nil ?_
  intro _ hw'
  obtain ⟨⟨dq, osq⟩, hw''⟩ := hw'
  subst hw''
  have bb2 := bb.below (below_regrown _ dq osq)
  go_wp2
  go_ret
  exact ⟨ret_bool HV.out.symm, bb2.bw⟩
 ·have b3 : ((K.tl.length : Int) != (N 3)) = false := by rw [bne, e3]; rfl
  cases e4 : ((K.el.length : Int) == (N 4))
  ·as_aux_lemma =>
   have b4 : ((K.el.length : Int) != (N 4)) = true := by rw [bne, e4]; rfl
   have HV : Hid (objectsB K = false) := by unfold Hid; rw [HOB.out, e4]; simp
   refine wq_region (by kernel_rfl) (by kernel_rfl) ?_
   repeat (first | (refine wq_step (fun K hK => ?_); go_simp; first | (refine hK _ ?_; clear hK K) | (apply Exists.intro; refine ⟨fun _ => ?_, hK _ ?_⟩; (first | (go_at_call 85; exact Calls.regrown_of (H3.out _ _ (bb.b.below (below_regrown _ _ _))))); clear hK K)))
   refine wq_nil ?_
   intro _ hw'
   obtain ⟨⟨dq, osq⟩, hw''⟩ := hw'
   subst hw''
   have bb2 := bb.below (below_regrown _ dq osq)
   go_wp2
   go_ret
   exact ⟨ret_bool HV.out.symm, bb2.bw⟩
  ·have b4 : ((K.el.length : Int) != (N 4)) = false := by rw [bne, e4]; rfl
   cases e5 : ((K.nl.length : Int) == (N 5))
   ·as_aux_lemma =>
    have b5 : ((K.nl.length : Int) != (N 5)) = true := by rw [bne, e5]; rfl
    have HV : Hid (objectsB K = false) := by unfold Hid; rw [HOB.out, e5]; simp
    refine wq_region (by kernel_rfl) (by kernel_rfl) ?_
    repeat (first | (refine wq_step (fun K hK => ?_); go_simp; first | (refine hK _ ?_; clear hK K) | (apply Exists.intro; refine ⟨fun _ => ?_, hK _ ?_⟩; (first | (go_at_call 85; exact Calls.regrown_of (H3.out _ _ (bb.b.below (below_regrown _ _ _))))); clear hK K)))
    refine wq_nil ?_
    intro _ hw'
    obtain ⟨⟨dq, osq⟩, hw''⟩ := hw'
    subst hw''
    have bb2 := bb.below (below_regrown _ dq osq)
    go_wp2
    go_ret
    exact ⟨ret_bool HV.out.symm, bb2.bw⟩
   ·have b5 : ((K.nl.length : Int) != (N 5)) = false := by rw [bne, e5]; rfl
    cases e6 : ((K.fl.length : Int) == (N 6))
    ·as_aux_lemma =>
     have b6 : ((K.fl.length : Int) != (N 6)) = true := by rw [bne, e6]; rfl
     have HV : Hid (objectsB K = false) := by unfold Hid; rw [HOB.out, e6]; simp
     refine wq_region (by kernel_rfl) (by kernel_rfl) ?_
     repeat (first | (refine wq_step (fun K hK => ?_); go_simp; first | (refine hK _ ?_; clear hK K) | (apply Exists.intro; refine ⟨fun _ => ?_, hK _ ?_⟩; (first | (go_at_call 85; exact Calls.regrown_of (H3.out _ _ (bb.b.below (below_regrown _ _ _))))); clear hK K)))
     refine wq_nil ?_
     intro _ hw'
     obtain ⟨⟨dq, osq⟩, hw''⟩ := hw'
     subst hw''
     have bb2 := bb.below (below_regrown _ dq osq)
     go_wp2
     go_ret
     exact ⟨ret_bool HV.out.symm, bb2.bw⟩
    ·have b6 : ((K.fl.length : Int) != (N 6)) = false := by rw [bne, e6]; rfl
     have HOC : Hid (objectsB K = (objsB K.sl 3 (K.tl.map QT.a0) && objsB K.sl 4 (K.el.map QE.ad) && objsB K.sl 5 (K.nl.map QN.ad) && framesB K.sl K.fl)) := by unfold Hid; rw [HOB.out, e3, e4, e5, e6]; simp
     refine wq_region (by kernel_rfl) (by kernel_rfl) ?_
     repeat (first | (refine wq_step (fun K hK => ?_); go_simp; first | (refine hK _ ?_; clear hK K) | (apply Exists.intro; refine ⟨fun _ => ?_, hK _ ?_⟩; (first | (go_at_call 85; exact Calls.regrown_of (H3.out _ _ (bb.b.below (below_regrown _ _ _))))); clear hK K)))
     refine wq_nil ?_
     intro _ hw'
     obtain ⟨⟨dq, osq⟩, hw''⟩ := hw'
     subst hw''
     have hbL0 := bb.below (below_regrown _ dq osq)
     generalize Sort.grow (redrawn _ dq) osq = WL at hbL0 ⊢
     clear p0 p1 p2 p3 p4 p5 p6 p7 p8 p9 p10 p11 p12 p13 p14
     clear bb hb0 H3 e3 e4 e5 e6 b3 b4 b5 b6 HOB
     have HNO0 : Hid (objsB K.sl 3 (K.tl.map QT.a0) = false → objectsB K = false) := fun h0 => by rw [HOC.out, h0]; simp
     go_wp2
     go_loopw [3] (fun v W => objInv w K K.tl.length (objAtB K.sl 3 (K.tl.map QT.a0)) v W) (fun v W => K.tl.length - (intOf v).toNat)
     case atStart => exact ⟨0, Nat.zero_le _, rfl, fun j hj => absurd hj (Nat.not_lt_zero _), hbL0⟩
     case round =>
      obtain ⟨k, hk, hv, hno, bb⟩ := hrel
      have HN : Hid _ := hno
      clear hno
      by_cases hlt : k < K.tl.length
      ·have hlen := hs.t
       have hHd : Hid ((K.tl.map QT.a0).getD k 0 = K.tl[k].a0) := getD_map hlt
       have HO := fun W (hW : KernIn W K) => l4Orig_any K 3 K.tl[k].a0 W hs hW
       have hrow := bb.b.t
       obtain ⟨B, O, hP⟩ := hrow.has hlt
       rw [hP] at hrow HO
       have c0 := cell_regrown (hrow.at hlt 0 _ rfl)
       simp only [fT, Nat.add_zero] at c0
       obtain ⟨g0, g1, g2, g3, g4, g5, g6, g7, g8, g9, g10, g11, g12, g13, g14⟩ := KBox.facts bb
       have p0 := cell_regrown g0
       have p1 := cell_regrown g1
       have p2 := cell_regrown g2
       have p3 := cell_regrown g3
       have p4 := cell_regrown g4
       have p5 := cell_regrown g5
       have p6 := cell_regrown g6
       have p7 := cell_regrown g7
       have p8 := cell_regrown g8
       have p9 := cell_regrown g9
       have p10 := cell_regrown g10
       have p11 := cell_regrown g11
       have p12 := cell_regrown g12
       have p13 := cell_regrown g13
       have p14 := cell_regrown g14
       clear g0 g1 g2 g4 g5 g6 g7 g8 g9 g10 g11 g12 g13 g14
       rw [hP] at g3 p3
       clear hP
       rcases firstI_or (isObj 3 K.tl[k].a0) K.sl with ⟨h1, h2⟩ | ⟨m, hm, h1, h2, h3⟩
       ·as_aux_lemma =>
        rw [h1] at HO
        have HX : Hid ((objAtB K.sl 3 (K.tl.map QT.a0)) k = false) := objAt_none (by rw [hHd.out]; exact h1)
        clear h1 h2 hrow
        have hk1 : (k : Int) < (K.tl.length : Int) := by omega
        subst hv
        go_upto_region 6 with fail
        refine wq_region (by kernel_rfl) (by kernel_rfl) ?_
        repeat (first | (refine wq_step (fun K hK => ?_); go_simp; first | (refine hK _ ?_; clear hK K) | (apply Exists.intro; refine ⟨fun _ => ?_, hK _ ?_⟩; (first | (go_at_call 86; exact Calls.regrown_of (HO _ (bb.b.below (below_regrown _ _ _))))); clear hK K)))
        refine wq_nil ?_
        intro _ hw'
        obtain ⟨⟨dq, osq⟩, hw''⟩ := hw'
        subst hw''
        have bb2 := bb.below (below_regrown _ dq osq)
        go_wp2
        go_ret
        exact ⟨ret_bool (HNO0.out (range_no (by simpa using hlt) HX.out)).symm, bb2.bw⟩
       ·rw [h1] at HO
        have HM : Hid _ := h1
        have hm0 : decide ((m : Int) < 0) = false := by simp
        clear h1 h2 h3
        have hk1 : (k : Int) < (K.tl.length : Int) := by omega
        subst hv
        by_cases hkz : k = 0
        ·as_aux_lemma =>
         have HX : Hid ((objAtB K.sl 3 (K.tl.map QT.a0)) k = true) := objAt_zero' (m := m) hkz (by rw [hHd.out]; exact HM.out)
         have e0 : decide ((0 : Int) < (k : Int)) = false := by simp; omega
         have e0n : decide (0 < k) = false := by simp; omega
         clear hrow hkz
         go_upto_region 6 with fail
         refine wq_region (by kernel_rfl) (by kernel_rfl) ?_
         repeat (first | (refine wq_step (fun K hK => ?_); go_simp; first | (refine hK _ ?_; clear hK K) | (apply Exists.intro; refine ⟨fun _ => ?_, hK _ ?_⟩; (first | (go_at_call 86; exact Calls.regrown_of (HO _ (bb.b.below (below_regrown _ _ _))))); clear hK K)))
         refine wq_nil ?_
         intro _ hw'
         obtain ⟨⟨dq, osq⟩, hw''⟩ := hw'
         subst hw''
         have bb2 := bb.below (below_regrown _ dq osq)
         go_wp2
         go_roundw
         case rel => exact ⟨k + 1, by omega, by go_num, range_next HN.out HX.out, bb2⟩
         case measure => simp [intOf]; omega
        ·obtain ⟨j, hkj⟩ : ∃ j, k = j + 1 := ⟨k - 1, by omega⟩
         have hj : j < K.tl.length := by omega
         have c1 := cell_regrown (hrow.at hj 0 _ rfl)
         simp only [fT, Nat.add_zero] at c1
         have hk2 : (j : Int) < (K.tl.length : Int) := by omega
         have e0 : decide ((0 : Int) < (k : Int)) = true := by simp; omega
         have e0n : decide (0 < k) = true := by simp; omega
         have hwj : IntKind.i64.wrap ((k : Int) - 1) = (j : Int) := by have := hs.t; rw [IntKind.wrap_i64]; omega
         have HX : Hid ((objAtB K.sl 3 (K.tl.map QT.a0)) k = decide (K.tl[j].a0 < K.tl[k].a0)) := by unfold Hid; rw [objAt_succ' (m := m) hkj (by rw [hHd.out]; exact HM.out), hHd.out, getD_map hj]
         clear hrow hkj hkz
         by_cases hle : K.tl[k].a0 ≤ K.tl[j].a0
         ·as_aux_lemma =>
          have hleb : decide (K.tl[k].a0 ≤ K.tl[j].a0) = true := decide_eq_true hle
          have HY : Hid ((objAtB K.sl 3 (K.tl.map QT.a0)) k = false) := by unfold Hid; rw [HX.out, decide_eq_false (by omega)]
          clear hle
          go_upto_region 6 with fail
          refine wq_region (by kernel_rfl) (by kernel_rfl) ?_
          repeat (first | (refine wq_step (fun K hK => ?_); go_simp; first | (refine hK _ ?_; clear hK K) | (apply Exists.intro; refine ⟨fun _ => ?_, hK _ ?_⟩; (first | (go_at_call 86; exact Calls.regrown_of (HO _ (bb.b.below (below_regrown _ _ _))))); clear hK K)))
          refine wq_nil ?_
          intro _ hw'
          obtain ⟨⟨dq, osq⟩, hw''⟩ := hw'
          subst hw''
          have bb2 := bb.below (below_regrown _ dq osq)
          go_wp2
          go_ret
          exact ⟨ret_bool (HNO0.out (range_no (by simpa using hlt) HY.out)).symm, bb2.bw⟩
         ·as_aux_lemma =>
          have hleb : decide (K.tl[k].a0 ≤ K.tl[j].a0) = false := decide_eq_false hle
          have HY : Hid ((objAtB K.sl 3 (K.tl.map QT.a0)) k = true) := by unfold Hid; rw [HX.out, decide_eq_true (by omega)]
          clear hle
          go_upto_region 6 with fail
          refine wq_region (by kernel_rfl) (by kernel_rfl) ?_
          repeat (first | (refine wq_step (fun K hK => ?_); go_simp; first | (refine hK _ ?_; clear hK K) | (apply Exists.intro; refine ⟨fun _ => ?_, hK _ ?_⟩; (first | (go_at_call 86; exact Calls.regrown_of (HO _ (bb.b.below (below_regrown _ _ _))))); clear hK K)))
          refine wq_nil ?_
          intro _ hw'
          obtain ⟨⟨dq, osq⟩, hw''⟩ := hw'
          subst hw''
          have bb2 := bb.below (below_regrown _ dq osq)
          go_wp2
          go_roundw
          case rel => exact ⟨k + 1, by omega, by go_num, range_next HN.out HY.out, bb2⟩
          case measure => simp [intOf]; omega
      ·have hk1 : ¬ (k : Int) < (K.tl.length : Int) := by omega
       have HL0 : Hid (objsB K.sl 3 (K.tl.map QT.a0) = true) := range_yes (fun j hj => HN.out j (by simp at hj; omega))
       have hbL1 := bb
       have hcell := KBox.ct bb
       subst hv
       have HNO1 : Hid (objsB K.sl 4 (K.el.map QE.ad) = false → objectsB K = false) := fun h0 => by rw [HOC.out, HL0.out, h0]; simp
       go_wp2
       go_loopw [4] (fun v W => objInv w K K.el.length (objAtB K.sl 4 (K.el.map QE.ad)) v W) (fun v W => K.el.length - (intOf v).toNat)
       case atStart => exact ⟨0, Nat.zero_le _, rfl, fun j hj => absurd hj (Nat.not_lt_zero _), hbL1⟩
       case round =>
        obtain ⟨k, hk, hv, hno, bb⟩ := hrel
        have HN : Hid _ := hno
        clear hno
        by_cases hlt : k < K.el.length
        ·have hlen := hs.e
         have hHd : Hid ((K.el.map QE.ad).getD k 0 = K.el[k].ad) := getD_map hlt
         have HO := fun W (hW : KernIn W K) => l4Orig_any K 4 K.el[k].ad W hs hW
         have hrow := bb.b.e
         obtain ⟨B, O, hP⟩ := hrow.has hlt
         rw [hP] at hrow HO
         have c0 := cell_regrown (hrow.at hlt 0 _ rfl)
         simp only [fE, Nat.add_zero] at c0
         obtain ⟨g0, g1, g2, g3, g4, g5, g6, g7, g8, g9, g10, g11, g12, g13, g14⟩ := KBox.facts bb
         have p0 := cell_regrown g0
         have p1 := cell_regrown g1
         have p2 := cell_regrown g2
         have p3 := cell_regrown g3
         have p4 := cell_regrown g4
         have p5 := cell_regrown g5
         have p6 := cell_regrown g6
         have p7 := cell_regrown g7
         have p8 := cell_regrown g8
         have p9 := cell_regrown g9
         have p10 := cell_regrown g10
         have p11 := cell_regrown g11
         have p12 := cell_regrown g12
         have p13 := cell_regrown g13
         have p14 := cell_regrown g14
         clear g0 g1 g2 g3 g5 g6 g7 g8 g9 g10 g11 g12 g13 g14
         rw [hP] at g4 p4
         clear hP
         rcases firstI_or (isObj 4 K.el[k].ad) K.sl with ⟨h1, h2⟩ | ⟨m, hm, h1, h2, h3⟩
         ·as_aux_lemma =>
          rw [h1] at HO
          have HX : Hid ((objAtB K.sl 4 (K.el.map QE.ad)) k = false) := objAt_none (by rw [hHd.out]; exact h1)
          clear h1 h2 hrow
          have hk1 : (k : Int) < (K.el.length : Int) := by omega
          subst hv
          go_upto_region 11 with fail
          refine wq_region (by kernel_rfl) (by kernel_rfl) ?_
          repeat (first | (refine wq_step (fun K hK => ?_); go_simp; first | (refine hK _ ?_; clear hK K) | (apply Exists.intro; refine ⟨fun _ => ?_, hK _ ?_⟩; (first | (go_at_call 86; exact Calls.regrown_of (HO _ (bb.b.below (below_regrown _ _ _))))); clear hK K)))
          refine wq_nil ?_
          intro _ hw'
          obtain ⟨⟨dq, osq⟩, hw''⟩ := hw'
          subst hw''
          have bb2 := bb.below (below_regrown _ dq osq)
          go_wp2
          go_ret
          exact ⟨ret_bool (HNO1.out (range_no (by simpa using hlt) HX.out)).symm, bb2.bw⟩
         ·rw [h1] at HO
          have HM : Hid _ := h1
          have hm0 : decide ((m : Int) < 0) = false := by simp
          clear h1 h2 h3
          have hk1 : (k : Int) < (K.el.length : Int) := by omega
          subst hv
          by_cases hkz : k = 0
          ·as_aux_lemma =>
           have HX : Hid ((objAtB K.sl 4 (K.el.map QE.ad)) k = true) := objAt_zero' (m := m) hkz (by rw [hHd.out]; exact HM.out)
           have e0 : decide ((0 : Int) < (k : Int)) = false := by simp; omega
           have e0n : decide (0 < k) = false := by simp; omega
           clear hrow hkz
           go_upto_region 11 with fail
           refine wq_region (by kernel_rfl) (by kernel_rfl) ?_
           repeat (first | (refine wq_step (fun K hK => ?_); go_simp; first | (refine hK _ ?_; clear hK K) | (apply Exists.intro; refine ⟨fun _ => ?_, hK _ ?_⟩; (first | (go_at_call 86; exact Calls.regrown_of (HO _ (bb.b.below (below_regrown _ _ _))))); clear hK K)))
           refine wq_nil ?_
           intro _ hw'
           obtain ⟨⟨dq, osq⟩, hw''⟩ := hw'
           subst hw''
           have bb2 := bb.below (below_regrown _ dq osq)
           go_wp2
           go_roundw
           case rel => exact ⟨k + 1, by omega, by go_num, range_next HN.out HX.out, bb2⟩
           case measure => simp [intOf]; omega
          ·obtain ⟨j, hkj⟩ : ∃ j, k = j + 1 := ⟨k - 1, by omega⟩
           have hj : j < K.el.length := by omega
           have c1 := cell_regrown (hrow.at hj 0 _ rfl)
           simp only [fE, Nat.add_zero] at c1
           have hk2 : (j : Int) < (K.el.length : Int) := by omega
           have e0 : decide ((0 : Int) < (k : Int)) = true := by simp; omega
           have e0n : decide (0 < k) = true := by simp; omega
           have hwj : IntKind.i64.wrap ((k : Int) - 1) = (j : Int) := by have := hs.e; rw [IntKind.wrap_i64]; omega
           have HX : Hid ((objAtB K.sl 4 (K.el.map QE.ad)) k = decide (K.el[j].ad < K.el[k].ad)) := by unfold Hid; rw [objAt_succ' (m := m) hkj (by rw [hHd.out]; exact HM.out), hHd.out, getD_map hj]
           clear hrow hkj hkz
           by_cases hle : K.el[k].ad ≤ K.el[j].ad
           ·as_aux_lemma =>
            have hleb : decide (K.el[k].ad ≤ K.el[j].ad) = true := decide_eq_true hle
            have HY : Hid ((objAtB K.sl 4 (K.el.map QE.ad)) k = false) := by unfold Hid; rw [HX.out, decide_eq_false (by omega)]
            clear hle
            go_upto_region 11 with fail
            refine wq_region (by kernel_rfl) (by kernel_rfl) ?_
            repeat (first | (refine wq_step (fun K hK => ?_); go_simp; first | (refine hK _ ?_; clear hK K) | (apply Exists.intro; refine ⟨fun _ => ?_, hK _ ?_⟩; (first | (go_at_call 86; exact Calls.regrown_of (HO _ (bb.b.below (below_regrown _ _ _))))); clear hK K)))
            refine wq_nil ?_
            intro _ hw'
            obtain ⟨⟨dq, osq⟩, hw''⟩ := hw'
            subst hw''
            have bb2 := bb.below (below_regrown _ dq osq)
            go_wp2
            go_ret
            exact ⟨ret_bool (HNO1.out (range_no (by simpa using hlt) HY.out)).symm, bb2.bw⟩
           ·as_aux_lemma =>
            have hleb : decide (K.el[k].ad ≤ K.el[j].ad) = false := decide_eq_false hle
            have HY : Hid ((objAtB K.sl 4 (K.el.map QE.ad)) k = true) := by unfold Hid; rw [HX.out, decide_eq_true (by omega)]
            clear hle
            go_upto_region 11 with fail
            refine wq_region (by kernel_rfl) (by kernel_rfl) ?_
            repeat (first | (refine wq_step (fun K hK => ?_); go_simp; first | (refine hK _ ?_; clear hK K) | (apply Exists.intro; refine ⟨fun _ => ?_, hK _ ?_⟩; (first | (go_at_call 86; exact Calls.regrown_of (HO _ (bb.b.below (below_regrown _ _ _))))); clear hK K)))
            refine wq_nil ?_
            intro _ hw'
            obtain ⟨⟨dq, osq⟩, hw''⟩ := hw'
            subst hw''
            have bb2 := bb.below (below_regrown _ dq osq)
            go_wp2
            go_roundw
            case rel => exact ⟨k + 1, by omega, by go_num, range_next HN.out HY.out, bb2⟩
            case measure => simp [intOf]; omega
        ·have hk1 : ¬ (k : Int) < (K.el.length : Int) := by omega
         have HL1 : Hid (objsB K.sl 4 (K.el.map QE.ad) = true) := range_yes (fun j hj => HN.out j (by simp at hj; omega))
         have hbL2 := bb
         have hcell := KBox.ce bb
         subst hv
         have HNO2 : Hid (objsB K.sl 5 (K.nl.map QN.ad) = false → objectsB K = false) := fun h0 => by rw [HOC.out, HL0.out, HL1.out, h0]; simp
         go_wp2
         go_loopw [5] (fun v W => objInv w K K.nl.length (objAtB K.sl 5 (K.nl.map QN.ad)) v W) (fun v W => K.nl.length - (intOf v).toNat)
         case atStart => exact ⟨0, Nat.zero_le _, rfl, fun j hj => absurd hj (Nat.not_lt_zero _), hbL2⟩
         case round =>
          obtain ⟨k, hk, hv, hno, bb⟩ := hrel
          have HN : Hid _ := hno
          clear hno
          by_cases hlt : k < K.nl.length
          ·have hlen := hs.n
           have hHd : Hid ((K.nl.map QN.ad).getD k 0 = K.nl[k].ad) := getD_map hlt
           have HO := fun W (hW : KernIn W K) => l4Orig_any K 5 K.nl[k].ad W hs hW
           have hrow := bb.b.n
           obtain ⟨B, O, hP⟩ := hrow.has hlt
           rw [hP] at hrow HO
           have c0 := cell_regrown (hrow.at hlt 0 _ rfl)
           simp only [fN, Nat.add_zero] at c0
           obtain ⟨g0, g1, g2, g3, g4, g5, g6, g7, g8, g9, g10, g11, g12, g13, g14⟩ := KBox.facts bb
           have p0 := cell_regrown g0
           have p1 := cell_regrown g1
           have p2 := cell_regrown g2
           have p3 := cell_regrown g3
           have p4 := cell_regrown g4
           have p5 := cell_regrown g5
           have p6 := cell_regrown g6
           have p7 := cell_regrown g7
           have p8 := cell_regrown g8
           have p9 := cell_regrown g9
           have p10 := cell_regrown g10
           have p11 := cell_regrown g11
           have p12 := cell_regrown g12
           have p13 := cell_regrown g13
           have p14 := cell_regrown g14
           clear g0 g1 g2 g3 g4 g6 g7 g8 g9 g10 g11 g12 g13 g14
           rw [hP] at g5 p5
           clear hP
           rcases firstI_or (isObj 5 K.nl[k].ad) K.sl with ⟨h1, h2⟩ | ⟨m, hm, h1, h2, h3⟩
           ·as_aux_lemma =>
            rw [h1] at HO
            have HX : Hid ((objAtB K.sl 5 (K.nl.map QN.ad)) k = false) := objAt_none (by rw [hHd.out]; exact h1)
            clear h1 h2 hrow
            have hk1 : (k : Int) < (K.nl.length : Int) := by omega
            subst hv
            go_upto_region 16 with fail
            refine wq_region (by kernel_rfl) (by kernel_rfl) ?_
            repeat (first | (refine wq_step (fun K hK => ?_); go_simp; first | (refine hK _ ?_; clear hK K) | (apply Exists.intro; refine ⟨fun _ => ?_, hK _ ?_⟩; (first | (go_at_call 86; exact Calls.regrown_of (HO _ (bb.b.below (below_regrown _ _ _))))); clear hK K)))
            refine wq_nil ?_
            intro _ hw'
            obtain ⟨⟨dq, osq⟩, hw''⟩ := hw'
            subst hw''
            have bb2 := bb.below (below_regrown _ dq osq)
            go_wp2
            go_ret
            exact ⟨ret_bool (HNO2.out (range_no (by simpa using hlt) HX.out)).symm, bb2.bw⟩
           ·rw [h1] at HO
            have HM : Hid _ := h1
            have hm0 : decide ((m : Int) < 0) = false := by simp
            clear h1 h2 h3
            have hk1 : (k : Int) < (K.nl.length : Int) := by omega
            subst hv
            by_cases hkz : k = 0
            ·as_aux_lemma =>
             have HX : Hid ((objAtB K.sl 5 (K.nl.map QN.ad)) k = true) := objAt_zero' (m := m) hkz (by rw [hHd.out]; exact HM.out)
             have e0 : decide ((0 : Int) < (k : Int)) = false := by simp; omega
             have e0n : decide (0 < k) = false := by simp; omega
             clear hrow hkz
             go_upto_region 16 with fail
             refine wq_region (by kernel_rfl) (by kernel_rfl) ?_
             repeat (first | (refine wq_step (fun K hK => ?_); go_simp; first | (refine hK _ ?_; clear hK K) | (apply Exists.intro; refine ⟨fun _ => ?_, hK _ ?_⟩; (first | (go_at_call 86; exact Calls.regrown_of (HO _ (bb.b.below (below_regrown _ _ _))))); clear hK K)))
             refine wq_nil ?_
             intro _ hw'
             obtain ⟨⟨dq, osq⟩, hw''⟩ := hw'
             subst hw''
             have bb2 := bb.below (below_regrown _ dq osq)
             go_wp2
             go_roundw
             case rel => exact ⟨k + 1, by omega, by go_num, range_next HN.out HX.out, bb2⟩
             case measure => simp [intOf]; omega
            ·obtain ⟨j, hkj⟩ : ∃ j, k = j + 1 := ⟨k - 1, by omega⟩
             have hj : j < K.nl.length := by omega
             have c1 := cell_regrown (hrow.at hj 0 _ rfl)
             simp only [fN, Nat.add_zero] at c1
             have hk2 : (j : Int) < (K.nl.length : Int) := by omega
             have e0 : decide ((0 : Int) < (k : Int)) = true := by simp; omega
             have e0n : decide (0 < k) = true := by simp; omega
             have hwj : IntKind.i64.wrap ((k : Int) - 1) = (j : Int) := by have := hs.n; rw [IntKind.wrap_i64]; omega
             have HX : Hid ((objAtB K.sl 5 (K.nl.map QN.ad)) k = decide (K.nl[j].ad < K.nl[k].ad)) := by unfold Hid; rw [objAt_succ' (m := m) hkj (by rw [hHd.out]; exact HM.out), hHd.out, getD_map hj]
             clear hrow hkj hkz
             by_cases hle : K.nl[k].ad ≤ K.nl[j].ad
             ·as_aux_lemma =>
              have hleb : decide (K.nl[k].ad ≤ K.nl[j].ad) = true := decide_eq_true hle
              have HY : Hid ((objAtB K.sl 5 (K.nl.map QN.ad)) k = false) := by unfold Hid; rw [HX.out, decide_eq_false (by omega)]
              clear hle
              go_upto_region 16 with fail
              refine wq_region (by kernel_rfl) (by kernel_rfl) ?_
              repeat (first | (refine wq_step (fun K hK => ?_); go_simp; first | (refine hK _ ?_; clear hK K) | (apply Exists.intro; refine ⟨fun _ => ?_, hK _ ?_⟩; (first | (go_at_call 86; exact Calls.regrown_of (HO _ (bb.b.below (below_regrown _ _ _))))); clear hK K)))
              refine wq_nil ?_
              intro _ hw'
              obtain ⟨⟨dq, osq⟩, hw''⟩ := hw'
              subst hw''
              have bb2 := bb.below (below_regrown _ dq osq)
              go_wp2
              go_ret
              exact ⟨ret_bool (HNO2.out (range_no (by simpa using hlt) HY.out)).symm, bb2.bw⟩
             ·as_aux_lemma =>
              have hleb : decide (K.nl[k].ad ≤ K.nl[j].ad) = false := decide_eq_false hle
              have HY : Hid ((objAtB K.sl 5 (K.nl.map QN.ad)) k = true) := by unfold Hid; rw [HX.out, decide_eq_true (by omega)]
              clear hle
              go_upto_region 16 with fail
              refine wq_region (by kernel_rfl) (by kernel_rfl) ?_
              repeat (first | (refine wq_step (fun K hK => ?_); go_simp; first | (refine hK _ ?_; clear hK K) | (apply Exists.intro; refine ⟨fun _ => ?_, hK _ ?_⟩; (first | (go_at_call 86; exact Calls.regrown_of (HO _ (bb.b.below (below_regrown _ _ _))))); clear hK K)))
              refine wq_nil ?_
              intro _ hw'
              obtain ⟨⟨dq, osq⟩, hw''⟩ := hw'
              subst hw''
              have bb2 := bb.below (below_regrown _ dq osq)
              go_wp2
              go_roundw
              case rel => exact ⟨k + 1, by omega, by go_num, range_next HN.out HY.out, bb2⟩
              case measure => simp [intOf]; omega
          ·have hk1 : ¬ (k : Int) < (K.nl.length : Int) := by omega
           have HL2 : Hid (objsB K.sl 5 (K.nl.map QN.ad) = true) := range_yes (fun j hj => HN.out j (by simp at hj; omega))
           have hbL3 := bb
           have hcell := KBox.cn bb
           subst hv
           have HNO3 : Hid (framesB K.sl K.fl = false → objectsB K = false) := fun h0 => by rw [HOC.out, HL0.out, HL1.out, HL2.out, h0]; simp
           go_wp2
           go_loopw [6, 7] (fun v z W => objInv w K K.fl.length (frameAtB K.sl K.fl) v W) (fun v z W => K.fl.length - (intOf v).toNat)
           case atStart => exact ⟨0, Nat.zero_le _, rfl, fun j hj => absurd hj (Nat.not_lt_zero _), hbL3⟩
           case round =>
            obtain ⟨k, hk, rfl, hno, bb⟩ := hrel
            have HN : Hid _ := hno
            clear hno
            by_cases hlt : k < K.fl.length
            ·have hlen := hs.f
             have hHd : Hid ((K.fl.map QF.ad).getD k 0 = K.fl[k].ad) := getD_map hlt
             have HO := fun W (hW : KernIn W K) => l4Orig_any K 6 K.fl[k].ad W hs hW
             have hrow := bb.b.f
             obtain ⟨B, O, hP⟩ := hrow.has hlt
             rw [hP] at hrow HO
             have c0 := cell_regrown (hrow.at hlt 0 _ rfl)
             simp only [fF, Nat.add_zero] at c0
             obtain ⟨g0, g1, g2, g3, g4, g5, g6, g7, g8, g9, g10, g11, g12, g13, g14⟩ := KBox.facts bb
             have p0 := cell_regrown g0
             have p1 := cell_regrown g1
             have p2 := cell_regrown g2
             have p3 := cell_regrown g3
             have p4 := cell_regrown g4
             have p5 := cell_regrown g5
             have p6 := cell_regrown g6
             have p7 := cell_regrown g7
             have p8 := cell_regrown g8
             have p9 := cell_regrown g9
             have p10 := cell_regrown g10
             have p11 := cell_regrown g11
             have p12 := cell_regrown g12
             have p13 := cell_regrown g13
             have p14 := cell_regrown g14
             clear g0 g1 g2 g3 g4 g5 g7 g8 g9 g10 g11 g12 g13 g14
             rw [hP] at g6 p6
             have HP : Hid _ := hP
             clear hP hrow
             have hk1 : (k : Int) < (K.fl.length : Int) := by omega
             rcases firstI_or (isObj 6 K.fl[k].ad) K.sl with ⟨h1, h2⟩ | ⟨m, hm, h1, h2, h3⟩
             ·as_aux_lemma =>
              rw [h1] at HO
              have HX : Hid ((frameAtB K.sl K.fl) k = false) := by unfold Hid frameAtB; rw [objAt_none (by rw [hHd.out]; exact h1)]; rfl
              clear h1 h2
              go_upto_region 21 with fail
              refine wq_region (by kernel_rfl) (by kernel_rfl) ?_
              repeat (first | (refine wq_step (fun K hK => ?_); go_simp; first | (refine hK _ ?_; clear hK K) | (apply Exists.intro; refine ⟨fun _ => ?_, hK _ ?_⟩; (first | (go_at_call 86; exact Calls.regrown_of (HO _ (bb.b.below (below_regrown _ _ _))))); clear hK K)))
              refine wq_nil ?_
              intro _ hw'
              obtain ⟨⟨dq, osq⟩, hw''⟩ := hw'
              subst hw''
              have bb2 := bb.below (below_regrown _ dq osq)
              generalize Sort.grow (redrawn _ dq) osq = W2 at bb2 ⊢
              clear c0 g6 bb p0 p1 p2 p3 p4 p5 p6 p7 p8 p9 p10 p11 p12 p13 p14 HO
              go_upto_region 22 with fail
              refine wq_region (by kernel_rfl) (by kernel_rfl) ?_
              repeat (first | (refine wq_step (fun K hK => ?_); go_simp; first | (refine hK _ ?_; clear hK K) | (apply Exists.intro; refine ⟨fun _ => ?_, hK _ ?_⟩; fail; clear hK K)))
              refine wq_nil ?_
              intro _ hw'
              obtain ⟨⟨dq, osq⟩, hw''⟩ := hw'
              subst hw''
              have bb3 := bb2.below (below_regrown _ dq osq)
              go_wp2
              go_ret
              exact ⟨ret_bool (HNO3.out (range_no hlt HX.out)).symm, bb3.bw⟩
             ·rw [h1] at HO
              have HM : Hid _ := h1
              have HFd : Hid _ := h2
              have hm0 : decide ((m : Int) < 0) = false := by simp
              clear h1 h2 h3
              go_upto_region 21 with fail
              refine wq_region (by kernel_rfl) (by kernel_rfl) ?_
              repeat (first | (refine wq_step (fun K hK => ?_); go_simp; first | (refine hK _ ?_; clear hK K) | (apply Exists.intro; refine ⟨fun _ => ?_, hK _ ?_⟩; (first | (go_at_call 86; exact Calls.regrown_of (HO _ (bb.b.below (below_regrown _ _ _))))); clear hK K)))
              refine wq_nil ?_
              intro _ hw'
              obtain ⟨⟨dq, osq⟩, hw''⟩ := hw'
              subst hw''
              have bb2 := bb.below (below_regrown _ dq osq)
              generalize Sort.grow (redrawn _ dq) osq = W2 at bb2 ⊢
              clear c0 g6 bb p0 p1 p2 p3 p4 p5 p6 p7 p8 p9 p10 p11 p12 p13 p14 HO
              have p2 := cell_regrown bb2.cs
              have p6 := cell_regrown bb2.cf
              have hrow := bb2.b.f
              rw [HP.out] at p6 hrow
              have d0 := cell_regrown (hrow.at hlt 0 _ rfl)
              have d1 := cell_regrown (hrow.at hlt 1 _ rfl)
              have hrs := bb2.b.s
              obtain ⟨Bs, Os, hPs⟩ := hrs.some hm
              rw [hPs] at p2 hrs
              have ds := cell_regrown (hrs.cells Bs Os rfl m hm).c3
              simp only [fF, Nat.add_zero] at d0 d1
              clear hPs hrs
              have hmlt : (m : Int) < (K.sl.length : Int) := by omega
              have hmn : (0 : Int) ≤ (m : Int) := by omega
              have HWS0 := fun W => wordSizeS_bel K.sl[m].b W
              obtain ⟨z, hz⟩ : ∃ z, sizeI K.sl[m].b = z := ⟨_, rfl⟩
              rw [hz] at HWS0
              have HWS : Hid _ := HWS0
              have HXF : Hid ((frameAtB K.sl K.fl) k = (objAtB K.sl 6 (K.fl.map QF.ad) k && ((K.fl[k].l.length : Int) == z))) := by
               unfold Hid frameAtB; rw [List.getElem?_eq_getElem hlt]; simp only [frameLenB]; rw [HFd.out]; simp only [hz]
              clear HWS0 hz
              by_cases hkz : k = 0
              ·have HXO : Hid (objAtB K.sl 6 (K.fl.map QF.ad) k = true) := objAt_zero' (m := m) hkz (by rw [hHd.out]; exact HM.out)
               have e0 : decide ((0 : Int) < (k : Int)) = false := by simp; omega
               have e0n : decide (0 < k) = false := by simp; omega
               clear hrow hkz
               cases hq : ((K.fl[k].l.length : Int) == z)
               ·as_aux_lemma =>
                have hqb : ((K.fl[k].l.length : Int) != z) = true := by rw [bne, hq]; rfl
                have HY : Hid ((frameAtB K.sl K.fl) k = false) := by unfold Hid; rw [HXF.out, HXO.out, hq]; rfl
                go_upto_region 22 with fail
                refine wq_region (by kernel_rfl) (by kernel_rfl) ?_
                repeat (first | (refine wq_step (fun K hK => ?_); go_simp; first | (refine hK _ ?_; clear hK K) | (apply Exists.intro; refine ⟨fun _ => ?_, hK _ ?_⟩; (first | (go_at_call 87; exact Calls.regrown_of (HWS.out _))); clear hK K)))
                refine wq_nil ?_
                intro _ hw'
                obtain ⟨⟨dq, osq⟩, hw''⟩ := hw'
                subst hw''
                have bb3 := bb2.below (below_regrown _ dq osq)
                go_wp2
                go_ret
                exact ⟨ret_bool (HNO3.out (range_no hlt HY.out)).symm, bb3.bw⟩
               ·as_aux_lemma =>
                have hqb : ((K.fl[k].l.length : Int) != z) = false := by rw [bne, hq]; rfl
                have HY : Hid ((frameAtB K.sl K.fl) k = true) := by unfold Hid; rw [HXF.out, HXO.out, hq]; rfl
                go_upto_region 22 with fail
                refine wq_region (by kernel_rfl) (by kernel_rfl) ?_
                repeat (first | (refine wq_step (fun K hK => ?_); go_simp; first | (refine hK _ ?_; clear hK K) | (apply Exists.intro; refine ⟨fun _ => ?_, hK _ ?_⟩; (first | (go_at_call 87; exact Calls.regrown_of (HWS.out _))); clear hK K)))
                refine wq_nil ?_
                intro _ hw'
                obtain ⟨⟨dq, osq⟩, hw''⟩ := hw'
                subst hw''
                have bb3 := bb2.below (below_regrown _ dq osq)
                go_wp2
                go_roundw
                case rel => exact ⟨k + 1, by omega, by go_num, range_next HN.out HY.out, bb3⟩
                case measure => simp [intOf]; omega
              ·obtain ⟨j, hkj⟩ : ∃ j, k = j + 1 := ⟨k - 1, by omega⟩
               have hj : j < K.fl.length := by omega
               have c1 := cell_regrown (hrow.at hj 0 _ rfl)
               simp only [fF, Nat.add_zero] at c1
               have hk2 : (j : Int) < (K.fl.length : Int) := by omega
               have e0 : decide ((0 : Int) < (k : Int)) = true := by simp; omega
               have e0n : decide (0 < k) = true := by simp; omega
               have hwj : IntKind.i64.wrap ((k : Int) - 1) = (j : Int) := by rw [IntKind.wrap_i64]; omega
               have HXO : Hid (objAtB K.sl 6 (K.fl.map QF.ad) k = decide (K.fl[j].ad < K.fl[k].ad)) := by unfold Hid; rw [objAt_succ' (m := m) hkj (by rw [hHd.out]; exact HM.out), hHd.out, getD_map hj]
               clear hrow hkj hkz
               by_cases hle : K.fl[k].ad ≤ K.fl[j].ad
               ·as_aux_lemma =>
                have hleb : decide (K.fl[k].ad ≤ K.fl[j].ad) = true := decide_eq_true hle
                have HY : Hid ((frameAtB K.sl K.fl) k = false) := by unfold Hid; rw [HXF.out, HXO.out, decide_eq_false (by omega)]; rfl
                clear hle
                go_upto_region 22 with fail
                refine wq_region (by kernel_rfl) (by kernel_rfl) ?_
                repeat (first | (refine wq_step (fun K hK => ?_); go_simp; first | (refine hK _ ?_; clear hK K) | (apply Exists.intro; refine ⟨fun _ => ?_, hK _ ?_⟩; (first | (go_at_call 87; exact Calls.regrown_of (HWS.out _))); clear hK K)))
                refine wq_nil ?_
                intro _ hw'
                obtain ⟨⟨dq, osq⟩, hw''⟩ := hw'
                subst hw''
                have bb3 := bb2.below (below_regrown _ dq osq)
                go_wp2
                go_ret
                exact ⟨ret_bool (HNO3.out (range_no hlt HY.out)).symm, bb3.bw⟩
               ·have hleb : decide (K.fl[k].ad ≤ K.fl[j].ad) = false := decide_eq_false hle
                have HYO : Hid (objAtB K.sl 6 (K.fl.map QF.ad) k = true) := by unfold Hid; rw [HXO.out, decide_eq_true (by omega)]
                clear hle
                cases hq : ((K.fl[k].l.length : Int) == z)
                ·as_aux_lemma =>
                 have hqb : ((K.fl[k].l.length : Int) != z) = true := by rw [bne, hq]; rfl
                 have HY : Hid ((frameAtB K.sl K.fl) k = false) := by unfold Hid; rw [HXF.out, HYO.out, hq]; rfl
                 go_upto_region 22 with fail
                 refine wq_region (by kernel_rfl) (by kernel_rfl) ?_
                 repeat (first | (refine wq_step (fun K hK => ?_); go_simp; first | (refine hK _ ?_; clear hK K) | (apply Exists.intro; refine ⟨fun _ => ?_, hK _ ?_⟩; (first | (go_at_call 87; exact Calls.regrown_of (HWS.out _))); clear hK K)))
                 refine wq_nil ?_
                 intro _ hw'
                 obtain ⟨⟨dq, osq⟩, hw''⟩ := hw'
                 subst hw''
                 have bb3 := bb2.below (below_regrown _ dq osq)
                 go_wp2
                 go_ret
                 exact ⟨ret_bool (HNO3.out (range_no hlt HY.out)).symm, bb3.bw⟩
                ·as_aux_lemma =>
                 have hqb : ((K.fl[k].l.length : Int) != z) = false := by rw [bne, hq]; rfl
                 have HY : Hid ((frameAtB K.sl K.fl) k = true) := by unfold Hid; rw [HXF.out, HYO.out, hq]; rfl
                 go_upto_region 22 with fail
                 refine wq_region (by kernel_rfl) (by kernel_rfl) ?_
                 repeat (first | (refine wq_step (fun K hK => ?_); go_simp; first | (refine hK _ ?_; clear hK K) | (apply Exists.intro; refine ⟨fun _ => ?_, hK _ ?_⟩; (first | (go_at_call 87; exact Calls.regrown_of (HWS.out _))); clear hK K)))
                 refine wq_nil ?_
                 intro _ hw'
                 obtain ⟨⟨dq, osq⟩, hw''⟩ := hw'
                 subst hw''
                 have bb3 := bb2.below (below_regrown _ dq osq)
                 go_wp2
                 go_roundw
                 case rel => exact ⟨k + 1, by omega, by go_num, range_next HN.out HY.out, bb3⟩
                 case measure => simp [intOf]; omega
            ·have hk1 : ¬ (k : Int) < (K.fl.length : Int) := by omega
             have g6 := bb.cf
             have HL3 : Hid (framesB K.sl K.fl = true) := range_yes (fun j hj => HN.out j (by omega))
             go_wp2
             go_ret
             exact ⟨ret_bool (by rw [HOC.out, HL0.out, HL1.out, HL2.out, HL3.out]; rfl), bb.bw⟩

end Go.Proofs.YtigpbjcmmgdiaaaGreat
