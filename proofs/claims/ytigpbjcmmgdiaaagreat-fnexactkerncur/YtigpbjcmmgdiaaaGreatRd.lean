/-
  Texts of the proof, put together: Spec4E, Spec4IP.
-/
import Derived.Test.YtigpbjcmmgdiaaaGreatRu
import Derived.Test.YtigpbjcmmgdiaaaGreatBp
/-
 What the specification asks of the numbers of a thread. Condition: the state lies in memory.
-/
namespace Go.Proofs.YtigpbjcmmgdiaaaGreat
open Go.ChangeShapes Go.WideShapes Go.ChangeAt Go.RowKit
set_option linter.unusedVariables false

/-- The numbers of a thread are in their bounds. -/
def numB (t : QT) : Bool := !decide (t.a1 < 0) && !decide (5 < t.a1) && !decide (t.a2 < 0) && !decide (7 < t.a2) && !decide (t.a3 < 0) && !decide (7 < t.a3) && !decide (t.a4 < 1) && !decide (4 < t.a4) && !decide (t.a6 < 0) && !decide (65535 < t.a6) && !decide (t.a8 < 0) && !decide (3 < t.a8) && !decide (t.a13 < 0) && !decide (2 < t.a13)
/-- It has of a message what its state may have. -/
def msgB (t : QT) : Bool := t.a1 == 2 || (t.a6 == 0 && t.a7 == 0 && t.a8 == 0 && (t.a1 == 3 || t.a9 == 0))
/-- It has begun what its state may have begun. -/
def pendB (t : QT) : Bool := if 0 < t.a13 then t.a1 == 1 else t.a14 == 0
def repN (K : QK) (t : QT) : Nat := K.sl.countP (isReply t.a0)
def fieldsB (K : QK) (t : QT) : Bool := numB t && msgB t && pendB t && whereB K t && ((((repN K t : Nat) : Int) == 1) == (t.a1 == 4)) && decide (((repN K t : Nat) : Int) ≤ 1)

set_option maxRecDepth 100000 in
set_option maxHeartbeats 16000000 in
theorem l4Fields_any (K : QK) (t : QT) (w : World) (hs : K.Short) (h : KernIn w K) :
  Calls Tryz.prog 88 #[.agg #[.int .i64 K.bits, .int .i64 K.ticks, .slice K.sP K.sl.length K.sc, .slice K.tP K.tl.length K.tc, .slice K.eP K.el.length K.ec, .slice K.nP K.nl.length K.nc, .slice K.fP K.fl.length K.fc, .slice K.r0.P K.r0.l.length K.r0.c, .slice K.r1.P K.r1.l.length K.r1.c, .slice K.r2.P K.r2.l.length K.r2.c, .slice K.r3.P K.r3.l.length K.r3.c, .slice K.r4.P K.r4.l.length K.r4.c, .slice K.r5.P K.r5.l.length K.r5.c, .slice K.r6.P K.r6.l.length K.r6.c, .slice K.r7.P K.r7.l.length K.r7.c], .agg #[.int .i64 t.a0, .int .i64 t.a1, .int .i64 t.a2, .int .i64 t.a3, .int .i64 t.a4, .int .i64 t.a5, .int .i64 t.a6, .int .u32 t.a7, .int .i64 t.a8, .int .u32 t.a9, .int .u32 t.a10, .int .u32 t.a11, .int .u32 t.a12, .int .i64 t.a13, .int .u32 t.a14]] w fun e w' => e = .returned (.bool (fieldsB K t)) ∧ Below w.heap.size w w' := by
 have HRe := fun W (hW : KernIn W K) => l4Replies_any K t.a0 W hs hW
 have HWh := fun W (hW : KernIn W K) => l4Where_any K t W hs hW
 obtain ⟨rn, hrn⟩ : ∃ rn : Int, ((K.sl.countP (isReply t.a0) : Nat) : Int) = rn := ⟨_, rfl⟩
 obtain ⟨wb, hwb⟩ : ∃ wb : Bool, whereB K t = wb := ⟨_, rfl⟩
 rw [hrn] at HRe
 rw [hwb] at HWh
 have HRN : Hid (((repN K t : Nat) : Int) = rn) := hrn
 have HWB : Hid _ := hwb
 clear hrn hwb
 have hb0 := (KBox.new h 42).below ((Below.refl _ _).alloc (Nat.le_refl _) (.cells #[.int .i64 t.a0, .int .i64 t.a1, .int .i64 t.a2, .int .i64 t.a3, .int .i64 t.a4, .int .i64 t.a5, .int .i64 t.a6, .int .u32 t.a7, .int .i64 t.a8, .int .u32 t.a9, .int .u32 t.a10, .int .u32 t.a11, .int .u32 t.a12, .int .i64 t.a13, .int .u32 t.a14] 50))
 have tb0 := boxL (w.alloc (.cells #[.int .i64 K.bits, .int .i64 K.ticks, .slice K.sP K.sl.length K.sc, .slice K.tP K.tl.length K.tc, .slice K.eP K.el.length K.ec, .slice K.nP K.nl.length K.nc, .slice K.fP K.fl.length K.fc, .slice K.r0.P K.r0.l.length K.r0.c, .slice K.r1.P K.r1.l.length K.r1.c, .slice K.r2.P K.r2.l.length K.r2.c, .slice K.r3.P K.r3.l.length K.r3.c, .slice K.r4.P K.r4.l.length K.r4.c, .slice K.r5.P K.r5.l.length K.r5.c, .slice K.r6.P K.r6.l.length K.r6.c, .slice K.r7.P K.r7.l.length K.r7.c] 42)) [.int .i64 t.a0, .int .i64 t.a1, .int .i64 t.a2, .int .i64 t.a3, .int .i64 t.a4, .int .i64 t.a5, .int .i64 t.a6, .int .u32 t.a7, .int .i64 t.a8, .int .u32 t.a9, .int .u32 t.a10, .int .u32 t.a11, .int .u32 t.a12, .int .i64 t.a13, .int .u32 t.a14] 50
 rw [World.size_alloc] at tb0
 go_enter Tryz.func88, Tryz.ntmps88
 go_upto_region 1 with fail
 generalize hW0 : (w.alloc (.cells #[.int .i64 K.bits, .int .i64 K.ticks, .slice K.sP K.sl.length K.sc, .slice K.tP K.tl.length K.tc, .slice K.eP K.el.length K.ec, .slice K.nP K.nl.length K.nc, .slice K.fP K.fl.length K.fc, .slice K.r0.P K.r0.l.length K.r0.c, .slice K.r1.P K.r1.l.length K.r1.c, .slice K.r2.P K.r2.l.length K.r2.c, .slice K.r3.P K.r3.l.length K.r3.c, .slice K.r4.P K.r4.l.length K.r4.c, .slice K.r5.P K.r5.l.length K.r5.c, .slice K.r6.P K.r6.l.length K.r6.c, .slice K.r7.P K.r7.l.length K.r7.c] 42)).alloc (.cells #[.int .i64 t.a0, .int .i64 t.a1, .int .i64 t.a2, .int .i64 t.a3, .int .i64 t.a4, .int .i64 t.a5, .int .i64 t.a6, .int .u32 t.a7, .int .i64 t.a8, .int .u32 t.a9, .int .u32 t.a10, .int .u32 t.a11, .int .u32 t.a12, .int .i64 t.a13, .int .u32 t.a14] 50) = W0 at hb0 ⊢
 have tb0 : LiesG fV W0 (some ⟨w.heap.size + 1, 0, none⟩) [.int .i64 t.a0, .int .i64 t.a1, .int .i64 t.a2, .int .i64 t.a3, .int .i64 t.a4, .int .i64 t.a5, .int .i64 t.a6, .int .u32 t.a7, .int .i64 t.a8, .int .u32 t.a9, .int .u32 t.a10, .int .u32 t.a11, .int .u32 t.a12, .int .i64 t.a13, .int .u32 t.a14] := by rw [← hW0]; exact tb0
 clear hW0
 obtain ⟨g0, g1, g2, g3, g4, g5, g6, g7, g8, g9, g10, g11, g12, g13, g14⟩ := KBox.facts hb0
 obtain ⟨h0, h1, h2, h3, h4, h5, h6, h7, h8, h9, h10, h11, h12, h13, h14⟩ := tfacts tb0
 by_cases n0 : t.a1 < 0
 ·have HP : Hid (numB t = false) := by unfold Hid; simp [numB, n0]
  go_wp2
  go_ret
  exact ⟨ret_bool (by have := HP.out; simp [fieldsB, this]), hb0.bw⟩
 ·skip
  by_cases n1 : 5 < t.a1
  ·have HP : Hid (numB t = false) := by unfold Hid; simp [numB, n1]
   go_wp2
   go_ret
   exact ⟨ret_bool (by have := HP.out; simp [fieldsB, this]), hb0.bw⟩
  ·skip
   by_cases n2 : t.a2 < 0
   ·have HP : Hid (numB t = false) := by unfold Hid; simp [numB, n2]
    go_wp2
    go_ret
    exact ⟨ret_bool (by have := HP.out; simp [fieldsB, this]), hb0.bw⟩
   ·skip
    by_cases n3 : 7 < t.a2
    ·have HP : Hid (numB t = false) := by unfold Hid; simp [numB, n3]
     go_wp2
     go_ret
     exact ⟨ret_bool (by have := HP.out; simp [fieldsB, this]), hb0.bw⟩
    ·skip
     by_cases n4 : t.a3 < 0
     ·have HP : Hid (numB t = false) := by unfold Hid; simp [numB, n4]
      go_wp2
      go_ret
      exact ⟨ret_bool (by have := HP.out; simp [fieldsB, this]), hb0.bw⟩
     ·skip
      by_cases n5 : 7 < t.a3
      ·have HP : Hid (numB t = false) := by unfold Hid; simp [numB, n5]
       go_wp2
       go_ret
       exact ⟨ret_bool (by have := HP.out; simp [fieldsB, this]), hb0.bw⟩
      ·skip
       by_cases n6 : t.a4 < 1
       ·have HP : Hid (numB t = false) := by unfold Hid; simp [numB, n6]
        go_wp2
        go_ret
        exact ⟨ret_bool (by have := HP.out; simp [fieldsB, this]), hb0.bw⟩
       ·skip
        by_cases n7 : 4 < t.a4
        ·have HP : Hid (numB t = false) := by unfold Hid; simp [numB, n7]
         go_wp2
         go_ret
         exact ⟨ret_bool (by have := HP.out; simp [fieldsB, this]), hb0.bw⟩
        ·skip
         by_cases n8 : t.a6 < 0
         ·have HP : Hid (numB t = false) := by unfold Hid; simp [numB, n8]
          go_wp2
          go_ret
          exact ⟨ret_bool (by have := HP.out; simp [fieldsB, this]), hb0.bw⟩
         ·skip
          by_cases n9 : 65535 < t.a6
          ·have HP : Hid (numB t = false) := by unfold Hid; simp [numB, n9]
           go_wp2
           go_ret
           exact ⟨ret_bool (by have := HP.out; simp [fieldsB, this]), hb0.bw⟩
          ·skip
           by_cases n10 : t.a8 < 0
           ·have HP : Hid (numB t = false) := by unfold Hid; simp [numB, n10]
            go_wp2
            go_ret
            exact ⟨ret_bool (by have := HP.out; simp [fieldsB, this]), hb0.bw⟩
           ·skip
            by_cases n11 : 3 < t.a8
            ·have HP : Hid (numB t = false) := by unfold Hid; simp [numB, n11]
             go_wp2
             go_ret
             exact ⟨ret_bool (by have := HP.out; simp [fieldsB, this]), hb0.bw⟩
            ·skip
             by_cases n12 : t.a13 < 0
             ·have HP : Hid (numB t = false) := by unfold Hid; simp [numB, n12]
              go_wp2
              go_ret
              exact ⟨ret_bool (by have := HP.out; simp [fieldsB, this]), hb0.bw⟩
             ·skip
              by_cases n13 : 2 < t.a13
              ·have HP : Hid (numB t = false) := by unfold Hid; simp [numB, n13]
               go_wp2
               go_ret
               exact ⟨ret_bool (by have := HP.out; simp [fieldsB, this]), hb0.bw⟩
              ·skip
               have HNum : Hid (numB t = true) := by unfold Hid; simp only [numB, Bool.and_eq_true, Bool.not_eq_true', decide_eq_false_iff_not]; omega
               go_upto_region 3 with fail
               cases m1 : (t.a1 == 2)
               ·have m1n : (t.a1 != 2) = true := by rw [bne, m1]; rfl
                have m1m : ¬ t.a1 = 2 := by simpa using m1
                cases m6 : (t.a6 == 0)
                ·have m6n : (t.a6 != 0) = true := by rw [bne, m6]; rfl
                 have m6m : ¬ t.a6 = 0 := by simpa using m6
                 have HP : Hid (msgB t = false) := by unfold Hid; simp [msgB, m1, m6]
                 go_wp2
                 go_ret
                 exact ⟨ret_bool (by have := HP.out; simp [fieldsB, this]), hb0.bw⟩
                ·have m6n : (t.a6 != 0) = false := by rw [bne, m6]; rfl
                 cases m7 : (t.a7 == 0)
                 ·have m7n : (t.a7 != 0) = true := by rw [bne, m7]; rfl
                  have m7m : ¬ t.a7 = 0 := by simpa using m7
                  have HP : Hid (msgB t = false) := by unfold Hid; simp [msgB, m1, m6, m7]
                  go_wp2
                  go_ret
                  exact ⟨ret_bool (by have := HP.out; simp [fieldsB, this]), hb0.bw⟩
                 ·have m7n : (t.a7 != 0) = false := by rw [bne, m7]; rfl
                  cases m8 : (t.a8 == 0)
                  ·have m8n : (t.a8 != 0) = true := by rw [bne, m8]; rfl
                   have m8m : ¬ t.a8 = 0 := by simpa using m8
                   have HP : Hid (msgB t = false) := by unfold Hid; simp [msgB, m1, m6, m7, m8]
                   go_wp2
                   go_ret
                   exact ⟨ret_bool (by have := HP.out; simp [fieldsB, this]), hb0.bw⟩
                  ·have m8n : (t.a8 != 0) = false := by rw [bne, m8]; rfl
                   cases m3 : (t.a1 == 3)
                   ·have m3n : (t.a1 != 3) = true := by rw [bne, m3]; rfl
                    have m3m : ¬ t.a1 = 3 := by simpa using m3
                    cases m9 : (t.a9 == 0)
                    ·have m9n : (t.a9 != 0) = true := by rw [bne, m9]; rfl
                     have m9m : ¬ t.a9 = 0 := by simpa using m9
                     have HP : Hid (msgB t = false) := by unfold Hid; simp [msgB, m1, m6, m7, m8, m3, m9]
                     go_wp2
                     go_ret
                     exact ⟨ret_bool (by have := HP.out; simp [fieldsB, this]), hb0.bw⟩
                    ·have m9n : (t.a9 != 0) = false := by rw [bne, m9]; rfl
                     have HMsg : Hid (msgB t = true) := by unfold Hid; simp [msgB, m1, m6, m7, m8, m3, m9]
                     go_upto_region 5 with fail
                     as_aux_lemma =>
                      by_cases x1 : 0 < t.a13
                      ·have y1 : ¬ t.a13 = 0 := by omega
                       have y2 : (t.a13 == 0) = false := by simp; omega
                       cases z1 : (t.a1 == 1)
                       ·have z2 : (t.a1 != 1) = true := by rw [bne, z1]; rfl
                        have z3 : ¬ t.a1 = 1 := by simpa using z1
                        have HP : Hid (pendB t = false) := by unfold Hid; simp [pendB, x1, z1]
                        go_wp2
                        go_ret
                        exact ⟨ret_bool (by have := HP.out; simp [fieldsB, this]), hb0.bw⟩
                       ·have z2 : (t.a1 != 1) = false := by rw [bne, z1]; rfl
                        have HPend : Hid (pendB t = true) := by unfold Hid; simp [pendB, x1, z1]
                        go_upto_region 8 with ((go_at_call 147; refine (HRe _ hb0.b).mono ?_; rintro e w1 ⟨rfl, hb1⟩))
                        have bb1 := hb0.below hb1
                        have tb1 := tb0.below hb1
                        clear g0 h0 g1 h1 g2 h2 g3 h3 g4 h4 g5 h5 g6 h6 g7 h7 g8 h8 g9 h9 g10 h10 g11 h11 g12 h12 g13 h13 g14 h14 hb1
                        obtain ⟨g0, g1, g2, g3, g4, g5, g6, g7, g8, g9, g10, g11, g12, g13, g14⟩ := KBox.facts bb1
                        obtain ⟨h0, h1, h2, h3, h4, h5, h6, h7, h8, h9, h10, h11, h12, h13, h14⟩ := tfacts tb1
                        cases wb
                        ·go_wp2_with ((go_at_call 148; refine (HWh _ bb1.b).mono ?_; rintro e w2 ⟨rfl, hb2⟩; have k1 := ((bcell hb2).1 _ _ (by have := bb1.lt; have := tb1.lt (i := 1) (by simp); omega)).trans h1))
                         go_ret
                         exact ⟨ret_bool (by simp [fieldsB, HWB.out]), (bb1.below hb2).bw⟩
                        ·cases c1 : ((rn == 1) == (t.a1 == 4))
                         ·go_wp2_with ((go_at_call 148; refine (HWh _ bb1.b).mono ?_; rintro e w2 ⟨rfl, hb2⟩; have k1 := ((bcell hb2).1 _ _ (by have := bb1.lt; have := tb1.lt (i := 1) (by simp); omega)).trans h1))
                          go_ret
                          exact ⟨ret_bool (by simp only [fieldsB, HRN.out, c1]; simp), (bb1.below hb2).bw⟩
                         ·go_wp2_with ((go_at_call 148; refine (HWh _ bb1.b).mono ?_; rintro e w2 ⟨rfl, hb2⟩; have k1 := ((bcell hb2).1 _ _ (by have := bb1.lt; have := tb1.lt (i := 1) (by simp); omega)).trans h1))
                          go_ret
                          exact ⟨ret_bool (by simp only [fieldsB, HRN.out, c1, HWB.out, HNum.out, HMsg.out, HPend.out]; simp), (bb1.below hb2).bw⟩
                      ·have y1 : t.a13 = 0 := by omega
                       have y2 : (t.a13 == 0) = true := by simp; omega
                       cases z1 : (t.a14 == 0)
                       ·have z2 : (t.a14 != 0) = true := by rw [bne, z1]; rfl
                        have z3 : ¬ t.a14 = 0 := by simpa using z1
                        have HP : Hid (pendB t = false) := by unfold Hid; simp [pendB, x1, z1]
                        clear y1
                        go_wp2
                        go_ret
                        exact ⟨ret_bool (by have := HP.out; simp [fieldsB, this]), hb0.bw⟩
                       ·have z2 : (t.a14 != 0) = false := by rw [bne, z1]; rfl
                        have HPend : Hid (pendB t = true) := by unfold Hid; simp [pendB, x1, z1]
                        clear y1
                        go_upto_region 8 with ((go_at_call 147; refine (HRe _ hb0.b).mono ?_; rintro e w1 ⟨rfl, hb1⟩))
                        have bb1 := hb0.below hb1
                        have tb1 := tb0.below hb1
                        clear g0 h0 g1 h1 g2 h2 g3 h3 g4 h4 g5 h5 g6 h6 g7 h7 g8 h8 g9 h9 g10 h10 g11 h11 g12 h12 g13 h13 g14 h14 hb1
                        obtain ⟨g0, g1, g2, g3, g4, g5, g6, g7, g8, g9, g10, g11, g12, g13, g14⟩ := KBox.facts bb1
                        obtain ⟨h0, h1, h2, h3, h4, h5, h6, h7, h8, h9, h10, h11, h12, h13, h14⟩ := tfacts tb1
                        cases wb
                        ·go_wp2_with ((go_at_call 148; refine (HWh _ bb1.b).mono ?_; rintro e w2 ⟨rfl, hb2⟩; have k1 := ((bcell hb2).1 _ _ (by have := bb1.lt; have := tb1.lt (i := 1) (by simp); omega)).trans h1))
                         go_ret
                         exact ⟨ret_bool (by simp [fieldsB, HWB.out]), (bb1.below hb2).bw⟩
                        ·cases c1 : ((rn == 1) == (t.a1 == 4))
                         ·go_wp2_with ((go_at_call 148; refine (HWh _ bb1.b).mono ?_; rintro e w2 ⟨rfl, hb2⟩; have k1 := ((bcell hb2).1 _ _ (by have := bb1.lt; have := tb1.lt (i := 1) (by simp); omega)).trans h1))
                          go_ret
                          exact ⟨ret_bool (by simp only [fieldsB, HRN.out, c1]; simp), (bb1.below hb2).bw⟩
                         ·go_wp2_with ((go_at_call 148; refine (HWh _ bb1.b).mono ?_; rintro e w2 ⟨rfl, hb2⟩; have k1 := ((bcell hb2).1 _ _ (by have := bb1.lt; have := tb1.lt (i := 1) (by simp); omega)).trans h1))
                          go_ret
                          exact ⟨ret_bool (by simp only [fieldsB, HRN.out, c1, HWB.out, HNum.out, HMsg.out, HPend.out]; simp), (bb1.below hb2).bw⟩
                   ·have m3n : (t.a1 != 3) = false := by rw [bne, m3]; rfl
                    have HMsg : Hid (msgB t = true) := by unfold Hid; simp [msgB, m1, m6, m7, m8, m3]
                    go_upto_region 5 with fail
                    as_aux_lemma =>
                     by_cases x1 : 0 < t.a13
                     ·have y1 : ¬ t.a13 = 0 := by omega
                      have y2 : (t.a13 == 0) = false := by simp; omega
                      cases z1 : (t.a1 == 1)
                      ·have z2 : (t.a1 != 1) = true := by rw [bne, z1]; rfl
                       have z3 : ¬ t.a1 = 1 := by simpa using z1
                       have HP : Hid (pendB t = false) := by unfold Hid; simp [pendB, x1, z1]
                       go_wp2
                       go_ret
                       exact ⟨ret_bool (by have := HP.out; simp [fieldsB, this]), hb0.bw⟩
                      ·have z2 : (t.a1 != 1) = false := by rw [bne, z1]; rfl
                       have HPend : Hid (pendB t = true) := by unfold Hid; simp [pendB, x1, z1]
                       go_upto_region 8 with ((go_at_call 147; refine (HRe _ hb0.b).mono ?_; rintro e w1 ⟨rfl, hb1⟩))
                       have bb1 := hb0.below hb1
                       have tb1 := tb0.below hb1
                       clear g0 h0 g1 h1 g2 h2 g3 h3 g4 h4 g5 h5 g6 h6 g7 h7 g8 h8 g9 h9 g10 h10 g11 h11 g12 h12 g13 h13 g14 h14 hb1
                       obtain ⟨g0, g1, g2, g3, g4, g5, g6, g7, g8, g9, g10, g11, g12, g13, g14⟩ := KBox.facts bb1
                       obtain ⟨h0, h1, h2, h3, h4, h5, h6, h7, h8, h9, h10, h11, h12, h13, h14⟩ := tfacts tb1
                       cases wb
                       ·go_wp2_with ((go_at_call 148; refine (HWh _ bb1.b).mono ?_; rintro e w2 ⟨rfl, hb2⟩; have k1 := ((bcell hb2).1 _ _ (by have := bb1.lt; have := tb1.lt (i := 1) (by simp); omega)).trans h1))
                        go_ret
                        exact ⟨ret_bool (by simp [fieldsB, HWB.out]), (bb1.below hb2).bw⟩
                       ·cases c1 : ((rn == 1) == (t.a1 == 4))
                        ·go_wp2_with ((go_at_call 148; refine (HWh _ bb1.b).mono ?_; rintro e w2 ⟨rfl, hb2⟩; have k1 := ((bcell hb2).1 _ _ (by have := bb1.lt; have := tb1.lt (i := 1) (by simp); omega)).trans h1))
                         go_ret
                         exact ⟨ret_bool (by simp only [fieldsB, HRN.out, c1]; simp), (bb1.below hb2).bw⟩
                        ·go_wp2_with ((go_at_call 148; refine (HWh _ bb1.b).mono ?_; rintro e w2 ⟨rfl, hb2⟩; have k1 := ((bcell hb2).1 _ _ (by have := bb1.lt; have := tb1.lt (i := 1) (by simp); omega)).trans h1))
                         go_ret
                         exact ⟨ret_bool (by simp only [fieldsB, HRN.out, c1, HWB.out, HNum.out, HMsg.out, HPend.out]; simp), (bb1.below hb2).bw⟩
                     ·have y1 : t.a13 = 0 := by omega
                      have y2 : (t.a13 == 0) = true := by simp; omega
                      cases z1 : (t.a14 == 0)
                      ·have z2 : (t.a14 != 0) = true := by rw [bne, z1]; rfl
                       have z3 : ¬ t.a14 = 0 := by simpa using z1
                       have HP : Hid (pendB t = false) := by unfold Hid; simp [pendB, x1, z1]
                       clear y1
                       go_wp2
                       go_ret
                       exact ⟨ret_bool (by have := HP.out; simp [fieldsB, this]), hb0.bw⟩
                      ·have z2 : (t.a14 != 0) = false := by rw [bne, z1]; rfl
                       have HPend : Hid (pendB t = true) := by unfold Hid; simp [pendB, x1, z1]
                       clear y1
                       go_upto_region 8 with ((go_at_call 147; refine (HRe _ hb0.b).mono ?_; rintro e w1 ⟨rfl, hb1⟩))
                       have bb1 := hb0.below hb1
                       have tb1 := tb0.below hb1
                       clear g0 h0 g1 h1 g2 h2 g3 h3 g4 h4 g5 h5 g6 h6 g7 h7 g8 h8 g9 h9 g10 h10 g11 h11 g12 h12 g13 h13 g14 h14 hb1
                       obtain ⟨g0, g1, g2, g3, g4, g5, g6, g7, g8, g9, g10, g11, g12, g13, g14⟩ := KBox.facts bb1
                       obtain ⟨h0, h1, h2, h3, h4, h5, h6, h7, h8, h9, h10, h11, h12, h13, h14⟩ := tfacts tb1
                       cases wb
                       ·go_wp2_with ((go_at_call 148; refine (HWh _ bb1.b).mono ?_; rintro e w2 ⟨rfl, hb2⟩; have k1 := ((bcell hb2).1 _ _ (by have := bb1.lt; have := tb1.lt (i := 1) (by simp); omega)).trans h1))
                        go_ret
                        exact ⟨ret_bool (by simp [fieldsB, HWB.out]), (bb1.below hb2).bw⟩
                       ·cases c1 : ((rn == 1) == (t.a1 == 4))
                        ·go_wp2_with ((go_at_call 148; refine (HWh _ bb1.b).mono ?_; rintro e w2 ⟨rfl, hb2⟩; have k1 := ((bcell hb2).1 _ _ (by have := bb1.lt; have := tb1.lt (i := 1) (by simp); omega)).trans h1))
                         go_ret
                         exact ⟨ret_bool (by simp only [fieldsB, HRN.out, c1]; simp), (bb1.below hb2).bw⟩
                        ·go_wp2_with ((go_at_call 148; refine (HWh _ bb1.b).mono ?_; rintro e w2 ⟨rfl, hb2⟩; have k1 := ((bcell hb2).1 _ _ (by have := bb1.lt; have := tb1.lt (i := 1) (by simp); omega)).trans h1))
                         go_ret
                         exact ⟨ret_bool (by simp only [fieldsB, HRN.out, c1, HWB.out, HNum.out, HMsg.out, HPend.out]; simp), (bb1.below hb2).bw⟩
               ·have m1n : (t.a1 != 2) = false := by rw [bne, m1]; rfl
                have HMsg : Hid (msgB t = true) := by unfold Hid; simp [msgB, m1]
                go_upto_region 5 with fail
                as_aux_lemma =>
                 by_cases x1 : 0 < t.a13
                 ·have y1 : ¬ t.a13 = 0 := by omega
                  have y2 : (t.a13 == 0) = false := by simp; omega
                  cases z1 : (t.a1 == 1)
                  ·have z2 : (t.a1 != 1) = true := by rw [bne, z1]; rfl
                   have z3 : ¬ t.a1 = 1 := by simpa using z1
                   have HP : Hid (pendB t = false) := by unfold Hid; simp [pendB, x1, z1]
                   go_wp2
                   go_ret
                   exact ⟨ret_bool (by have := HP.out; simp [fieldsB, this]), hb0.bw⟩
                  ·have z2 : (t.a1 != 1) = false := by rw [bne, z1]; rfl
                   have HPend : Hid (pendB t = true) := by unfold Hid; simp [pendB, x1, z1]
                   go_upto_region 8 with ((go_at_call 147; refine (HRe _ hb0.b).mono ?_; rintro e w1 ⟨rfl, hb1⟩))
                   have bb1 := hb0.below hb1
                   have tb1 := tb0.below hb1
                   clear g0 h0 g1 h1 g2 h2 g3 h3 g4 h4 g5 h5 g6 h6 g7 h7 g8 h8 g9 h9 g10 h10 g11 h11 g12 h12 g13 h13 g14 h14 hb1
                   obtain ⟨g0, g1, g2, g3, g4, g5, g6, g7, g8, g9, g10, g11, g12, g13, g14⟩ := KBox.facts bb1
                   obtain ⟨h0, h1, h2, h3, h4, h5, h6, h7, h8, h9, h10, h11, h12, h13, h14⟩ := tfacts tb1
                   cases wb
                   ·go_wp2_with ((go_at_call 148; refine (HWh _ bb1.b).mono ?_; rintro e w2 ⟨rfl, hb2⟩; have k1 := ((bcell hb2).1 _ _ (by have := bb1.lt; have := tb1.lt (i := 1) (by simp); omega)).trans h1))
                    go_ret
                    exact ⟨ret_bool (by simp [fieldsB, HWB.out]), (bb1.below hb2).bw⟩
                   ·cases c1 : ((rn == 1) == (t.a1 == 4))
                    ·go_wp2_with ((go_at_call 148; refine (HWh _ bb1.b).mono ?_; rintro e w2 ⟨rfl, hb2⟩; have k1 := ((bcell hb2).1 _ _ (by have := bb1.lt; have := tb1.lt (i := 1) (by simp); omega)).trans h1))
                     go_ret
                     exact ⟨ret_bool (by simp only [fieldsB, HRN.out, c1]; simp), (bb1.below hb2).bw⟩
                    ·go_wp2_with ((go_at_call 148; refine (HWh _ bb1.b).mono ?_; rintro e w2 ⟨rfl, hb2⟩; have k1 := ((bcell hb2).1 _ _ (by have := bb1.lt; have := tb1.lt (i := 1) (by simp); omega)).trans h1))
                     go_ret
                     exact ⟨ret_bool (by simp only [fieldsB, HRN.out, c1, HWB.out, HNum.out, HMsg.out, HPend.out]; simp), (bb1.below hb2).bw⟩
                 ·have y1 : t.a13 = 0 := by omega
                  have y2 : (t.a13 == 0) = true := by simp; omega
                  cases z1 : (t.a14 == 0)
                  ·have z2 : (t.a14 != 0) = true := by rw [bne, z1]; rfl
                   have z3 : ¬ t.a14 = 0 := by simpa using z1
                   have HP : Hid (pendB t = false) := by unfold Hid; simp [pendB, x1, z1]
                   clear y1
                   go_wp2
                   go_ret
                   exact ⟨ret_bool (by have := HP.out; simp [fieldsB, this]), hb0.bw⟩
                  ·have z2 : (t.a14 != 0) = false := by rw [bne, z1]; rfl
                   have HPend : Hid (pendB t = true) := by unfold Hid; simp [pendB, x1, z1]
                   clear y1
                   go_upto_region 8 with ((go_at_call 147; refine (HRe _ hb0.b).mono ?_; rintro e w1 ⟨rfl, hb1⟩))
                   have bb1 := hb0.below hb1
                   have tb1 := tb0.below hb1
                   clear g0 h0 g1 h1 g2 h2 g3 h3 g4 h4 g5 h5 g6 h6 g7 h7 g8 h8 g9 h9 g10 h10 g11 h11 g12 h12 g13 h13 g14 h14 hb1
                   obtain ⟨g0, g1, g2, g3, g4, g5, g6, g7, g8, g9, g10, g11, g12, g13, g14⟩ := KBox.facts bb1
                   obtain ⟨h0, h1, h2, h3, h4, h5, h6, h7, h8, h9, h10, h11, h12, h13, h14⟩ := tfacts tb1
                   cases wb
                   ·go_wp2_with ((go_at_call 148; refine (HWh _ bb1.b).mono ?_; rintro e w2 ⟨rfl, hb2⟩; have k1 := ((bcell hb2).1 _ _ (by have := bb1.lt; have := tb1.lt (i := 1) (by simp); omega)).trans h1))
                    go_ret
                    exact ⟨ret_bool (by simp [fieldsB, HWB.out]), (bb1.below hb2).bw⟩
                   ·cases c1 : ((rn == 1) == (t.a1 == 4))
                    ·go_wp2_with ((go_at_call 148; refine (HWh _ bb1.b).mono ?_; rintro e w2 ⟨rfl, hb2⟩; have k1 := ((bcell hb2).1 _ _ (by have := bb1.lt; have := tb1.lt (i := 1) (by simp); omega)).trans h1))
                     go_ret
                     exact ⟨ret_bool (by simp only [fieldsB, HRN.out, c1]; simp), (bb1.below hb2).bw⟩
                    ·go_wp2_with ((go_at_call 148; refine (HWh _ bb1.b).mono ?_; rintro e w2 ⟨rfl, hb2⟩; have k1 := ((bcell hb2).1 _ _ (by have := bb1.lt; have := tb1.lt (i := 1) (by simp); omega)).trans h1))
                     go_ret
                     exact ⟨ret_bool (by simp only [fieldsB, HRN.out, c1, HWB.out, HNum.out, HMsg.out, HPend.out]; simp), (bb1.below hb2).bw⟩

end Go.Proofs.YtigpbjcmmgdiaaaGreat
/-
 What the threads and the queues are asked, by the specification: plain facts. No conditions.
-/
namespace Go.Proofs.YtigpbjcmmgdiaaaGreat
open Go.ChangeShapes Go.WideShapes Go.ChangeAt Go.RowKit
set_option linter.unusedVariables false

def readyQ (K : QK) (n : Nat) : QR := if n = 0 then K.r0 else if n = 1 then K.r1 else if n = 2 then K.r2 else if n = 3 then K.r3 else if n = 4 then K.r4 else if n = 5 then K.r5 else if n = 6 then K.r6 else K.r7
theorem readyQ_mem (K : QK) (n : Nat) : readyQ K n ∈ [K.r0, K.r1, K.r2, K.r3, K.r4, K.r5, K.r6, K.r7] := by
 unfold readyQ; repeat' split
 all_goals simp
def isRun (t : QT) : Bool := t.a1 == 1
def thQB (K : QK) (t : QT) : Bool := fieldsB K t && (!isRun t || (((readyQ K t.a2.toNat).l.countP (fun y => y == t.a0) : Nat) : Int) == 1)
def readyN (K : QK) : Nat → Int
 | 0 => 0
 | p + 1 => readyN K p + ((readyQ K p).l.length : Int)
def endQB (K : QK) (e : QE) : Bool := !decide (e.kd < 0) && !decide (2 < e.kd) && ((e.kd == 0) == ((e.l.length : Int) == 0)) && e.l.all (thWaitB K.tl (e.kd + 1) e.ad)
def noteQB (K : QK) (n : QN) : Bool := !decide (n.wd < 0) && !decide (65535 < n.wd) && !(n.ac && decide (0 < (n.l.length : Int))) && !(!n.ac && n.wd != 0) && n.l.all (thWaitB K.tl 5 n.ad)
def queuesB (K : QK) : Bool := K.tl.all (thQB K) && (K.el.all (endQB K) && (K.nl.all (noteQB K) && (((K.tl.countP isRun : Nat) : Int) - readyN K 8 == 0)))
theorem prio_of {K : QK} {t : QT} (h : fieldsB K t = true) : 0 ≤ t.a2 ∧ t.a2 ≤ 7 := by
 unfold fieldsB numB at h
 simp only [Bool.and_eq_true, Bool.not_eq_true', decide_eq_false_iff_not] at h
 omega
theorem ready_len {K : QK} (hs : K.Short) (n : Nat) : (readyQ K n).l.length ≤ 1048576 := hs.r _ (readyQ_mem K n)
theorem readyN_bd {K : QK} (hs : K.Short) : ∀ n : Nat, 0 ≤ readyN K n ∧ readyN K n ≤ 1048576 * (n : Int)
 | 0 => by simp [readyN]
 | n + 1 => by
  have h1 := readyN_bd hs n
  have h2 := ready_len hs n
  rw [readyN]; push_cast; omega
theorem ready_cell {w W : World} {K : QK} (h : KBox w K W) (n : Nat) (hn : n ≤ 7) : W.cell? ⟨w.heap.size, 7 + n, none⟩ = some (.slice (readyQ K n).P (readyQ K n).l.length (readyQ K n).c) := by
 have hc : n = 0 ∨ n = 1 ∨ n = 2 ∨ n = 3 ∨ n = 4 ∨ n = 5 ∨ n = 6 ∨ n = 7 := by omega
 rcases hc with e | e | e | e | e | e | e | e <;> subst e
 ·exact h.cr0
 ·exact h.cr1
 ·exact h.cr2
 ·exact h.cr3
 ·exact h.cr4
 ·exact h.cr5
 ·exact h.cr6
 ·exact h.cr7
def thInv (w : World) (K : QK) (n v : Value) (W : World) : Prop :=
 ∃ k : Nat, k ≤ K.tl.length ∧ n = .int .i64 (((K.tl.take k).countP isRun : Nat) : Int) ∧ v = .int .i64 (k : Int) ∧ (∀ j (hj : j < k) (hl : j < K.tl.length), thQB K K.tl[j] = true) ∧ KBox w K W
def sumInv (w : World) (K : QK) (R : Int) (n v : Value) (W : World) : Prop :=
 ∃ k : Nat, k ≤ 8 ∧ n = .int .i64 (R - readyN K k) ∧ v = .int .i64 (k : Int) ∧ KBox w K W
def endInvQ (w : World) (K : QK) (v : Value) (W : World) : Prop :=
 ∃ k : Nat, k ≤ K.el.length ∧ v = .int .i64 (k : Int) ∧ (∀ j (hj : j < k) (hl : j < K.el.length), endQB K K.el[j] = true) ∧ KBox w K W
def noteInvQ (w : World) (K : QK) (v : Value) (W : World) : Prop :=
 ∃ k : Nat, k ≤ K.nl.length ∧ v = .int .i64 (k : Int) ∧ (∀ j (hj : j < k) (hl : j < K.nl.length), noteQB K K.nl[j] = true) ∧ KBox w K W

end Go.Proofs.YtigpbjcmmgdiaaaGreat
