/-
  Two states, compared by the program.
-/
import Derived.Test.YtoahhhmagcnjbabKernEq
import Derived.Laws.ResultCell
namespace Go.Proofs.Ytoahhhmagcnjbab
open Go.ChangeShapes Go.WideShapes Go.ChangeAt Go.RowKit
set_option linter.unusedVariables false

set_option maxRecDepth 100000 in
set_option maxHeartbeats 40000000 in
theorem sameK_impl (K K' : QK) (w : World) (hs : K.Short) (hs' : K'.Short) (hK : KernIn w K) (hK' : KernIn w K') :
    Calls Try.prog 7 #[.agg #[.int .i64 K.bits, .int .i64 K.ticks, .slice K.sP K.sl.length K.sc, .slice K.tP K.tl.length K.tc, .slice K.eP K.el.length K.ec, .slice K.nP K.nl.length K.nc, .slice K.fP K.fl.length K.fc, .slice K.r0.P K.r0.l.length K.r0.c, .slice K.r1.P K.r1.l.length K.r1.c, .slice K.r2.P K.r2.l.length K.r2.c, .slice K.r3.P K.r3.l.length K.r3.c, .slice K.r4.P K.r4.l.length K.r4.c, .slice K.r5.P K.r5.l.length K.r5.c, .slice K.r6.P K.r6.l.length K.r6.c, .slice K.r7.P K.r7.l.length K.r7.c], .agg #[.int .i64 K'.bits, .int .i64 K'.ticks, .slice K'.sP K'.sl.length K'.sc, .slice K'.tP K'.tl.length K'.tc, .slice K'.eP K'.el.length K'.ec, .slice K'.nP K'.nl.length K'.nc, .slice K'.fP K'.fl.length K'.fc, .slice K'.r0.P K'.r0.l.length K'.r0.c, .slice K'.r1.P K'.r1.l.length K'.r1.c, .slice K'.r2.P K'.r2.l.length K'.r2.c, .slice K'.r3.P K'.r3.l.length K'.r3.c, .slice K'.r4.P K'.r4.l.length K'.r4.c, .slice K'.r5.P K'.r5.l.length K'.r5.c, .slice K'.r6.P K'.r6.l.length K'.r6.c, .slice K'.r7.P K'.r7.l.length K'.r7.c]] w fun r w' => r = .returned (.bool (decide (K.pl = K'.pl))) ∧ Below w.heap.size w w' := by
  have ka := (boxL w [.int .i64 K.bits, .int .i64 K.ticks, .slice K.sP K.sl.length K.sc, .slice K.tP K.tl.length K.tc, .slice K.eP K.el.length K.ec, .slice K.nP K.nl.length K.nc, .slice K.fP K.fl.length K.fc, .slice K.r0.P K.r0.l.length K.r0.c, .slice K.r1.P K.r1.l.length K.r1.c, .slice K.r2.P K.r2.l.length K.r2.c, .slice K.r3.P K.r3.l.length K.r3.c, .slice K.r4.P K.r4.l.length K.r4.c, .slice K.r5.P K.r5.l.length K.r5.c, .slice K.r6.P K.r6.l.length K.r6.c, .slice K.r7.P K.r7.l.length K.r7.c] 39).below ((Below.refl _ _).alloc (Nat.le_refl _) (.cells #[.int .i64 K'.bits, .int .i64 K'.ticks, .slice K'.sP K'.sl.length K'.sc, .slice K'.tP K'.tl.length K'.tc, .slice K'.eP K'.el.length K'.ec, .slice K'.nP K'.nl.length K'.nc, .slice K'.fP K'.fl.length K'.fc, .slice K'.r0.P K'.r0.l.length K'.r0.c, .slice K'.r1.P K'.r1.l.length K'.r1.c, .slice K'.r2.P K'.r2.l.length K'.r2.c, .slice K'.r3.P K'.r3.l.length K'.r3.c, .slice K'.r4.P K'.r4.l.length K'.r4.c, .slice K'.r5.P K'.r5.l.length K'.r5.c, .slice K'.r6.P K'.r6.l.length K'.r6.c, .slice K'.r7.P K'.r7.l.length K'.r7.c] 39))
  have kb := boxL (w.alloc (.cells #[.int .i64 K.bits, .int .i64 K.ticks, .slice K.sP K.sl.length K.sc, .slice K.tP K.tl.length K.tc, .slice K.eP K.el.length K.ec, .slice K.nP K.nl.length K.nc, .slice K.fP K.fl.length K.fc, .slice K.r0.P K.r0.l.length K.r0.c, .slice K.r1.P K.r1.l.length K.r1.c, .slice K.r2.P K.r2.l.length K.r2.c, .slice K.r3.P K.r3.l.length K.r3.c, .slice K.r4.P K.r4.l.length K.r4.c, .slice K.r5.P K.r5.l.length K.r5.c, .slice K.r6.P K.r6.l.length K.r6.c, .slice K.r7.P K.r7.l.length K.r7.c] 39)) [.int .i64 K'.bits, .int .i64 K'.ticks, .slice K'.sP K'.sl.length K'.sc, .slice K'.tP K'.tl.length K'.tc, .slice K'.eP K'.el.length K'.ec, .slice K'.nP K'.nl.length K'.nc, .slice K'.fP K'.fl.length K'.fc, .slice K'.r0.P K'.r0.l.length K'.r0.c, .slice K'.r1.P K'.r1.l.length K'.r1.c, .slice K'.r2.P K'.r2.l.length K'.r2.c, .slice K'.r3.P K'.r3.l.length K'.r3.c, .slice K'.r4.P K'.r4.l.length K'.r4.c, .slice K'.r5.P K'.r5.l.length K'.r5.c, .slice K'.r6.P K'.r6.l.length K'.r6.c, .slice K'.r7.P K'.r7.l.length K'.r7.c] 39
  rw [World.size_alloc] at kb
  have bW : Below w.heap.size w ((w.alloc (.cells #[.int .i64 K.bits, .int .i64 K.ticks, .slice K.sP K.sl.length K.sc, .slice K.tP K.tl.length K.tc, .slice K.eP K.el.length K.ec, .slice K.nP K.nl.length K.nc, .slice K.fP K.fl.length K.fc, .slice K.r0.P K.r0.l.length K.r0.c, .slice K.r1.P K.r1.l.length K.r1.c, .slice K.r2.P K.r2.l.length K.r2.c, .slice K.r3.P K.r3.l.length K.r3.c, .slice K.r4.P K.r4.l.length K.r4.c, .slice K.r5.P K.r5.l.length K.r5.c, .slice K.r6.P K.r6.l.length K.r6.c, .slice K.r7.P K.r7.l.length K.r7.c] 39)).alloc (.cells #[.int .i64 K'.bits, .int .i64 K'.ticks, .slice K'.sP K'.sl.length K'.sc, .slice K'.tP K'.tl.length K'.tc, .slice K'.eP K'.el.length K'.ec, .slice K'.nP K'.nl.length K'.nc, .slice K'.fP K'.fl.length K'.fc, .slice K'.r0.P K'.r0.l.length K'.r0.c, .slice K'.r1.P K'.r1.l.length K'.r1.c, .slice K'.r2.P K'.r2.l.length K'.r2.c, .slice K'.r3.P K'.r3.l.length K'.r3.c, .slice K'.r4.P K'.r4.l.length K'.r4.c, .slice K'.r5.P K'.r5.l.length K'.r5.c, .slice K'.r6.P K'.r6.l.length K'.r6.c, .slice K'.r7.P K'.r7.l.length K'.r7.c] 39)) := (by repeat (first | exact Below.refl _ _ | (refine Below.setCell ?_ (by simp; try omega) _) | (refine Below.alloc ?_ (by simp; try omega) _)))
  go_enter Try.func7, Try.ntmps7
  go_upto_region 1 with fail
  generalize hW0 : (w.alloc (.cells #[.int .i64 K.bits, .int .i64 K.ticks, .slice K.sP K.sl.length K.sc, .slice K.tP K.tl.length K.tc, .slice K.eP K.el.length K.ec, .slice K.nP K.nl.length K.nc, .slice K.fP K.fl.length K.fc, .slice K.r0.P K.r0.l.length K.r0.c, .slice K.r1.P K.r1.l.length K.r1.c, .slice K.r2.P K.r2.l.length K.r2.c, .slice K.r3.P K.r3.l.length K.r3.c, .slice K.r4.P K.r4.l.length K.r4.c, .slice K.r5.P K.r5.l.length K.r5.c, .slice K.r6.P K.r6.l.length K.r6.c, .slice K.r7.P K.r7.l.length K.r7.c] 39)).alloc (.cells #[.int .i64 K'.bits, .int .i64 K'.ticks, .slice K'.sP K'.sl.length K'.sc, .slice K'.tP K'.tl.length K'.tc, .slice K'.eP K'.el.length K'.ec, .slice K'.nP K'.nl.length K'.nc, .slice K'.fP K'.fl.length K'.fc, .slice K'.r0.P K'.r0.l.length K'.r0.c, .slice K'.r1.P K'.r1.l.length K'.r1.c, .slice K'.r2.P K'.r2.l.length K'.r2.c, .slice K'.r3.P K'.r3.l.length K'.r3.c, .slice K'.r4.P K'.r4.l.length K'.r4.c, .slice K'.r5.P K'.r5.l.length K'.r5.c, .slice K'.r6.P K'.r6.l.length K'.r6.c, .slice K'.r7.P K'.r7.l.length K'.r7.c] 39) = w0 at ka kb bW ⊢
  clear hW0
  have g0 : w0.cell? ⟨w.heap.size, 0, none⟩ = some (.int .i64 K.bits) := atV ka 0 _ rfl
  have l0 : w0.cell? ⟨w.heap.size + 1, 0, none⟩ = some (.int .i64 K'.bits) := atV kb 0 _ rfl
  have g1 : w0.cell? ⟨w.heap.size, 1, none⟩ = some (.int .i64 K.ticks) := atV ka 1 _ rfl
  have l1 : w0.cell? ⟨w.heap.size + 1, 1, none⟩ = some (.int .i64 K'.ticks) := atV kb 1 _ rfl
  have g2 : w0.cell? ⟨w.heap.size, 2, none⟩ = some (.slice K.sP K.sl.length K.sc) := atV ka 2 _ rfl
  have l2 : w0.cell? ⟨w.heap.size + 1, 2, none⟩ = some (.slice K'.sP K'.sl.length K'.sc) := atV kb 2 _ rfl
  cases y1 : (K.bits == K'.bits)
  · go_wp2
    go_ret
    exact ⟨ret_bool (decide_eq_false (fun e => by have := congrArg (fun p => p.1.1) e; simp [QK.pl] at this; simp [this] at y1)).symm, bW⟩
  · cases y2 : (K.ticks == K'.ticks)
    · go_wp2
      go_ret
      exact ⟨ret_bool (decide_eq_false (fun e => by have := congrArg (fun p => p.1.2) e; simp [QK.pl] at this; simp [this] at y2)).symm, bW⟩
    · have y1 : Hid _ := y1
      have y2 : Hid _ := y2
      have q1 : (K.bits == K'.bits) = true := y1.out
      have q2 : (K.ticks == K'.ticks) = true := y2.out
      cases x0 : decide (K.sl = K'.sl)
      · have HC : Hid (Calls _ _ _ _ _) := eqS_impl K.sP K'.sP K.sc K'.sc K.sl K'.sl w0 hs.s hs'.s (hK.s.below bW) (hK'.s.below bW)
        rw [x0] at HC
        have X0 : Hid _ := x0
        clear x0
        go_wp2_with ((go_at_call 23; refine Calls.mono HC.out ?_; rintro r w1 ⟨rfl, hb⟩))
        go_ret
        exact ⟨ret_bool (decide_eq_false (fun e => of_decide_eq_false X0.out (congrArg (fun p => p.2.1) e))).symm, bW.trans (hb.mono bW.size)⟩
      · have HC : Hid (Calls _ _ _ _ _) := eqS_impl K.sP K'.sP K.sc K'.sc K.sl K'.sl w0 hs.s hs'.s (hK.s.below bW) (hK'.s.below bW)
        rw [x0] at HC
        have X0 : Hid _ := x0
        clear x0
        go_wp2_with ((go_at_call 23; refine Calls.mono HC.out ?_; rintro r w1 ⟨rfl, hb⟩; have ka0 := ka.below hb; have kb0 := kb.below hb; have g3 : w1.cell? ⟨w.heap.size, 3, none⟩ = some (.slice K.tP K.tl.length K.tc) := atV ka0 3 _ rfl; have l3 : w1.cell? ⟨w.heap.size + 1, 3, none⟩ = some (.slice K'.tP K'.tl.length K'.tc) := atV kb0 3 _ rfl))
        have ka := ka0
        have kb := kb0
        have bW := bW.trans (hb.mono bW.size)
        clear hb HC ka0 kb0
        cases x1 : decide (K.tl = K'.tl)
        · have HC : Hid (Calls _ _ _ _ _) := eqT_impl K.tP K'.tP K.tc K'.tc K.tl K'.tl w1 hs.t hs'.t (hK.t.below bW) (hK'.t.below bW)
          rw [x1] at HC
          have X1 : Hid _ := x1
          clear x1
          go_wp2_with ((go_at_call 24; refine Calls.mono HC.out ?_; rintro r w2 ⟨rfl, hb⟩))
          go_ret
          exact ⟨ret_bool (decide_eq_false (fun e => of_decide_eq_false X1.out (congrArg (fun p => p.2.2.1) e))).symm, bW.trans (hb.mono bW.size)⟩
        · have HC : Hid (Calls _ _ _ _ _) := eqT_impl K.tP K'.tP K.tc K'.tc K.tl K'.tl w1 hs.t hs'.t (hK.t.below bW) (hK'.t.below bW)
          rw [x1] at HC
          have X1 : Hid _ := x1
          clear x1
          go_wp2_with ((go_at_call 24; refine Calls.mono HC.out ?_; rintro r w2 ⟨rfl, hb⟩; have ka1 := ka.below hb; have kb1 := kb.below hb; have g4 : w2.cell? ⟨w.heap.size, 4, none⟩ = some (.slice K.eP K.el.length K.ec) := atV ka1 4 _ rfl; have l4 : w2.cell? ⟨w.heap.size + 1, 4, none⟩ = some (.slice K'.eP K'.el.length K'.ec) := atV kb1 4 _ rfl))
          have ka := ka1
          have kb := kb1
          have bW := bW.trans (hb.mono bW.size)
          clear hb HC ka1 kb1
          cases x2 : decide (K.el.map QE.pl = K'.el.map QE.pl)
          · have HC : Hid (Calls _ _ _ _ _) := sameE_any K.eP K'.eP K.ec K'.ec K.el K'.el w2 hs.e hs'.e hs.ei hs'.ei (hK.e.below bW) (hK'.e.below bW) (hK.ei.below bW) (hK'.ei.below bW)
            rw [x2] at HC
            have X2 : Hid _ := x2
            clear x2
            go_wp2_with ((go_at_call 25; refine Calls.mono HC.out ?_; rintro r w3 ⟨rfl, hb⟩))
            go_ret
            exact ⟨ret_bool (decide_eq_false (fun e => of_decide_eq_false X2.out (congrArg (fun p => p.2.2.2.1) e))).symm, bW.trans (hb.mono bW.size)⟩
          · have HC : Hid (Calls _ _ _ _ _) := sameE_any K.eP K'.eP K.ec K'.ec K.el K'.el w2 hs.e hs'.e hs.ei hs'.ei (hK.e.below bW) (hK'.e.below bW) (hK.ei.below bW) (hK'.ei.below bW)
            rw [x2] at HC
            have X2 : Hid _ := x2
            clear x2
            go_wp2_with ((go_at_call 25; refine Calls.mono HC.out ?_; rintro r w3 ⟨rfl, hb⟩; have ka2 := ka.below hb; have kb2 := kb.below hb; have g5 : w3.cell? ⟨w.heap.size, 5, none⟩ = some (.slice K.nP K.nl.length K.nc) := atV ka2 5 _ rfl; have l5 : w3.cell? ⟨w.heap.size + 1, 5, none⟩ = some (.slice K'.nP K'.nl.length K'.nc) := atV kb2 5 _ rfl))
            have ka := ka2
            have kb := kb2
            have bW := bW.trans (hb.mono bW.size)
            clear hb HC ka2 kb2
            cases x3 : decide (K.nl.map QN.pl = K'.nl.map QN.pl)
            · have HC : Hid (Calls _ _ _ _ _) := sameN_any K.nP K'.nP K.nc K'.nc K.nl K'.nl w3 hs.n hs'.n hs.ni hs'.ni (hK.n.below bW) (hK'.n.below bW) (hK.ni.below bW) (hK'.ni.below bW)
              rw [x3] at HC
              have X3 : Hid _ := x3
              clear x3
              go_wp2_with ((go_at_call 27; refine Calls.mono HC.out ?_; rintro r w4 ⟨rfl, hb⟩))
              go_ret
              exact ⟨ret_bool (decide_eq_false (fun e => of_decide_eq_false X3.out (congrArg (fun p => p.2.2.2.2.1) e))).symm, bW.trans (hb.mono bW.size)⟩
            · have HC : Hid (Calls _ _ _ _ _) := sameN_any K.nP K'.nP K.nc K'.nc K.nl K'.nl w3 hs.n hs'.n hs.ni hs'.ni (hK.n.below bW) (hK'.n.below bW) (hK.ni.below bW) (hK'.ni.below bW)
              rw [x3] at HC
              have X3 : Hid _ := x3
              clear x3
              go_wp2_with ((go_at_call 27; refine Calls.mono HC.out ?_; rintro r w4 ⟨rfl, hb⟩; have ka3 := ka.below hb; have kb3 := kb.below hb; have g6 : w4.cell? ⟨w.heap.size, 6, none⟩ = some (.slice K.fP K.fl.length K.fc) := atV ka3 6 _ rfl; have l6 : w4.cell? ⟨w.heap.size + 1, 6, none⟩ = some (.slice K'.fP K'.fl.length K'.fc) := atV kb3 6 _ rfl))
              have ka := ka3
              have kb := kb3
              have bW := bW.trans (hb.mono bW.size)
              clear hb HC ka3 kb3
              cases x4 : decide (K.fl.map QF.pl = K'.fl.map QF.pl)
              · have HC : Hid (Calls _ _ _ _ _) := sameF_any K.fP K'.fP K.fc K'.fc K.fl K'.fl w4 hs.f hs'.f hs.fi hs'.fi (hK.f.below bW) (hK'.f.below bW) (hK.fi.below bW) (hK'.fi.below bW)
                rw [x4] at HC
                have X4 : Hid _ := x4
                clear x4
                go_wp2_with ((go_at_call 29; refine Calls.mono HC.out ?_; rintro r w5 ⟨rfl, hb⟩))
                go_ret
                exact ⟨ret_bool (decide_eq_false (fun e => of_decide_eq_false X4.out (congrArg (fun p => p.2.2.2.2.2.1) e))).symm, bW.trans (hb.mono bW.size)⟩
              · have HC : Hid (Calls _ _ _ _ _) := sameF_any K.fP K'.fP K.fc K'.fc K.fl K'.fl w4 hs.f hs'.f hs.fi hs'.fi (hK.f.below bW) (hK'.f.below bW) (hK.fi.below bW) (hK'.fi.below bW)
                rw [x4] at HC
                have X4 : Hid _ := x4
                clear x4
                go_wp2_with ((go_at_call 29; refine Calls.mono HC.out ?_; rintro r w5 ⟨rfl, hb⟩; have ka4 := ka.below hb; have kb4 := kb.below hb; have g7 : w5.cell? ⟨w.heap.size, 7, none⟩ = some (.slice K.r0.P K.r0.l.length K.r0.c) := atV ka4 7 _ rfl; have l7 : w5.cell? ⟨w.heap.size + 1, 7, none⟩ = some (.slice K'.r0.P K'.r0.l.length K'.r0.c) := atV kb4 7 _ rfl; have g8 : w5.cell? ⟨w.heap.size, 8, none⟩ = some (.slice K.r1.P K.r1.l.length K.r1.c) := atV ka4 8 _ rfl; have l8 : w5.cell? ⟨w.heap.size + 1, 8, none⟩ = some (.slice K'.r1.P K'.r1.l.length K'.r1.c) := atV kb4 8 _ rfl; have g9 : w5.cell? ⟨w.heap.size, 9, none⟩ = some (.slice K.r2.P K.r2.l.length K.r2.c) := atV ka4 9 _ rfl; have l9 : w5.cell? ⟨w.heap.size + 1, 9, none⟩ = some (.slice K'.r2.P K'.r2.l.length K'.r2.c) := atV kb4 9 _ rfl; have g10 : w5.cell? ⟨w.heap.size, 10, none⟩ = some (.slice K.r3.P K.r3.l.length K.r3.c) := atV ka4 10 _ rfl; have l10 : w5.cell? ⟨w.heap.size + 1, 10, none⟩ = some (.slice K'.r3.P K'.r3.l.length K'.r3.c) := atV kb4 10 _ rfl; have g11 : w5.cell? ⟨w.heap.size, 11, none⟩ = some (.slice K.r4.P K.r4.l.length K.r4.c) := atV ka4 11 _ rfl; have l11 : w5.cell? ⟨w.heap.size + 1, 11, none⟩ = some (.slice K'.r4.P K'.r4.l.length K'.r4.c) := atV kb4 11 _ rfl; have g12 : w5.cell? ⟨w.heap.size, 12, none⟩ = some (.slice K.r5.P K.r5.l.length K.r5.c) := atV ka4 12 _ rfl; have l12 : w5.cell? ⟨w.heap.size + 1, 12, none⟩ = some (.slice K'.r5.P K'.r5.l.length K'.r5.c) := atV kb4 12 _ rfl; have g13 : w5.cell? ⟨w.heap.size, 13, none⟩ = some (.slice K.r6.P K.r6.l.length K.r6.c) := atV ka4 13 _ rfl; have l13 : w5.cell? ⟨w.heap.size + 1, 13, none⟩ = some (.slice K'.r6.P K'.r6.l.length K'.r6.c) := atV kb4 13 _ rfl; have g14 : w5.cell? ⟨w.heap.size, 14, none⟩ = some (.slice K.r7.P K.r7.l.length K.r7.c) := atV ka4 14 _ rfl; have l14 : w5.cell? ⟨w.heap.size + 1, 14, none⟩ = some (.slice K'.r7.P K'.r7.l.length K'.r7.c) := atV kb4 14 _ rfl))
                have ka := ka4
                have kb := kb4
                have bW := bW.trans (hb.mono bW.size)
                clear hb HC ka4 kb4
                cases x5 : decide ([K.r0, K.r1, K.r2, K.r3, K.r4, K.r5, K.r6, K.r7].map QR.l = [K'.r0, K'.r1, K'.r2, K'.r3, K'.r4, K'.r5, K'.r6, K'.r7].map QR.l)
                · have HC : Hid (Calls _ _ _ _ _) := sameQ_any K.r0 K.r1 K.r2 K.r3 K.r4 K.r5 K.r6 K.r7 K'.r0 K'.r1 K'.r2 K'.r3 K'.r4 K'.r5 K'.r6 K'.r7 w5 hs.r hs'.r (hK.r.below bW) (hK'.r.below bW)
                  rw [x5] at HC
                  have X5 : Hid _ := x5
                  clear x5
                  go_wp2_with ((go_at_call 31; refine Calls.mono HC.out ?_; rintro r w6 ⟨rfl, hb⟩))
                  go_ret
                  exact ⟨ret_bool (decide_eq_false (fun e => of_decide_eq_false X5.out (congrArg (fun p => p.2.2.2.2.2.2) e))).symm, bW.trans (hb.mono bW.size)⟩
                · have HC : Hid (Calls _ _ _ _ _) := sameQ_any K.r0 K.r1 K.r2 K.r3 K.r4 K.r5 K.r6 K.r7 K'.r0 K'.r1 K'.r2 K'.r3 K'.r4 K'.r5 K'.r6 K'.r7 w5 hs.r hs'.r (hK.r.below bW) (hK'.r.below bW)
                  rw [x5] at HC
                  have X5 : Hid _ := x5
                  clear x5
                  go_wp2_with ((go_at_call 31; refine Calls.mono HC.out ?_; rintro r w6 ⟨rfl, hb⟩))
                  go_ret
                  exact ⟨ret_bool (decide_eq_true (by unfold QK.pl; rw [of_beqE y1.out, of_beqE y2.out, of_decide_eq_true X0.out, of_decide_eq_true X1.out, of_decide_eq_true X2.out, of_decide_eq_true X3.out, of_decide_eq_true X4.out, of_decide_eq_true X5.out])).symm, bW.trans (hb.mono bW.size)⟩

end Go.Proofs.Ytoahhhmagcnjbab
