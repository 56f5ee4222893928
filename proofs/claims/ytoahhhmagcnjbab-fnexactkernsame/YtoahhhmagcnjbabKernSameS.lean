/-
  Two states, compared by the specification.
-/
import Derived.Test.YtoahhhmagcnjbabKernSameI
import Derived.Test.YtoahhhmagcnjbabQuietFast
import Derived.Laws.ResultCell
namespace Go.Proofs.Ytoahhhmagcnjbab
open Go.ChangeShapes Go.WideShapes Go.ChangeAt Go.RowKit
set_option linter.unusedVariables false

/-- What stands all along: both states in their boxes, what was there as it was. -/
structure Both (w : World) (K K' : QK) (W : World) : Prop where
  a : LiesG fV W (some ⟨w.heap.size, 0, none⟩) [.int .i64 K.bits, .int .i64 K.ticks, .slice K.sP K.sl.length K.sc, .slice K.tP K.tl.length K.tc, .slice K.eP K.el.length K.ec, .slice K.nP K.nl.length K.nc, .slice K.fP K.fl.length K.fc, .slice K.r0.P K.r0.l.length K.r0.c, .slice K.r1.P K.r1.l.length K.r1.c, .slice K.r2.P K.r2.l.length K.r2.c, .slice K.r3.P K.r3.l.length K.r3.c, .slice K.r4.P K.r4.l.length K.r4.c, .slice K.r5.P K.r5.l.length K.r5.c, .slice K.r6.P K.r6.l.length K.r6.c, .slice K.r7.P K.r7.l.length K.r7.c]
  b : LiesG fV W (some ⟨w.heap.size + 1, 0, none⟩) [.int .i64 K'.bits, .int .i64 K'.ticks, .slice K'.sP K'.sl.length K'.sc, .slice K'.tP K'.tl.length K'.tc, .slice K'.eP K'.el.length K'.ec, .slice K'.nP K'.nl.length K'.nc, .slice K'.fP K'.fl.length K'.fc, .slice K'.r0.P K'.r0.l.length K'.r0.c, .slice K'.r1.P K'.r1.l.length K'.r1.c, .slice K'.r2.P K'.r2.l.length K'.r2.c, .slice K'.r3.P K'.r3.l.length K'.r3.c, .slice K'.r4.P K'.r4.l.length K'.r4.c, .slice K'.r5.P K'.r5.l.length K'.r5.c, .slice K'.r6.P K'.r6.l.length K'.r6.c, .slice K'.r7.P K'.r7.l.length K'.r7.c]
  w : Below w.heap.size w W
theorem Both.below {w W W' : World} {K K' : QK} (h : Both w K K' W) (hb : Below W.heap.size W W') : Both w K K' W' := ⟨h.a.below hb, h.b.below hb, h.w.trans (hb.mono h.w.size)⟩

/-- Between two rounds. -/
def kInv {α : Type} (w : World) (K K' : QK) (L M : List α) (i : Value) (W : World) : Prop :=
  ∃ k : Nat, k ≤ L.length ∧ i = .int .i64 k ∧ sameTo L M k ∧ Both w K K' W

set_option maxRecDepth 100000 in
set_option maxHeartbeats 400000000 in
theorem sameK_spec (K K' : QK) (w : World) (hs : K.Short) (hs' : K'.Short) (hK : KernIn w K) (hK' : KernIn w K') :
    Calls Try.prog 5 #[.agg #[.int .i64 K.bits, .int .i64 K.ticks, .slice K.sP K.sl.length K.sc, .slice K.tP K.tl.length K.tc, .slice K.eP K.el.length K.ec, .slice K.nP K.nl.length K.nc, .slice K.fP K.fl.length K.fc, .slice K.r0.P K.r0.l.length K.r0.c, .slice K.r1.P K.r1.l.length K.r1.c, .slice K.r2.P K.r2.l.length K.r2.c, .slice K.r3.P K.r3.l.length K.r3.c, .slice K.r4.P K.r4.l.length K.r4.c, .slice K.r5.P K.r5.l.length K.r5.c, .slice K.r6.P K.r6.l.length K.r6.c, .slice K.r7.P K.r7.l.length K.r7.c], .agg #[.int .i64 K'.bits, .int .i64 K'.ticks, .slice K'.sP K'.sl.length K'.sc, .slice K'.tP K'.tl.length K'.tc, .slice K'.eP K'.el.length K'.ec, .slice K'.nP K'.nl.length K'.nc, .slice K'.fP K'.fl.length K'.fc, .slice K'.r0.P K'.r0.l.length K'.r0.c, .slice K'.r1.P K'.r1.l.length K'.r1.c, .slice K'.r2.P K'.r2.l.length K'.r2.c, .slice K'.r3.P K'.r3.l.length K'.r3.c, .slice K'.r4.P K'.r4.l.length K'.r4.c, .slice K'.r5.P K'.r5.l.length K'.r5.c, .slice K'.r6.P K'.r6.l.length K'.r6.c, .slice K'.r7.P K'.r7.l.length K'.r7.c]] w fun r w' => r = .returned (.bool (decide (K.pl = K'.pl))) ∧ Below w.heap.size w w' := by
  have bb : Both w K K' ((w.alloc (.cells #[.int .i64 K.bits, .int .i64 K.ticks, .slice K.sP K.sl.length K.sc, .slice K.tP K.tl.length K.tc, .slice K.eP K.el.length K.ec, .slice K.nP K.nl.length K.nc, .slice K.fP K.fl.length K.fc, .slice K.r0.P K.r0.l.length K.r0.c, .slice K.r1.P K.r1.l.length K.r1.c, .slice K.r2.P K.r2.l.length K.r2.c, .slice K.r3.P K.r3.l.length K.r3.c, .slice K.r4.P K.r4.l.length K.r4.c, .slice K.r5.P K.r5.l.length K.r5.c, .slice K.r6.P K.r6.l.length K.r6.c, .slice K.r7.P K.r7.l.length K.r7.c] 39)).alloc (.cells #[.int .i64 K'.bits, .int .i64 K'.ticks, .slice K'.sP K'.sl.length K'.sc, .slice K'.tP K'.tl.length K'.tc, .slice K'.eP K'.el.length K'.ec, .slice K'.nP K'.nl.length K'.nc, .slice K'.fP K'.fl.length K'.fc, .slice K'.r0.P K'.r0.l.length K'.r0.c, .slice K'.r1.P K'.r1.l.length K'.r1.c, .slice K'.r2.P K'.r2.l.length K'.r2.c, .slice K'.r3.P K'.r3.l.length K'.r3.c, .slice K'.r4.P K'.r4.l.length K'.r4.c, .slice K'.r5.P K'.r5.l.length K'.r5.c, .slice K'.r6.P K'.r6.l.length K'.r6.c, .slice K'.r7.P K'.r7.l.length K'.r7.c] 39)) := by
    have kb := boxL (w.alloc (.cells #[.int .i64 K.bits, .int .i64 K.ticks, .slice K.sP K.sl.length K.sc, .slice K.tP K.tl.length K.tc, .slice K.eP K.el.length K.ec, .slice K.nP K.nl.length K.nc, .slice K.fP K.fl.length K.fc, .slice K.r0.P K.r0.l.length K.r0.c, .slice K.r1.P K.r1.l.length K.r1.c, .slice K.r2.P K.r2.l.length K.r2.c, .slice K.r3.P K.r3.l.length K.r3.c, .slice K.r4.P K.r4.l.length K.r4.c, .slice K.r5.P K.r5.l.length K.r5.c, .slice K.r6.P K.r6.l.length K.r6.c, .slice K.r7.P K.r7.l.length K.r7.c] 39)) [.int .i64 K'.bits, .int .i64 K'.ticks, .slice K'.sP K'.sl.length K'.sc, .slice K'.tP K'.tl.length K'.tc, .slice K'.eP K'.el.length K'.ec, .slice K'.nP K'.nl.length K'.nc, .slice K'.fP K'.fl.length K'.fc, .slice K'.r0.P K'.r0.l.length K'.r0.c, .slice K'.r1.P K'.r1.l.length K'.r1.c, .slice K'.r2.P K'.r2.l.length K'.r2.c, .slice K'.r3.P K'.r3.l.length K'.r3.c, .slice K'.r4.P K'.r4.l.length K'.r4.c, .slice K'.r5.P K'.r5.l.length K'.r5.c, .slice K'.r6.P K'.r6.l.length K'.r6.c, .slice K'.r7.P K'.r7.l.length K'.r7.c] 39
    rw [World.size_alloc] at kb
    exact ⟨(boxL w [.int .i64 K.bits, .int .i64 K.ticks, .slice K.sP K.sl.length K.sc, .slice K.tP K.tl.length K.tc, .slice K.eP K.el.length K.ec, .slice K.nP K.nl.length K.nc, .slice K.fP K.fl.length K.fc, .slice K.r0.P K.r0.l.length K.r0.c, .slice K.r1.P K.r1.l.length K.r1.c, .slice K.r2.P K.r2.l.length K.r2.c, .slice K.r3.P K.r3.l.length K.r3.c, .slice K.r4.P K.r4.l.length K.r4.c, .slice K.r5.P K.r5.l.length K.r5.c, .slice K.r6.P K.r6.l.length K.r6.c, .slice K.r7.P K.r7.l.length K.r7.c] 39).below ((Below.refl _ _).alloc (Nat.le_refl _) (.cells #[.int .i64 K'.bits, .int .i64 K'.ticks, .slice K'.sP K'.sl.length K'.sc, .slice K'.tP K'.tl.length K'.tc, .slice K'.eP K'.el.length K'.ec, .slice K'.nP K'.nl.length K'.nc, .slice K'.fP K'.fl.length K'.fc, .slice K'.r0.P K'.r0.l.length K'.r0.c, .slice K'.r1.P K'.r1.l.length K'.r1.c, .slice K'.r2.P K'.r2.l.length K'.r2.c, .slice K'.r3.P K'.r3.l.length K'.r3.c, .slice K'.r4.P K'.r4.l.length K'.r4.c, .slice K'.r5.P K'.r5.l.length K'.r5.c, .slice K'.r6.P K'.r6.l.length K'.r6.c, .slice K'.r7.P K'.r7.l.length K'.r7.c] 39)), kb, (by repeat (first | exact Below.refl _ _ | (refine Below.setCell ?_ (by simp; try omega) _) | (refine Below.alloc ?_ (by simp; try omega) _)))⟩
  have HD : Hid (∀ {β : Type} [DecidableEq β] (f : (Int × Int) × KP1 → β), f K.pl ≠ f K'.pl → decide (K.pl = K'.pl) = false) := fun f h => decide_eq_false (fun e => h (congrArg f e))
  go_enter Try.func5, Try.ntmps5
  go_upto_region 1 with fail
  generalize hW0 : (w.alloc (.cells #[.int .i64 K.bits, .int .i64 K.ticks, .slice K.sP K.sl.length K.sc, .slice K.tP K.tl.length K.tc, .slice K.eP K.el.length K.ec, .slice K.nP K.nl.length K.nc, .slice K.fP K.fl.length K.fc, .slice K.r0.P K.r0.l.length K.r0.c, .slice K.r1.P K.r1.l.length K.r1.c, .slice K.r2.P K.r2.l.length K.r2.c, .slice K.r3.P K.r3.l.length K.r3.c, .slice K.r4.P K.r4.l.length K.r4.c, .slice K.r5.P K.r5.l.length K.r5.c, .slice K.r6.P K.r6.l.length K.r6.c, .slice K.r7.P K.r7.l.length K.r7.c] 39)).alloc (.cells #[.int .i64 K'.bits, .int .i64 K'.ticks, .slice K'.sP K'.sl.length K'.sc, .slice K'.tP K'.tl.length K'.tc, .slice K'.eP K'.el.length K'.ec, .slice K'.nP K'.nl.length K'.nc, .slice K'.fP K'.fl.length K'.fc, .slice K'.r0.P K'.r0.l.length K'.r0.c, .slice K'.r1.P K'.r1.l.length K'.r1.c, .slice K'.r2.P K'.r2.l.length K'.r2.c, .slice K'.r3.P K'.r3.l.length K'.r3.c, .slice K'.r4.P K'.r4.l.length K'.r4.c, .slice K'.r5.P K'.r5.l.length K'.r5.c, .slice K'.r6.P K'.r6.l.length K'.r6.c, .slice K'.r7.P K'.r7.l.length K'.r7.c] 39) = w0 at bb ⊢
  clear hW0
  have g0 : w0.cell? ⟨w.heap.size, 0, none⟩ = some (.int .i64 K.bits) := atV bb.a 0 _ rfl
  have l0 : w0.cell? ⟨w.heap.size + 1, 0, none⟩ = some (.int .i64 K'.bits) := atV bb.b 0 _ rfl
  have g1 : w0.cell? ⟨w.heap.size, 1, none⟩ = some (.int .i64 K.ticks) := atV bb.a 1 _ rfl
  have l1 : w0.cell? ⟨w.heap.size + 1, 1, none⟩ = some (.int .i64 K'.ticks) := atV bb.b 1 _ rfl
  have g2 : w0.cell? ⟨w.heap.size, 2, none⟩ = some (.slice K.sP K.sl.length K.sc) := atV bb.a 2 _ rfl
  have l2 : w0.cell? ⟨w.heap.size + 1, 2, none⟩ = some (.slice K'.sP K'.sl.length K'.sc) := atV bb.b 2 _ rfl
  have g3 : w0.cell? ⟨w.heap.size, 3, none⟩ = some (.slice K.tP K.tl.length K.tc) := atV bb.a 3 _ rfl
  have l3 : w0.cell? ⟨w.heap.size + 1, 3, none⟩ = some (.slice K'.tP K'.tl.length K'.tc) := atV bb.b 3 _ rfl
  have g4 : w0.cell? ⟨w.heap.size, 4, none⟩ = some (.slice K.eP K.el.length K.ec) := atV bb.a 4 _ rfl
  have l4 : w0.cell? ⟨w.heap.size + 1, 4, none⟩ = some (.slice K'.eP K'.el.length K'.ec) := atV bb.b 4 _ rfl
  have g5 : w0.cell? ⟨w.heap.size, 5, none⟩ = some (.slice K.nP K.nl.length K.nc) := atV bb.a 5 _ rfl
  have l5 : w0.cell? ⟨w.heap.size + 1, 5, none⟩ = some (.slice K'.nP K'.nl.length K'.nc) := atV bb.b 5 _ rfl
  have g6 : w0.cell? ⟨w.heap.size, 6, none⟩ = some (.slice K.fP K.fl.length K.fc) := atV bb.a 6 _ rfl
  have l6 : w0.cell? ⟨w.heap.size + 1, 6, none⟩ = some (.slice K'.fP K'.fl.length K'.fc) := atV bb.b 6 _ rfl
  cases y0 : (K.bits == K'.bits)
  · as_aux_lemma =>
      have n0 : (K.bits != K'.bits) = true := by rw [bne, y0]; rfl
      have m0 : ¬ K.bits = K'.bits := by simpa using y0
      go_wp2
      go_ret
      exact ⟨ret_bool (HD.out (fun p => p.1.1) (by simp [QK.pl]; simpa using y0)).symm, bb.w⟩
  · have n0 : (K.bits != K'.bits) = false := by rw [bne, y0]; rfl
    cases y1 : (K.ticks == K'.ticks)
    · as_aux_lemma =>
        have n1 : (K.ticks != K'.ticks) = true := by rw [bne, y1]; rfl
        have m1 : ¬ K.ticks = K'.ticks := by simpa using y1
        go_wp2
        go_ret
        exact ⟨ret_bool (HD.out (fun p => p.1.2) (by simp [QK.pl]; simpa using y1)).symm, bb.w⟩
    · have n1 : (K.ticks != K'.ticks) = false := by rw [bne, y1]; rfl
      cases y2 : ((K.sl.length : Int) == (K'.sl.length : Int))
      · as_aux_lemma =>
          have n2 : ((K.sl.length : Int) != (K'.sl.length : Int)) = true := by rw [bne, y2]; rfl
          have m2 : ¬ (K.sl.length : Int) = (K'.sl.length : Int) := by simpa using y2
          go_wp2
          go_ret
          exact ⟨ret_bool (HD.out (fun p => p.2.1) (by intro e; have := congrArg List.length e; simp [QK.pl] at this; simp [this] at y2)).symm, bb.w⟩
      · have n2 : ((K.sl.length : Int) != (K'.sl.length : Int)) = false := by rw [bne, y2]; rfl
        cases y3 : ((K.tl.length : Int) == (K'.tl.length : Int))
        · as_aux_lemma =>
            have n3 : ((K.tl.length : Int) != (K'.tl.length : Int)) = true := by rw [bne, y3]; rfl
            have m3 : ¬ (K.tl.length : Int) = (K'.tl.length : Int) := by simpa using y3
            go_wp2
            go_ret
            exact ⟨ret_bool (HD.out (fun p => p.2.2.1) (by intro e; have := congrArg List.length e; simp [QK.pl] at this; simp [this] at y3)).symm, bb.w⟩
        · have n3 : ((K.tl.length : Int) != (K'.tl.length : Int)) = false := by rw [bne, y3]; rfl
          cases y4 : ((K.el.length : Int) == (K'.el.length : Int))
          · as_aux_lemma =>
              have n4 : ((K.el.length : Int) != (K'.el.length : Int)) = true := by rw [bne, y4]; rfl
              have m4 : ¬ (K.el.length : Int) = (K'.el.length : Int) := by simpa using y4
              go_wp2
              go_ret
              exact ⟨ret_bool (HD.out (fun p => p.2.2.2.1) (by intro e; have := congrArg List.length e; simp [QK.pl] at this; simp [this] at y4)).symm, bb.w⟩
          · have n4 : ((K.el.length : Int) != (K'.el.length : Int)) = false := by rw [bne, y4]; rfl
            cases y5 : ((K.nl.length : Int) == (K'.nl.length : Int))
            · as_aux_lemma =>
                have n5 : ((K.nl.length : Int) != (K'.nl.length : Int)) = true := by rw [bne, y5]; rfl
                have m5 : ¬ (K.nl.length : Int) = (K'.nl.length : Int) := by simpa using y5
                go_wp2
                go_ret
                exact ⟨ret_bool (HD.out (fun p => p.2.2.2.2.1) (by intro e; have := congrArg List.length e; simp [QK.pl] at this; simp [this] at y5)).symm, bb.w⟩
            · have n5 : ((K.nl.length : Int) != (K'.nl.length : Int)) = false := by rw [bne, y5]; rfl
              cases y6 : ((K.fl.length : Int) == (K'.fl.length : Int))
              · as_aux_lemma =>
                  have n6 : ((K.fl.length : Int) != (K'.fl.length : Int)) = true := by rw [bne, y6]; rfl
                  have m6 : ¬ (K.fl.length : Int) = (K'.fl.length : Int) := by simpa using y6
                  go_wp2
                  go_ret
                  exact ⟨ret_bool (HD.out (fun p => p.2.2.2.2.2.1) (by intro e; have := congrArg List.length e; simp [QK.pl] at this; simp [this] at y6)).symm, bb.w⟩
              · have n6 : ((K.fl.length : Int) != (K'.fl.length : Int)) = false := by rw [bne, y6]; rfl
                have Y0 : Hid _ := y0
                have Y1 : Hid _ := y1
                have Y2 : Hid _ := y2
                have Y3 : Hid _ := y3
                have Y4 : Hid _ := y4
                have Y5 : Hid _ := y5
                have Y6 : Hid _ := y6
                have ns : K.sl.length = K'.sl.length := by have := Y2.out; simp at this; omega
                have nt : K.tl.length = K'.tl.length := by have := Y3.out; simp at this; omega
                have ne : K.el.length = K'.el.length := by have := Y4.out; simp at this; omega
                have nn : K.nl.length = K'.nl.length := by have := Y5.out; simp at this; omega
                have nf : K.fl.length = K'.fl.length := by have := Y6.out; simp at this; omega
                have Ns : Hid _ := ns
                have Nt : Hid _ := nt
                have Ne : Hid _ := ne
                have Nn : Hid _ := nn
                have Nf : Hid _ := nf
                clear ns nt ne nn nf
                go_wp2
                clear y0 n0 y1 n1 y2 n2 y3 n3 y4 n4 y5 n5 y6 n6
                go_loopw [5] (fun i w' => kInv w K K' (K.sl) (K'.sl) i w') (fun i w' => K.sl.length - (intOf i).toNat)
                case atStart => exact ⟨0, Nat.zero_le _, rfl, rfl, bb⟩
                case round =>
                  clear g0 l0 g1 l1 g2 l2 g3 l3 g4 l4 g5 l5 g6 l6 bb
                  obtain ⟨k, hk, rfl, hsm, bb⟩ := hrel
                  have g2 : wr.cell? ⟨w.heap.size, 2, none⟩ = some (.slice K.sP K.sl.length K.sc) := atV bb.a 2 _ rfl
                  have l2 : wr.cell? ⟨w.heap.size + 1, 2, none⟩ = some (.slice K'.sP K'.sl.length K'.sc) := atV bb.b 2 _ rfl
                  by_cases hlt : k < K.sl.length
                  · have hle : K.sl.length ≤ 1048576 := hs.s
                    have hlt2 : k < K'.sl.length := by have := Ns.out; omega
                    have hP1 := hK.s.below bb.w
                    have hQ1 := hK'.s.below bb.w
                    obtain ⟨B, O, eB⟩ := hP1.some hlt
                    obtain ⟨B2, O2, eB2⟩ := hQ1.some hlt2
                    rw [eB] at hP1 g2
                    rw [eB2] at hQ1 l2
                    clear eB eB2
                    have hk1 : (k : Int) < (K.sl.length : Int) := by omega
                    have hk2 : (k : Int) < (K'.sl.length : Int) := by omega
                    have cc := hP1.cells B O rfl k hlt
                    have dd := hQ1.cells B2 O2 rfl k hlt2
                    generalize hx : K.sl[k] = x at cc
                    generalize hy : K'.sl[k] = y at dd
                    have HX : Hid _ := hx
                    have HY : Hid _ := hy
                    clear hx hy
                    obtain ⟨c0, c1, c2, c3, c4, c5, c6, c7, c8, c9, c10⟩ := cc
                    obtain ⟨d0, d1, d2, d3, d4, d5, d6, d7, d8, d9, d10⟩ := dd
                    have p0 := cell_regrown c0
                    have o0 := cell_regrown d0
                    have p1 := cell_regrown c1
                    have o1 := cell_regrown d1
                    have p2 := cell_regrown c2
                    have o2 := cell_regrown d2
                    have p3 := cell_regrown c3
                    have o3 := cell_regrown d3
                    have p4 := cell_regrown c4
                    have o4 := cell_regrown d4
                    have p5 := cell_regrown c5
                    have o5 := cell_regrown d5
                    have p6 := cell_regrown c6
                    have o6 := cell_regrown d6
                    have p7 := cell_regrown c7
                    have o7 := cell_regrown d7
                    have p8 := cell_regrown c8
                    have o8 := cell_regrown d8
                    have p9 := cell_regrown c9
                    have o9 := cell_regrown d9
                    have p10 := cell_regrown c10
                    have o10 := cell_regrown d10
                    have pg := cell_regrown g2
                    have ol := cell_regrown l2
                    have hne := neqS_run x y
                    cases he : decide (x = y)
                    · as_aux_lemma =>
                        rw [he] at hne
                        have HE : Hid _ := he
                        clear he
                        simp only [Bool.not_false] at hne
                        go_upto_region 6 with fail
                        refine wq_region (by kernel_rfl) (by kernel_rfl) ?_
                        repeat (first | (refine wq_step (fun K hK => ?_); go_simp; first | (refine hK _ ?_; clear hK K) | (apply Exists.intro; refine ⟨fun _ => ?_, hK _ ?_⟩; fail; clear hK K)))
                        refine wq_nil ?_
                        intro _ hw'
                        obtain ⟨⟨dq, osq⟩, hw''⟩ := hw'
                        subst hw''
                        go_wp2
                        go_ret
                        exact ⟨ret_bool (HD.out (fun p => p.2.1) (show K.sl ≠ K'.sl from ne_at hlt hlt2 (by rw [HX.out, HY.out]; simpa using HE.out))).symm, (bb.below (below_regrown wr dq osq)).w⟩
                    · as_aux_lemma =>
                        rw [he] at hne
                        have HE : Hid _ := he
                        clear he
                        simp only [Bool.not_true] at hne
                        go_upto_region 6 with fail
                        refine wq_region (by kernel_rfl) (by kernel_rfl) ?_
                        repeat (first | (refine wq_step (fun K hK => ?_); go_simp; first | (refine hK _ ?_; clear hK K) | (apply Exists.intro; refine ⟨fun _ => ?_, hK _ ?_⟩; fail; clear hK K)))
                        refine wq_nil ?_
                        intro _ hw'
                        obtain ⟨⟨dq, osq⟩, hw''⟩ := hw'
                        subst hw''
                        go_wp2
                        go_roundw
                        case rel => exact ⟨k + 1, by omega, by go_num, sameTo_next hsm hlt hlt2 (by rw [HX.out, HY.out]; simpa using HE.out), bb.below (below_regrown wr dq osq)⟩
                        case measure => simp [intOf]; omega
                  · have hk1 : ¬ (k : Int) < (K.sl.length : Int) := by omega
                    have Es : Hid _ := sameTo_end hsm (by omega) Ns.out
                    clear hsm
                    have g3 : wr.cell? ⟨w.heap.size, 3, none⟩ = some (.slice K.tP K.tl.length K.tc) := atV bb.a 3 _ rfl
                    have l3 : wr.cell? ⟨w.heap.size + 1, 3, none⟩ = some (.slice K'.tP K'.tl.length K'.tc) := atV bb.b 3 _ rfl
                    go_wp2
                    go_loopw [6] (fun i w' => kInv w K K' (K.tl) (K'.tl) i w') (fun i w' => K.tl.length - (intOf i).toNat)
                    case atStart => exact ⟨0, Nat.zero_le _, rfl, rfl, bb⟩
                    case round =>
                      clear g2 l2 g3 l3 bb
                      obtain ⟨k, hk, rfl, hsm, bb⟩ := hrel
                      have g3 : wr.cell? ⟨w.heap.size, 3, none⟩ = some (.slice K.tP K.tl.length K.tc) := atV bb.a 3 _ rfl
                      have l3 : wr.cell? ⟨w.heap.size + 1, 3, none⟩ = some (.slice K'.tP K'.tl.length K'.tc) := atV bb.b 3 _ rfl
                      by_cases hlt : k < K.tl.length
                      · have hle : K.tl.length ≤ 1048576 := hs.t
                        have hlt2 : k < K'.tl.length := by have := Nt.out; omega
                        have hP1 := hK.t.below bb.w
                        have hQ1 := hK'.t.below bb.w
                        obtain ⟨B, O, eB⟩ := hP1.has hlt
                        obtain ⟨B2, O2, eB2⟩ := hQ1.has hlt2
                        rw [eB] at hP1 g3
                        rw [eB2] at hQ1 l3
                        clear eB eB2
                        have hk1 : (k : Int) < (K.tl.length : Int) := by omega
                        have hk2 : (k : Int) < (K'.tl.length : Int) := by omega
                        have cc := atT hP1 hlt
                        have dd := atT hQ1 hlt2
                        generalize hx : K.tl[k] = x at cc
                        generalize hy : K'.tl[k] = y at dd
                        have HX : Hid _ := hx
                        have HY : Hid _ := hy
                        clear hx hy
                        obtain ⟨c0, c1, c2, c3, c4, c5, c6, c7, c8, c9, c10, c11, c12, c13, c14⟩ := cc
                        obtain ⟨d0, d1, d2, d3, d4, d5, d6, d7, d8, d9, d10, d11, d12, d13, d14⟩ := dd
                        have p0 := cell_regrown c0
                        have o0 := cell_regrown d0
                        have p1 := cell_regrown c1
                        have o1 := cell_regrown d1
                        have p2 := cell_regrown c2
                        have o2 := cell_regrown d2
                        have p3 := cell_regrown c3
                        have o3 := cell_regrown d3
                        have p4 := cell_regrown c4
                        have o4 := cell_regrown d4
                        have p5 := cell_regrown c5
                        have o5 := cell_regrown d5
                        have p6 := cell_regrown c6
                        have o6 := cell_regrown d6
                        have p7 := cell_regrown c7
                        have o7 := cell_regrown d7
                        have p8 := cell_regrown c8
                        have o8 := cell_regrown d8
                        have p9 := cell_regrown c9
                        have o9 := cell_regrown d9
                        have p10 := cell_regrown c10
                        have o10 := cell_regrown d10
                        have p11 := cell_regrown c11
                        have o11 := cell_regrown d11
                        have p12 := cell_regrown c12
                        have o12 := cell_regrown d12
                        have p13 := cell_regrown c13
                        have o13 := cell_regrown d13
                        have p14 := cell_regrown c14
                        have o14 := cell_regrown d14
                        have pg := cell_regrown g3
                        have ol := cell_regrown l3
                        have hne := neqT_run x y
                        cases he : decide (x = y)
                        · as_aux_lemma =>
                            rw [he] at hne
                            have HE : Hid _ := he
                            clear he
                            simp only [Bool.not_false] at hne
                            go_upto_region 11 with fail
                            refine wq_region (by kernel_rfl) (by kernel_rfl) ?_
                            repeat (first | (refine wq_step (fun K hK => ?_); go_simp; first | (refine hK _ ?_; clear hK K) | (apply Exists.intro; refine ⟨fun _ => ?_, hK _ ?_⟩; fail; clear hK K)))
                            refine wq_nil ?_
                            intro _ hw'
                            obtain ⟨⟨dq, osq⟩, hw''⟩ := hw'
                            subst hw''
                            go_wp2
                            go_ret
                            exact ⟨ret_bool (HD.out (fun p => p.2.2.1) (show K.tl ≠ K'.tl from ne_at hlt hlt2 (by rw [HX.out, HY.out]; simpa using HE.out))).symm, (bb.below (below_regrown wr dq osq)).w⟩
                        · as_aux_lemma =>
                            rw [he] at hne
                            have HE : Hid _ := he
                            clear he
                            simp only [Bool.not_true] at hne
                            go_upto_region 11 with fail
                            refine wq_region (by kernel_rfl) (by kernel_rfl) ?_
                            repeat (first | (refine wq_step (fun K hK => ?_); go_simp; first | (refine hK _ ?_; clear hK K) | (apply Exists.intro; refine ⟨fun _ => ?_, hK _ ?_⟩; fail; clear hK K)))
                            refine wq_nil ?_
                            intro _ hw'
                            obtain ⟨⟨dq, osq⟩, hw''⟩ := hw'
                            subst hw''
                            go_wp2
                            go_roundw
                            case rel => exact ⟨k + 1, by omega, by go_num, sameTo_next hsm hlt hlt2 (by rw [HX.out, HY.out]; simpa using HE.out), bb.below (below_regrown wr dq osq)⟩
                            case measure => simp [intOf]; omega
                      · have hk1 : ¬ (k : Int) < (K.tl.length : Int) := by omega
                        have Et : Hid _ := sameTo_end hsm (by omega) Nt.out
                        clear hsm
                        have g4 : wr.cell? ⟨w.heap.size, 4, none⟩ = some (.slice K.eP K.el.length K.ec) := atV bb.a 4 _ rfl
                        have l4 : wr.cell? ⟨w.heap.size + 1, 4, none⟩ = some (.slice K'.eP K'.el.length K'.ec) := atV bb.b 4 _ rfl
                        go_wp2
                        go_loopw [7] (fun i w' => kInv w K K' (K.el.map QE.pl) (K'.el.map QE.pl) i w') (fun i w' => K.el.length - (intOf i).toNat)
                        case atStart => exact ⟨0, Nat.zero_le _, rfl, rfl, bb⟩
                        case round =>
                          clear g3 l3 g4 l4 bb
                          obtain ⟨k, hk, rfl, hsm, bb⟩ := hrel
                          have g4 : wr.cell? ⟨w.heap.size, 4, none⟩ = some (.slice K.eP K.el.length K.ec) := atV bb.a 4 _ rfl
                          have l4 : wr.cell? ⟨w.heap.size + 1, 4, none⟩ = some (.slice K'.eP K'.el.length K'.ec) := atV bb.b 4 _ rfl
                          by_cases hlt : k < K.el.length
                          · have hle : K.el.length ≤ 1048576 := hs.e
                            have hlt2 : k < K'.el.length := by have := Ne.out; omega
                            have hP1 := hK.e.below bb.w
                            have hQ1 := hK'.e.below bb.w
                            obtain ⟨B, O, eB⟩ := hP1.has hlt
                            obtain ⟨B2, O2, eB2⟩ := hQ1.has hlt2
                            rw [eB] at hP1 g4
                            rw [eB2] at hQ1 l4
                            clear eB eB2
                            have hk1 : (k : Int) < (K.el.length : Int) := by omega
                            have hk2 : (k : Int) < (K'.el.length : Int) := by omega
                            have cc := atE hP1 hlt
                            have dd := atE hQ1 hlt2
                            have r1 := (hK.ei K.el[k] (List.getElem_mem hlt)).below bb.w
                            have r2 := (hK'.ei K'.el[k] (List.getElem_mem hlt2)).below bb.w
                            have q1 := hs.ei K.el[k] (List.getElem_mem hlt)
                            have q2 := hs'.ei K'.el[k] (List.getElem_mem hlt2)
                            generalize hx : K.el[k] = x at cc r1 q1
                            generalize hy : K'.el[k] = y at dd r2 q2
                            have HX : Hid _ := hx
                            have HY : Hid _ := hy
                            clear hx hy
                            obtain ⟨c0, c1, c2⟩ := cc
                            obtain ⟨d0, d1, d2⟩ := dd
                            have p0 := cell_regrown c0
                            have o0 := cell_regrown d0
                            have p1 := cell_regrown c1
                            have o1 := cell_regrown d1
                            have p2 := cell_regrown c2
                            have o2 := cell_regrown d2
                            have pg := cell_regrown g4
                            have ol := cell_regrown l4
                            cases z0 : (x.ad == y.ad)
                            · as_aux_lemma =>
                                have Z0 : Hid _ := z0
                                have nz0 : (x.ad != y.ad) = true := by rw [bne, z0]; rfl
                                have mz0 : ¬ x.ad = y.ad := by simpa using z0
                                go_upto_region 16 with fail
                                refine wq_region (by kernel_rfl) (by kernel_rfl) ?_
                                repeat (first | (refine wq_step (fun K hK => ?_); go_simp; first | (refine hK _ ?_; clear hK K) | (apply Exists.intro; refine ⟨fun _ => ?_, hK _ ?_⟩; fail; clear hK K)))
                                refine wq_nil ?_
                                intro _ hw'
                                obtain ⟨⟨dq, osq⟩, hw''⟩ := hw'
                                subst hw''
                                go_wp2
                                go_ret
                                exact ⟨ret_bool (HD.out (fun p => p.2.2.2.1) (show K.el.map QE.pl ≠ K'.el.map QE.pl from pl_neE hlt hlt2 (by rw [HX.out, HY.out]; intro e; have := Z0.out; simp [QE.pl] at e; simp [e] at this))).symm, (bb.below (below_regrown wr dq osq)).w⟩
                            · have Z0 : Hid _ := z0
                              have nz0 : (x.ad != y.ad) = false := by rw [bne, z0]; rfl
                              cases z1 : (x.kd == y.kd)
                              · as_aux_lemma =>
                                  have Z1 : Hid _ := z1
                                  have nz1 : (x.kd != y.kd) = true := by rw [bne, z1]; rfl
                                  have mz1 : ¬ x.kd = y.kd := by simpa using z1
                                  go_upto_region 16 with fail
                                  refine wq_region (by kernel_rfl) (by kernel_rfl) ?_
                                  repeat (first | (refine wq_step (fun K hK => ?_); go_simp; first | (refine hK _ ?_; clear hK K) | (apply Exists.intro; refine ⟨fun _ => ?_, hK _ ?_⟩; fail; clear hK K)))
                                  refine wq_nil ?_
                                  intro _ hw'
                                  obtain ⟨⟨dq, osq⟩, hw''⟩ := hw'
                                  subst hw''
                                  go_wp2
                                  go_ret
                                  exact ⟨ret_bool (HD.out (fun p => p.2.2.2.1) (show K.el.map QE.pl ≠ K'.el.map QE.pl from pl_neE hlt hlt2 (by rw [HX.out, HY.out]; intro e; have := Z1.out; simp [QE.pl] at e; simp [e] at this))).symm, (bb.below (below_regrown wr dq osq)).w⟩
                              · have Z1 : Hid _ := z1
                                have nz1 : (x.kd != y.kd) = false := by rw [bne, z1]; rfl
                                cases he : decide (x.l = y.l)
                                · as_aux_lemma =>
                                    have HC : Hid _ := (fun W (hb : Below wr.heap.size wr W) => he ▸ eqI_spec x.P y.P x.c y.c x.l y.l W q1 q2 (r1.below hb) (r2.below hb))
                                    have HE : Hid _ := he
                                    clear he
                                    go_upto_region 16 with fail
                                    refine wq_region (by kernel_rfl) (by kernel_rfl) ?_
                                    repeat (first | (refine wq_step (fun K hK => ?_); go_simp; first | (refine hK _ ?_; clear hK K) | (apply Exists.intro; refine ⟨fun _ => ?_, hK _ ?_⟩; (go_at_call 15; exact Calls.regrown_of (HC.out _ (below_regrown _ _ _))); clear hK K)))
                                    refine wq_nil ?_
                                    intro _ hw'
                                    obtain ⟨⟨dq, osq⟩, hw''⟩ := hw'
                                    subst hw''
                                    go_wp2
                                    go_ret
                                    exact ⟨ret_bool (HD.out (fun p => p.2.2.2.1) (show K.el.map QE.pl ≠ K'.el.map QE.pl from pl_neE hlt hlt2 (by rw [HX.out, HY.out]; intro e; have := of_decide_eq_false HE.out; simp [QE.pl] at e; exact this (by simp [e])))).symm, (bb.below (below_regrown wr dq osq)).w⟩
                                · as_aux_lemma =>
                                    have HC : Hid _ := (fun W (hb : Below wr.heap.size wr W) => he ▸ eqI_spec x.P y.P x.c y.c x.l y.l W q1 q2 (r1.below hb) (r2.below hb))
                                    have HE : Hid _ := he
                                    clear he
                                    go_upto_region 16 with fail
                                    refine wq_region (by kernel_rfl) (by kernel_rfl) ?_
                                    repeat (first | (refine wq_step (fun K hK => ?_); go_simp; first | (refine hK _ ?_; clear hK K) | (apply Exists.intro; refine ⟨fun _ => ?_, hK _ ?_⟩; (go_at_call 15; exact Calls.regrown_of (HC.out _ (below_regrown _ _ _))); clear hK K)))
                                    refine wq_nil ?_
                                    intro _ hw'
                                    obtain ⟨⟨dq, osq⟩, hw''⟩ := hw'
                                    subst hw''
                                    go_wp2
                                    go_roundw
                                    case rel => exact ⟨k + 1, by simp; omega, by go_num, pl_nextE hsm hlt hlt2 (by rw [HX.out, HY.out]; unfold QE.pl; rw [of_beqE Z0.out, of_beqE Z1.out, of_decide_eq_true HE.out]), (bb.below (below_regrown wr dq osq))⟩
                                    case measure => simp [intOf]; omega
                          · have hk1 : ¬ (k : Int) < (K.el.length : Int) := by omega
                            have Ee : Hid _ := sameTo_end hsm (by simpa using hlt) (by simpa using Ne.out)
                            clear hsm
                            have g5 : wr.cell? ⟨w.heap.size, 5, none⟩ = some (.slice K.nP K.nl.length K.nc) := atV bb.a 5 _ rfl
                            have l5 : wr.cell? ⟨w.heap.size + 1, 5, none⟩ = some (.slice K'.nP K'.nl.length K'.nc) := atV bb.b 5 _ rfl
                            go_wp2
                            go_loopw [8] (fun i w' => kInv w K K' (K.nl.map QN.pl) (K'.nl.map QN.pl) i w') (fun i w' => K.nl.length - (intOf i).toNat)
                            case atStart => exact ⟨0, Nat.zero_le _, rfl, rfl, bb⟩
                            case round =>
                              clear g4 l4 g5 l5 bb
                              obtain ⟨k, hk, rfl, hsm, bb⟩ := hrel
                              have g5 : wr.cell? ⟨w.heap.size, 5, none⟩ = some (.slice K.nP K.nl.length K.nc) := atV bb.a 5 _ rfl
                              have l5 : wr.cell? ⟨w.heap.size + 1, 5, none⟩ = some (.slice K'.nP K'.nl.length K'.nc) := atV bb.b 5 _ rfl
                              by_cases hlt : k < K.nl.length
                              · have hle : K.nl.length ≤ 1048576 := hs.n
                                have hlt2 : k < K'.nl.length := by have := Nn.out; omega
                                have hP1 := hK.n.below bb.w
                                have hQ1 := hK'.n.below bb.w
                                obtain ⟨B, O, eB⟩ := hP1.has hlt
                                obtain ⟨B2, O2, eB2⟩ := hQ1.has hlt2
                                rw [eB] at hP1 g5
                                rw [eB2] at hQ1 l5
                                clear eB eB2
                                have hk1 : (k : Int) < (K.nl.length : Int) := by omega
                                have hk2 : (k : Int) < (K'.nl.length : Int) := by omega
                                have cc := atN hP1 hlt
                                have dd := atN hQ1 hlt2
                                have r1 := (hK.ni K.nl[k] (List.getElem_mem hlt)).below bb.w
                                have r2 := (hK'.ni K'.nl[k] (List.getElem_mem hlt2)).below bb.w
                                have q1 := hs.ni K.nl[k] (List.getElem_mem hlt)
                                have q2 := hs'.ni K'.nl[k] (List.getElem_mem hlt2)
                                generalize hx : K.nl[k] = x at cc r1 q1
                                generalize hy : K'.nl[k] = y at dd r2 q2
                                have HX : Hid _ := hx
                                have HY : Hid _ := hy
                                clear hx hy
                                obtain ⟨c0, c1, c2, c3⟩ := cc
                                obtain ⟨d0, d1, d2, d3⟩ := dd
                                have hb1 := hP1.lt hlt
                                have hb2 := hQ1.lt hlt2
                                have hne1 : ¬ B = wr.heap.size := by omega
                                have hne2 : ¬ B2 = wr.heap.size := by omega
                                have hne3 : ¬ B2 = wr.heap.size + 1 := by omega
                                have hne4 : ¬ w.heap.size + 1 = wr.heap.size := by have := bb.b.lt (i := 0) (by simp); omega
                                have hz9 : w.heap.size + 1 < wr.heap.size := bb.b.lt (i := 0) (by simp)
                                cases z0 : (x.ad == y.ad)
                                · as_aux_lemma =>
                                    have Z0 : Hid _ := z0
                                    have nz0 : (x.ad != y.ad) = true := by rw [bne, z0]; rfl
                                    have mz0 : ¬ x.ad = y.ad := by simpa using z0
                                    go_wp2
                                    go_ret
                                    exact ⟨ret_bool (HD.out (fun p => p.2.2.2.2.1) (show K.nl.map QN.pl ≠ K'.nl.map QN.pl from pl_neN hlt hlt2 (by rw [HX.out, HY.out]; intro e; have := Z0.out; simp [QN.pl] at e; simp [e] at this))).symm, (bb.below (by repeat (first | exact Below.refl _ _ | (refine Below.setCell ?_ (by simp; try omega) _) | (refine Below.alloc ?_ (by simp; try omega) _)))).w⟩
                                · have Z0 : Hid _ := z0
                                  have nz0 : (x.ad != y.ad) = false := by rw [bne, z0]; rfl
                                  cases z1 : (x.ac == y.ac)
                                  · as_aux_lemma =>
                                      have Z1 : Hid _ := z1
                                      have nz1 : (x.ac != y.ac) = true := by rw [bne, z1]; rfl
                                      have mz1 : ¬ x.ac = y.ac := by simpa using z1
                                      go_wp2
                                      go_ret
                                      exact ⟨ret_bool (HD.out (fun p => p.2.2.2.2.1) (show K.nl.map QN.pl ≠ K'.nl.map QN.pl from pl_neN hlt hlt2 (by rw [HX.out, HY.out]; intro e; have := Z1.out; simp [QN.pl] at e; simp [e] at this))).symm, (bb.below (by repeat (first | exact Below.refl _ _ | (refine Below.setCell ?_ (by simp; try omega) _) | (refine Below.alloc ?_ (by simp; try omega) _)))).w⟩
                                  · have Z1 : Hid _ := z1
                                    have nz1 : (x.ac != y.ac) = false := by rw [bne, z1]; rfl
                                    cases z2 : (x.wd == y.wd)
                                    · as_aux_lemma =>
                                        have Z2 : Hid _ := z2
                                        have nz2 : (x.wd != y.wd) = true := by rw [bne, z2]; rfl
                                        have mz2 : ¬ x.wd = y.wd := by simpa using z2
                                        go_wp2
                                        go_ret
                                        exact ⟨ret_bool (HD.out (fun p => p.2.2.2.2.1) (show K.nl.map QN.pl ≠ K'.nl.map QN.pl from pl_neN hlt hlt2 (by rw [HX.out, HY.out]; intro e; have := Z2.out; simp [QN.pl] at e; simp [e] at this))).symm, (bb.below (by repeat (first | exact Below.refl _ _ | (refine Below.setCell ?_ (by simp; try omega) _) | (refine Below.alloc ?_ (by simp; try omega) _)))).w⟩
                                    · have Z2 : Hid _ := z2
                                      have nz2 : (x.wd != y.wd) = false := by rw [bne, z2]; rfl
                                      cases he : decide (x.l = y.l)
                                      · as_aux_lemma =>
                                          have HC : Hid _ := (fun W (hb : Below wr.heap.size wr W) => he ▸ eqI_spec x.P y.P x.c y.c x.l y.l W q1 q2 (r1.below hb) (r2.below hb))
                                          have HE : Hid _ := he
                                          clear he
                                          go_wp2_with ((go_at_call 15; refine (HC.out _ (by repeat (first | exact Below.refl _ _ | (refine Below.setCell ?_ (by simp; try omega) _) | (refine Below.alloc ?_ (by simp; try omega) _)))).mono ?_; rintro r w1 ⟨rfl, hb3⟩))
                                          go_ret
                                          exact ⟨ret_bool (HD.out (fun p => p.2.2.2.2.1) (show K.nl.map QN.pl ≠ K'.nl.map QN.pl from pl_neN hlt hlt2 (by rw [HX.out, HY.out]; intro e; have := of_decide_eq_false HE.out; simp [QN.pl] at e; exact this (by simp [e])))).symm, (bb.below (Below.trans (by repeat (first | exact Below.refl _ _ | (refine Below.setCell ?_ (by simp; try omega) _) | (refine Below.alloc ?_ (by simp; try omega) _))) (hb3.mono (by simp; try omega)))).w⟩
                                      · as_aux_lemma =>
                                          have HC : Hid _ := (fun W (hb : Below wr.heap.size wr W) => he ▸ eqI_spec x.P y.P x.c y.c x.l y.l W q1 q2 (r1.below hb) (r2.below hb))
                                          have HE : Hid _ := he
                                          clear he
                                          go_wp2_with ((go_at_call 15; refine (HC.out _ (by repeat (first | exact Below.refl _ _ | (refine Below.setCell ?_ (by simp; try omega) _) | (refine Below.alloc ?_ (by simp; try omega) _)))).mono ?_; rintro r w1 ⟨rfl, hb3⟩))
                                          go_roundw
                                          case rel => exact ⟨k + 1, by simp; omega, by go_num, pl_nextN hsm hlt hlt2 (by rw [HX.out, HY.out]; unfold QN.pl; rw [of_beqE Z0.out, of_beqE Z1.out, of_beqE Z2.out, of_decide_eq_true HE.out]), (bb.below (Below.trans (by repeat (first | exact Below.refl _ _ | (refine Below.setCell ?_ (by simp; try omega) _) | (refine Below.alloc ?_ (by simp; try omega) _))) (hb3.mono (by simp; try omega))))⟩
                                          case measure => simp [intOf]; omega
                              · have hk1 : ¬ (k : Int) < (K.nl.length : Int) := by omega
                                have En : Hid _ := sameTo_end hsm (by simpa using hlt) (by simpa using Nn.out)
                                clear hsm
                                have g6 : wr.cell? ⟨w.heap.size, 6, none⟩ = some (.slice K.fP K.fl.length K.fc) := atV bb.a 6 _ rfl
                                have l6 : wr.cell? ⟨w.heap.size + 1, 6, none⟩ = some (.slice K'.fP K'.fl.length K'.fc) := atV bb.b 6 _ rfl
                                go_wp2
                                go_loopw [11] (fun i w' => kInv w K K' (K.fl.map QF.pl) (K'.fl.map QF.pl) i w') (fun i w' => K.fl.length - (intOf i).toNat)
                                case atStart => exact ⟨0, Nat.zero_le _, rfl, rfl, bb⟩
                                case round =>
                                  clear g5 l5 g6 l6 bb
                                  obtain ⟨k, hk, rfl, hsm, bb⟩ := hrel
                                  have g6 : wr.cell? ⟨w.heap.size, 6, none⟩ = some (.slice K.fP K.fl.length K.fc) := atV bb.a 6 _ rfl
                                  have l6 : wr.cell? ⟨w.heap.size + 1, 6, none⟩ = some (.slice K'.fP K'.fl.length K'.fc) := atV bb.b 6 _ rfl
                                  by_cases hlt : k < K.fl.length
                                  · have hle : K.fl.length ≤ 1048576 := hs.f
                                    have hlt2 : k < K'.fl.length := by have := Nf.out; omega
                                    have hP1 := hK.f.below bb.w
                                    have hQ1 := hK'.f.below bb.w
                                    obtain ⟨B, O, eB⟩ := hP1.has hlt
                                    obtain ⟨B2, O2, eB2⟩ := hQ1.has hlt2
                                    rw [eB] at hP1 g6
                                    rw [eB2] at hQ1 l6
                                    clear eB eB2
                                    have hk1 : (k : Int) < (K.fl.length : Int) := by omega
                                    have hk2 : (k : Int) < (K'.fl.length : Int) := by omega
                                    have cc := atF hP1 hlt
                                    have dd := atF hQ1 hlt2
                                    have r1 := (hK.fi K.fl[k] (List.getElem_mem hlt)).below bb.w
                                    have r2 := (hK'.fi K'.fl[k] (List.getElem_mem hlt2)).below bb.w
                                    have q1 := hs.fi K.fl[k] (List.getElem_mem hlt)
                                    have q2 := hs'.fi K'.fl[k] (List.getElem_mem hlt2)
                                    generalize hx : K.fl[k] = x at cc r1 q1
                                    generalize hy : K'.fl[k] = y at dd r2 q2
                                    have HX : Hid _ := hx
                                    have HY : Hid _ := hy
                                    clear hx hy
                                    obtain ⟨c0, c1⟩ := cc
                                    obtain ⟨d0, d1⟩ := dd
                                    have p0 := cell_regrown c0
                                    have o0 := cell_regrown d0
                                    have p1 := cell_regrown c1
                                    have o1 := cell_regrown d1
                                    have pg := cell_regrown g6
                                    have ol := cell_regrown l6
                                    cases z0 : (x.ad == y.ad)
                                    · as_aux_lemma =>
                                        have Z0 : Hid _ := z0
                                        have nz0 : (x.ad != y.ad) = true := by rw [bne, z0]; rfl
                                        have mz0 : ¬ x.ad = y.ad := by simpa using z0
                                        go_upto_region 28 with fail
                                        refine wq_region (by kernel_rfl) (by kernel_rfl) ?_
                                        repeat (first | (refine wq_step (fun K hK => ?_); go_simp; first | (refine hK _ ?_; clear hK K) | (apply Exists.intro; refine ⟨fun _ => ?_, hK _ ?_⟩; fail; clear hK K)))
                                        refine wq_nil ?_
                                        intro _ hw'
                                        obtain ⟨⟨dq, osq⟩, hw''⟩ := hw'
                                        subst hw''
                                        go_wp2
                                        go_ret
                                        exact ⟨ret_bool (HD.out (fun p => p.2.2.2.2.2.1) (show K.fl.map QF.pl ≠ K'.fl.map QF.pl from pl_neF hlt hlt2 (by rw [HX.out, HY.out]; intro e; have := Z0.out; simp [QF.pl] at e; simp [e] at this))).symm, (bb.below (below_regrown wr dq osq)).w⟩
                                    · have Z0 : Hid _ := z0
                                      have nz0 : (x.ad != y.ad) = false := by rw [bne, z0]; rfl
                                      cases he : decide (x.l = y.l)
                                      · as_aux_lemma =>
                                          have HC : Hid _ := (fun W (hb : Below wr.heap.size wr W) => he ▸ eqU_spec x.P y.P x.c y.c x.l y.l W q1 q2 (r1.below hb) (r2.below hb))
                                          have HE : Hid _ := he
                                          clear he
                                          go_upto_region 28 with fail
                                          refine wq_region (by kernel_rfl) (by kernel_rfl) ?_
                                          repeat (first | (refine wq_step (fun K hK => ?_); go_simp; first | (refine hK _ ?_; clear hK K) | (apply Exists.intro; refine ⟨fun _ => ?_, hK _ ?_⟩; (go_at_call 16; exact Calls.regrown_of (HC.out _ (below_regrown _ _ _))); clear hK K)))
                                          refine wq_nil ?_
                                          intro _ hw'
                                          obtain ⟨⟨dq, osq⟩, hw''⟩ := hw'
                                          subst hw''
                                          go_wp2
                                          go_ret
                                          exact ⟨ret_bool (HD.out (fun p => p.2.2.2.2.2.1) (show K.fl.map QF.pl ≠ K'.fl.map QF.pl from pl_neF hlt hlt2 (by rw [HX.out, HY.out]; intro e; have := of_decide_eq_false HE.out; simp [QF.pl] at e; exact this (by simp [e])))).symm, (bb.below (below_regrown wr dq osq)).w⟩
                                      · as_aux_lemma =>
                                          have HC : Hid _ := (fun W (hb : Below wr.heap.size wr W) => he ▸ eqU_spec x.P y.P x.c y.c x.l y.l W q1 q2 (r1.below hb) (r2.below hb))
                                          have HE : Hid _ := he
                                          clear he
                                          go_upto_region 28 with fail
                                          refine wq_region (by kernel_rfl) (by kernel_rfl) ?_
                                          repeat (first | (refine wq_step (fun K hK => ?_); go_simp; first | (refine hK _ ?_; clear hK K) | (apply Exists.intro; refine ⟨fun _ => ?_, hK _ ?_⟩; (go_at_call 16; exact Calls.regrown_of (HC.out _ (below_regrown _ _ _))); clear hK K)))
                                          refine wq_nil ?_
                                          intro _ hw'
                                          obtain ⟨⟨dq, osq⟩, hw''⟩ := hw'
                                          subst hw''
                                          go_wp2
                                          go_roundw
                                          case rel => exact ⟨k + 1, by simp; omega, by go_num, pl_nextF hsm hlt hlt2 (by rw [HX.out, HY.out]; unfold QF.pl; rw [of_beqE Z0.out, of_decide_eq_true HE.out]), (bb.below (below_regrown wr dq osq))⟩
                                          case measure => simp [intOf]; omega
                                  · have hk1 : ¬ (k : Int) < (K.fl.length : Int) := by omega
                                    have Ef : Hid _ := sameTo_end hsm (by simpa using hlt) (by simpa using Nf.out)
                                    clear hsm
                                    go_wp2
                                    go_loopw [12] (fun i w' => kInv w K K' ([K.r0, K.r1, K.r2, K.r3, K.r4, K.r5, K.r6, K.r7].map QR.l) ([K'.r0, K'.r1, K'.r2, K'.r3, K'.r4, K'.r5, K'.r6, K'.r7].map QR.l) i w') (fun i w' => 8 - (intOf i).toNat)
                                    case atStart => exact ⟨0, Nat.zero_le _, rfl, rfl, bb⟩
                                    case round =>
                                      clear g6 l6 bb
                                      obtain ⟨k, hk, rfl, hsm, bb⟩ := hrel
                                      have hk8 : k ≤ 8 := hk
                                      have hT : LiesG fQ wr (some ⟨w.heap.size, 7, none⟩) [K.r0, K.r1, K.r2, K.r3, K.r4, K.r5, K.r6, K.r7] := eightQ (c0 := atV bb.a 7 _ rfl) (c1 := atV bb.a 8 _ rfl) (c2 := atV bb.a 9 _ rfl) (c3 := atV bb.a 10 _ rfl) (c4 := atV bb.a 11 _ rfl) (c5 := atV bb.a 12 _ rfl) (c6 := atV bb.a 13 _ rfl) (c7 := atV bb.a 14 _ rfl)
                                      have hU : LiesG fQ wr (some ⟨w.heap.size + 1, 7, none⟩) [K'.r0, K'.r1, K'.r2, K'.r3, K'.r4, K'.r5, K'.r6, K'.r7] := eightQ (c0 := atV bb.b 7 _ rfl) (c1 := atV bb.b 8 _ rfl) (c2 := atV bb.b 9 _ rfl) (c3 := atV bb.b 10 _ rfl) (c4 := atV bb.b 11 _ rfl) (c5 := atV bb.b 12 _ rfl) (c6 := atV bb.b 13 _ rfl) (c7 := atV bb.b 14 _ rfl)
                                      have r1 := hK.r.below bb.w
                                      have r2 := hK'.r.below bb.w
                                      have q1 := hs.r
                                      have q2 := hs'.r
                                      generalize hRa : [K.r0, K.r1, K.r2, K.r3, K.r4, K.r5, K.r6, K.r7] = Ra at hT r1 q1 hsm
                                      generalize hRb : [K'.r0, K'.r1, K'.r2, K'.r3, K'.r4, K'.r5, K'.r6, K'.r7] = Rb at hU r2 q2 hsm
                                      have la : Ra.length = 8 := by rw [← hRa]; rfl
                                      have lb : Rb.length = 8 := by rw [← hRb]; rfl
                                      have HRa : Hid _ := hRa
                                      have HRb : Hid _ := hRb
                                      clear hRa hRb
                                      by_cases hlt : k < 8
                                      · have hltA : k < Ra.length := by omega
                                        have hltB : k < Rb.length := by omega
                                        have c0 := atQ hT hltA
                                        have d0 := atQ hU hltB
                                        have r1 := r1 Ra[k] (List.getElem_mem hltA)
                                        have r2 := r2 Rb[k] (List.getElem_mem hltB)
                                        have q1 := q1 Ra[k] (List.getElem_mem hltA)
                                        have q2 := q2 Rb[k] (List.getElem_mem hltB)
                                        generalize hx : Ra[k] = x at c0 r1 q1
                                        generalize hy : Rb[k] = y at d0 r2 q2
                                        have HX : Hid _ := hx
                                        have HY : Hid _ := hy
                                        clear hx hy
                                        have hk1 : (k : Int) < 8 := by omega
                                        have p0 := cell_regrown c0
                                        have o0 := cell_regrown d0
                                        cases he : decide (x.l = y.l)
                                        · as_aux_lemma =>
                                            have HC : Hid _ := (fun W (hb : Below wr.heap.size wr W) => he ▸ eqI_spec x.P y.P x.c y.c x.l y.l W q1 q2 (r1.below hb) (r2.below hb))
                                            have HE : Hid _ := he
                                            clear he
                                            go_upto_region 33 with fail
                                            refine wq_region (by kernel_rfl) (by kernel_rfl) ?_
                                            repeat (first | (refine wq_step (fun K hK => ?_); go_simp; first | (refine hK _ ?_; clear hK K) | (apply Exists.intro; refine ⟨fun _ => ?_, hK _ ?_⟩; (go_at_call 15; exact Calls.regrown_of (HC.out _ (below_regrown _ _ _))); clear hK K)))
                                            refine wq_nil ?_
                                            intro _ hw'
                                            obtain ⟨⟨dq, osq⟩, hw''⟩ := hw'
                                            subst hw''
                                            go_wp2
                                            go_ret
                                            exact ⟨ret_bool (HD.out (fun p => p.2.2.2.2.2.2) (show [K.r0, K.r1, K.r2, K.r3, K.r4, K.r5, K.r6, K.r7].map QR.l ≠ [K'.r0, K'.r1, K'.r2, K'.r3, K'.r4, K'.r5, K'.r6, K'.r7].map QR.l from by rw [HRa.out, HRb.out]; exact ne_at (k := k) (by simpa using hltA) (by simpa using hltB) (by simp [HX.out, HY.out]; simpa using HE.out))).symm, (bb.below (below_regrown wr dq osq)).w⟩
                                        · as_aux_lemma =>
                                            have HC : Hid _ := (fun W (hb : Below wr.heap.size wr W) => he ▸ eqI_spec x.P y.P x.c y.c x.l y.l W q1 q2 (r1.below hb) (r2.below hb))
                                            have HE : Hid _ := he
                                            clear he
                                            go_upto_region 33 with fail
                                            refine wq_region (by kernel_rfl) (by kernel_rfl) ?_
                                            repeat (first | (refine wq_step (fun K hK => ?_); go_simp; first | (refine hK _ ?_; clear hK K) | (apply Exists.intro; refine ⟨fun _ => ?_, hK _ ?_⟩; (go_at_call 15; exact Calls.regrown_of (HC.out _ (below_regrown _ _ _))); clear hK K)))
                                            refine wq_nil ?_
                                            intro _ hw'
                                            obtain ⟨⟨dq, osq⟩, hw''⟩ := hw'
                                            subst hw''
                                            go_wp2
                                            go_roundw
                                            case rel => exact ⟨k + 1, by simp; omega, by go_num, by first | exact sameTo_next hsm (by simpa using hltA) (by simpa using hltB) (by simp [HX.out, HY.out]; simpa using HE.out) | (rw [HRa.out, HRb.out]; exact sameTo_next hsm (by simpa using hltA) (by simpa using hltB) (by simp [HX.out, HY.out]; simpa using HE.out)), bb.below (below_regrown wr dq osq)⟩
                                            case measure => simp [intOf]; omega
                                      · have hk1 : ¬ (k : Int) < 8 := by omega
                                        have Er : Hid ([K.r0, K.r1, K.r2, K.r3, K.r4, K.r5, K.r6, K.r7].map QR.l = [K'.r0, K'.r1, K'.r2, K'.r3, K'.r4, K'.r5, K'.r6, K'.r7].map QR.l) := by
                                          rw [HRa.out, HRb.out]
                                          exact sameTo_end hsm (by simp; omega) (by simp; omega)
                                        clear hsm hT hU
                                        go_wp2
                                        go_ret
                                        exact ⟨ret_bool (decide_eq_true (by unfold QK.pl; rw [of_beqE Y0.out, of_beqE Y1.out, Es.out, Et.out, Ee.out, En.out, Ef.out, Er.out])).symm, bb.w⟩

end Go.Proofs.Ytoahhhmagcnjbab
