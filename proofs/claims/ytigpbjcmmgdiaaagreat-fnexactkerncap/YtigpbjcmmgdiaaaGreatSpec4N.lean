/-
 Whether a state is ok, by the specification. Condition: the state lies in memory.
-/
import Derived.Test.YtigpbjcmmgdiaaaGreatSpec4M
import Derived.Test.YtigpbjcmmgdiaaaGreatSpec4H
import Derived.Test.YtigpbjcmmgdiaaaGreatSpec4I
import Derived.Test.YtigpbjcmmgdiaaaGreatTreeOkSpec
import Derived.Test.YtigpbjcmmgdiaaaGreatRr
namespace Go.Proofs.YtigpbjcmmgdiaaaGreat
open Go.ChangeShapes Go.WideShapes Go.ChangeAt Go.RowKit
set_option linter.unusedVariables false

def SpecTo (K : QK) (e : Ending) : Prop := ∃ b : Bool, e = .returned (.bool b) ∧ (b = true ↔ SpecP K)
theorem spec_no {K : QK} {e : Ending} (h : ¬ SpecP K) (he : e = .returned (.bool false)) : SpecTo K e := ⟨false, he, fun h => (by cases h), fun p => absurd p h⟩

set_option maxRecDepth 100000 in
set_option maxHeartbeats 8000000 in
theorem kernOkSpec_any (K : QK) (w : World) (hs : K.Short) (hcap : K.sl.length ≤ K.sc) (hcm : K.sc ≤ 9223372036854775807) (h : KernIn w K) :
  Calls Tryz.prog 27 #[.agg #[.int .i64 K.bits, .int .i64 K.ticks, .slice K.sP K.sl.length K.sc, .slice K.tP K.tl.length K.tc, .slice K.eP K.el.length K.ec, .slice K.nP K.nl.length K.nc, .slice K.fP K.fl.length K.fc, .slice K.r0.P K.r0.l.length K.r0.c, .slice K.r1.P K.r1.l.length K.r1.c, .slice K.r2.P K.r2.l.length K.r2.c, .slice K.r3.P K.r3.l.length K.r3.c, .slice K.r4.P K.r4.l.length K.r4.c, .slice K.r5.P K.r5.l.length K.r5.c, .slice K.r6.P K.r6.l.length K.r6.c, .slice K.r7.P K.r7.l.length K.r7.c]] w fun e w' => SpecTo K e ∧ Below w.heap.size w w' := by
 have hb0 := KBox.new h 42
 obtain ⟨tv, htv⟩ : ∃ tv, treeB K.sl = tv := ⟨_, rfl⟩
 have HTo := fun W (hW : Lies W K.sP K.sl) => treeOkSpec_to K.sP K.sl.length K.sc K.sl tv W rfl hs.s hcap hcm hW htv
 have HTv : Hid _ := htv
 clear htv
 by_cases b1 : K.bits < 9
 ·have b1' : decide (K.bits < 9) = true := by simpa using b1
  have HY : Hid (¬ SpecP K) := fun p => by have := p.bounds; unfold boundsB withinB at this; simp at this; omega
  go_enter Tryz.func27, Tryz.ntmps27
  go_upto_region 1 with fail
  generalize w.alloc (.cells #[.int .i64 K.bits, .int .i64 K.ticks, .slice K.sP K.sl.length K.sc, .slice K.tP K.tl.length K.tc, .slice K.eP K.el.length K.ec, .slice K.nP K.nl.length K.nc, .slice K.fP K.fl.length K.fc, .slice K.r0.P K.r0.l.length K.r0.c, .slice K.r1.P K.r1.l.length K.r1.c, .slice K.r2.P K.r2.l.length K.r2.c, .slice K.r3.P K.r3.l.length K.r3.c, .slice K.r4.P K.r4.l.length K.r4.c, .slice K.r5.P K.r5.l.length K.r5.c, .slice K.r6.P K.r6.l.length K.r6.c, .slice K.r7.P K.r7.l.length K.r7.c] 42) = W0 at hb0 ⊢
  have g0 := hb0.bits
  have g1 := hb0.ticks
  have g2 := hb0.cs
  go_wp2_with (go_at_call 52; refine (HTo _ hb0.b.s).mono ?_; rintro e w1 ⟨rfl, hb1⟩)
  go_ret
  exact ⟨spec_no HY.out rfl, by first | exact (hb0.below hb1).bw | exact hb0.bw⟩
 ·by_cases b2 : 12 < K.bits
  ·skip
   have HY : Hid (¬ SpecP K) := fun p => by have := p.bounds; unfold boundsB withinB at this; simp at this; omega
   go_enter Tryz.func27, Tryz.ntmps27
   go_upto_region 1 with fail
   generalize w.alloc (.cells #[.int .i64 K.bits, .int .i64 K.ticks, .slice K.sP K.sl.length K.sc, .slice K.tP K.tl.length K.tc, .slice K.eP K.el.length K.ec, .slice K.nP K.nl.length K.nc, .slice K.fP K.fl.length K.fc, .slice K.r0.P K.r0.l.length K.r0.c, .slice K.r1.P K.r1.l.length K.r1.c, .slice K.r2.P K.r2.l.length K.r2.c, .slice K.r3.P K.r3.l.length K.r3.c, .slice K.r4.P K.r4.l.length K.r4.c, .slice K.r5.P K.r5.l.length K.r5.c, .slice K.r6.P K.r6.l.length K.r6.c, .slice K.r7.P K.r7.l.length K.r7.c] 42) = W0 at hb0 ⊢
   have g0 := hb0.bits
   have g1 := hb0.ticks
   have g2 := hb0.cs
   go_wp2_with (go_at_call 52; refine (HTo _ hb0.b.s).mono ?_; rintro e w1 ⟨rfl, hb1⟩)
   go_ret
   exact ⟨spec_no HY.out rfl, by first | exact (hb0.below hb1).bw | exact hb0.bw⟩
  ·by_cases b3 : K.ticks < 0
   ·skip
    have HY : Hid (¬ SpecP K) := fun p => by have := p.bounds; unfold boundsB withinB at this; simp at this; omega
    go_enter Tryz.func27, Tryz.ntmps27
    go_upto_region 1 with fail
    generalize w.alloc (.cells #[.int .i64 K.bits, .int .i64 K.ticks, .slice K.sP K.sl.length K.sc, .slice K.tP K.tl.length K.tc, .slice K.eP K.el.length K.ec, .slice K.nP K.nl.length K.nc, .slice K.fP K.fl.length K.fc, .slice K.r0.P K.r0.l.length K.r0.c, .slice K.r1.P K.r1.l.length K.r1.c, .slice K.r2.P K.r2.l.length K.r2.c, .slice K.r3.P K.r3.l.length K.r3.c, .slice K.r4.P K.r4.l.length K.r4.c, .slice K.r5.P K.r5.l.length K.r5.c, .slice K.r6.P K.r6.l.length K.r6.c, .slice K.r7.P K.r7.l.length K.r7.c] 42) = W0 at hb0 ⊢
    have g0 := hb0.bits
    have g1 := hb0.ticks
    have g2 := hb0.cs
    go_wp2_with (go_at_call 52; refine (HTo _ hb0.b.s).mono ?_; rintro e w1 ⟨rfl, hb1⟩)
    go_ret
    exact ⟨spec_no HY.out rfl, by first | exact (hb0.below hb1).bw | exact hb0.bw⟩
   ·by_cases b4 : 1000000 < K.ticks
    ·skip
     have HY : Hid (¬ SpecP K) := fun p => by have := p.bounds; unfold boundsB withinB at this; simp at this; omega
     go_enter Tryz.func27, Tryz.ntmps27
     go_upto_region 1 with fail
     generalize w.alloc (.cells #[.int .i64 K.bits, .int .i64 K.ticks, .slice K.sP K.sl.length K.sc, .slice K.tP K.tl.length K.tc, .slice K.eP K.el.length K.ec, .slice K.nP K.nl.length K.nc, .slice K.fP K.fl.length K.fc, .slice K.r0.P K.r0.l.length K.r0.c, .slice K.r1.P K.r1.l.length K.r1.c, .slice K.r2.P K.r2.l.length K.r2.c, .slice K.r3.P K.r3.l.length K.r3.c, .slice K.r4.P K.r4.l.length K.r4.c, .slice K.r5.P K.r5.l.length K.r5.c, .slice K.r6.P K.r6.l.length K.r6.c, .slice K.r7.P K.r7.l.length K.r7.c] 42) = W0 at hb0 ⊢
     have g0 := hb0.bits
     have g1 := hb0.ticks
     have g2 := hb0.cs
     go_wp2_with (go_at_call 52; refine (HTo _ hb0.b.s).mono ?_; rintro e w1 ⟨rfl, hb1⟩)
     go_ret
     exact ⟨spec_no HY.out rfl, by first | exact (hb0.below hb1).bw | exact hb0.bw⟩
    ·cases tv
     ·skip
      have HY : Hid (¬ SpecP K) := fun p => by have := p.tree; rw [HTv.out] at this; cases this
      go_enter Tryz.func27, Tryz.ntmps27
      go_upto_region 1 with fail
      generalize w.alloc (.cells #[.int .i64 K.bits, .int .i64 K.ticks, .slice K.sP K.sl.length K.sc, .slice K.tP K.tl.length K.tc, .slice K.eP K.el.length K.ec, .slice K.nP K.nl.length K.nc, .slice K.fP K.fl.length K.fc, .slice K.r0.P K.r0.l.length K.r0.c, .slice K.r1.P K.r1.l.length K.r1.c, .slice K.r2.P K.r2.l.length K.r2.c, .slice K.r3.P K.r3.l.length K.r3.c, .slice K.r4.P K.r4.l.length K.r4.c, .slice K.r5.P K.r5.l.length K.r5.c, .slice K.r6.P K.r6.l.length K.r6.c, .slice K.r7.P K.r7.l.length K.r7.c] 42) = W0 at hb0 ⊢
      have g0 := hb0.bits
      have g1 := hb0.ticks
      have g2 := hb0.cs
      go_wp2_with (go_at_call 52; refine (HTo _ hb0.b.s).mono ?_; rintro e w1 ⟨rfl, hb1⟩)
      go_ret
      exact ⟨spec_no HY.out rfl, by first | exact (hb0.below hb1).bw | exact hb0.bw⟩
     ·have HBo : Hid (boundsB K = true) := by unfold Hid boundsB withinB; simp; omega
      have hT : treeB K.sl = true := HTv.out
      have HOb := fun W (hW : KernIn W K) => l4Objects_any K W hs hW
      have HQu := fun W (hW : KernIn W K) => l4Queues_any K W hs hW
      have HSl := fun W (hW : KernIn W K) => l4Slots_any K W hs hW hT
      obtain ⟨ov, hov⟩ : ∃ ov, objectsB K = ov := ⟨_, rfl⟩
      obtain ⟨qv, hqv⟩ : ∃ qv, queuesB K = qv := ⟨_, rfl⟩
      rw [hov] at HOb
      rw [hqv] at HQu
      have HOv : Hid _ := hov
      have HQv : Hid _ := hqv
      have HTr : Hid _ := hT
      clear hov hqv hT
      go_enter Tryz.func27, Tryz.ntmps27
      go_upto_region 1 with fail
      generalize w.alloc (.cells #[.int .i64 K.bits, .int .i64 K.ticks, .slice K.sP K.sl.length K.sc, .slice K.tP K.tl.length K.tc, .slice K.eP K.el.length K.ec, .slice K.nP K.nl.length K.nc, .slice K.fP K.fl.length K.fc, .slice K.r0.P K.r0.l.length K.r0.c, .slice K.r1.P K.r1.l.length K.r1.c, .slice K.r2.P K.r2.l.length K.r2.c, .slice K.r3.P K.r3.l.length K.r3.c, .slice K.r4.P K.r4.l.length K.r4.c, .slice K.r5.P K.r5.l.length K.r5.c, .slice K.r6.P K.r6.l.length K.r6.c, .slice K.r7.P K.r7.l.length K.r7.c] 42) = W0 at hb0 ⊢
      have g0 := hb0.bits
      have g1 := hb0.ticks
      have g2 := hb0.cs
      go_upto_region 3 with (go_at_call 52; refine (HTo _ hb0.b.s).mono ?_; rintro e w1 ⟨rfl, hb1⟩)
      have bb := hb0.below hb1
      clear g0 g1 g2 hb0 hb1 HTo
      obtain ⟨g0, g1, g2, g3, g4, g5, g6, g7, g8, g9, g10, g11, g12, g13, g14⟩ := KBox.facts bb
      cases ov
      ·go_wp2_with (first | (go_at_call 53; refine Calls.mono (HOb _ bb.b) ?_; rintro e w2 ⟨rfl, hb2⟩; have bb2 := bb.below hb2; obtain ⟨q0, q1, q2, q3, q4, q5, q6, q7, q8, q9, q10, q11, q12, q13, q14⟩ := KBox.facts bb2) | (go_at_call 54; refine Calls.mono (HQu _ bb2.b) ?_; rintro e w3 ⟨rfl, hb3⟩; have bb3 := bb2.below hb3; obtain ⟨s0, s1, s2, s3, s4, s5, s6, s7, s8, s9, s10, s11, s12, s13, s14⟩ := KBox.facts bb3) | (go_at_call 55; refine Calls.mono (HSl _ bb3.b) ?_; rintro e w4 ⟨hst, hb4⟩; obtain ⟨sb, rfl, hsb⟩ := hst))
       go_ret
       exact ⟨spec_no (fun p => by have := p.objs; rw [HOv.out] at this; cases this) rfl, bb2.bw⟩
      ·cases qv
       ·go_wp2_with (first | (go_at_call 53; refine Calls.mono (HOb _ bb.b) ?_; rintro e w2 ⟨rfl, hb2⟩; have bb2 := bb.below hb2; obtain ⟨q0, q1, q2, q3, q4, q5, q6, q7, q8, q9, q10, q11, q12, q13, q14⟩ := KBox.facts bb2) | (go_at_call 54; refine Calls.mono (HQu _ bb2.b) ?_; rintro e w3 ⟨rfl, hb3⟩; have bb3 := bb2.below hb3; obtain ⟨s0, s1, s2, s3, s4, s5, s6, s7, s8, s9, s10, s11, s12, s13, s14⟩ := KBox.facts bb3) | (go_at_call 55; refine Calls.mono (HSl _ bb3.b) ?_; rintro e w4 ⟨hst, hb4⟩; obtain ⟨sb, rfl, hsb⟩ := hst))
        go_ret
        exact ⟨spec_no (fun p => by have := p.queues; rw [HQv.out] at this; cases this) rfl, bb3.bw⟩
       ·go_wp2_with (first | (go_at_call 53; refine Calls.mono (HOb _ bb.b) ?_; rintro e w2 ⟨rfl, hb2⟩; have bb2 := bb.below hb2; obtain ⟨q0, q1, q2, q3, q4, q5, q6, q7, q8, q9, q10, q11, q12, q13, q14⟩ := KBox.facts bb2) | (go_at_call 54; refine Calls.mono (HQu _ bb2.b) ?_; rintro e w3 ⟨rfl, hb3⟩; have bb3 := bb2.below hb3; obtain ⟨s0, s1, s2, s3, s4, s5, s6, s7, s8, s9, s10, s11, s12, s13, s14⟩ := KBox.facts bb3) | (go_at_call 55; refine Calls.mono (HSl _ bb3.b) ?_; rintro e w4 ⟨hst, hb4⟩; obtain ⟨sb, rfl, hsb⟩ := hst))
        go_ret
        exact ⟨⟨sb, rfl, hsb.trans ⟨fun p => ⟨HBo.out, HTr.out, HOv.out, HQv.out, p⟩, fun p => p.slots⟩⟩, (bb3.below hb4).bw⟩

end Go.Proofs.YtigpbjcmmgdiaaaGreat
