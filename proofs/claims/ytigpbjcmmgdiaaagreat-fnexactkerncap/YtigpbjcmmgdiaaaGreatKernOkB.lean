/-
 Whether a state is ok, by both. Conditions: the state's rows lie in memory and are not too long; its integers are such of 64 bits.
-/
import Derived.Test.YtigpbjcmmgdiaaaGreatViewZ
import Derived.Test.YtigpbjcmmgdiaaaGreatSpec4N
import Derived.Test.YtigpbjcmmgdiaaaGreatRs
namespace Go.Proofs.YtigpbjcmmgdiaaaGreat
open Go.ChangeShapes Go.WideShapes Go.ChangeAt Go.RowKit
set_option linter.unusedVariables false

theorem zA_bw {w0 : World} {K : QK} {vB cB : Nat} {W : World} (h : zA w0 K vB cB 12 W) : Below w0.heap.size w0 W := by
 obtain ⟨N, uB, pB, P, cap, A, m0, hB, tB, n, fs, Z, _⟩ := h; exact Z.h.o.z.v.bw
theorem neqNil (a : Addr) (w : World) : (binOp .neq 73 (.pointer (some a)) (.pointer none)).run Tryz.prog w = .ok (.bool true) w := by kernel_rfl
theorem neqNil2 (w : World) : (binOp .neq 73 (.pointer none) (.pointer none)).run Tryz.prog w = .ok (.bool false) w := by kernel_rfl
set_option maxRecDepth 100000 in
set_option maxHeartbeats 16000000 in
theorem kernOkImpl_any (K : QK) (w : World) (hs : K.Short) (hcap : K.sl.length ≤ K.sc) (hcm : K.sc ≤ 9223372036854775807) (hf : K.Fits) (h : KernIn w K) (b : Bool) (hb : b = true ↔ ProgP K) :
  Calls Tryz.prog 45 #[.agg #[.int .i64 K.bits, .int .i64 K.ticks, .slice K.sP K.sl.length K.sc, .slice K.tP K.tl.length K.tc, .slice K.eP K.el.length K.ec, .slice K.nP K.nl.length K.nc, .slice K.fP K.fl.length K.fc, .slice K.r0.P K.r0.l.length K.r0.c, .slice K.r1.P K.r1.l.length K.r1.c, .slice K.r2.P K.r2.l.length K.r2.c, .slice K.r3.P K.r3.l.length K.r3.c, .slice K.r4.P K.r4.l.length K.r4.c, .slice K.r5.P K.r5.l.length K.r5.c, .slice K.r6.P K.r6.l.length K.r6.c, .slice K.r7.P K.r7.l.length K.r7.c]] w fun e w' => e = .returned (.bool b) ∧ Below w.heap.size w w' := by
 have kb := (boxL w [.int .i64 K.bits, .int .i64 K.ticks, .slice K.sP K.sl.length K.sc, .slice K.tP K.tl.length K.tc, .slice K.eP K.el.length K.ec, .slice K.nP K.nl.length K.nc, .slice K.fP K.fl.length K.fc, .slice K.r0.P K.r0.l.length K.r0.c, .slice K.r1.P K.r1.l.length K.r1.c, .slice K.r2.P K.r2.l.length K.r2.c, .slice K.r3.P K.r3.l.length K.r3.c, .slice K.r4.P K.r4.l.length K.r4.c, .slice K.r5.P K.r5.l.length K.r5.c, .slice K.r6.P K.r6.l.length K.r6.c, .slice K.r7.P K.r7.l.length K.r7.c] 42)
 have b1 : Below w.heap.size w (w.alloc (.cells #[.int .i64 K.bits, .int .i64 K.ticks, .slice K.sP K.sl.length K.sc, .slice K.tP K.tl.length K.tc, .slice K.eP K.el.length K.ec, .slice K.nP K.nl.length K.nc, .slice K.fP K.fl.length K.fc, .slice K.r0.P K.r0.l.length K.r0.c, .slice K.r1.P K.r1.l.length K.r1.c, .slice K.r2.P K.r2.l.length K.r2.c, .slice K.r3.P K.r3.l.length K.r3.c, .slice K.r4.P K.r4.l.length K.r4.c, .slice K.r5.P K.r5.l.length K.r5.c, .slice K.r6.P K.r6.l.length K.r6.c, .slice K.r7.P K.r7.l.length K.r7.c] 42)) := (Below.refl _ _).alloc (Nat.le_refl _) _
 obtain ⟨g0, g1, g2, g3, g4, g5, g6, g7, g8, g9, g10, g11, g12, g13, g14⟩ := facts15v kb
 have HC : Hid _ := kernViewOf_any K _ hs hcap hcm hf (h.below b1)
 have HB : Hid (b = true ↔ ProgP K) := hb
 have B1 : Hid _ := b1
 have e1 := neqNil
 have e2 := neqNil2
 clear kb hs hcap hcm hf h hb b1
 go_enter Tryz.func45, Tryz.ntmps45
 cases b
 ·go_wp2_with (go_at_call 34; refine Calls.mono HC.out ?_; intro e w5 h5; have h6 := Or.resolve_left h5 (fun q => absurd (HB.out.2 q.1) (by decide)); obtain ⟨_, rfl, hb5⟩ := h6; clear h5)
  go_ret
  exact ⟨rfl, B1.out.trans (hb5.mono B1.out.size)⟩
 ·go_wp2_with (go_at_call 34; refine Calls.mono HC.out ?_; intro e w5 h5; have h6 := Or.resolve_right h5 (fun q => q.1 (HB.out.1 rfl)); obtain ⟨_, rfl, hz⟩ := h6; have HZ : Hid _ := hz; clear h5 hz)
  go_ret
  have hb5 := zA_bw HZ.out
  exact ⟨rfl, B1.out.trans (hb5.mono B1.out.size)⟩
theorem kernOkSpec_b (K : QK) (w : World) (hs : K.Short) (hcap : K.sl.length ≤ K.sc) (hcm : K.sc ≤ 9223372036854775807) (h : KernIn w K) (b : Bool) (hb : b = true ↔ ProgP K) :
  Calls Tryz.prog 27 #[.agg #[.int .i64 K.bits, .int .i64 K.ticks, .slice K.sP K.sl.length K.sc, .slice K.tP K.tl.length K.tc, .slice K.eP K.el.length K.ec, .slice K.nP K.nl.length K.nc, .slice K.fP K.fl.length K.fc, .slice K.r0.P K.r0.l.length K.r0.c, .slice K.r1.P K.r1.l.length K.r1.c, .slice K.r2.P K.r2.l.length K.r2.c, .slice K.r3.P K.r3.l.length K.r3.c, .slice K.r4.P K.r4.l.length K.r4.c, .slice K.r5.P K.r5.l.length K.r5.c, .slice K.r6.P K.r6.l.length K.r6.c, .slice K.r7.P K.r7.l.length K.r7.c]] w fun e w' => e = .returned (.bool b) ∧ Below w.heap.size w w' := by
 refine Calls.mono (kernOkSpec_any K w hs hcap hcm h) ?_
 rintro e w' ⟨⟨b', rfl, h1⟩, h2⟩
 have : b' = b := by
  rw [Bool.eq_iff_iff, h1, spec_prog, hb]
 rw [this]
 exact ⟨rfl, h2⟩

end Go.Proofs.YtigpbjcmmgdiaaaGreat
