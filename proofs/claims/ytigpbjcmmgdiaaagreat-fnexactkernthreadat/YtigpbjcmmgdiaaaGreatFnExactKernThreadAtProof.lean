/-
 Proved: KernThreadAt of the program answers, at every state and every address, as KernThreadAt of the specification, and writes into nothing that was there; the law FnExactKernThreadAt returns true at every argument. Conditions: none.
-/
import Derived.Test.YtigpbjcmmgdiaaaGreatRows
import Derived.Test.YtigpbjcmmgdiaaaGreatKernOkB
import Derived.Test.YtigpbjcmmgdiaaaGreatTa
import Derived.Test.YtigpbjcmmgdiaaaGreatBe
import Derived.Test.YtigpbjcmmgdiaaaGreatRt
import Derived.Test.YtigpbjcmmgdiaaaGreatKernTo
import Derived.Deep.RegionHeld3
import Derived.WalkKit
import Derived.ProofKit
import Derived.OpenShut
import Derived.ShutString
import Derived.ChangeOld
import Derived.Below
namespace Go.Proofs.YtigpbjcmmgdiaaaGreat.fnExactKernThreadAt
open Go.ChangeShapes Go.WideShapes Go.ChangeAt Go.RowKit
open Go.ChangeMaps (open_string shut_string)
set_option linter.unusedVariables false

theorem own : ownKnob Tryz.prog.godebug = none := by kernel_rfl
theorem laidOut : laidOutB Tryz.prog = true := by kernel_rfl

theorem facts15 {W : World} {b : Nat} {K : QK} (h : LiesG fV W (some ⟨b, 0, none⟩) [.int .i64 K.bits, .int .i64 K.ticks, .slice K.sP K.sl.length K.sc, .slice K.tP K.tl.length K.tc, .slice K.eP K.el.length K.ec, .slice K.nP K.nl.length K.nc, .slice K.fP K.fl.length K.fc, .slice K.r0.P K.r0.l.length K.r0.c, .slice K.r1.P K.r1.l.length K.r1.c, .slice K.r2.P K.r2.l.length K.r2.c, .slice K.r3.P K.r3.l.length K.r3.c, .slice K.r4.P K.r4.l.length K.r4.c, .slice K.r5.P K.r5.l.length K.r5.c, .slice K.r6.P K.r6.l.length K.r6.c, .slice K.r7.P K.r7.l.length K.r7.c]) : W.cell? ⟨b, 0, none⟩ = some (.int .i64 K.bits) ∧ W.cell? ⟨b, 1, none⟩ = some (.int .i64 K.ticks) ∧ W.cell? ⟨b, 2, none⟩ = some (.slice K.sP K.sl.length K.sc) ∧ W.cell? ⟨b, 3, none⟩ = some (.slice K.tP K.tl.length K.tc) ∧ W.cell? ⟨b, 4, none⟩ = some (.slice K.eP K.el.length K.ec) ∧ W.cell? ⟨b, 5, none⟩ = some (.slice K.nP K.nl.length K.nc) ∧ W.cell? ⟨b, 6, none⟩ = some (.slice K.fP K.fl.length K.fc) ∧ W.cell? ⟨b, 7, none⟩ = some (.slice K.r0.P K.r0.l.length K.r0.c) ∧ W.cell? ⟨b, 8, none⟩ = some (.slice K.r1.P K.r1.l.length K.r1.c) ∧ W.cell? ⟨b, 9, none⟩ = some (.slice K.r2.P K.r2.l.length K.r2.c) ∧ W.cell? ⟨b, 10, none⟩ = some (.slice K.r3.P K.r3.l.length K.r3.c) ∧ W.cell? ⟨b, 11, none⟩ = some (.slice K.r4.P K.r4.l.length K.r4.c) ∧ W.cell? ⟨b, 12, none⟩ = some (.slice K.r5.P K.r5.l.length K.r5.c) ∧ W.cell? ⟨b, 13, none⟩ = some (.slice K.r6.P K.r6.l.length K.r6.c) ∧ W.cell? ⟨b, 14, none⟩ = some (.slice K.r7.P K.r7.l.length K.r7.c) :=
 ⟨atV h 0 _ rfl, atV h 1 _ rfl, atV h 2 _ rfl, atV h 3 _ rfl, atV h 4 _ rfl, atV h 5 _ rfl, atV h 6 _ rfl, atV h 7 _ rfl, atV h 8 _ rfl, atV h 9 _ rfl, atV h 10 _ rfl, atV h 11 _ rfl, atV h 12 _ rfl, atV h 13 _ rfl, atV h 14 _ rfl⟩

theorem spec_b (A A1 : QK) (b : Bool) (x : Int) (o : Option QT) (w : World) (ho : (if b = true then A.tl.find? (fun s => s.a0 == x) else none) = o) (hb : b = true ↔ ProgP A) (h1 : A1.pl = A.pl) (sA : A.Short) (cA : A1.sl.length ≤ A1.sc ∧ A1.sc ≤ 9223372036854775807) (iA : KernIn w A1) :
  Calls Tryz.prog 13 #[.agg #[.int .i64 A1.bits, .int .i64 A1.ticks, .slice A1.sP A1.sl.length A1.sc, .slice A1.tP A1.tl.length A1.tc, .slice A1.eP A1.el.length A1.ec, .slice A1.nP A1.nl.length A1.nc, .slice A1.fP A1.fl.length A1.fc, .slice A1.r0.P A1.r0.l.length A1.r0.c, .slice A1.r1.P A1.r1.l.length A1.r1.c, .slice A1.r2.P A1.r2.l.length A1.r2.c, .slice A1.r3.P A1.r3.l.length A1.r3.c, .slice A1.r4.P A1.r4.l.length A1.r4.c, .slice A1.r5.P A1.r5.l.length A1.r5.c, .slice A1.r6.P A1.r6.l.length A1.r6.c, .slice A1.r7.P A1.r7.l.length A1.r7.c], .int .i64 x] w fun r w' => r = .returned (.tuple #[thrC o, .bool o.isSome]) ∧ Below w.heap.size w w' := by
 have e1 : A1.sl = A.sl := congrArg (fun p => p.2.1) h1
 have e2 : A1.tl = A.tl := congrArg (fun p => p.2.2.1) h1
 exact kernThreadSpec_any A1 x w b (short_of h1 sA) (fun W hW => kernOkSpec_b A1 W (short_of h1 sA) cA.1 cA.2 hW b (hb.trans (progP_pl h1).symm)) iA o (by (try rw [e1]); (try rw [e2]); exact ho)
theorem impl_b (A A1 : QK) (b : Bool) (x : Int) (o : Option QT) (w : World) (hx : FitI x) (ho : (if b = true then A.tl.find? (fun s => s.a0 == x) else none) = o) (hb : b = true ↔ ProgP A) (h1 : A1.pl = A.pl) (sA : A.Short) (fA : A.Fits) (cA : A1.sl.length ≤ A1.sc ∧ A1.sc ≤ 9223372036854775807) (iA : KernIn w A1) :
  Calls Tryz.prog 14 #[.agg #[.int .i64 A1.bits, .int .i64 A1.ticks, .slice A1.sP A1.sl.length A1.sc, .slice A1.tP A1.tl.length A1.tc, .slice A1.eP A1.el.length A1.ec, .slice A1.nP A1.nl.length A1.nc, .slice A1.fP A1.fl.length A1.fc, .slice A1.r0.P A1.r0.l.length A1.r0.c, .slice A1.r1.P A1.r1.l.length A1.r1.c, .slice A1.r2.P A1.r2.l.length A1.r2.c, .slice A1.r3.P A1.r3.l.length A1.r3.c, .slice A1.r4.P A1.r4.l.length A1.r4.c, .slice A1.r5.P A1.r5.l.length A1.r5.c, .slice A1.r6.P A1.r6.l.length A1.r6.c, .slice A1.r7.P A1.r7.l.length A1.r7.c], .int .i64 x] w fun r w' => r = .returned (.tuple #[thrC o, .bool o.isSome]) ∧ Below w.heap.size w w' := by
 have e1 : A1.sl = A.sl := congrArg (fun p => p.2.1) h1
 have e2 : A1.tl = A.tl := congrArg (fun p => p.2.2.1) h1
 exact kernThrImpl_any A1 x w (short_of h1 sA) cA.1 cA.2 (fits_of h1 fA) iA b (hb.trans (progP_pl h1).symm) hx o (by (try rw [e1]); (try rw [e2]); exact ho)

set_option maxRecDepth 100000 in
set_option maxHeartbeats 40000000 in
/-- The law's walk where the state is not too great. -/
theorem walk_small (A : QK) (x : Int) (hx : FitI x) (w : World) (hA : KernIn w A) (lA : A.Long) (fA : A.Fits) (hsz : (A.sz : Int) ≤ 1048576) :
  Calls Tryz.prog 4 #[.agg #[.int .i64 A.bits, .int .i64 A.ticks, .slice A.sP A.sl.length A.sc, .slice A.tP A.tl.length A.tc, .slice A.eP A.el.length A.ec, .slice A.nP A.nl.length A.nc, .slice A.fP A.fl.length A.fc, .slice A.r0.P A.r0.l.length A.r0.c, .slice A.r1.P A.r1.l.length A.r1.c, .slice A.r2.P A.r2.l.length A.r2.c, .slice A.r3.P A.r3.l.length A.r3.c, .slice A.r4.P A.r4.l.length A.r4.c, .slice A.r5.P A.r5.l.length A.r5.c, .slice A.r6.P A.r6.l.length A.r6.c, .slice A.r7.P A.r7.l.length A.r7.c], .int .i64 x] w fun e w' => e = .returned (.bool true) ∧ Below w.heap.size w w' := by
 have sA : A.Short := QK.short (by omega)
 have ka := boxL w [.int .i64 A.bits, .int .i64 A.ticks, .slice A.sP A.sl.length A.sc, .slice A.tP A.tl.length A.tc, .slice A.eP A.el.length A.ec, .slice A.nP A.nl.length A.nc, .slice A.fP A.fl.length A.fc, .slice A.r0.P A.r0.l.length A.r0.c, .slice A.r1.P A.r1.l.length A.r1.c, .slice A.r2.P A.r2.l.length A.r2.c, .slice A.r3.P A.r3.l.length A.r3.c, .slice A.r4.P A.r4.l.length A.r4.c, .slice A.r5.P A.r5.l.length A.r5.c, .slice A.r6.P A.r6.l.length A.r6.c, .slice A.r7.P A.r7.l.length A.r7.c] 30
 have bW : Below w.heap.size w (w.alloc (.cells #[.int .i64 A.bits, .int .i64 A.ticks, .slice A.sP A.sl.length A.sc, .slice A.tP A.tl.length A.tc, .slice A.eP A.el.length A.ec, .slice A.nP A.nl.length A.nc, .slice A.fP A.fl.length A.fc, .slice A.r0.P A.r0.l.length A.r0.c, .slice A.r1.P A.r1.l.length A.r1.c, .slice A.r2.P A.r2.l.length A.r2.c, .slice A.r3.P A.r3.l.length A.r3.c, .slice A.r4.P A.r4.l.length A.r4.c, .slice A.r5.P A.r5.l.length A.r5.c, .slice A.r6.P A.r6.l.length A.r6.c, .slice A.r7.P A.r7.l.length A.r7.c] 30)) := (by repeat (first | exact Below.refl _ _ | (refine Below.setCell ?_ (by simp; try omega) _) | (refine Below.alloc ?_ (by simp; try omega) _)))
 obtain ⟨q1, eq1⟩ : ∃ x : Int, 1048576 - (A.sz : Int) = x := ⟨_, rfl⟩
 have h1 : ¬ q1 < 0 := by omega
 have HS1 : Hid _ := (fun (W : World) (hb : Below w.heap.size w W) => szK_any A 1048576 W (by decide) (by decide) lA (hA.below hb))
 rw [szR_pos (by omega), eq1] at HS1
 obtain ⟨b, hb0⟩ := boolOf (ProgP A)
 have HB0 : Hid _ := hb0
 have HX : Hid (FitI x) := hx
 obtain ⟨o, hc0⟩ : ∃ o, (if b = true then A.tl.find? (fun s => s.a0 == x) else none) = o := ⟨_, rfl⟩
 have HC0 : Hid _ := hc0
 obtain ⟨e, hcc⟩ := thrC_any o
 have HCc : Hid _ := hcc
 obtain ⟨os, hos⟩ : ∃ os, o.isSome = os := ⟨_, rfl⟩
 have HOs : Hid (o.isSome = os) := hos
 have HSp : Hid (∀ (A1 : QK) (w : World), A1.pl = A.pl → (A1.sl.length ≤ A1.sc ∧ A1.sc ≤ 9223372036854775807) → KernIn w A1 → Calls Tryz.prog 13 #[.agg #[.int .i64 A1.bits, .int .i64 A1.ticks, .slice A1.sP A1.sl.length A1.sc, .slice A1.tP A1.tl.length A1.tc, .slice A1.eP A1.el.length A1.ec, .slice A1.nP A1.nl.length A1.nc, .slice A1.fP A1.fl.length A1.fc, .slice A1.r0.P A1.r0.l.length A1.r0.c, .slice A1.r1.P A1.r1.l.length A1.r1.c, .slice A1.r2.P A1.r2.l.length A1.r2.c, .slice A1.r3.P A1.r3.l.length A1.r3.c, .slice A1.r4.P A1.r4.l.length A1.r4.c, .slice A1.r5.P A1.r5.l.length A1.r5.c, .slice A1.r6.P A1.r6.l.length A1.r6.c, .slice A1.r7.P A1.r7.l.length A1.r7.c], .int .i64 x] w fun r w' => r = .returned (.tuple #[.agg #[.int .i64 e.a0, .int .i64 e.a1, .int .i64 e.a2, .int .i64 e.a3, .int .i64 e.a4, .int .i64 e.a5, .int .i64 e.a6, .int .u32 e.a7, .int .i64 e.a8, .int .u32 e.a9, .int .u32 e.a10, .int .u32 e.a11, .int .u32 e.a12, .int .i64 e.a13, .int .u32 e.a14], .bool os]) ∧ Below w.heap.size w w') := fun A1 w h1 cA iA => by
  have := spec_b A A1 b x o w HC0.out HB0.out h1 sA cA iA
  rw [HCc.out, HOs.out] at this
  exact this
 have HIm : Hid (∀ (A1 : QK) (w : World), A1.pl = A.pl → (A1.sl.length ≤ A1.sc ∧ A1.sc ≤ 9223372036854775807) → KernIn w A1 → Calls Tryz.prog 14 #[.agg #[.int .i64 A1.bits, .int .i64 A1.ticks, .slice A1.sP A1.sl.length A1.sc, .slice A1.tP A1.tl.length A1.tc, .slice A1.eP A1.el.length A1.ec, .slice A1.nP A1.nl.length A1.nc, .slice A1.fP A1.fl.length A1.fc, .slice A1.r0.P A1.r0.l.length A1.r0.c, .slice A1.r1.P A1.r1.l.length A1.r1.c, .slice A1.r2.P A1.r2.l.length A1.r2.c, .slice A1.r3.P A1.r3.l.length A1.r3.c, .slice A1.r4.P A1.r4.l.length A1.r4.c, .slice A1.r5.P A1.r5.l.length A1.r5.c, .slice A1.r6.P A1.r6.l.length A1.r6.c, .slice A1.r7.P A1.r7.l.length A1.r7.c], .int .i64 x] w fun r w' => r = .returned (.tuple #[.agg #[.int .i64 e.a0, .int .i64 e.a1, .int .i64 e.a2, .int .i64 e.a3, .int .i64 e.a4, .int .i64 e.a5, .int .i64 e.a6, .int .u32 e.a7, .int .i64 e.a8, .int .u32 e.a9, .int .u32 e.a10, .int .u32 e.a11, .int .u32 e.a12, .int .i64 e.a13, .int .u32 e.a14], .bool os]) ∧ Below w.heap.size w w') := fun A1 w h1 cA iA => by
  have := impl_b A A1 b x o w HX.out HC0.out HB0.out h1 sA fA cA iA
  rw [HCc.out, HOs.out] at this
  exact this
 clear hcc hos
 clear eq1 hsz hb0 hx hc0
 go_enter Tryz.func4, Tryz.ntmps4
 go_upto_region 2 with fail
 generalize hW0 : (w.alloc (.cells #[.int .i64 A.bits, .int .i64 A.ticks, .slice A.sP A.sl.length A.sc, .slice A.tP A.tl.length A.tc, .slice A.eP A.el.length A.ec, .slice A.nP A.nl.length A.nc, .slice A.fP A.fl.length A.fc, .slice A.r0.P A.r0.l.length A.r0.c, .slice A.r1.P A.r1.l.length A.r1.c, .slice A.r2.P A.r2.l.length A.r2.c, .slice A.r3.P A.r3.l.length A.r3.c, .slice A.r4.P A.r4.l.length A.r4.c, .slice A.r5.P A.r5.l.length A.r5.c, .slice A.r6.P A.r6.l.length A.r6.c, .slice A.r7.P A.r7.l.length A.r7.c] 30)) = w0 at ka bW ⊢
 clear hW0
 obtain ⟨g0, g1, g2, g3, g4, g5, g6, g7, g8, g9, g10, g11, g12, g13, g14⟩ := facts15 ka
 go_upto_region 5 with ((go_at_call 7; refine (HS1.out _ bW).mono ?_; rintro e w1 ⟨rfl, hb⟩))
 have ka := ka.below hb
 have bW := bW.trans (hb.mono bW.size)
 clear hb HS1 g0 g1 g2 g3 g4 g5 g6 g7 g8 g9 g10 g11 g12 g13 g14
 obtain ⟨g0, g1, g2, g3, g4, g5, g6, g7, g8, g9, g10, g11, g12, g13, g14⟩ := facts15 ka
 go_upto_region 6 with (first
  | (go_at_call 9; refine (toK_cap A _ sA (hA.below bW)).mono ?_; rintro e w2 ⟨A1, rfl, pA1, iA1, hb2, cp1⟩)
  | (go_at_call 13; refine (HSp.out A1 _ pA1 cp1 iA1).mono ?_; rintro e w3 ⟨rfl, hb3⟩))
 have hb23 := hb2.trans (hb3.mono hb2.size)
 have ka := ka.below hb23
 have bW := bW.trans (hb23.mono bW.size)
 have bs3 : Below w3.heap.size w3 (w3.alloc (.cells #[.int .i64 e.a0, .int .i64 e.a1, .int .i64 e.a2, .int .i64 e.a3, .int .i64 e.a4, .int .i64 e.a5, .int .i64 e.a6, .int .u32 e.a7, .int .i64 e.a8, .int .u32 e.a9, .int .u32 e.a10, .int .u32 e.a11, .int .u32 e.a12, .int .i64 e.a13, .int .u32 e.a14] 50)) := (Below.refl _ _).alloc (Nat.le_refl _) _
 have ka := ka.below bs3
 have bW := bW.trans (bs3.mono bW.size)
 have ks := boxL w3 [.int .i64 e.a0, .int .i64 e.a1, .int .i64 e.a2, .int .i64 e.a3, .int .i64 e.a4, .int .i64 e.a5, .int .i64 e.a6, .int .u32 e.a7, .int .i64 e.a8, .int .u32 e.a9, .int .u32 e.a10, .int .u32 e.a11, .int .u32 e.a12, .int .i64 e.a13, .int .u32 e.a14] 50
 generalize hn3 : w3.heap.size = n3s at ks ⊢
 generalize hW3 : (w3.alloc (.cells #[.int .i64 e.a0, .int .i64 e.a1, .int .i64 e.a2, .int .i64 e.a3, .int .i64 e.a4, .int .i64 e.a5, .int .i64 e.a6, .int .u32 e.a7, .int .i64 e.a8, .int .u32 e.a9, .int .u32 e.a10, .int .u32 e.a11, .int .u32 e.a12, .int .i64 e.a13, .int .u32 e.a14] 50)) = v3 at bs3 ka bW ks ⊢
 clear hW3 hn3 bs3
 clear hb2 hb3 hb23 iA1 pA1 cp1 g0 g1 g2 g3 g4 g5 g6 g7 g8 g9 g10 g11 g12 g13 g14
 as_aux_lemma =>
  obtain ⟨g0, g1, g2, g3, g4, g5, g6, g7, g8, g9, g10, g11, g12, g13, g14⟩ := facts15 ka
  go_upto_region 7 with ((go_at_call 9; refine (toK_cap A _ sA (hA.below bW)).mono ?_; rintro e w6 ⟨A2, rfl, pA2, iA2, hb6, cp2⟩))
  clear g0 g1 g2 g3 g4 g5 g6 g7 g8 g9 g10 g11 g12 g13 g14
  have bx6 : Below w6.heap.size w6 (w6.alloc (.cells #[.int .i64 A2.bits, .int .i64 A2.ticks, .slice A2.sP A2.sl.length A2.sc, .slice A2.tP A2.tl.length A2.tc, .slice A2.eP A2.el.length A2.ec, .slice A2.nP A2.nl.length A2.nc, .slice A2.fP A2.fl.length A2.fc, .slice A2.r0.P A2.r0.l.length A2.r0.c, .slice A2.r1.P A2.r1.l.length A2.r1.c, .slice A2.r2.P A2.r2.l.length A2.r2.c, .slice A2.r3.P A2.r3.l.length A2.r3.c, .slice A2.r4.P A2.r4.l.length A2.r4.c, .slice A2.r5.P A2.r5.l.length A2.r5.c, .slice A2.r6.P A2.r6.l.length A2.r6.c, .slice A2.r7.P A2.r7.l.length A2.r7.c] 42)) := (Below.refl _ _).alloc (Nat.le_refl _) _
  have hb65 := hb6.trans (bx6.mono hb6.size)
  have ks := ks.below hb65
  have ka6 := ka.below hb65
  have kx6 := boxL w6 [.int .i64 A2.bits, .int .i64 A2.ticks, .slice A2.sP A2.sl.length A2.sc, .slice A2.tP A2.tl.length A2.tc, .slice A2.eP A2.el.length A2.ec, .slice A2.nP A2.nl.length A2.nc, .slice A2.fP A2.fl.length A2.fc, .slice A2.r0.P A2.r0.l.length A2.r0.c, .slice A2.r1.P A2.r1.l.length A2.r1.c, .slice A2.r2.P A2.r2.l.length A2.r2.c, .slice A2.r3.P A2.r3.l.length A2.r3.c, .slice A2.r4.P A2.r4.l.length A2.r4.c, .slice A2.r5.P A2.r5.l.length A2.r5.c, .slice A2.r6.P A2.r6.l.length A2.r6.c, .slice A2.r7.P A2.r7.l.length A2.r7.c] 42
  have iA6 := iA2.below bx6
  have b6 := bW.trans (hb65.mono bW.size)
  clear ka hb6 hb65 iA2 bW
  generalize hn7 : w6.heap.size = n7 at kx6 ⊢
  generalize hW6 : w6.alloc (.cells #[.int .i64 A2.bits, .int .i64 A2.ticks, .slice A2.sP A2.sl.length A2.sc, .slice A2.tP A2.tl.length A2.tc, .slice A2.eP A2.el.length A2.ec, .slice A2.nP A2.nl.length A2.nc, .slice A2.fP A2.fl.length A2.fc, .slice A2.r0.P A2.r0.l.length A2.r0.c, .slice A2.r1.P A2.r1.l.length A2.r1.c, .slice A2.r2.P A2.r2.l.length A2.r2.c, .slice A2.r3.P A2.r3.l.length A2.r3.c, .slice A2.r4.P A2.r4.l.length A2.r4.c, .slice A2.r5.P A2.r5.l.length A2.r5.c, .slice A2.r6.P A2.r6.l.length A2.r6.c, .slice A2.r7.P A2.r7.l.length A2.r7.c] 42) = v6 at bx6 ka6 kx6 iA6 b6 ks ⊢
  clear hW6 bx6 hn7
  as_aux_lemma =>
   have sA2 := short_of pA2 sA
   obtain ⟨g0, g1, g2, g3, g4, g5, g6, g7, g8, g9, g10, g11, g12, g13, g14⟩ := facts15 kx6
   go_upto_region 8 with ((go_at_call 14; refine (HIm.out A2 _ pA2 cp2 iA6).mono ?_; rintro e w8 ⟨rfl, hb8⟩))
   clear g0 g1 g2 g3 g4 g5 g6 g7 g8 g9 g10 g11 g12 g13 g14
   have bg8 : Below w8.heap.size w8 (w8.alloc (.cells #[.int .i64 e.a0, .int .i64 e.a1, .int .i64 e.a2, .int .i64 e.a3, .int .i64 e.a4, .int .i64 e.a5, .int .i64 e.a6, .int .u32 e.a7, .int .i64 e.a8, .int .u32 e.a9, .int .u32 e.a10, .int .u32 e.a11, .int .u32 e.a12, .int .i64 e.a13, .int .u32 e.a14] 50)) := (Below.refl _ _).alloc (Nat.le_refl _) _
   have hb89 := hb8.trans (bg8.mono hb8.size)
   have ka8 := ka6.below hb89
   have kx8 := kx6.below hb89
   have iA8 := iA6.below hb89
   have b8 := b6.trans (hb89.mono b6.size)
   have ks8 := ks.below hb89
   have kg8 := boxL w8 [.int .i64 e.a0, .int .i64 e.a1, .int .i64 e.a2, .int .i64 e.a3, .int .i64 e.a4, .int .i64 e.a5, .int .i64 e.a6, .int .u32 e.a7, .int .i64 e.a8, .int .u32 e.a9, .int .u32 e.a10, .int .u32 e.a11, .int .u32 e.a12, .int .i64 e.a13, .int .u32 e.a14] 50
   clear ka6 kx6 iA6 hb8 hb89 b6 ks
   generalize hn8 : w8.heap.size = n8b at kg8 ⊢
   generalize hW8 : (w8.alloc (.cells #[.int .i64 e.a0, .int .i64 e.a1, .int .i64 e.a2, .int .i64 e.a3, .int .i64 e.a4, .int .i64 e.a5, .int .i64 e.a6, .int .u32 e.a7, .int .i64 e.a8, .int .u32 e.a9, .int .u32 e.a10, .int .u32 e.a11, .int .u32 e.a12, .int .i64 e.a13, .int .u32 e.a14] 50)) = v8 at bg8 ka8 kx8 iA8 b8 ks8 kg8 ⊢
   clear hW8 bg8 hn8
   have p0 := atV ks8 0 _ rfl
   have p1 := atV ks8 1 _ rfl
   have p2 := atV ks8 2 _ rfl
   have p3 := atV ks8 3 _ rfl
   have p4 := atV ks8 4 _ rfl
   have p5 := atV ks8 5 _ rfl
   have p6 := atV ks8 6 _ rfl
   have p7 := atV ks8 7 _ rfl
   have p8 := atV ks8 8 _ rfl
   have p9 := atV ks8 9 _ rfl
   have p10 := atV ks8 10 _ rfl
   have p11 := atV ks8 11 _ rfl
   have p12 := atV ks8 12 _ rfl
   have p13 := atV ks8 13 _ rfl
   have p14 := atV ks8 14 _ rfl
   have q0 := atV kg8 0 _ rfl
   have q1 := atV kg8 1 _ rfl
   have q2 := atV kg8 2 _ rfl
   have q3 := atV kg8 3 _ rfl
   have q4 := atV kg8 4 _ rfl
   have q5 := atV kg8 5 _ rfl
   have q6 := atV kg8 6 _ rfl
   have q7 := atV kg8 7 _ rfl
   have q8 := atV kg8 8 _ rfl
   have q9 := atV kg8 9 _ rfl
   have q10 := atV kg8 10 _ rfl
   have q11 := atV kg8 11 _ rfl
   have q12 := atV kg8 12 _ rfl
   have q13 := atV kg8 13 _ rfl
   have q14 := atV kg8 14 _ rfl
   go_upto_region 10 with ((go_at_call 15; refine (eqT1_same _ _).mono ?_; rintro r w9q ⟨rfl, hbq⟩))
   have ka8 := ka8.below hbq
   have kx8 := kx8.below hbq
   have iA8 := iA8.below hbq
   have b8 := b8.trans (hbq.mono b8.size)
   clear p0 p1 p2 p3 p4 p5 p6 p7 p8 p9 p10 p11 p12 p13 p14 q0 q1 q2 q3 q4 q5 q6 q7 q8 q9 q10 q11 q12 q13 q14 ks8 kg8 hbq
   as_aux_lemma =>
    have s8 := And.intro (facts15 kx8.drew) (facts15 ka8.drew)
    have b8D : Below w.heap.size w w9q.drew := b8.drew
    have c8 : Below w9q.heap.size w9q w9q.drew := (Below.refl _ _).drew
    have kx8D := kx8.drew
    have ka8D := ka8.drew
    go_region_held3 (fun w' => (w'.cell? ⟨n7, 0, none⟩ = some (.int .i64 A2.bits) ∧ w'.cell? ⟨n7, 1, none⟩ = some (.int .i64 A2.ticks) ∧ w'.cell? ⟨n7, 2, none⟩ = some (.slice A2.sP A2.sl.length A2.sc) ∧ w'.cell? ⟨n7, 3, none⟩ = some (.slice A2.tP A2.tl.length A2.tc) ∧ w'.cell? ⟨n7, 4, none⟩ = some (.slice A2.eP A2.el.length A2.ec) ∧ w'.cell? ⟨n7, 5, none⟩ = some (.slice A2.nP A2.nl.length A2.nc) ∧ w'.cell? ⟨n7, 6, none⟩ = some (.slice A2.fP A2.fl.length A2.fc) ∧ w'.cell? ⟨n7, 7, none⟩ = some (.slice A2.r0.P A2.r0.l.length A2.r0.c) ∧ w'.cell? ⟨n7, 8, none⟩ = some (.slice A2.r1.P A2.r1.l.length A2.r1.c) ∧ w'.cell? ⟨n7, 9, none⟩ = some (.slice A2.r2.P A2.r2.l.length A2.r2.c) ∧ w'.cell? ⟨n7, 10, none⟩ = some (.slice A2.r3.P A2.r3.l.length A2.r3.c) ∧ w'.cell? ⟨n7, 11, none⟩ = some (.slice A2.r4.P A2.r4.l.length A2.r4.c) ∧ w'.cell? ⟨n7, 12, none⟩ = some (.slice A2.r5.P A2.r5.l.length A2.r5.c) ∧ w'.cell? ⟨n7, 13, none⟩ = some (.slice A2.r6.P A2.r6.l.length A2.r6.c) ∧ w'.cell? ⟨n7, 14, none⟩ = some (.slice A2.r7.P A2.r7.l.length A2.r7.c)) ∧ (w'.cell? ⟨w.heap.size, 0, none⟩ = some (.int .i64 A.bits) ∧ w'.cell? ⟨w.heap.size, 1, none⟩ = some (.int .i64 A.ticks) ∧ w'.cell? ⟨w.heap.size, 2, none⟩ = some (.slice A.sP A.sl.length A.sc) ∧ w'.cell? ⟨w.heap.size, 3, none⟩ = some (.slice A.tP A.tl.length A.tc) ∧ w'.cell? ⟨w.heap.size, 4, none⟩ = some (.slice A.eP A.el.length A.ec) ∧ w'.cell? ⟨w.heap.size, 5, none⟩ = some (.slice A.nP A.nl.length A.nc) ∧ w'.cell? ⟨w.heap.size, 6, none⟩ = some (.slice A.fP A.fl.length A.fc) ∧ w'.cell? ⟨w.heap.size, 7, none⟩ = some (.slice A.r0.P A.r0.l.length A.r0.c) ∧ w'.cell? ⟨w.heap.size, 8, none⟩ = some (.slice A.r1.P A.r1.l.length A.r1.c) ∧ w'.cell? ⟨w.heap.size, 9, none⟩ = some (.slice A.r2.P A.r2.l.length A.r2.c) ∧ w'.cell? ⟨w.heap.size, 10, none⟩ = some (.slice A.r3.P A.r3.l.length A.r3.c) ∧ w'.cell? ⟨w.heap.size, 11, none⟩ = some (.slice A.r4.P A.r4.l.length A.r4.c) ∧ w'.cell? ⟨w.heap.size, 12, none⟩ = some (.slice A.r5.P A.r5.l.length A.r5.c) ∧ w'.cell? ⟨w.heap.size, 13, none⟩ = some (.slice A.r6.P A.r6.l.length A.r6.c) ∧ w'.cell? ⟨w.heap.size, 14, none⟩ = some (.slice A.r7.P A.r7.l.length A.r7.c))) (first | exact s8 | exact s9 | exact s10)
     (first
      | (go_at_call 9; refine (toK_any A _ sA (hA.below b8D)).mono ?_; rintro e w9 ⟨A3, rfl, pA3, iA3, hb9⟩; have t1 := kx8D.below hb9; have t2 := ka8D.below hb9; have s9 := And.intro (facts15 t1) (facts15 t2))
      | (go_at_call 12; refine (eqK_same A2 A3 _ sA2 (short_of pA3 sA) (pA2.trans pA3.symm) ((iA8.below c8).below hb9) iA3).mono ?_; rintro e w10 ⟨rfl, hb10⟩; have s10 := And.intro (facts15 (t1.below hb10)) (facts15 (t2.below hb10))))
    have hb810 : Below w9q.heap.size w9q w10 := (c8.trans (hb9.mono c8.size)).trans (hb10.mono (Nat.le_trans c8.size hb9.size))
    have b10 := b8.trans (hb810.mono b8.size)
    clear s8 s9 s10 t1 t2 kx8D ka8D kx8 ka8 iA8 hb9 hb10 hb810 b8D c8 b8 iA3
    go_wp2
    go_ret
    exact ⟨rfl, b10⟩

set_option maxRecDepth 100000 in
set_option maxHeartbeats 4000000 in
theorem walk_great (A : QK) (x : Int) (w : World) (hA : KernIn w A) (lA : A.Long) (hsz : ¬ (A.sz : Int) ≤ 1048576) :
  Calls Tryz.prog 4 #[.agg #[.int .i64 A.bits, .int .i64 A.ticks, .slice A.sP A.sl.length A.sc, .slice A.tP A.tl.length A.tc, .slice A.eP A.el.length A.ec, .slice A.nP A.nl.length A.nc, .slice A.fP A.fl.length A.fc, .slice A.r0.P A.r0.l.length A.r0.c, .slice A.r1.P A.r1.l.length A.r1.c, .slice A.r2.P A.r2.l.length A.r2.c, .slice A.r3.P A.r3.l.length A.r3.c, .slice A.r4.P A.r4.l.length A.r4.c, .slice A.r5.P A.r5.l.length A.r5.c, .slice A.r6.P A.r6.l.length A.r6.c, .slice A.r7.P A.r7.l.length A.r7.c], .int .i64 x] w fun e w' => e = .returned (.bool true) ∧ Below w.heap.size w w' := by
 have ka := boxL w [.int .i64 A.bits, .int .i64 A.ticks, .slice A.sP A.sl.length A.sc, .slice A.tP A.tl.length A.tc, .slice A.eP A.el.length A.ec, .slice A.nP A.nl.length A.nc, .slice A.fP A.fl.length A.fc, .slice A.r0.P A.r0.l.length A.r0.c, .slice A.r1.P A.r1.l.length A.r1.c, .slice A.r2.P A.r2.l.length A.r2.c, .slice A.r3.P A.r3.l.length A.r3.c, .slice A.r4.P A.r4.l.length A.r4.c, .slice A.r5.P A.r5.l.length A.r5.c, .slice A.r6.P A.r6.l.length A.r6.c, .slice A.r7.P A.r7.l.length A.r7.c] 30
 have bW : Below w.heap.size w (w.alloc (.cells #[.int .i64 A.bits, .int .i64 A.ticks, .slice A.sP A.sl.length A.sc, .slice A.tP A.tl.length A.tc, .slice A.eP A.el.length A.ec, .slice A.nP A.nl.length A.nc, .slice A.fP A.fl.length A.fc, .slice A.r0.P A.r0.l.length A.r0.c, .slice A.r1.P A.r1.l.length A.r1.c, .slice A.r2.P A.r2.l.length A.r2.c, .slice A.r3.P A.r3.l.length A.r3.c, .slice A.r4.P A.r4.l.length A.r4.c, .slice A.r5.P A.r5.l.length A.r5.c, .slice A.r6.P A.r6.l.length A.r6.c, .slice A.r7.P A.r7.l.length A.r7.c] 30)) := (by repeat (first | exact Below.refl _ _ | (refine Below.setCell ?_ (by simp; try omega) _) | (refine Below.alloc ?_ (by simp; try omega) _)))
 have HS1 : Hid _ := (fun (W : World) (hb : Below w.heap.size w W) => szK_any A 1048576 W (by decide) (by decide) lA (hA.below hb))
 rw [szR_neg hsz] at HS1
 go_enter Tryz.func4, Tryz.ntmps4
 go_upto_region 2 with fail
 generalize hW0 : (w.alloc (.cells #[.int .i64 A.bits, .int .i64 A.ticks, .slice A.sP A.sl.length A.sc, .slice A.tP A.tl.length A.tc, .slice A.eP A.el.length A.ec, .slice A.nP A.nl.length A.nc, .slice A.fP A.fl.length A.fc, .slice A.r0.P A.r0.l.length A.r0.c, .slice A.r1.P A.r1.l.length A.r1.c, .slice A.r2.P A.r2.l.length A.r2.c, .slice A.r3.P A.r3.l.length A.r3.c, .slice A.r4.P A.r4.l.length A.r4.c, .slice A.r5.P A.r5.l.length A.r5.c, .slice A.r6.P A.r6.l.length A.r6.c, .slice A.r7.P A.r7.l.length A.r7.c] 30)) = w0 at ka bW ⊢
 clear hW0
 obtain ⟨g0, g1, g2, g3, g4, g5, g6, g7, g8, g9, g10, g11, g12, g13, g14⟩ := facts15 ka
 go_wp2_with ((go_at_call 7; refine (HS1.out _ bW).mono ?_; rintro e w1 ⟨rfl, hb⟩))
 go_ret
 exact ⟨rfl, bW.trans (hb.mono bW.size)⟩

/-! ### The walk: the Go text returns true and writes nothing that was there. -/
theorem walk (w : World) (A : QK) (x : Int) (hx : FitI x) (hA : KernIn w A) (lA : A.Long) (fA : A.Fits) :
  Calls Tryz.prog 4 #[.agg #[.int .i64 A.bits, .int .i64 A.ticks, .slice A.sP A.sl.length A.sc, .slice A.tP A.tl.length A.tc, .slice A.eP A.el.length A.ec, .slice A.nP A.nl.length A.nc, .slice A.fP A.fl.length A.fc, .slice A.r0.P A.r0.l.length A.r0.c, .slice A.r1.P A.r1.l.length A.r1.c, .slice A.r2.P A.r2.l.length A.r2.c, .slice A.r3.P A.r3.l.length A.r3.c, .slice A.r4.P A.r4.l.length A.r4.c, .slice A.r5.P A.r5.l.length A.r5.c, .slice A.r6.P A.r6.l.length A.r6.c, .slice A.r7.P A.r7.l.length A.r7.c], .int .i64 x] w fun e w' => e = .returned (.bool true) ∧ Below w.heap.size w w' := by
 by_cases h1 : (A.sz : Int) ≤ 1048576
 ·exact walk_small A x hx w hA lA fA h1
 ·exact walk_great A x w hA lA h1

/-! ### The row's step. -/
set_option maxRecDepth 100000 in
theorem lifted (os : Os) (started : os.Started) (H : Type) (enc : TypeId × Value → H) :
  ReturnsInHanded {} Tryz.checked os 4 .any (Rows.fnExactKernThreadAtSpec.pre6 enc Tryz.prog Tryz.f4 Rows.fnExactKernThreadAtRow.domain false) (Rows.fnExactKernThreadAtSpec.post enc Tryz.prog Tryz.f4 false true false false) := by
 refine returnsInHanded_of_change (C := Tryz.checked) own started (by kernel_rfl) Tryz.func4
  (ChangeSpec.witness6 (enc := enc) (C := Tryz.checked) false ⟨#[], #[.agg #[.int .i64 0, .int .i64 0, .slice none 0 0, .slice none 0 0, .slice none 0 0, .slice none 0 0, .slice none 0 0, .slice none 0 0, .slice none 0 0, .slice none 0 0, .slice none 0 0, .slice none 0 0, .slice none 0 0, .slice none 0 0, .slice none 0 0], .int .i64 0], []⟩ 8 (by kernel_rfl) (by kernel_rfl) (by kernel_rfl) (by kernel_rfl)) ?_
 intro W base args ds gs before hval0 hW hcnd _
 have hval : ∀ (j : Nat) t v, Tryz.f4.params[j]? = some t → args[j]? = some v → Value.okWide Tryz.prog W .any base t v := hval0
 have hW' := hW
 obtain ⟨p, q, hA0, hV, rfl, hfz, hnd⟩ := hW
 have hA : DataW.TrodAll enc Tryz.prog W 0 (fun _ => true) true Tryz.f4.params.toList args.toList ds p := hA0
 rw [Tryz.params4] at hA hval
 obtain ⟨v0, vs0, D0, Ds0, P0, Q0, hargs, rfl, rfl, h0, R0⟩ := trodAll_cons hA
 obtain ⟨v1, vs1, D1, Ds1, P1, Q1, rfl, rfl, rfl, h1, R1⟩ := trodAll_cons R0
 obtain ⟨rfl, rfl, rfl⟩ := trodAll_nil R1
 obtain rfl : args = #[v0, v1] := by cases args; simp_all
 obtain ⟨rfl, rfl⟩ := trodVars_none hV
 have t0 := h0
 have lt0 : ∀ x ∈ P0, x.block < W.heap.size := by obtain ⟨m, hm⟩ := t0; exact DataW.trod_lt m _ _ _ hm
 obtain ⟨A, rfl, iA, lA, fA⟩ := open_kernF (hval 0 30 v0 rfl rfl) h0
 obtain ⟨x, rfl, rfl, rfl, wx⟩ := open_int Tryz.underlying3 (hval 1 3 v1 rfl rfl) h1
 clear hA0 hval0
 refine (walk W A x (fit_wf wx) iA lA fA).mono fun e W' ⟨he, bel⟩ => ?_
 subst he
 exact ⟨_, rfl, _, _, _, [], _, [], hW', trodAll_mk1 (shut_bool Tryz.underlying4 _), (trodAll_cons_mk (Below.trod laidOut (by kernel_rfl) (of_decide_eq_true (by kernel_rfl)) t0 bel lt0) (trodAll_cons_mk (shut_int Tryz.underlying3 wx) trodAll_mk0)), rfl, bel.frame _, fun h => by cases h⟩

theorem over : Rows.fnExactKernThreadAtRow.holds Tryz.pinned (OpenSpec.ofChange Rows.fnExactKernThreadAtSpec) :=
 OpenClaim.holds_of_wide 4 Tryz.f4 rfl rfl rfl rfl rfl rfl rfl ⟨rfl, rfl, rfl, rfl, rfl⟩ rfl rfl rfl rfl rfl (by kernel_rfl) Tryz.func4 (by kernel_rfl)
  (of_decide_eq_true (by kernel_rfl)) (by unfold Func.isWrapper; first | (rw [if_pos (by decide +kernel)]; kernel_rfl) | (rw [if_neg (by decide +kernel)]; exact ⟨rfl, rfl⟩))
  (fun os started H enc _ => lifted os started H enc)

/-- The statement. -/
theorem proved : Rows.FnExactKernThreadAtSaid := over
#print axioms proved
end Go.Proofs.YtigpbjcmmgdiaaaGreat.fnExactKernThreadAt
