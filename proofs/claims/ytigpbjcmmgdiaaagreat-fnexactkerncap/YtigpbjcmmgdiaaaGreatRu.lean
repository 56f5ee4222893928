/-
  Texts of the proof, put together: KernEq, Spec4D.
-/
import Derived.Test.YtigpbjcmmgdiaaaGreatBk
import Derived.Laws.ResultCell
import Derived.Test.YtigpbjcmmgdiaaaGreatBp
/-
 Two states that say the same, compared by the laws.
-/
namespace Go.Proofs.YtigpbjcmmgdiaaaGreat
open Go.ChangeShapes Go.WideShapes Go.ChangeAt Go.RowKit
set_option linter.unusedVariables false

theorem boxL (w : World) (L : List Value) (T : Nat) : LiesG fV (w.alloc (.cells L.toArray T)) (some ⟨w.heap.size, 0, none⟩) L := by
 apply mkV
 intro k v hk
 rw [World.cell?_alloc_at _ _ _ _ rfl]
 simpa using hk

set_option maxRecDepth 100000 in
set_option maxHeartbeats 10000000 in
theorem eqK_same (K K' : QK) (w : World) (hs : K.Short) (hs' : K'.Short) (hpl : K.pl = K'.pl) (hK : KernIn w K) (hK' : KernIn w K') :
  Calls Tryz.prog 12 #[.agg #[.int .i64 K.bits, .int .i64 K.ticks, .slice K.sP K.sl.length K.sc, .slice K.tP K.tl.length K.tc, .slice K.eP K.el.length K.ec, .slice K.nP K.nl.length K.nc, .slice K.fP K.fl.length K.fc, .slice K.r0.P K.r0.l.length K.r0.c, .slice K.r1.P K.r1.l.length K.r1.c, .slice K.r2.P K.r2.l.length K.r2.c, .slice K.r3.P K.r3.l.length K.r3.c, .slice K.r4.P K.r4.l.length K.r4.c, .slice K.r5.P K.r5.l.length K.r5.c, .slice K.r6.P K.r6.l.length K.r6.c, .slice K.r7.P K.r7.l.length K.r7.c], .agg #[.int .i64 K'.bits, .int .i64 K'.ticks, .slice K'.sP K'.sl.length K'.sc, .slice K'.tP K'.tl.length K'.tc, .slice K'.eP K'.el.length K'.ec, .slice K'.nP K'.nl.length K'.nc, .slice K'.fP K'.fl.length K'.fc, .slice K'.r0.P K'.r0.l.length K'.r0.c, .slice K'.r1.P K'.r1.l.length K'.r1.c, .slice K'.r2.P K'.r2.l.length K'.r2.c, .slice K'.r3.P K'.r3.l.length K'.r3.c, .slice K'.r4.P K'.r4.l.length K'.r4.c, .slice K'.r5.P K'.r5.l.length K'.r5.c, .slice K'.r6.P K'.r6.l.length K'.r6.c, .slice K'.r7.P K'.r7.l.length K'.r7.c]] w fun r w' => r = .returned (.bool true) ∧ Below w.heap.size w w' := by
 have p1 : K'.bits = K.bits := (congrArg (fun p => p.1.1) hpl).symm
 have p2 : K'.ticks = K.ticks := (congrArg (fun p => p.1.2) hpl).symm
 have p3 : K'.sl = K.sl := (congrArg (fun p => p.2.1) hpl).symm
 have p4 : K'.tl = K.tl := (congrArg (fun p => p.2.2.1) hpl).symm
 have p5 : K.el.map QE.pl = K'.el.map QE.pl := congrArg (fun p => p.2.2.2.1) hpl
 have p6 : K.nl.map QN.pl = K'.nl.map QN.pl := congrArg (fun p => p.2.2.2.2.1) hpl
 have p7 : K.fl.map QF.pl = K'.fl.map QF.pl := congrArg (fun p => p.2.2.2.2.2.1) hpl
 have p8 : [K.r0, K.r1, K.r2, K.r3, K.r4, K.r5, K.r6, K.r7].map QR.l = [K'.r0, K'.r1, K'.r2, K'.r3, K'.r4, K'.r5, K'.r6, K'.r7].map QR.l := congrArg (fun p => p.2.2.2.2.2.2) hpl
 have l3 : K'.sl.length = K.sl.length := by rw [p3]
 have l4 : K'.tl.length = K.tl.length := by rw [p4]
 have l5 : K'.el.length = K.el.length := by have := congrArg List.length p5; simpa using this.symm
 have l6 : K'.nl.length = K.nl.length := by have := congrArg List.length p6; simpa using this.symm
 have l7 : K'.fl.length = K.fl.length := by have := congrArg List.length p7; simpa using this.symm
 rw [p1, p2, l3, l4, l5, l6, l7]
 have ka := (boxL w [.int .i64 K.bits, .int .i64 K.ticks, .slice K.sP K.sl.length K.sc, .slice K.tP K.tl.length K.tc, .slice K.eP K.el.length K.ec, .slice K.nP K.nl.length K.nc, .slice K.fP K.fl.length K.fc, .slice K.r0.P K.r0.l.length K.r0.c, .slice K.r1.P K.r1.l.length K.r1.c, .slice K.r2.P K.r2.l.length K.r2.c, .slice K.r3.P K.r3.l.length K.r3.c, .slice K.r4.P K.r4.l.length K.r4.c, .slice K.r5.P K.r5.l.length K.r5.c, .slice K.r6.P K.r6.l.length K.r6.c, .slice K.r7.P K.r7.l.length K.r7.c] 42).below ((Below.refl _ _).alloc (Nat.le_refl _) (.cells #[.int .i64 K.bits, .int .i64 K.ticks, .slice K'.sP K.sl.length K'.sc, .slice K'.tP K.tl.length K'.tc, .slice K'.eP K.el.length K'.ec, .slice K'.nP K.nl.length K'.nc, .slice K'.fP K.fl.length K'.fc, .slice K'.r0.P K'.r0.l.length K'.r0.c, .slice K'.r1.P K'.r1.l.length K'.r1.c, .slice K'.r2.P K'.r2.l.length K'.r2.c, .slice K'.r3.P K'.r3.l.length K'.r3.c, .slice K'.r4.P K'.r4.l.length K'.r4.c, .slice K'.r5.P K'.r5.l.length K'.r5.c, .slice K'.r6.P K'.r6.l.length K'.r6.c, .slice K'.r7.P K'.r7.l.length K'.r7.c] 42))
 have kb := boxL (w.alloc (.cells #[.int .i64 K.bits, .int .i64 K.ticks, .slice K.sP K.sl.length K.sc, .slice K.tP K.tl.length K.tc, .slice K.eP K.el.length K.ec, .slice K.nP K.nl.length K.nc, .slice K.fP K.fl.length K.fc, .slice K.r0.P K.r0.l.length K.r0.c, .slice K.r1.P K.r1.l.length K.r1.c, .slice K.r2.P K.r2.l.length K.r2.c, .slice K.r3.P K.r3.l.length K.r3.c, .slice K.r4.P K.r4.l.length K.r4.c, .slice K.r5.P K.r5.l.length K.r5.c, .slice K.r6.P K.r6.l.length K.r6.c, .slice K.r7.P K.r7.l.length K.r7.c] 42)) [.int .i64 K.bits, .int .i64 K.ticks, .slice K'.sP K.sl.length K'.sc, .slice K'.tP K.tl.length K'.tc, .slice K'.eP K.el.length K'.ec, .slice K'.nP K.nl.length K'.nc, .slice K'.fP K.fl.length K'.fc, .slice K'.r0.P K'.r0.l.length K'.r0.c, .slice K'.r1.P K'.r1.l.length K'.r1.c, .slice K'.r2.P K'.r2.l.length K'.r2.c, .slice K'.r3.P K'.r3.l.length K'.r3.c, .slice K'.r4.P K'.r4.l.length K'.r4.c, .slice K'.r5.P K'.r5.l.length K'.r5.c, .slice K'.r6.P K'.r6.l.length K'.r6.c, .slice K'.r7.P K'.r7.l.length K'.r7.c] 42
 rw [World.size_alloc] at kb
 have bW : Below w.heap.size w ((w.alloc (.cells #[.int .i64 K.bits, .int .i64 K.ticks, .slice K.sP K.sl.length K.sc, .slice K.tP K.tl.length K.tc, .slice K.eP K.el.length K.ec, .slice K.nP K.nl.length K.nc, .slice K.fP K.fl.length K.fc, .slice K.r0.P K.r0.l.length K.r0.c, .slice K.r1.P K.r1.l.length K.r1.c, .slice K.r2.P K.r2.l.length K.r2.c, .slice K.r3.P K.r3.l.length K.r3.c, .slice K.r4.P K.r4.l.length K.r4.c, .slice K.r5.P K.r5.l.length K.r5.c, .slice K.r6.P K.r6.l.length K.r6.c, .slice K.r7.P K.r7.l.length K.r7.c] 42)).alloc (.cells #[.int .i64 K.bits, .int .i64 K.ticks, .slice K'.sP K.sl.length K'.sc, .slice K'.tP K.tl.length K'.tc, .slice K'.eP K.el.length K'.ec, .slice K'.nP K.nl.length K'.nc, .slice K'.fP K.fl.length K'.fc, .slice K'.r0.P K'.r0.l.length K'.r0.c, .slice K'.r1.P K'.r1.l.length K'.r1.c, .slice K'.r2.P K'.r2.l.length K'.r2.c, .slice K'.r3.P K'.r3.l.length K'.r3.c, .slice K'.r4.P K'.r4.l.length K'.r4.c, .slice K'.r5.P K'.r5.l.length K'.r5.c, .slice K'.r6.P K'.r6.l.length K'.r6.c, .slice K'.r7.P K'.r7.l.length K'.r7.c] 42)) := (by repeat (first | exact Below.refl _ _ | (refine Below.setCell ?_ (by simp; try omega) _) | (refine Below.alloc ?_ (by simp; try omega) _)))
 have zW : w.heap.size + 1 < ((w.alloc (.cells #[.int .i64 K.bits, .int .i64 K.ticks, .slice K.sP K.sl.length K.sc, .slice K.tP K.tl.length K.tc, .slice K.eP K.el.length K.ec, .slice K.nP K.nl.length K.nc, .slice K.fP K.fl.length K.fc, .slice K.r0.P K.r0.l.length K.r0.c, .slice K.r1.P K.r1.l.length K.r1.c, .slice K.r2.P K.r2.l.length K.r2.c, .slice K.r3.P K.r3.l.length K.r3.c, .slice K.r4.P K.r4.l.length K.r4.c, .slice K.r5.P K.r5.l.length K.r5.c, .slice K.r6.P K.r6.l.length K.r6.c, .slice K.r7.P K.r7.l.length K.r7.c] 42)).alloc (.cells #[.int .i64 K.bits, .int .i64 K.ticks, .slice K'.sP K.sl.length K'.sc, .slice K'.tP K.tl.length K'.tc, .slice K'.eP K.el.length K'.ec, .slice K'.nP K.nl.length K'.nc, .slice K'.fP K.fl.length K'.fc, .slice K'.r0.P K'.r0.l.length K'.r0.c, .slice K'.r1.P K'.r1.l.length K'.r1.c, .slice K'.r2.P K'.r2.l.length K'.r2.c, .slice K'.r3.P K'.r3.l.length K'.r3.c, .slice K'.r4.P K'.r4.l.length K'.r4.c, .slice K'.r5.P K'.r5.l.length K'.r5.c, .slice K'.r6.P K'.r6.l.length K'.r6.c, .slice K'.r7.P K'.r7.l.length K'.r7.c] 42)).heap.size := by simp
 clear l3 l4 l5 l6 l7 p1 p2 hpl
 go_enter Tryz.func12, Tryz.ntmps12
 go_upto_region 5 with fail
 generalize hW0 : (w.alloc (.cells #[.int .i64 K.bits, .int .i64 K.ticks, .slice K.sP K.sl.length K.sc, .slice K.tP K.tl.length K.tc, .slice K.eP K.el.length K.ec, .slice K.nP K.nl.length K.nc, .slice K.fP K.fl.length K.fc, .slice K.r0.P K.r0.l.length K.r0.c, .slice K.r1.P K.r1.l.length K.r1.c, .slice K.r2.P K.r2.l.length K.r2.c, .slice K.r3.P K.r3.l.length K.r3.c, .slice K.r4.P K.r4.l.length K.r4.c, .slice K.r5.P K.r5.l.length K.r5.c, .slice K.r6.P K.r6.l.length K.r6.c, .slice K.r7.P K.r7.l.length K.r7.c] 42)).alloc (.cells #[.int .i64 K.bits, .int .i64 K.ticks, .slice K'.sP K.sl.length K'.sc, .slice K'.tP K.tl.length K'.tc, .slice K'.eP K.el.length K'.ec, .slice K'.nP K.nl.length K'.nc, .slice K'.fP K.fl.length K'.fc, .slice K'.r0.P K'.r0.l.length K'.r0.c, .slice K'.r1.P K'.r1.l.length K'.r1.c, .slice K'.r2.P K'.r2.l.length K'.r2.c, .slice K'.r3.P K'.r3.l.length K'.r3.c, .slice K'.r4.P K'.r4.l.length K'.r4.c, .slice K'.r5.P K'.r5.l.length K'.r5.c, .slice K'.r6.P K'.r6.l.length K'.r6.c, .slice K'.r7.P K'.r7.l.length K'.r7.c] 42) = w0 at ka kb bW zW ⊢
 clear hW0
 have g2 : w0.cell? ⟨w.heap.size, 2, none⟩ = some (.slice K.sP K.sl.length K.sc) := atV ka 2 _ rfl
 have l2 : w0.cell? ⟨w.heap.size + 1, 2, none⟩ = some (.slice K'.sP K.sl.length K'.sc) := atV kb 2 _ rfl
 have HC : Hid (Calls _ _ _ _ _) := eqSlots_same K.sP K'.sP _ _ K.sc K'.sc K.sl w0 rfl rfl (by have := hs.s; omega) (hK.s.below bW) (p3 ▸ hK'.s.below bW)
 go_upto_region 7 with ((go_at_call 36; refine Calls.mono HC.out ?_; rintro r w1 ⟨rfl, hb⟩))
 clear HC g2 l2
 have ka := ka.below hb
 have kb := kb.below hb
 have bW := bW.trans (hb.mono bW.size)
 clear hb
 have g3 : w1.cell? ⟨w.heap.size, 3, none⟩ = some (.slice K.tP K.tl.length K.tc) := atV ka 3 _ rfl
 have l3 : w1.cell? ⟨w.heap.size + 1, 3, none⟩ = some (.slice K'.tP K.tl.length K'.tc) := atV kb 3 _ rfl
 have HC : Hid (Calls _ _ _ _ _) := eqT_same K.tP K'.tP K.tc K'.tc K.tl w1 hs.t (hK.t.below bW) (p4 ▸ hK'.t.below bW)
 go_upto_region 9 with ((go_at_call 37; refine Calls.mono HC.out ?_; rintro r w2 ⟨rfl, hb⟩))
 clear HC g3 l3
 have ka := ka.below hb
 have kb := kb.below hb
 have bW := bW.trans (hb.mono bW.size)
 clear hb
 have g4 : w2.cell? ⟨w.heap.size, 4, none⟩ = some (.slice K.eP K.el.length K.ec) := atV ka 4 _ rfl
 have l4 : w2.cell? ⟨w.heap.size + 1, 4, none⟩ = some (.slice K'.eP K.el.length K'.ec) := atV kb 4 _ rfl
 have HC : Hid (Calls _ _ _ _ _) := eqE_same K.eP K'.eP K.ec K'.ec K.el K'.el w2 hs.e p5 hs.ei (hK.e.below bW) (hK'.e.below bW) (hK.ei.below bW) (hK'.ei.below bW)
 go_upto_region 11 with ((go_at_call 38; refine Calls.mono HC.out ?_; rintro r w3 ⟨rfl, hb⟩))
 clear HC g4 l4
 have ka := ka.below hb
 have kb := kb.below hb
 have bW := bW.trans (hb.mono bW.size)
 clear hb
 have g5 : w3.cell? ⟨w.heap.size, 5, none⟩ = some (.slice K.nP K.nl.length K.nc) := atV ka 5 _ rfl
 have l5 : w3.cell? ⟨w.heap.size + 1, 5, none⟩ = some (.slice K'.nP K.nl.length K'.nc) := atV kb 5 _ rfl
 have HC : Hid (Calls _ _ _ _ _) := eqN_same K.nP K'.nP K.nc K'.nc K.nl K'.nl w3 hs.n p6 hs.ni (hK.n.below bW) (hK'.n.below bW) (hK.ni.below bW) (hK'.ni.below bW)
 go_upto_region 13 with ((go_at_call 39; refine Calls.mono HC.out ?_; rintro r w4 ⟨rfl, hb⟩))
 clear HC g5 l5
 have ka := ka.below hb
 have kb := kb.below hb
 have bW := bW.trans (hb.mono bW.size)
 clear hb
 have g6 : w4.cell? ⟨w.heap.size, 6, none⟩ = some (.slice K.fP K.fl.length K.fc) := atV ka 6 _ rfl
 have l6 : w4.cell? ⟨w.heap.size + 1, 6, none⟩ = some (.slice K'.fP K.fl.length K'.fc) := atV kb 6 _ rfl
 have HC : Hid (Calls _ _ _ _ _) := eqF_same K.fP K'.fP K.fc K'.fc K.fl K'.fl w4 hs.f p7 hs.fi (hK.f.below bW) (hK'.f.below bW) (hK.fi.below bW) (hK'.fi.below bW)
 go_upto_region 15 with ((go_at_call 40; refine Calls.mono HC.out ?_; rintro r w5 ⟨rfl, hb⟩))
 clear HC g6 l6
 have ka := ka.below hb
 have kb := kb.below hb
 have bW := bW.trans (hb.mono bW.size)
 clear hb
 have g7 : w5.cell? ⟨w.heap.size, 7, none⟩ = some (.slice K.r0.P K.r0.l.length K.r0.c) := atV ka 7 _ rfl
 have l7 : w5.cell? ⟨w.heap.size + 1, 7, none⟩ = some (.slice K'.r0.P K'.r0.l.length K'.r0.c) := atV kb 7 _ rfl
 have g8 : w5.cell? ⟨w.heap.size, 8, none⟩ = some (.slice K.r1.P K.r1.l.length K.r1.c) := atV ka 8 _ rfl
 have l8 : w5.cell? ⟨w.heap.size + 1, 8, none⟩ = some (.slice K'.r1.P K'.r1.l.length K'.r1.c) := atV kb 8 _ rfl
 have g9 : w5.cell? ⟨w.heap.size, 9, none⟩ = some (.slice K.r2.P K.r2.l.length K.r2.c) := atV ka 9 _ rfl
 have l9 : w5.cell? ⟨w.heap.size + 1, 9, none⟩ = some (.slice K'.r2.P K'.r2.l.length K'.r2.c) := atV kb 9 _ rfl
 have g10 : w5.cell? ⟨w.heap.size, 10, none⟩ = some (.slice K.r3.P K.r3.l.length K.r3.c) := atV ka 10 _ rfl
 have l10 : w5.cell? ⟨w.heap.size + 1, 10, none⟩ = some (.slice K'.r3.P K'.r3.l.length K'.r3.c) := atV kb 10 _ rfl
 have g11 : w5.cell? ⟨w.heap.size, 11, none⟩ = some (.slice K.r4.P K.r4.l.length K.r4.c) := atV ka 11 _ rfl
 have l11 : w5.cell? ⟨w.heap.size + 1, 11, none⟩ = some (.slice K'.r4.P K'.r4.l.length K'.r4.c) := atV kb 11 _ rfl
 have g12 : w5.cell? ⟨w.heap.size, 12, none⟩ = some (.slice K.r5.P K.r5.l.length K.r5.c) := atV ka 12 _ rfl
 have l12 : w5.cell? ⟨w.heap.size + 1, 12, none⟩ = some (.slice K'.r5.P K'.r5.l.length K'.r5.c) := atV kb 12 _ rfl
 have g13 : w5.cell? ⟨w.heap.size, 13, none⟩ = some (.slice K.r6.P K.r6.l.length K.r6.c) := atV ka 13 _ rfl
 have l13 : w5.cell? ⟨w.heap.size + 1, 13, none⟩ = some (.slice K'.r6.P K'.r6.l.length K'.r6.c) := atV kb 13 _ rfl
 have g14 : w5.cell? ⟨w.heap.size, 14, none⟩ = some (.slice K.r7.P K.r7.l.length K.r7.c) := atV ka 14 _ rfl
 have l14 : w5.cell? ⟨w.heap.size + 1, 14, none⟩ = some (.slice K'.r7.P K'.r7.l.length K'.r7.c) := atV kb 14 _ rfl
 have HC : Hid (Calls _ _ _ _ _) := (decide_eq_true p8) ▸ eqQ_any K.r0 K.r1 K.r2 K.r3 K.r4 K.r5 K.r6 K.r7 K'.r0 K'.r1 K'.r2 K'.r3 K'.r4 K'.r5 K'.r6 K'.r7 w5 hs.r hs'.r (hK.r.below bW) (hK'.r.below bW)
 go_wp2_with ((go_at_call 41; refine Calls.mono HC.out ?_; rintro r w6 ⟨rfl, hb⟩))
 clear HC g7 l7 g8 l8 g9 l9 g10 l10 g11 l11 g12 l12 g13 l13 g14 l14
 go_ret
 exact ⟨rfl, bW.trans (hb.mono bW.size)⟩

end Go.Proofs.YtigpbjcmmgdiaaaGreat
/-
 What the specification asks of where a thread waits. Condition: the state lies in memory.
-/
namespace Go.Proofs.YtigpbjcmmgdiaaaGreat
open Go.ChangeShapes Go.WideShapes Go.ChangeAt Go.RowKit
set_option linter.unusedVariables false

theorem tfacts {W : World} {b : Nat} {t : QT} (h : LiesG fV W (some ⟨b, 0, none⟩) [.int .i64 t.a0, .int .i64 t.a1, .int .i64 t.a2, .int .i64 t.a3, .int .i64 t.a4, .int .i64 t.a5, .int .i64 t.a6, .int .u32 t.a7, .int .i64 t.a8, .int .u32 t.a9, .int .u32 t.a10, .int .u32 t.a11, .int .u32 t.a12, .int .i64 t.a13, .int .u32 t.a14]) : W.cell? ⟨b, 0, none⟩ = some (.int .i64 t.a0) ∧ W.cell? ⟨b, 1, none⟩ = some (.int .i64 t.a1) ∧ W.cell? ⟨b, 2, none⟩ = some (.int .i64 t.a2) ∧ W.cell? ⟨b, 3, none⟩ = some (.int .i64 t.a3) ∧ W.cell? ⟨b, 4, none⟩ = some (.int .i64 t.a4) ∧ W.cell? ⟨b, 5, none⟩ = some (.int .i64 t.a5) ∧ W.cell? ⟨b, 6, none⟩ = some (.int .i64 t.a6) ∧ W.cell? ⟨b, 7, none⟩ = some (.int .u32 t.a7) ∧ W.cell? ⟨b, 8, none⟩ = some (.int .i64 t.a8) ∧ W.cell? ⟨b, 9, none⟩ = some (.int .u32 t.a9) ∧ W.cell? ⟨b, 10, none⟩ = some (.int .u32 t.a10) ∧ W.cell? ⟨b, 11, none⟩ = some (.int .u32 t.a11) ∧ W.cell? ⟨b, 12, none⟩ = some (.int .u32 t.a12) ∧ W.cell? ⟨b, 13, none⟩ = some (.int .i64 t.a13) ∧ W.cell? ⟨b, 14, none⟩ = some (.int .u32 t.a14) :=
 ⟨atV h 0 _ rfl, atV h 1 _ rfl, atV h 2 _ rfl, atV h 3 _ rfl, atV h 4 _ rfl, atV h 5 _ rfl, atV h 6 _ rfl, atV h 7 _ rfl, atV h 8 _ rfl, atV h 9 _ rfl, atV h 10 _ rfl, atV h 11 _ rfl, atV h 12 _ rfl, atV h 13 _ rfl, atV h 14 _ rfl⟩
theorem l4Has_bel (P : Option Addr) (c : Nat) (l : List Int) (x : Int) (w : World) (hs : l.length ≤ 1048576) (h : LiesG fI w P l) :
  Calls Tryz.prog 89 #[.slice P l.length c, .int .i64 x] w fun e w' => e = .returned (.int .i64 (l.countP (fun y => y == x) : Int)) ∧ Below w.heap.size w w' :=
 (l4Has_any P c l x w hs h).mono fun e w' ⟨h1, h2⟩ => ⟨h1, by rw [← h2]; exact Below.refl _ _⟩

/-- A thread stands in the list of an endpoint, which is of this kind. -/
def atEndB (el : List QE) (on kd a : Int) : Bool :=
 match el.find? (fun s => s.ad == on) with
 | none => false
 | some e => e.kd == kd && ((e.l.countP (fun y => y == a) : Nat) : Int) == 1
/-- A thread stands in the list of a notification. -/
def atNoteB (nl : List QN) (on a : Int) : Bool :=
 match nl.find? (fun s => s.ad == on) with
 | none => false
 | some e => ((e.l.countP (fun y => y == a) : Nat) : Int) == 1
/-- A thread waits where it should. -/
def whereB (K : QK) (t : QT) : Bool :=
 if t.a1 == 2 then atEndB K.el t.a5 1 t.a0 else if t.a1 == 3 then atEndB K.el t.a5 2 t.a0 else if t.a1 == 5 then atNoteB K.nl t.a5 t.a0 else t.a5 == 0

set_option maxRecDepth 100000 in
set_option maxHeartbeats 8000000 in
theorem l4Where_any (K : QK) (t : QT) (w : World) (hs : K.Short) (h : KernIn w K) :
  Calls Tryz.prog 148 #[.agg #[.int .i64 K.bits, .int .i64 K.ticks, .slice K.sP K.sl.length K.sc, .slice K.tP K.tl.length K.tc, .slice K.eP K.el.length K.ec, .slice K.nP K.nl.length K.nc, .slice K.fP K.fl.length K.fc, .slice K.r0.P K.r0.l.length K.r0.c, .slice K.r1.P K.r1.l.length K.r1.c, .slice K.r2.P K.r2.l.length K.r2.c, .slice K.r3.P K.r3.l.length K.r3.c, .slice K.r4.P K.r4.l.length K.r4.c, .slice K.r5.P K.r5.l.length K.r5.c, .slice K.r6.P K.r6.l.length K.r6.c, .slice K.r7.P K.r7.l.length K.r7.c], .agg #[.int .i64 t.a0, .int .i64 t.a1, .int .i64 t.a2, .int .i64 t.a3, .int .i64 t.a4, .int .i64 t.a5, .int .i64 t.a6, .int .u32 t.a7, .int .i64 t.a8, .int .u32 t.a9, .int .u32 t.a10, .int .u32 t.a11, .int .u32 t.a12, .int .i64 t.a13, .int .u32 t.a14]] w fun e w' => e = .returned (.bool (whereB K t)) ∧ Below w.heap.size w w' := by
 have HE := fun W (hW : KernIn W K) => l4End_any K t.a5 W hs hW
 have HNo := fun W (hW : KernIn W K) => l4Note_any K t.a5 W hs hW
 obtain ⟨fe, hfe⟩ : ∃ fe, firstI (fun s : QE => s.ad == t.a5) K.el = fe := ⟨_, rfl⟩
 obtain ⟨fn, hfn⟩ : ∃ fn, firstI (fun s : QN => s.ad == t.a5) K.nl = fn := ⟨_, rfl⟩
 rw [hfe] at HE
 rw [hfn] at HNo
 have HFE : Hid _ := hfe
 have HFN : Hid _ := hfn
 clear hfe hfn
 have hb0 := (KBox.new h 42).below ((Below.refl _ _).alloc (Nat.le_refl _) (.cells #[.int .i64 t.a0, .int .i64 t.a1, .int .i64 t.a2, .int .i64 t.a3, .int .i64 t.a4, .int .i64 t.a5, .int .i64 t.a6, .int .u32 t.a7, .int .i64 t.a8, .int .u32 t.a9, .int .u32 t.a10, .int .u32 t.a11, .int .u32 t.a12, .int .i64 t.a13, .int .u32 t.a14] 50))
 have tb0 := boxL (w.alloc (.cells #[.int .i64 K.bits, .int .i64 K.ticks, .slice K.sP K.sl.length K.sc, .slice K.tP K.tl.length K.tc, .slice K.eP K.el.length K.ec, .slice K.nP K.nl.length K.nc, .slice K.fP K.fl.length K.fc, .slice K.r0.P K.r0.l.length K.r0.c, .slice K.r1.P K.r1.l.length K.r1.c, .slice K.r2.P K.r2.l.length K.r2.c, .slice K.r3.P K.r3.l.length K.r3.c, .slice K.r4.P K.r4.l.length K.r4.c, .slice K.r5.P K.r5.l.length K.r5.c, .slice K.r6.P K.r6.l.length K.r6.c, .slice K.r7.P K.r7.l.length K.r7.c] 42)) [.int .i64 t.a0, .int .i64 t.a1, .int .i64 t.a2, .int .i64 t.a3, .int .i64 t.a4, .int .i64 t.a5, .int .i64 t.a6, .int .u32 t.a7, .int .i64 t.a8, .int .u32 t.a9, .int .u32 t.a10, .int .u32 t.a11, .int .u32 t.a12, .int .i64 t.a13, .int .u32 t.a14] 50
 rw [World.size_alloc] at tb0
 go_enter Tryz.func148, Tryz.ntmps148
 go_upto_region 1 with fail
 generalize hW0 : (w.alloc (.cells #[.int .i64 K.bits, .int .i64 K.ticks, .slice K.sP K.sl.length K.sc, .slice K.tP K.tl.length K.tc, .slice K.eP K.el.length K.ec, .slice K.nP K.nl.length K.nc, .slice K.fP K.fl.length K.fc, .slice K.r0.P K.r0.l.length K.r0.c, .slice K.r1.P K.r1.l.length K.r1.c, .slice K.r2.P K.r2.l.length K.r2.c, .slice K.r3.P K.r3.l.length K.r3.c, .slice K.r4.P K.r4.l.length K.r4.c, .slice K.r5.P K.r5.l.length K.r5.c, .slice K.r6.P K.r6.l.length K.r6.c, .slice K.r7.P K.r7.l.length K.r7.c] 42)).alloc (.cells #[.int .i64 t.a0, .int .i64 t.a1, .int .i64 t.a2, .int .i64 t.a3, .int .i64 t.a4, .int .i64 t.a5, .int .i64 t.a6, .int .u32 t.a7, .int .i64 t.a8, .int .u32 t.a9, .int .u32 t.a10, .int .u32 t.a11, .int .u32 t.a12, .int .i64 t.a13, .int .u32 t.a14] 50) = W0 at hb0 ⊢
 have tb0 : LiesG fV W0 (some ⟨w.heap.size + 1, 0, none⟩) [.int .i64 t.a0, .int .i64 t.a1, .int .i64 t.a2, .int .i64 t.a3, .int .i64 t.a4, .int .i64 t.a5, .int .i64 t.a6, .int .u32 t.a7, .int .i64 t.a8, .int .u32 t.a9, .int .u32 t.a10, .int .u32 t.a11, .int .u32 t.a12, .int .i64 t.a13, .int .u32 t.a14] := by rw [← hW0]; exact tb0
 clear hW0
 obtain ⟨g0, g1, g2, g3, g4, g5, g6, g7, g8, g9, g10, g11, g12, g13, g14⟩ := KBox.facts hb0
 obtain ⟨h0, h1, h2, h3, h4, h5, h6, h7, h8, h9, h10, h11, h12, h13, h14⟩ := tfacts tb0
 go_upto_region 2 with ((go_at_call 171; refine (HE _ hb0.b).mono ?_; rintro e w1 ⟨rfl, hb1⟩))
 have bb1 := hb0.below hb1
 have tb1 := tb0.below hb1
 clear g0 h0 g1 h1 g2 h2 g3 h3 g4 h4 g5 h5 g6 h6 g7 h7 g8 h8 g9 h9 g10 h10 g11 h11 g12 h12 g13 h13 g14 h14 hb0 tb0 hb1
 obtain ⟨g0, g1, g2, g3, g4, g5, g6, g7, g8, g9, g10, g11, g12, g13, g14⟩ := KBox.facts bb1
 obtain ⟨h0, h1, h2, h3, h4, h5, h6, h7, h8, h9, h10, h11, h12, h13, h14⟩ := tfacts tb1
 go_upto_region 3 with ((go_at_call 172; refine (HNo _ bb1.b).mono ?_; rintro e w2 ⟨rfl, hb2⟩))
 have bb := bb1.below hb2
 have tb := tb1.below hb2
 clear g0 h0 g1 h1 g2 h2 g3 h3 g4 h4 g5 h5 g6 h6 g7 h7 g8 h8 g9 h9 g10 h10 g11 h11 g12 h12 g13 h13 g14 h14 bb1 tb1 hb2
 obtain ⟨g0, g1, g2, g3, g4, g5, g6, g7, g8, g9, g10, g11, g12, g13, g14⟩ := KBox.facts bb
 obtain ⟨h0, h1, h2, h3, h4, h5, h6, h7, h8, h9, h10, h11, h12, h13, h14⟩ := tfacts tb
 cases e2 : (t.a1 == 2)
 ·cases e3 : (t.a1 == 3)
  ·cases e5 : (t.a1 == 5)
   ·have HW : Hid (whereB K t = (t.a5 == 0)) := by unfold Hid; simp [whereB, e2, e3, e5]
    go_wp2
    go_ret
    exact ⟨ret_bool (by rw [HW.out]), bb.bw⟩
   ·have p5 := cell_regrown g5
    have q0 := cell_regrown h0
    have HW : Hid (whereB K t = atNoteB K.nl t.a5 t.a0) := by unfold Hid; simp [whereB, e2, e3, e5]
    rcases firstI_or (fun s : QN => s.ad == t.a5) K.nl with ⟨f1, f2⟩ | ⟨m, hm, f1, f2, f3⟩
    ·have hfn : fn = -1 := by rw [← HFN.out]; exact f1
     subst hfn
     have HX : Hid (atNoteB K.nl t.a5 t.a0 = false) := by unfold Hid; simp [atNoteB, f2]
     clear f1 f2
     go_upto_region 9 with fail
     refine wq_region (by kernel_rfl) (by kernel_rfl) ?_
     repeat (first | (refine wq_step (fun K hK => ?_); go_simp; first | (refine hK _ ?_; clear hK K) | (apply Exists.intro; refine ⟨fun _ => ?_, hK _ ?_⟩; fail; clear hK K)))
     refine wq_nil ?_
     intro _ hw'
     obtain ⟨⟨dq, osq⟩, hw''⟩ := hw'
     subst hw''
     go_wp2
     go_ret
     exact ⟨ret_bool (by rw [HW.out, HX.out]), (bb.below (below_regrown _ dq osq)).bw⟩
    ·have hfn : fn = (m : Int) := by rw [← HFN.out]; exact f1
     subst hfn
     have HF : Hid _ := f2
     clear f1 f2 f3
     have hm1 : (m : Int) < (K.nl.length : Int) := by omega
     have hrow := bb.b.n
     obtain ⟨B2, O2, hP⟩ := hrow.has hm
     rw [hP] at p5 g5 hrow
     have k3 := cell_regrown (hrow.at hm 3 _ rfl)
     simp only [fN] at k3
     clear hrow
     have HH := fun W (hW : LiesG fI W K.nl[m].P K.nl[m].l) => l4Has_bel K.nl[m].P K.nl[m].c K.nl[m].l t.a0 W (hs.ni _ (List.getElem_mem hm)) hW
     have hIn := bb.b.ni K.nl[m] (List.getElem_mem hm)
     have e9 : decide ((0 : Int) ≤ (m : Int)) = true := by simp
     have HX : Hid (atNoteB K.nl t.a5 t.a0 = (((K.nl[m].l.countP (fun y => y == t.a0) : Nat) : Int) == 1)) := by unfold Hid; rw [atNoteB, HF.out]
     generalize ((K.nl[m].l.countP (fun y => y == t.a0) : Nat) : Int) = cn at HH HX
     go_upto_region 9 with fail
     refine wq_region (by kernel_rfl) (by kernel_rfl) ?_
     repeat (first | (refine wq_step (fun K hK => ?_); go_simp; first | (refine hK _ ?_; clear hK K) | (apply Exists.intro; refine ⟨fun _ => ?_, hK _ ?_⟩; (first | (go_at_call 89; exact Calls.regrown_of (HH _ (hIn.below (below_regrown _ _ _))))); clear hK K)))
     refine wq_nil ?_
     intro _ hw'
     obtain ⟨⟨dq, osq⟩, hw''⟩ := hw'
     subst hw''
     go_wp2
     go_ret
     exact ⟨ret_bool (by rw [HW.out, HX.out]), (bb.below (below_regrown _ dq osq)).bw⟩
  ·skip
   have p4 := cell_regrown g4
   have q0 := cell_regrown h0
   have HW : Hid (whereB K t = atEndB K.el t.a5 2 t.a0) := by unfold Hid; simp [whereB, e2, e3]
   rcases firstI_or (fun s : QE => s.ad == t.a5) K.el with ⟨f1, f2⟩ | ⟨m, hm, f1, f2, f3⟩
   ·have hfe : fe = -1 := by rw [← HFE.out]; exact f1
    subst hfe
    have HX : Hid (atEndB K.el t.a5 2 t.a0 = false) := by unfold Hid; simp [atEndB, f2]
    clear f1 f2
    go_upto_region 7 with fail
    refine wq_region (by kernel_rfl) (by kernel_rfl) ?_
    repeat (first | (refine wq_step (fun K hK => ?_); go_simp; first | (refine hK _ ?_; clear hK K) | (apply Exists.intro; refine ⟨fun _ => ?_, hK _ ?_⟩; fail; clear hK K)))
    refine wq_nil ?_
    intro _ hw'
    obtain ⟨⟨dq, osq⟩, hw''⟩ := hw'
    subst hw''
    go_wp2
    go_ret
    exact ⟨ret_bool (by rw [HW.out, HX.out]), (bb.below (below_regrown _ dq osq)).bw⟩
   ·have hfe : fe = (m : Int) := by rw [← HFE.out]; exact f1
    subst hfe
    have HF : Hid _ := f2
    clear f1 f2 f3
    have hm1 : (m : Int) < (K.el.length : Int) := by omega
    have hrow := bb.b.e
    obtain ⟨B2, O2, hP⟩ := hrow.has hm
    rw [hP] at p4 g4 hrow
    have k1 := cell_regrown (hrow.at hm 1 _ rfl)
    have k2 := cell_regrown (hrow.at hm 2 _ rfl)
    simp only [fE] at k1 k2
    clear hrow
    have HH := fun W (hW : LiesG fI W K.el[m].P K.el[m].l) => l4Has_bel K.el[m].P K.el[m].c K.el[m].l t.a0 W (hs.ei _ (List.getElem_mem hm)) hW
    have hIn := bb.b.ei K.el[m] (List.getElem_mem hm)
    have e9 : decide ((0 : Int) ≤ (m : Int)) = true := by simp
    cases hk : (K.el[m].kd == 2)
    ·have HX : Hid (atEndB K.el t.a5 2 t.a0 = false) := by unfold Hid; rw [atEndB, HF.out]; simp [hk]
     go_upto_region 7 with fail
     refine wq_region (by kernel_rfl) (by kernel_rfl) ?_
     repeat (first | (refine wq_step (fun K hK => ?_); go_simp; first | (refine hK _ ?_; clear hK K) | (apply Exists.intro; refine ⟨fun _ => ?_, hK _ ?_⟩; fail; clear hK K)))
     refine wq_nil ?_
     intro _ hw'
     obtain ⟨⟨dq, osq⟩, hw''⟩ := hw'
     subst hw''
     go_wp2
     go_ret
     exact ⟨ret_bool (by rw [HW.out, HX.out]), (bb.below (below_regrown _ dq osq)).bw⟩
    ·have HX : Hid (atEndB K.el t.a5 2 t.a0 = (((K.el[m].l.countP (fun y => y == t.a0) : Nat) : Int) == 1)) := by unfold Hid; rw [atEndB, HF.out]; simp [hk]
     generalize ((K.el[m].l.countP (fun y => y == t.a0) : Nat) : Int) = cn at HH HX
     go_upto_region 7 with fail
     refine wq_region (by kernel_rfl) (by kernel_rfl) ?_
     repeat (first | (refine wq_step (fun K hK => ?_); go_simp; first | (refine hK _ ?_; clear hK K) | (apply Exists.intro; refine ⟨fun _ => ?_, hK _ ?_⟩; (first | (go_at_call 89; exact Calls.regrown_of (HH _ (hIn.below (below_regrown _ _ _))))); clear hK K)))
     refine wq_nil ?_
     intro _ hw'
     obtain ⟨⟨dq, osq⟩, hw''⟩ := hw'
     subst hw''
     go_wp2
     go_ret
     exact ⟨ret_bool (by rw [HW.out, HX.out]), (bb.below (below_regrown _ dq osq)).bw⟩
 ·skip
  have p4 := cell_regrown g4
  have q0 := cell_regrown h0
  have HW : Hid (whereB K t = atEndB K.el t.a5 1 t.a0) := by unfold Hid; simp [whereB, e2]
  rcases firstI_or (fun s : QE => s.ad == t.a5) K.el with ⟨f1, f2⟩ | ⟨m, hm, f1, f2, f3⟩
  ·have hfe : fe = -1 := by rw [← HFE.out]; exact f1
   subst hfe
   have HX : Hid (atEndB K.el t.a5 1 t.a0 = false) := by unfold Hid; simp [atEndB, f2]
   clear f1 f2
   go_upto_region 5 with fail
   refine wq_region (by kernel_rfl) (by kernel_rfl) ?_
   repeat (first | (refine wq_step (fun K hK => ?_); go_simp; first | (refine hK _ ?_; clear hK K) | (apply Exists.intro; refine ⟨fun _ => ?_, hK _ ?_⟩; fail; clear hK K)))
   refine wq_nil ?_
   intro _ hw'
   obtain ⟨⟨dq, osq⟩, hw''⟩ := hw'
   subst hw''
   go_wp2
   go_ret
   exact ⟨ret_bool (by rw [HW.out, HX.out]), (bb.below (below_regrown _ dq osq)).bw⟩
  ·have hfe : fe = (m : Int) := by rw [← HFE.out]; exact f1
   subst hfe
   have HF : Hid _ := f2
   clear f1 f2 f3
   have hm1 : (m : Int) < (K.el.length : Int) := by omega
   have hrow := bb.b.e
   obtain ⟨B2, O2, hP⟩ := hrow.has hm
   rw [hP] at p4 g4 hrow
   have k1 := cell_regrown (hrow.at hm 1 _ rfl)
   have k2 := cell_regrown (hrow.at hm 2 _ rfl)
   simp only [fE] at k1 k2
   clear hrow
   have HH := fun W (hW : LiesG fI W K.el[m].P K.el[m].l) => l4Has_bel K.el[m].P K.el[m].c K.el[m].l t.a0 W (hs.ei _ (List.getElem_mem hm)) hW
   have hIn := bb.b.ei K.el[m] (List.getElem_mem hm)
   have e9 : decide ((0 : Int) ≤ (m : Int)) = true := by simp
   cases hk : (K.el[m].kd == 1)
   ·have HX : Hid (atEndB K.el t.a5 1 t.a0 = false) := by unfold Hid; rw [atEndB, HF.out]; simp [hk]
    go_upto_region 5 with fail
    refine wq_region (by kernel_rfl) (by kernel_rfl) ?_
    repeat (first | (refine wq_step (fun K hK => ?_); go_simp; first | (refine hK _ ?_; clear hK K) | (apply Exists.intro; refine ⟨fun _ => ?_, hK _ ?_⟩; fail; clear hK K)))
    refine wq_nil ?_
    intro _ hw'
    obtain ⟨⟨dq, osq⟩, hw''⟩ := hw'
    subst hw''
    go_wp2
    go_ret
    exact ⟨ret_bool (by rw [HW.out, HX.out]), (bb.below (below_regrown _ dq osq)).bw⟩
   ·have HX : Hid (atEndB K.el t.a5 1 t.a0 = (((K.el[m].l.countP (fun y => y == t.a0) : Nat) : Int) == 1)) := by unfold Hid; rw [atEndB, HF.out]; simp [hk]
    generalize ((K.el[m].l.countP (fun y => y == t.a0) : Nat) : Int) = cn at HH HX
    go_upto_region 5 with fail
    refine wq_region (by kernel_rfl) (by kernel_rfl) ?_
    repeat (first | (refine wq_step (fun K hK => ?_); go_simp; first | (refine hK _ ?_; clear hK K) | (apply Exists.intro; refine ⟨fun _ => ?_, hK _ ?_⟩; (first | (go_at_call 89; exact Calls.regrown_of (HH _ (hIn.below (below_regrown _ _ _))))); clear hK K)))
    refine wq_nil ?_
    intro _ hw'
    obtain ⟨⟨dq, osq⟩, hw''⟩ := hw'
    subst hw''
    go_wp2
    go_ret
    exact ⟨ret_bool (by rw [HW.out, HX.out]), (bb.below (below_regrown _ dq osq)).bw⟩

end Go.Proofs.YtigpbjcmmgdiaaaGreat
