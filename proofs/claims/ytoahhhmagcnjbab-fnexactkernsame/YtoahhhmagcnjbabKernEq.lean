/-
  Two states that say the same, compared by the laws.
-/
import Derived.Test.YtoahhhmagcnjbabKernData
import Derived.Laws.ResultCell
namespace Go.Proofs.Ytoahhhmagcnjbab
open Go.ChangeShapes Go.WideShapes Go.ChangeAt Go.RowKit
set_option linter.unusedVariables false

theorem boxL (w : World) (L : List Value) (T : Nat) : LiesG fV (w.alloc (.cells L.toArray T)) (some ⟨w.heap.size, 0, none⟩) L := by
  apply mkV
  intro k v hk
  rw [World.cell?_alloc_at _ _ _ _ rfl]
  simpa using hk

set_option maxRecDepth 100000 in
set_option maxHeartbeats 10000000 in
theorem eqK_same (K K' : QK) (w : World) (hs : K.Short) (hs' : K'.Short) (hpl : K.pl = K'.pl) (hK : KernIn w K) (hK' : KernIn w K') :
    Calls Try.prog 8 #[.agg #[.int .i64 K.bits, .int .i64 K.ticks, .slice K.sP K.sl.length K.sc, .slice K.tP K.tl.length K.tc, .slice K.eP K.el.length K.ec, .slice K.nP K.nl.length K.nc, .slice K.fP K.fl.length K.fc, .slice K.r0.P K.r0.l.length K.r0.c, .slice K.r1.P K.r1.l.length K.r1.c, .slice K.r2.P K.r2.l.length K.r2.c, .slice K.r3.P K.r3.l.length K.r3.c, .slice K.r4.P K.r4.l.length K.r4.c, .slice K.r5.P K.r5.l.length K.r5.c, .slice K.r6.P K.r6.l.length K.r6.c, .slice K.r7.P K.r7.l.length K.r7.c], .agg #[.int .i64 K'.bits, .int .i64 K'.ticks, .slice K'.sP K'.sl.length K'.sc, .slice K'.tP K'.tl.length K'.tc, .slice K'.eP K'.el.length K'.ec, .slice K'.nP K'.nl.length K'.nc, .slice K'.fP K'.fl.length K'.fc, .slice K'.r0.P K'.r0.l.length K'.r0.c, .slice K'.r1.P K'.r1.l.length K'.r1.c, .slice K'.r2.P K'.r2.l.length K'.r2.c, .slice K'.r3.P K'.r3.l.length K'.r3.c, .slice K'.r4.P K'.r4.l.length K'.r4.c, .slice K'.r5.P K'.r5.l.length K'.r5.c, .slice K'.r6.P K'.r6.l.length K'.r6.c, .slice K'.r7.P K'.r7.l.length K'.r7.c]] w fun r w' => r = .returned (.bool true) ∧ Below w.heap.size w w' := by
  have p1 : K'.bits = K.bits := (congrArg (fun p => p.1.1) hpl).symm
  have p2 : K'.ticks = K.ticks := (congrArg (fun p => p.1.2) hpl).symm
  have p3 : K'.sl = K.sl := (congrArg (fun p => p.2.1) hpl).symm
  have p4 : K'.tl = K.tl := (congrArg (fun p => p.2.2.1) hpl).symm
  have p5 : K.el.map QE.pl = K'.el.map QE.pl := congrArg (fun p => p.2.2.2.1) hpl
  have p6 : K.nl.map QN.pl = K'.nl.map QN.pl := congrArg (fun p => p.2.2.2.2.1) hpl
  have p7 : K.fl.map QF.pl = K'.fl.map QF.pl := congrArg (fun p => p.2.2.2.2.2.1) hpl
  have p8 : [K.r0, K.r1, K.r2, K.r3, K.r4, K.r5, K.r6, K.r7].map QR.l = [K'.r0, K'.r1, K'.r2, K'.r3, K'.r4, K'.r5, K'.r6, K'.r7].map QR.l := congrArg (fun p => p.2.2.2.2.2.2) hpl
  have l3 : K'.sl.length = K.sl.length := by rw [p3]
  have l4 : K'.tl.length = K.tl.length := by rw [p4]
  have l5 : K'.el.length = K.el.length := by have := congrArg List.length p5; simpa using this.symm
  have l6 : K'.nl.length = K.nl.length := by have := congrArg List.length p6; simpa using this.symm
  have l7 : K'.fl.length = K.fl.length := by have := congrArg List.length p7; simpa using this.symm
  rw [p1, p2, l3, l4, l5, l6, l7]
  have ka := (boxL w [.int .i64 K.bits, .int .i64 K.ticks, .slice K.sP K.sl.length K.sc, .slice K.tP K.tl.length K.tc, .slice K.eP K.el.length K.ec, .slice K.nP K.nl.length K.nc, .slice K.fP K.fl.length K.fc, .slice K.r0.P K.r0.l.length K.r0.c, .slice K.r1.P K.r1.l.length K.r1.c, .slice K.r2.P K.r2.l.length K.r2.c, .slice K.r3.P K.r3.l.length K.r3.c, .slice K.r4.P K.r4.l.length K.r4.c, .slice K.r5.P K.r5.l.length K.r5.c, .slice K.r6.P K.r6.l.length K.r6.c, .slice K.r7.P K.r7.l.length K.r7.c] 39).below ((Below.refl _ _).alloc (Nat.le_refl _) (.cells #[.int .i64 K.bits, .int .i64 K.ticks, .slice K'.sP K.sl.length K'.sc, .slice K'.tP K.tl.length K'.tc, .slice K'.eP K.el.length K'.ec, .slice K'.nP K.nl.length K'.nc, .slice K'.fP K.fl.length K'.fc, .slice K'.r0.P K'.r0.l.length K'.r0.c, .slice K'.r1.P K'.r1.l.length K'.r1.c, .slice K'.r2.P K'.r2.l.length K'.r2.c, .slice K'.r3.P K'.r3.l.length K'.r3.c, .slice K'.r4.P K'.r4.l.length K'.r4.c, .slice K'.r5.P K'.r5.l.length K'.r5.c, .slice K'.r6.P K'.r6.l.length K'.r6.c, .slice K'.r7.P K'.r7.l.length K'.r7.c] 39))
  have kb := boxL (w.alloc (.cells #[.int .i64 K.bits, .int .i64 K.ticks, .slice K.sP K.sl.length K.sc, .slice K.tP K.tl.length K.tc, .slice K.eP K.el.length K.ec, .slice K.nP K.nl.length K.nc, .slice K.fP K.fl.length K.fc, .slice K.r0.P K.r0.l.length K.r0.c, .slice K.r1.P K.r1.l.length K.r1.c, .slice K.r2.P K.r2.l.length K.r2.c, .slice K.r3.P K.r3.l.length K.r3.c, .slice K.r4.P K.r4.l.length K.r4.c, .slice K.r5.P K.r5.l.length K.r5.c, .slice K.r6.P K.r6.l.length K.r6.c, .slice K.r7.P K.r7.l.length K.r7.c] 39)) [.int .i64 K.bits, .int .i64 K.ticks, .slice K'.sP K.sl.length K'.sc, .slice K'.tP K.tl.length K'.tc, .slice K'.eP K.el.length K'.ec, .slice K'.nP K.nl.length K'.nc, .slice K'.fP K.fl.length K'.fc, .slice K'.r0.P K'.r0.l.length K'.r0.c, .slice K'.r1.P K'.r1.l.length K'.r1.c, .slice K'.r2.P K'.r2.l.length K'.r2.c, .slice K'.r3.P K'.r3.l.length K'.r3.c, .slice K'.r4.P K'.r4.l.length K'.r4.c, .slice K'.r5.P K'.r5.l.length K'.r5.c, .slice K'.r6.P K'.r6.l.length K'.r6.c, .slice K'.r7.P K'.r7.l.length K'.r7.c] 39
  rw [World.size_alloc] at kb
  have bW : Below w.heap.size w ((w.alloc (.cells #[.int .i64 K.bits, .int .i64 K.ticks, .slice K.sP K.sl.length K.sc, .slice K.tP K.tl.length K.tc, .slice K.eP K.el.length K.ec, .slice K.nP K.nl.length K.nc, .slice K.fP K.fl.length K.fc, .slice K.r0.P K.r0.l.length K.r0.c, .slice K.r1.P K.r1.l.length K.r1.c, .slice K.r2.P K.r2.l.length K.r2.c, .slice K.r3.P K.r3.l.length K.r3.c, .slice K.r4.P K.r4.l.length K.r4.c, .slice K.r5.P K.r5.l.length K.r5.c, .slice K.r6.P K.r6.l.length K.r6.c, .slice K.r7.P K.r7.l.length K.r7.c] 39)).alloc (.cells #[.int .i64 K.bits, .int .i64 K.ticks, .slice K'.sP K.sl.length K'.sc, .slice K'.tP K.tl.length K'.tc, .slice K'.eP K.el.length K'.ec, .slice K'.nP K.nl.length K'.nc, .slice K'.fP K.fl.length K'.fc, .slice K'.r0.P K'.r0.l.length K'.r0.c, .slice K'.r1.P K'.r1.l.length K'.r1.c, .slice K'.r2.P K'.r2.l.length K'.r2.c, .slice K'.r3.P K'.r3.l.length K'.r3.c, .slice K'.r4.P K'.r4.l.length K'.r4.c, .slice K'.r5.P K'.r5.l.length K'.r5.c, .slice K'.r6.P K'.r6.l.length K'.r6.c, .slice K'.r7.P K'.r7.l.length K'.r7.c] 39)) := (by repeat (first | exact Below.refl _ _ | (refine Below.setCell ?_ (by simp; try omega) _) | (refine Below.alloc ?_ (by simp; try omega) _)))
  have zW : w.heap.size + 1 < ((w.alloc (.cells #[.int .i64 K.bits, .int .i64 K.ticks, .slice K.sP K.sl.length K.sc, .slice K.tP K.tl.length K.tc, .slice K.eP K.el.length K.ec, .slice K.nP K.nl.length K.nc, .slice K.fP K.fl.length K.fc, .slice K.r0.P K.r0.l.length K.r0.c, .slice K.r1.P K.r1.l.length K.r1.c, .slice K.r2.P K.r2.l.length K.r2.c, .slice K.r3.P K.r3.l.length K.r3.c, .slice K.r4.P K.r4.l.length K.r4.c, .slice K.r5.P K.r5.l.length K.r5.c, .slice K.r6.P K.r6.l.length K.r6.c, .slice K.r7.P K.r7.l.length K.r7.c] 39)).alloc (.cells #[.int .i64 K.bits, .int .i64 K.ticks, .slice K'.sP K.sl.length K'.sc, .slice K'.tP K.tl.length K'.tc, .slice K'.eP K.el.length K'.ec, .slice K'.nP K.nl.length K'.nc, .slice K'.fP K.fl.length K'.fc, .slice K'.r0.P K'.r0.l.length K'.r0.c, .slice K'.r1.P K'.r1.l.length K'.r1.c, .slice K'.r2.P K'.r2.l.length K'.r2.c, .slice K'.r3.P K'.r3.l.length K'.r3.c, .slice K'.r4.P K'.r4.l.length K'.r4.c, .slice K'.r5.P K'.r5.l.length K'.r5.c, .slice K'.r6.P K'.r6.l.length K'.r6.c, .slice K'.r7.P K'.r7.l.length K'.r7.c] 39)).heap.size := by simp
  clear l3 l4 l5 l6 l7 p1 p2 hpl
  go_enter Try.func8, Try.ntmps8
  go_upto_region 5 with fail
  generalize hW0 : (w.alloc (.cells #[.int .i64 K.bits, .int .i64 K.ticks, .slice K.sP K.sl.length K.sc, .slice K.tP K.tl.length K.tc, .slice K.eP K.el.length K.ec, .slice K.nP K.nl.length K.nc, .slice K.fP K.fl.length K.fc, .slice K.r0.P K.r0.l.length K.r0.c, .slice K.r1.P K.r1.l.length K.r1.c, .slice K.r2.P K.r2.l.length K.r2.c, .slice K.r3.P K.r3.l.length K.r3.c, .slice K.r4.P K.r4.l.length K.r4.c, .slice K.r5.P K.r5.l.length K.r5.c, .slice K.r6.P K.r6.l.length K.r6.c, .slice K.r7.P K.r7.l.length K.r7.c] 39)).alloc (.cells #[.int .i64 K.bits, .int .i64 K.ticks, .slice K'.sP K.sl.length K'.sc, .slice K'.tP K.tl.length K'.tc, .slice K'.eP K.el.length K'.ec, .slice K'.nP K.nl.length K'.nc, .slice K'.fP K.fl.length K'.fc, .slice K'.r0.P K'.r0.l.length K'.r0.c, .slice K'.r1.P K'.r1.l.length K'.r1.c, .slice K'.r2.P K'.r2.l.length K'.r2.c, .slice K'.r3.P K'.r3.l.length K'.r3.c, .slice K'.r4.P K'.r4.l.length K'.r4.c, .slice K'.r5.P K'.r5.l.length K'.r5.c, .slice K'.r6.P K'.r6.l.length K'.r6.c, .slice K'.r7.P K'.r7.l.length K'.r7.c] 39) = w0 at ka kb bW zW ⊢
  clear hW0
  have g2 : w0.cell? ⟨w.heap.size, 2, none⟩ = some (.slice K.sP K.sl.length K.sc) := atV ka 2 _ rfl
  have l2 : w0.cell? ⟨w.heap.size + 1, 2, none⟩ = some (.slice K'.sP K.sl.length K'.sc) := atV kb 2 _ rfl
  have HC : Hid (Calls _ _ _ _ _) := eqSlots_same K.sP K'.sP _ _ K.sc K'.sc K.sl w0 rfl rfl (by have := hs.s; omega) (hK.s.below bW) (p3 ▸ hK'.s.below bW)
  go_upto_region 7 with ((go_at_call 32; refine Calls.mono HC.out ?_; rintro r w1 ⟨rfl, hb⟩))
  clear HC g2 l2
  have ka := ka.below hb
  have kb := kb.below hb
  have bW := bW.trans (hb.mono bW.size)
  clear hb
  have g3 : w1.cell? ⟨w.heap.size, 3, none⟩ = some (.slice K.tP K.tl.length K.tc) := atV ka 3 _ rfl
  have l3 : w1.cell? ⟨w.heap.size + 1, 3, none⟩ = some (.slice K'.tP K.tl.length K'.tc) := atV kb 3 _ rfl
  have HC : Hid (Calls _ _ _ _ _) := eqT_same K.tP K'.tP K.tc K'.tc K.tl w1 hs.t (hK.t.below bW) (p4 ▸ hK'.t.below bW)
  go_upto_region 9 with ((go_at_call 33; refine Calls.mono HC.out ?_; rintro r w2 ⟨rfl, hb⟩))
  clear HC g3 l3
  have ka := ka.below hb
  have kb := kb.below hb
  have bW := bW.trans (hb.mono bW.size)
  clear hb
  have g4 : w2.cell? ⟨w.heap.size, 4, none⟩ = some (.slice K.eP K.el.length K.ec) := atV ka 4 _ rfl
  have l4 : w2.cell? ⟨w.heap.size + 1, 4, none⟩ = some (.slice K'.eP K.el.length K'.ec) := atV kb 4 _ rfl
  have HC : Hid (Calls _ _ _ _ _) := eqE_same K.eP K'.eP K.ec K'.ec K.el K'.el w2 hs.e p5 hs.ei (hK.e.below bW) (hK'.e.below bW) (hK.ei.below bW) (hK'.ei.below bW)
  go_upto_region 11 with ((go_at_call 34; refine Calls.mono HC.out ?_; rintro r w3 ⟨rfl, hb⟩))
  clear HC g4 l4
  have ka := ka.below hb
  have kb := kb.below hb
  have bW := bW.trans (hb.mono bW.size)
  clear hb
  have g5 : w3.cell? ⟨w.heap.size, 5, none⟩ = some (.slice K.nP K.nl.length K.nc) := atV ka 5 _ rfl
  have l5 : w3.cell? ⟨w.heap.size + 1, 5, none⟩ = some (.slice K'.nP K.nl.length K'.nc) := atV kb 5 _ rfl
  have HC : Hid (Calls _ _ _ _ _) := eqN_same K.nP K'.nP K.nc K'.nc K.nl K'.nl w3 hs.n p6 hs.ni (hK.n.below bW) (hK'.n.below bW) (hK.ni.below bW) (hK'.ni.below bW)
  go_upto_region 13 with ((go_at_call 35; refine Calls.mono HC.out ?_; rintro r w4 ⟨rfl, hb⟩))
  clear HC g5 l5
  have ka := ka.below hb
  have kb := kb.below hb
  have bW := bW.trans (hb.mono bW.size)
  clear hb
  have g6 : w4.cell? ⟨w.heap.size, 6, none⟩ = some (.slice K.fP K.fl.length K.fc) := atV ka 6 _ rfl
  have l6 : w4.cell? ⟨w.heap.size + 1, 6, none⟩ = some (.slice K'.fP K.fl.length K'.fc) := atV kb 6 _ rfl
  have HC : Hid (Calls _ _ _ _ _) := eqF_same K.fP K'.fP K.fc K'.fc K.fl K'.fl w4 hs.f p7 hs.fi (hK.f.below bW) (hK'.f.below bW) (hK.fi.below bW) (hK'.fi.below bW)
  go_upto_region 15 with ((go_at_call 36; refine Calls.mono HC.out ?_; rintro r w5 ⟨rfl, hb⟩))
  clear HC g6 l6
  have ka := ka.below hb
  have kb := kb.below hb
  have bW := bW.trans (hb.mono bW.size)
  clear hb
  have g7 : w5.cell? ⟨w.heap.size, 7, none⟩ = some (.slice K.r0.P K.r0.l.length K.r0.c) := atV ka 7 _ rfl
  have l7 : w5.cell? ⟨w.heap.size + 1, 7, none⟩ = some (.slice K'.r0.P K'.r0.l.length K'.r0.c) := atV kb 7 _ rfl
  have g8 : w5.cell? ⟨w.heap.size, 8, none⟩ = some (.slice K.r1.P K.r1.l.length K.r1.c) := atV ka 8 _ rfl
  have l8 : w5.cell? ⟨w.heap.size + 1, 8, none⟩ = some (.slice K'.r1.P K'.r1.l.length K'.r1.c) := atV kb 8 _ rfl
  have g9 : w5.cell? ⟨w.heap.size, 9, none⟩ = some (.slice K.r2.P K.r2.l.length K.r2.c) := atV ka 9 _ rfl
  have l9 : w5.cell? ⟨w.heap.size + 1, 9, none⟩ = some (.slice K'.r2.P K'.r2.l.length K'.r2.c) := atV kb 9 _ rfl
  have g10 : w5.cell? ⟨w.heap.size, 10, none⟩ = some (.slice K.r3.P K.r3.l.length K.r3.c) := atV ka 10 _ rfl
  have l10 : w5.cell? ⟨w.heap.size + 1, 10, none⟩ = some (.slice K'.r3.P K'.r3.l.length K'.r3.c) := atV kb 10 _ rfl
  have g11 : w5.cell? ⟨w.heap.size, 11, none⟩ = some (.slice K.r4.P K.r4.l.length K.r4.c) := atV ka 11 _ rfl
  have l11 : w5.cell? ⟨w.heap.size + 1, 11, none⟩ = some (.slice K'.r4.P K'.r4.l.length K'.r4.c) := atV kb 11 _ rfl
  have g12 : w5.cell? ⟨w.heap.size, 12, none⟩ = some (.slice K.r5.P K.r5.l.length K.r5.c) := atV ka 12 _ rfl
  have l12 : w5.cell? ⟨w.heap.size + 1, 12, none⟩ = some (.slice K'.r5.P K'.r5.l.length K'.r5.c) := atV kb 12 _ rfl
  have g13 : w5.cell? ⟨w.heap.size, 13, none⟩ = some (.slice K.r6.P K.r6.l.length K.r6.c) := atV ka 13 _ rfl
  have l13 : w5.cell? ⟨w.heap.size + 1, 13, none⟩ = some (.slice K'.r6.P K'.r6.l.length K'.r6.c) := atV kb 13 _ rfl
  have g14 : w5.cell? ⟨w.heap.size, 14, none⟩ = some (.slice K.r7.P K.r7.l.length K.r7.c) := atV ka 14 _ rfl
  have l14 : w5.cell? ⟨w.heap.size + 1, 14, none⟩ = some (.slice K'.r7.P K'.r7.l.length K'.r7.c) := atV kb 14 _ rfl
  have HC : Hid (Calls _ _ _ _ _) := (decide_eq_true p8) ▸ eqQ_any K.r0 K.r1 K.r2 K.r3 K.r4 K.r5 K.r6 K.r7 K'.r0 K'.r1 K'.r2 K'.r3 K'.r4 K'.r5 K'.r6 K'.r7 w5 hs.r hs'.r (hK.r.below bW) (hK'.r.below bW)
  go_wp2_with ((go_at_call 37; refine Calls.mono HC.out ?_; rintro r w6 ⟨rfl, hb⟩))
  clear HC g7 l7 g8 l8 g9 l9 g10 l10 g11 l11 g12 l12 g13 l13 g14 l14
  go_ret
  exact ⟨rfl, bW.trans (hb.mono bW.size)⟩

end Go.Proofs.Ytoahhhmagcnjbab
