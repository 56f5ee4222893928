/-
  Texts of the proof, put together: KernSz, OpenSlots, OpenKern.
-/
import Derived.Test.YtigpbjcmmgdiaaaGreatBk
import Derived.Laws.ResultCell
import Derived.Test.YtigpbjcmmgdiaaaGreatBc
import Derived.Deep.Slices
import Derived.Test.YtigpbjcmmgdiaaaGreatRr
import Derived.OpenShut
/-
 How large a state is, by the laws.
-/
namespace Go.Proofs.YtigpbjcmmgdiaaaGreat
open Go.ChangeShapes Go.WideShapes Go.ChangeAt Go.RowKit
set_option linter.unusedVariables false

set_option maxRecDepth 100000 in
set_option maxHeartbeats 40000000 in
theorem szK_any (K : QK) (q0 : Int) (w : World) (h0q0 : 0 ≤ q0) (h2q0 : q0 ≤ 1048576) (h : K.Long) (hK : KernIn w K) :
  Calls Tryz.prog 7 #[.agg #[.int .i64 K.bits, .int .i64 K.ticks, .slice K.sP K.sl.length K.sc, .slice K.tP K.tl.length K.tc, .slice K.eP K.el.length K.ec, .slice K.nP K.nl.length K.nc, .slice K.fP K.fl.length K.fc, .slice K.r0.P K.r0.l.length K.r0.c, .slice K.r1.P K.r1.l.length K.r1.c, .slice K.r2.P K.r2.l.length K.r2.c, .slice K.r3.P K.r3.l.length K.r3.c, .slice K.r4.P K.r4.l.length K.r4.c, .slice K.r5.P K.r5.l.length K.r5.c, .slice K.r6.P K.r6.l.length K.r6.c, .slice K.r7.P K.r7.l.length K.r7.c], .int .i64 q0] w fun r w' => r = .returned (.int .i64 (szR (K.sz : Int) q0)) ∧ Below w.heap.size w w' := by
 have kb := boxV w K 30
 have bW : Below w.heap.size w (w.alloc (.cells #[.int .i64 K.bits, .int .i64 K.ticks, .slice K.sP K.sl.length K.sc, .slice K.tP K.tl.length K.tc, .slice K.eP K.el.length K.ec, .slice K.nP K.nl.length K.nc, .slice K.fP K.fl.length K.fc, .slice K.r0.P K.r0.l.length K.r0.c, .slice K.r1.P K.r1.l.length K.r1.c, .slice K.r2.P K.r2.l.length K.r2.c, .slice K.r3.P K.r3.l.length K.r3.c, .slice K.r4.P K.r4.l.length K.r4.c, .slice K.r5.P K.r5.l.length K.r5.c, .slice K.r6.P K.r6.l.length K.r6.c, .slice K.r7.P K.r7.l.length K.r7.c] 30)) := (Below.refl _ w).alloc (Nat.le_refl _) _
 go_enter Tryz.func7, Tryz.ntmps7
 go_upto_region 1 with fail
 generalize hW0 : w.alloc (.cells #[.int .i64 K.bits, .int .i64 K.ticks, .slice K.sP K.sl.length K.sc, .slice K.tP K.tl.length K.tc, .slice K.eP K.el.length K.ec, .slice K.nP K.nl.length K.nc, .slice K.fP K.fl.length K.fc, .slice K.r0.P K.r0.l.length K.r0.c, .slice K.r1.P K.r1.l.length K.r1.c, .slice K.r2.P K.r2.l.length K.r2.c, .slice K.r3.P K.r3.l.length K.r3.c, .slice K.r4.P K.r4.l.length K.r4.c, .slice K.r5.P K.r5.l.length K.r5.c, .slice K.r6.P K.r6.l.length K.r6.c, .slice K.r7.P K.r7.l.length K.r7.c] 30) = w0 at kb bW ⊢
 clear hW0
 have g2 : w0.cell? ⟨w.heap.size, 2, none⟩ = some (.slice K.sP K.sl.length K.sc) := atV kb 2 _ rfl
 by_cases hc0 : (K.sl.length : Int) ≤ q0
 ·have HC : Hid (Calls _ _ _ _ _) := szS_any K.sP K.sc K.sl.length q0 w0 h0q0 h2q0 h.s
  rw [szR_pos hc0] at HC
  obtain ⟨q1, eq1⟩ : ∃ x, q0 - (K.sl.length : Int) = x := ⟨_, rfl⟩
  have h0q1 : 0 ≤ q1 := by omega
  have h1q1 : ¬ q1 < 0 := by omega
  have h2q1 : q1 ≤ 1048576 := by omega
  rw [eq1] at HC
  have Eq1 : Hid _ := eq1
  clear eq1
  go_upto_region 4 with ((go_at_call 20; refine Calls.mono HC.out ?_; rintro r w1 ⟨rfl, rfl⟩))
  clear HC g2
  have g3 : w0.cell? ⟨w.heap.size, 3, none⟩ = some (.slice K.tP K.tl.length K.tc) := atV kb 3 _ rfl
  by_cases hc1 : (K.tl.length : Int) ≤ q1
  ·have HC : Hid (Calls _ _ _ _ _) := szT_any K.tP K.tc K.tl.length q1 w0 h0q1 h2q1 h.t
   rw [szR_pos hc1] at HC
   obtain ⟨q2, eq2⟩ : ∃ x, q1 - (K.tl.length : Int) = x := ⟨_, rfl⟩
   have h0q2 : 0 ≤ q2 := by omega
   have h1q2 : ¬ q2 < 0 := by omega
   have h2q2 : q2 ≤ 1048576 := by omega
   rw [eq2] at HC
   have Eq2 : Hid _ := eq2
   clear eq2
   go_upto_region 7 with ((go_at_call 21; refine Calls.mono HC.out ?_; rintro r w2 ⟨rfl, rfl⟩))
   clear HC g3
   have g4 : w0.cell? ⟨w.heap.size, 4, none⟩ = some (.slice K.eP K.el.length K.ec) := atV kb 4 _ rfl
   by_cases hc2 : ((K.el.length + sumE K.el : Nat) : Int) ≤ q2
   ·have HC : Hid (Calls _ _ _ _ _) := szE_any K.eP K.ec K.el q2 w0 h0q2 h2q2 h.e h.ei (hK.e.below bW)
    rw [szR_pos hc2] at HC
    obtain ⟨q3, eq3⟩ : ∃ x, q2 - ((K.el.length + sumE K.el : Nat) : Int) = x := ⟨_, rfl⟩
    have h0q3 : 0 ≤ q3 := by omega
    have h1q3 : ¬ q3 < 0 := by omega
    have h2q3 : q3 ≤ 1048576 := by omega
    rw [eq3] at HC
    have Eq3 : Hid _ := eq3
    clear eq3
    go_upto_region 10 with ((go_at_call 22; refine Calls.mono HC.out ?_; rintro r w3 ⟨rfl, hb⟩))
    clear HC g4
    have kb := kb.below hb
    have bW := bW.trans (hb.mono bW.size)
    clear hb
    have g5 : w3.cell? ⟨w.heap.size, 5, none⟩ = some (.slice K.nP K.nl.length K.nc) := atV kb 5 _ rfl
    by_cases hc3 : ((K.nl.length + sumN K.nl : Nat) : Int) ≤ q3
    ·have HC : Hid (Calls _ _ _ _ _) := szN_any K.nP K.nc K.nl q3 w3 h0q3 h2q3 h.n h.ni (hK.n.below bW)
     rw [szR_pos hc3] at HC
     obtain ⟨q4, eq4⟩ : ∃ x, q3 - ((K.nl.length + sumN K.nl : Nat) : Int) = x := ⟨_, rfl⟩
     have h0q4 : 0 ≤ q4 := by omega
     have h1q4 : ¬ q4 < 0 := by omega
     have h2q4 : q4 ≤ 1048576 := by omega
     rw [eq4] at HC
     have Eq4 : Hid _ := eq4
     clear eq4
     go_upto_region 13 with ((go_at_call 23; refine Calls.mono HC.out ?_; rintro r w4 ⟨rfl, hb⟩))
     clear HC g5
     have kb := kb.below hb
     have bW := bW.trans (hb.mono bW.size)
     clear hb
     have g6 : w4.cell? ⟨w.heap.size, 6, none⟩ = some (.slice K.fP K.fl.length K.fc) := atV kb 6 _ rfl
     by_cases hc4 : ((K.fl.length + sumF K.fl : Nat) : Int) ≤ q4
     ·have HC : Hid (Calls _ _ _ _ _) := szF_any K.fP K.fc K.fl q4 w4 h0q4 h2q4 h.f h.fi (hK.f.below bW)
      rw [szR_pos hc4] at HC
      obtain ⟨q5, eq5⟩ : ∃ x, q4 - ((K.fl.length + sumF K.fl : Nat) : Int) = x := ⟨_, rfl⟩
      have h0q5 : 0 ≤ q5 := by omega
      have h1q5 : ¬ q5 < 0 := by omega
      have h2q5 : q5 ≤ 1048576 := by omega
      rw [eq5] at HC
      have Eq5 : Hid _ := eq5
      clear eq5
      go_upto_region 16 with ((go_at_call 24; refine Calls.mono HC.out ?_; rintro r w5 ⟨rfl, hb⟩))
      clear HC g6
      have kb := kb.below hb
      have bW := bW.trans (hb.mono bW.size)
      clear hb
      have g7 : w5.cell? ⟨w.heap.size, 7, none⟩ = some (.slice K.r0.P K.r0.l.length K.r0.c) := atV kb 7 _ rfl
      have g8 : w5.cell? ⟨w.heap.size, 8, none⟩ = some (.slice K.r1.P K.r1.l.length K.r1.c) := atV kb 8 _ rfl
      have g9 : w5.cell? ⟨w.heap.size, 9, none⟩ = some (.slice K.r2.P K.r2.l.length K.r2.c) := atV kb 9 _ rfl
      have g10 : w5.cell? ⟨w.heap.size, 10, none⟩ = some (.slice K.r3.P K.r3.l.length K.r3.c) := atV kb 10 _ rfl
      have g11 : w5.cell? ⟨w.heap.size, 11, none⟩ = some (.slice K.r4.P K.r4.l.length K.r4.c) := atV kb 11 _ rfl
      have g12 : w5.cell? ⟨w.heap.size, 12, none⟩ = some (.slice K.r5.P K.r5.l.length K.r5.c) := atV kb 12 _ rfl
      have g13 : w5.cell? ⟨w.heap.size, 13, none⟩ = some (.slice K.r6.P K.r6.l.length K.r6.c) := atV kb 13 _ rfl
      have g14 : w5.cell? ⟨w.heap.size, 14, none⟩ = some (.slice K.r7.P K.r7.l.length K.r7.c) := atV kb 14 _ rfl
      by_cases hc5 : (sumQ [K.r0, K.r1, K.r2, K.r3, K.r4, K.r5, K.r6, K.r7] : Int) ≤ q5
      ·have HC : Hid (Calls _ _ _ _ _) := szQ_any K.r0 K.r1 K.r2 K.r3 K.r4 K.r5 K.r6 K.r7 q5 w5 h0q5 h2q5 h.r
       rw [szR_pos hc5] at HC
       obtain ⟨q6, eq6⟩ : ∃ x, q5 - (sumQ [K.r0, K.r1, K.r2, K.r3, K.r4, K.r5, K.r6, K.r7] : Int) = x := ⟨_, rfl⟩
       have h0q6 : 0 ≤ q6 := by omega
       have h1q6 : ¬ q6 < 0 := by omega
       have h2q6 : q6 ≤ 1048576 := by omega
       rw [eq6] at HC
       have Eq6 : Hid _ := eq6
       clear eq6
       go_wp2_with ((go_at_call 25; refine Calls.mono HC.out ?_; rintro r w6 ⟨rfl, hb⟩))
       go_ret
       exact ⟨ret_int (by rw [szR_pos (by unfold QK.sz; have := Eq1.out; have := Eq2.out; have := Eq3.out; have := Eq4.out; have := Eq5.out; have := Eq6.out; omega)]; unfold QK.sz; have := Eq1.out; have := Eq2.out; have := Eq3.out; have := Eq4.out; have := Eq5.out; have := Eq6.out; omega), bW.trans (hb.mono bW.size)⟩
      ·have HC : Hid (Calls _ _ _ _ _) := szQ_any K.r0 K.r1 K.r2 K.r3 K.r4 K.r5 K.r6 K.r7 q5 w5 h0q5 h2q5 h.r
       rw [szR_neg hc5] at HC
       go_wp2_with ((go_at_call 25; refine Calls.mono HC.out ?_; rintro r w6 ⟨rfl, hb⟩))
       go_ret
       exact ⟨ret_int (szR_neg (by unfold QK.sz; have := Eq1.out; have := Eq2.out; have := Eq3.out; have := Eq4.out; have := Eq5.out; omega)).symm, bW.trans (hb.mono bW.size)⟩
     ·have HC : Hid (Calls _ _ _ _ _) := szF_any K.fP K.fc K.fl q4 w4 h0q4 h2q4 h.f h.fi (hK.f.below bW)
      rw [szR_neg hc4] at HC
      go_wp2_with ((go_at_call 24; refine Calls.mono HC.out ?_; rintro r w5 ⟨rfl, hb⟩))
      go_ret
      exact ⟨ret_int (szR_neg (by unfold QK.sz; have := Eq1.out; have := Eq2.out; have := Eq3.out; have := Eq4.out; omega)).symm, bW.trans (hb.mono bW.size)⟩
    ·have HC : Hid (Calls _ _ _ _ _) := szN_any K.nP K.nc K.nl q3 w3 h0q3 h2q3 h.n h.ni (hK.n.below bW)
     rw [szR_neg hc3] at HC
     go_wp2_with ((go_at_call 23; refine Calls.mono HC.out ?_; rintro r w4 ⟨rfl, hb⟩))
     go_ret
     exact ⟨ret_int (szR_neg (by unfold QK.sz; have := Eq1.out; have := Eq2.out; have := Eq3.out; omega)).symm, bW.trans (hb.mono bW.size)⟩
   ·have HC : Hid (Calls _ _ _ _ _) := szE_any K.eP K.ec K.el q2 w0 h0q2 h2q2 h.e h.ei (hK.e.below bW)
    rw [szR_neg hc2] at HC
    go_wp2_with ((go_at_call 22; refine Calls.mono HC.out ?_; rintro r w3 ⟨rfl, hb⟩))
    go_ret
    exact ⟨ret_int (szR_neg (by unfold QK.sz; have := Eq1.out; have := Eq2.out; omega)).symm, bW.trans (hb.mono bW.size)⟩
  ·have HC : Hid (Calls _ _ _ _ _) := szT_any K.tP K.tc K.tl.length q1 w0 h0q1 h2q1 h.t
   rw [szR_neg hc1] at HC
   go_wp2_with ((go_at_call 21; refine Calls.mono HC.out ?_; rintro r w2 ⟨rfl, rfl⟩))
   go_ret
   exact ⟨ret_int (szR_neg (by unfold QK.sz; have := Eq1.out; omega)).symm, bW⟩
 ·have HC : Hid (Calls _ _ _ _ _) := szS_any K.sP K.sc K.sl.length q0 w0 h0q0 h2q0 h.s
  rw [szR_neg hc0] at HC
  go_wp2_with ((go_at_call 20; refine Calls.mono HC.out ?_; rintro r w1 ⟨rfl, rfl⟩))
  go_ret
  exact ⟨ret_int (szR_neg (by unfold QK.sz; omega)).symm, bW⟩

end Go.Proofs.YtigpbjcmmgdiaaaGreat
/-
 A list of slots that came in, opened.
-/
namespace Go.Proofs.YtigpbjcmmgdiaaaGreat
open Go.ChangeShapes Go.WideShapes Go.ChangeAt Go.RowKit
set_option linter.unusedVariables false

theorem fit_of {a : Int} (h : (Lit.int .i64 a).wf = true) : -9223372036854775808 ≤ a ∧ a ≤ 9223372036854775807 := bounds_i64 h

set_option maxRecDepth 100000 in
theorem open_slot {H : Type} {enc : TypeId × Value → H} {W : World} {base fuel : Nat} {spare : Nat → Bool} {held : Bool} {cs : List Value} {x : DataW H × List MemPlace}
  (h : DataW.trod enc Tryz.prog W base spare held fuel 111 cs = some x) : ∃ s : Sl, cs = cellsOf s ∧ s.Fit := by
 obtain ⟨xs, n, _, _, hlen, hl, hx⟩ := DataW.trod_struct Tryz.underlying111 h
 have e72 : Tryz.prog.cellsOf 111 = 11 := by kernel_rfl
 have e70 : Tryz.prog.cellsOf 109 = 9 := by kernel_rfl
 have e3 : Tryz.prog.cellsOf 3 = 1 := by kernel_rfl
 have e4 : Tryz.prog.cellsOf 4 = 1 := by kernel_rfl
 rw [e72] at hlen
 have hl3 : xs.length = 3 := hl
 match cs, hlen with
 | [c0, c1, c2, c3, c4, c5, c6, c7, c8, c9, c10], _ =>
  have ex : ∀ i, i < 3 → ∃ y, xs[i]? = some y := fun i hi => ⟨_, List.getElem?_eq_getElem (by omega)⟩
  obtain ⟨y0, hy0⟩ := ex 0 (by omega)
  obtain ⟨y1, hy1⟩ := ex 1 (by omega)
  obtain ⟨y2, hy2⟩ := ex 2 (by omega)
  have h0 : DataW.trod enc Tryz.prog W base spare held n 3 [c0] = some y0 := by
   have := hx 0 _ rfl
   rw [hy0] at this
   simpa [e3] using this
  have h2 : DataW.trod enc Tryz.prog W base spare held n 3 [c10] = some y2 := by
   have := hx 2 _ rfl
   rw [hy2] at this
   simpa [e3] using this
  have h1 : DataW.trod enc Tryz.prog W base spare held n 109 [c1, c2, c3, c4, c5, c6, c7, c8, c9] = some y1 := by
   have := hx 1 _ rfl
   rw [hy1] at this
   simpa [e70] using this
  obtain ⟨t, rfl, wt⟩ := cell_int h0
  obtain ⟨p, rfl, wp⟩ := cell_int h2
  obtain ⟨zs, m, _, _, _, hz, hv⟩ := DataW.trod_struct Tryz.underlying109 h1
  have hz9 : zs.length = 9 := hz
  have ez : ∀ i, i < 9 → ∃ y, zs[i]? = some y := fun i hi => ⟨_, List.getElem?_eq_getElem (by omega)⟩
  obtain ⟨w0, hw0⟩ := ez 0 (by omega)
  obtain ⟨w1, hw1⟩ := ez 1 (by omega)
  obtain ⟨w2, hw2⟩ := ez 2 (by omega)
  obtain ⟨w3, hw3⟩ := ez 3 (by omega)
  obtain ⟨w4, hw4⟩ := ez 4 (by omega)
  obtain ⟨w5, hw5⟩ := ez 5 (by omega)
  obtain ⟨w6, hw6⟩ := ez 6 (by omega)
  obtain ⟨w7, hw7⟩ := ez 7 (by omega)
  obtain ⟨w8, hw8⟩ := ez 8 (by omega)
  have g0 : DataW.trod enc Tryz.prog W base spare held m 3 [c1] = some w0 := by
   have := hv 0 _ rfl
   rw [hw0] at this
   simpa [e3] using this
  have g1 : DataW.trod enc Tryz.prog W base spare held m 3 [c2] = some w1 := by
   have := hv 1 _ rfl
   rw [hw1] at this
   simpa [e3] using this
  have g2 : DataW.trod enc Tryz.prog W base spare held m 3 [c3] = some w2 := by
   have := hv 2 _ rfl
   rw [hw2] at this
   simpa [e3] using this
  have g3 : DataW.trod enc Tryz.prog W base spare held m 3 [c4] = some w3 := by
   have := hv 3 _ rfl
   rw [hw3] at this
   simpa [e3] using this
  have g4 : DataW.trod enc Tryz.prog W base spare held m 3 [c5] = some w4 := by
   have := hv 4 _ rfl
   rw [hw4] at this
   simpa [e3] using this
  have g5 : DataW.trod enc Tryz.prog W base spare held m 3 [c6] = some w5 := by
   have := hv 5 _ rfl
   rw [hw5] at this
   simpa [e3] using this
  have g6 : DataW.trod enc Tryz.prog W base spare held m 3 [c7] = some w6 := by
   have := hv 6 _ rfl
   rw [hw6] at this
   simpa [e3] using this
  have g7 : DataW.trod enc Tryz.prog W base spare held m 3 [c8] = some w7 := by
   have := hv 7 _ rfl
   rw [hw7] at this
   simpa [e3] using this
  have g8 : DataW.trod enc Tryz.prog W base spare held m 4 [c9] = some w8 := by
   have := hv 8 _ rfl
   rw [hw8] at this
   simpa [e4] using this
  obtain ⟨k, rfl, wk⟩ := cell_int g0
  obtain ⟨e, rfl, we⟩ := cell_int g1
  obtain ⟨b, rfl, wb⟩ := cell_int g2
  obtain ⟨r, rfl, wr⟩ := cell_int g3
  obtain ⟨d, rfl, wd⟩ := cell_int g4
  obtain ⟨g, rfl, wg⟩ := cell_int g5
  obtain ⟨q, rfl, wq⟩ := cell_int g6
  obtain ⟨f, rfl, wf⟩ := cell_int g7
  obtain ⟨o, rfl⟩ := cell_bool g8
  exact ⟨⟨t, k, e, b, r, d, g, q, f, o, p⟩, rfl, ⟨fit_of wt, fit_of wr, fit_of wp⟩⟩

theorem at11_of {W : World} {B O : Nat} {s : Sl} (h : ∀ j, j < 11 → W.cell? ⟨B, O + j, none⟩ = (cellsOf s)[j]?) : At11 W B O s :=
 ⟨h 0 (by omega), h 1 (by omega), h 2 (by omega), h 3 (by omega), h 4 (by omega), h 5 (by omega), h 6 (by omega), h 7 (by omega), h 8 (by omega), h 9 (by omega), h 10 (by omega)⟩

theorem open_slots {H : Type} {enc : TypeId × Value → H} {W : World} {base : Nat} {spare : Nat → Bool} {held : Bool} {P : Option Addr} {len cap : Nat} {d : DataW H} {p : List MemPlace}
  (h : DataW.Trod enc Tryz.prog W base spare held 22 (.slice P len cap) d p) : ∃ L : List Sl, L.length = len ∧ len ≤ maxLen ∧ Lies W P L ∧ ∀ s ∈ L, s.Fit := by
 obtain ⟨fuel, hf⟩ := h
 have e72 : Tryz.prog.cellsOf 111 = 11 := by kernel_rfl
 rcases Deep.open_slice Tryz.underlying22 hf with ⟨hcs, _⟩ | ⟨a, len', cap', m, n, D, Pl, hcs, hb, hl, hm, hmm, _, hx⟩
 ·simp [Value.cells] at hcs
  obtain ⟨rfl, rfl, rfl⟩ := hcs
  exact ⟨[], rfl, Nat.zero_le _, Lies.nil _ _, fun s hs => absurd hs (by simp)⟩
 ·simp [Value.cells] at hcs
  obtain ⟨rfl, rfl, rfl⟩ := hcs
  have hlm : len ≤ m := by rw [hmm]; split <;> omega
  rw [e72] at hx
  have each : ∀ i, i < len → ∃ s : Sl, (∀ j, j < 11 → W.cell? (a.add (i * 11 + j)) = (cellsOf s)[j]?) ∧ s.Fit := by
   intro i hi
   obtain ⟨cs', h1, h2⟩ := hx i (by omega)
   obtain ⟨s, rfl, hs⟩ := open_slot h2
   obtain ⟨_, _, hc⟩ := World.cells?_some h1
   exact ⟨s, fun j hj => by have := hc j hj; rwa [Deep.add_add] at this, hs⟩
  obtain ⟨F, hF⟩ := Deep.choose_lt each
  refine ⟨(List.range len).map F, by simp, Nat.le_trans hl hm, ⟨?_, ?_⟩, ?_⟩
  ·by_cases h0 : len = 0
   ·left; simp [h0]
   ·right
    have h1 := (hF 0 (by omega)).1 0 (by omega)
    have hsp : a.spot = none := by
     simp [Addr.add, cellsOf] at h1
     cases e : a.spot with
     | none => rfl
     | some x => simp [World.cell?, e] at h1; split at h1 <;> simp at h1
    exact ⟨a.block, a.off, by cases a; simp at hsp; simp [hsp]⟩
  ·intro B O e i hi
   simp at hi
   obtain rfl : a = ⟨B, O, none⟩ := by simpa using e
   rw [List.getElem_map, List.getElem_range]
   apply at11_of
   intro j hj
   have := (hF i hi).1 j hj
   rw [Nat.add_assoc]
   rw [← this]
   unfold Addr.add
   by_cases hz : i * 11 + j = 0
   ·rw [if_pos hz, hz, Nat.add_zero]
   ·rw [if_neg hz]
  ·intro s hs
   simp at hs
   obtain ⟨i, hi, rfl⟩ := hs
   exact (hF i hi).2

end Go.Proofs.YtigpbjcmmgdiaaaGreat
/-
 Rows and states that came in, opened.
-/
namespace Go.Proofs.YtigpbjcmmgdiaaaGreat
open Go.ChangeShapes Go.WideShapes Go.ChangeAt Go.RowKit
set_option linter.unusedVariables false

theorem cell_u32 {H : Type} {enc : TypeId × Value → H} {W : World} {base n : Nat} {spare : Nat → Bool} {held : Bool} {v : Value} {y : DataW H × List MemPlace}
  (h : DataW.trod enc Tryz.prog W base spare held n 47 [v] = some y) : ∃ a, v = .int .u32 a ∧ (Lit.int .u32 a).wf = true := by
 obtain ⟨a, e, _, wa⟩ := DataW.trod_int Tryz.underlying47 h
 simp at e
 exact ⟨a, e, wa⟩

/-- A row of any elements, opened. -/
theorem open_rowG {α : Type} (F : Form α) (Good : α → Prop) {H : Type} {enc : TypeId × Value → H} {W : World} {base fuel : Nat} {spare : Nat → Bool} {held : Bool} {cs : List Value} {x : DataW H × List MemPlace} {T E : TypeId} (hu : Tryz.prog.underlying T = some (.slice E)) (hc : Tryz.prog.cellsOf E = F.n)
  (one : ∀ (n : Nat) (cs : List Value) (x : DataW H × List MemPlace), DataW.trod enc Tryz.prog W base spare held n E cs = some x → ∃ a, cs = F.cel a ∧ Good a)
  (h : DataW.trod enc Tryz.prog W base spare held fuel T cs = some x) :
  ∃ (P : Option Addr) (cap : Nat) (L : List α), cs = [.slice P L.length cap] ∧ L.length ≤ 9223372036854775807 ∧ LiesG F W P L ∧ ∀ a ∈ L, Good a := by
 rcases Deep.open_slice hu h with ⟨hcs, _⟩ | ⟨a, len, cap, m, n, D, Pl, hcs, hb, hl, hm, hmm, _, hx⟩
 ·exact ⟨none, 0, [], hcs, Nat.zero_le _, LiesG.nil _ _ _, fun a ha => absurd ha (by simp)⟩
 ·have hlm : len ≤ m := by rw [hmm]; split <;> omega
  rw [hc] at hx
  have each : ∀ i, i < len → ∃ s : α, (∀ j, j < F.n → W.cell? (a.add (i * F.n + j)) = (F.cel s)[j]?) ∧ Good s := by
   intro i hi
   obtain ⟨cs', h1, h2⟩ := hx i (by omega)
   obtain ⟨s, rfl, hs⟩ := one _ _ _ h2
   obtain ⟨_, _, hcc⟩ := World.cells?_some h1
   exact ⟨s, fun j hj => by have := hcc j hj; rwa [Deep.add_add] at this, hs⟩
  have hlist : ∃ L : List α, L.length = len ∧ ∀ i (hi : i < L.length), (∀ j, j < F.n → W.cell? (a.add (i * F.n + j)) = (F.cel L[i])[j]?) ∧ Good L[i] := by
   by_cases h0 : len = 0
   ·exact ⟨[], h0.symm, fun i hi => absurd hi (by simp)⟩
   ·obtain ⟨s0, _⟩ := each 0 (by omega)
    have : Inhabited α := ⟨s0⟩
    obtain ⟨G, hG⟩ := Deep.choose_lt each
    exact ⟨(List.range len).map G, by simp, fun i hi => by simp at hi; simpa using hG i hi⟩
  obtain ⟨L, hlen, hL⟩ := hlist
  have hmx : len ≤ 9223372036854775807 := Nat.le_trans hl hm
  refine ⟨some a, cap, L, by rw [hlen]; exact hcs, by omega, ⟨?_, ?_⟩, fun y hy => ?_⟩
  ·by_cases h0 : len = 0
   ·left; exact List.length_eq_zero_iff.1 (by omega)
   ·right
    have h1 := (hL 0 (by omega)).1 0 F.pos
    have hsp : a.spot = none := by
     have h2 : 0 < (F.cel L[0]).length := by rw [F.len]; exact F.pos
     rw [List.getElem?_eq_getElem h2] at h1
     simp [Addr.add] at h1
     cases e : a.spot with
     | none => rfl
     | some x => simp [World.cell?, e] at h1; split at h1 <;> simp at h1
    exact ⟨a.block, a.off, by cases a; simp at hsp; simp [hsp]⟩
  ·intro B O e i hi j hj
   obtain rfl : a = ⟨B, O, none⟩ := by simpa using e
   have := (hL i hi).1 j hj
   unfold Addr.add at this
   by_cases hz : i * F.n + j = 0
   ·rw [if_pos hz] at this
    have e1 : O + i * F.n + j = O := by omega
    rw [e1]; exact this
   ·rw [if_neg hz] at this
    rw [Nat.add_assoc]; exact this
  ·obtain ⟨i, hi, rfl⟩ := List.getElem_of_mem hy
   exact (hL i hi).2

theorem fit_wf {a : Int} (h : (Lit.int .i64 a).wf = true) : FitI a := by
 have hmin : IntKind.i64.min = -9223372036854775808 := rfl
 have hmax : IntKind.i64.max = 9223372036854775807 := rfl
 simp only [Lit.wf, Bool.and_eq_true, decide_eq_true_eq] at h
 unfold FitI; omega
theorem open_I {H : Type} {enc : TypeId × Value → H} {W : World} {base fuel : Nat} {spare : Nat → Bool} {held : Bool} {cs : List Value} {x : DataW H × List MemPlace} (h : DataW.trod enc Tryz.prog W base spare held fuel 27 cs = some x) : ∃ (P : Option Addr) (cap : Nat) (L : List Int), cs = [.slice P L.length cap] ∧ L.length ≤ 9223372036854775807 ∧ LiesG fI W P L ∧ ∀ a ∈ L, FitI a := by
 obtain ⟨P, c, L, h1, h2, h3, h4⟩ := open_rowG fI FitI Tryz.underlying27 (by kernel_rfl) (fun n cs x h => by
  have hl : cs.length = 1 := by
   obtain ⟨a, e, _, _⟩ := DataW.trod_int Tryz.underlying3 h
   rw [e]; rfl
  match cs, hl with
  | [v], _ => obtain ⟨a, rfl, wa⟩ := cell_int h; exact ⟨a, rfl, fit_wf wa⟩) h
 exact ⟨P, c, L, h1, h2, h3, h4⟩
theorem open_U {H : Type} {enc : TypeId × Value → H} {W : World} {base fuel : Nat} {spare : Nat → Bool} {held : Bool} {cs : List Value} {x : DataW H × List MemPlace} (h : DataW.trod enc Tryz.prog W base spare held fuel 103 cs = some x) : ∃ (P : Option Addr) (cap : Nat) (L : List Int), cs = [.slice P L.length cap] ∧ L.length ≤ 9223372036854775807 ∧ LiesG fU W P L := by
 obtain ⟨P, c, L, h1, h2, h3, _⟩ := open_rowG fU (fun _ => True) Tryz.underlying103 (by kernel_rfl) (fun n cs x h => by
  have hl : cs.length = 1 := by
   obtain ⟨a, e, _, _⟩ := DataW.trod_int Tryz.underlying47 h
   rw [e]; rfl
  match cs, hl with
  | [v], _ => obtain ⟨a, rfl, _⟩ := cell_u32 h; exact ⟨a, rfl, trivial⟩) h
 exact ⟨P, c, L, h1, h2, h3⟩

theorem open_A3 {H : Type} {enc : TypeId × Value → H} {W : World} {base fuel : Nat} {spare : Nat → Bool} {held : Bool} {c0 c1 c2 : Value} {x : DataW H × List MemPlace} (h : DataW.trod enc Tryz.prog W base spare held fuel 48 [c0, c1, c2] = some x) : ∃ a b c, c0 = .int .u32 a ∧ c1 = .int .u32 b ∧ c2 = .int .u32 c := by
 obtain ⟨xs, m, _, _, _, hl, hx⟩ := DataW.trod_array Tryz.underlying48 h
 have e5 : Tryz.prog.cellsOf 47 = 1 := by kernel_rfl
 have ex : ∀ i, i < 3 → ∃ y, xs[i]? = some y := fun i hi => ⟨_, List.getElem?_eq_getElem (by omega)⟩
 obtain ⟨y0, hy0⟩ := ex 0 (by omega)
 have h0 : DataW.trod enc Tryz.prog W base spare held m 47 [c0] = some y0 := by
  have := hx 0 (by omega)
  rw [hy0] at this
  simpa [e5] using this
 obtain ⟨a0, rfl, _⟩ := cell_u32 h0
 obtain ⟨y1, hy1⟩ := ex 1 (by omega)
 have h1 : DataW.trod enc Tryz.prog W base spare held m 47 [c1] = some y1 := by
  have := hx 1 (by omega)
  rw [hy1] at this
  simpa [e5] using this
 obtain ⟨a1, rfl, _⟩ := cell_u32 h1
 obtain ⟨y2, hy2⟩ := ex 2 (by omega)
 have h2 : DataW.trod enc Tryz.prog W base spare held m 47 [c2] = some y2 := by
  have := hx 2 (by omega)
  rw [hy2] at this
  simpa [e5] using this
 obtain ⟨a2, rfl, _⟩ := cell_u32 h2
 exact ⟨a0, a1, a2, rfl, rfl, rfl⟩

set_option maxRecDepth 100000 in
theorem open_T1 {H : Type} {enc : TypeId × Value → H} {W : World} {base fuel : Nat} {spare : Nat → Bool} {held : Bool} {cs : List Value} {x : DataW H × List MemPlace} (h : DataW.trod enc Tryz.prog W base spare held fuel 113 cs = some x) : ∃ s : QT, cs = fT.cel s ∧ FitI s.a0 := by
 obtain ⟨xs, n, _, _, hlen, hl, hx⟩ := DataW.trod_struct Tryz.underlying113 h
 have e3 : Tryz.prog.cellsOf 3 = 1 := by kernel_rfl
 have e4 : Tryz.prog.cellsOf 4 = 1 := by kernel_rfl
 have e5 : Tryz.prog.cellsOf 47 = 1 := by kernel_rfl
 have e6 : Tryz.prog.cellsOf 27 = 1 := by kernel_rfl
 have e7 : Tryz.prog.cellsOf 103 = 1 := by kernel_rfl
 have e8 : Tryz.prog.cellsOf 48 = 3 := by kernel_rfl
 have e9 : Tryz.prog.cellsOf 28 = 8 := by kernel_rfl
 have e0 : Tryz.prog.cellsOf 113 = 15 := by kernel_rfl
 rw [e0] at hlen
 have hl3 : xs.length = 13 := hl
 have ex : ∀ i, i < 13 → ∃ y, xs[i]? = some y := fun i hi => ⟨_, List.getElem?_eq_getElem (by omega)⟩
 match cs, hlen with
 | [c0, c1, c2, c3, c4, c5, c6, c7, c8, c9, c10, c11, c12, c13, c14], _ =>
  obtain ⟨y0, hy0⟩ := ex 0 (by omega)
  have h0 : DataW.trod enc Tryz.prog W base spare held n 3 [c0] = some y0 := by
   have := hx 0 _ rfl
   rw [hy0] at this
   simpa [e3] using this
  obtain ⟨y1, hy1⟩ := ex 1 (by omega)
  have h1 : DataW.trod enc Tryz.prog W base spare held n 3 [c1] = some y1 := by
   have := hx 1 _ rfl
   rw [hy1] at this
   simpa [e3] using this
  obtain ⟨y2, hy2⟩ := ex 2 (by omega)
  have h2 : DataW.trod enc Tryz.prog W base spare held n 3 [c2] = some y2 := by
   have := hx 2 _ rfl
   rw [hy2] at this
   simpa [e3] using this
  obtain ⟨y3, hy3⟩ := ex 3 (by omega)
  have h3 : DataW.trod enc Tryz.prog W base spare held n 3 [c3] = some y3 := by
   have := hx 3 _ rfl
   rw [hy3] at this
   simpa [e3] using this
  obtain ⟨y4, hy4⟩ := ex 4 (by omega)
  have h4 : DataW.trod enc Tryz.prog W base spare held n 3 [c4] = some y4 := by
   have := hx 4 _ rfl
   rw [hy4] at this
   simpa [e3] using this
  obtain ⟨y5, hy5⟩ := ex 5 (by omega)
  have h5 : DataW.trod enc Tryz.prog W base spare held n 3 [c5] = some y5 := by
   have := hx 5 _ rfl
   rw [hy5] at this
   simpa [e3] using this
  obtain ⟨y6, hy6⟩ := ex 6 (by omega)
  have h6 : DataW.trod enc Tryz.prog W base spare held n 3 [c6] = some y6 := by
   have := hx 6 _ rfl
   rw [hy6] at this
   simpa [e3] using this
  obtain ⟨y7, hy7⟩ := ex 7 (by omega)
  have h7 : DataW.trod enc Tryz.prog W base spare held n 47 [c7] = some y7 := by
   have := hx 7 _ rfl
   rw [hy7] at this
   simpa [e5] using this
  obtain ⟨y8, hy8⟩ := ex 8 (by omega)
  have h8 : DataW.trod enc Tryz.prog W base spare held n 3 [c8] = some y8 := by
   have := hx 8 _ rfl
   rw [hy8] at this
   simpa [e3] using this
  obtain ⟨y9, hy9⟩ := ex 9 (by omega)
  have h9 : DataW.trod enc Tryz.prog W base spare held n 47 [c9] = some y9 := by
   have := hx 9 _ rfl
   rw [hy9] at this
   simpa [e5] using this
  obtain ⟨y10, hy10⟩ := ex 10 (by omega)
  have h10 : DataW.trod enc Tryz.prog W base spare held n 48 [c10, c11, c12] = some y10 := by
   have := hx 10 _ rfl
   rw [hy10] at this
   simpa [e8] using this
  obtain ⟨y11, hy11⟩ := ex 11 (by omega)
  have h11 : DataW.trod enc Tryz.prog W base spare held n 3 [c13] = some y11 := by
   have := hx 11 _ rfl
   rw [hy11] at this
   simpa [e3] using this
  obtain ⟨y12, hy12⟩ := ex 12 (by omega)
  have h12 : DataW.trod enc Tryz.prog W base spare held n 47 [c14] = some y12 := by
   have := hx 12 _ rfl
   rw [hy12] at this
   simpa [e5] using this
  obtain ⟨a0, rfl, wf0⟩ := cell_int h0
  obtain ⟨a1, rfl, wf1⟩ := cell_int h1
  obtain ⟨a2, rfl, wf2⟩ := cell_int h2
  obtain ⟨a3, rfl, wf3⟩ := cell_int h3
  obtain ⟨a4, rfl, wf4⟩ := cell_int h4
  obtain ⟨a5, rfl, wf5⟩ := cell_int h5
  obtain ⟨a6, rfl, wf6⟩ := cell_int h6
  obtain ⟨a7, rfl, _⟩ := cell_u32 h7
  obtain ⟨a8, rfl, wf8⟩ := cell_int h8
  obtain ⟨a9, rfl, _⟩ := cell_u32 h9
  obtain ⟨a10, a11, a12, rfl, rfl, rfl⟩ := open_A3 h10
  obtain ⟨a13, rfl, wf13⟩ := cell_int h11
  obtain ⟨a14, rfl, _⟩ := cell_u32 h12
  exact ⟨⟨a0, a1, a2, a3, a4, a5, a6, a7, a8, a9, a10, a11, a12, a13, a14⟩, rfl, fit_wf wf0⟩

set_option maxRecDepth 100000 in
theorem open_E1 {H : Type} {enc : TypeId × Value → H} {W : World} {base fuel : Nat} {spare : Nat → Bool} {held : Bool} {cs : List Value} {x : DataW H × List MemPlace} (h : DataW.trod enc Tryz.prog W base spare held fuel 98 cs = some x) : ∃ s : QE, cs = fE.cel s ∧ (LiesG fI W s.P s.l ∧ s.l.length ≤ 9223372036854775807 ∧ ∀ a ∈ s.l, FitI a) := by
 obtain ⟨xs, n, _, _, hlen, hl, hx⟩ := DataW.trod_struct Tryz.underlying98 h
 have e3 : Tryz.prog.cellsOf 3 = 1 := by kernel_rfl
 have e4 : Tryz.prog.cellsOf 4 = 1 := by kernel_rfl
 have e5 : Tryz.prog.cellsOf 47 = 1 := by kernel_rfl
 have e6 : Tryz.prog.cellsOf 27 = 1 := by kernel_rfl
 have e7 : Tryz.prog.cellsOf 103 = 1 := by kernel_rfl
 have e8 : Tryz.prog.cellsOf 48 = 3 := by kernel_rfl
 have e9 : Tryz.prog.cellsOf 28 = 8 := by kernel_rfl
 have e0 : Tryz.prog.cellsOf 98 = 3 := by kernel_rfl
 rw [e0] at hlen
 have hl3 : xs.length = 3 := hl
 have ex : ∀ i, i < 3 → ∃ y, xs[i]? = some y := fun i hi => ⟨_, List.getElem?_eq_getElem (by omega)⟩
 match cs, hlen with
 | [c0, c1, c2], _ =>
  obtain ⟨y0, hy0⟩ := ex 0 (by omega)
  have h0 : DataW.trod enc Tryz.prog W base spare held n 3 [c0] = some y0 := by
   have := hx 0 _ rfl
   rw [hy0] at this
   simpa [e3] using this
  obtain ⟨y1, hy1⟩ := ex 1 (by omega)
  have h1 : DataW.trod enc Tryz.prog W base spare held n 3 [c1] = some y1 := by
   have := hx 1 _ rfl
   rw [hy1] at this
   simpa [e3] using this
  obtain ⟨y2, hy2⟩ := ex 2 (by omega)
  have h2 : DataW.trod enc Tryz.prog W base spare held n 27 [c2] = some y2 := by
   have := hx 2 _ rfl
   rw [hy2] at this
   simpa [e6] using this
  obtain ⟨ad, rfl, _⟩ := cell_int h0
  obtain ⟨kd, rfl, _⟩ := cell_int h1
  obtain ⟨P, c, l, hc, hm, hr, hq⟩ := open_I h2
  simp only [List.cons.injEq, and_true] at hc
  subst hc
  exact ⟨⟨ad, kd, P, c, l⟩, rfl, hr, hm, hq⟩

set_option maxRecDepth 100000 in
theorem open_N1 {H : Type} {enc : TypeId × Value → H} {W : World} {base fuel : Nat} {spare : Nat → Bool} {held : Bool} {cs : List Value} {x : DataW H × List MemPlace} (h : DataW.trod enc Tryz.prog W base spare held fuel 101 cs = some x) : ∃ s : QN, cs = fN.cel s ∧ (LiesG fI W s.P s.l ∧ s.l.length ≤ 9223372036854775807 ∧ ∀ a ∈ s.l, FitI a) := by
 obtain ⟨xs, n, _, _, hlen, hl, hx⟩ := DataW.trod_struct Tryz.underlying101 h
 have e3 : Tryz.prog.cellsOf 3 = 1 := by kernel_rfl
 have e4 : Tryz.prog.cellsOf 4 = 1 := by kernel_rfl
 have e5 : Tryz.prog.cellsOf 47 = 1 := by kernel_rfl
 have e6 : Tryz.prog.cellsOf 27 = 1 := by kernel_rfl
 have e7 : Tryz.prog.cellsOf 103 = 1 := by kernel_rfl
 have e8 : Tryz.prog.cellsOf 48 = 3 := by kernel_rfl
 have e9 : Tryz.prog.cellsOf 28 = 8 := by kernel_rfl
 have e0 : Tryz.prog.cellsOf 101 = 4 := by kernel_rfl
 rw [e0] at hlen
 have hl3 : xs.length = 4 := hl
 have ex : ∀ i, i < 4 → ∃ y, xs[i]? = some y := fun i hi => ⟨_, List.getElem?_eq_getElem (by omega)⟩
 match cs, hlen with
 | [c0, c1, c2, c3], _ =>
  obtain ⟨y0, hy0⟩ := ex 0 (by omega)
  have h0 : DataW.trod enc Tryz.prog W base spare held n 3 [c0] = some y0 := by
   have := hx 0 _ rfl
   rw [hy0] at this
   simpa [e3] using this
  obtain ⟨y1, hy1⟩ := ex 1 (by omega)
  have h1 : DataW.trod enc Tryz.prog W base spare held n 4 [c1] = some y1 := by
   have := hx 1 _ rfl
   rw [hy1] at this
   simpa [e4] using this
  obtain ⟨y2, hy2⟩ := ex 2 (by omega)
  have h2 : DataW.trod enc Tryz.prog W base spare held n 3 [c2] = some y2 := by
   have := hx 2 _ rfl
   rw [hy2] at this
   simpa [e3] using this
  obtain ⟨y3, hy3⟩ := ex 3 (by omega)
  have h3 : DataW.trod enc Tryz.prog W base spare held n 27 [c3] = some y3 := by
   have := hx 3 _ rfl
   rw [hy3] at this
   simpa [e6] using this
  obtain ⟨ad, rfl, _⟩ := cell_int h0
  obtain ⟨ac, rfl⟩ := cell_bool h1
  obtain ⟨wd, rfl, _⟩ := cell_int h2
  obtain ⟨P, c, l, hc, hm, hr, hq⟩ := open_I h3
  simp only [List.cons.injEq, and_true] at hc
  subst hc
  exact ⟨⟨ad, ac, wd, P, c, l⟩, rfl, hr, hm, hq⟩

set_option maxRecDepth 100000 in
theorem open_F1 {H : Type} {enc : TypeId × Value → H} {W : World} {base fuel : Nat} {spare : Nat → Bool} {held : Bool} {cs : List Value} {x : DataW H × List MemPlace} (h : DataW.trod enc Tryz.prog W base spare held fuel 105 cs = some x) : ∃ s : QF, cs = fF.cel s ∧ (LiesG fU W s.P s.l ∧ s.l.length ≤ 9223372036854775807) := by
 obtain ⟨xs, n, _, _, hlen, hl, hx⟩ := DataW.trod_struct Tryz.underlying105 h
 have e3 : Tryz.prog.cellsOf 3 = 1 := by kernel_rfl
 have e4 : Tryz.prog.cellsOf 4 = 1 := by kernel_rfl
 have e5 : Tryz.prog.cellsOf 47 = 1 := by kernel_rfl
 have e6 : Tryz.prog.cellsOf 27 = 1 := by kernel_rfl
 have e7 : Tryz.prog.cellsOf 103 = 1 := by kernel_rfl
 have e8 : Tryz.prog.cellsOf 48 = 3 := by kernel_rfl
 have e9 : Tryz.prog.cellsOf 28 = 8 := by kernel_rfl
 have e0 : Tryz.prog.cellsOf 105 = 2 := by kernel_rfl
 rw [e0] at hlen
 have hl3 : xs.length = 2 := hl
 have ex : ∀ i, i < 2 → ∃ y, xs[i]? = some y := fun i hi => ⟨_, List.getElem?_eq_getElem (by omega)⟩
 match cs, hlen with
 | [c0, c1], _ =>
  obtain ⟨y0, hy0⟩ := ex 0 (by omega)
  have h0 : DataW.trod enc Tryz.prog W base spare held n 3 [c0] = some y0 := by
   have := hx 0 _ rfl
   rw [hy0] at this
   simpa [e3] using this
  obtain ⟨y1, hy1⟩ := ex 1 (by omega)
  have h1 : DataW.trod enc Tryz.prog W base spare held n 103 [c1] = some y1 := by
   have := hx 1 _ rfl
   rw [hy1] at this
   simpa [e7] using this
  obtain ⟨ad, rfl, _⟩ := cell_int h0
  obtain ⟨P, c, l, hc, hm, hr⟩ := open_U h1
  simp only [List.cons.injEq, and_true] at hc
  subst hc
  exact ⟨⟨ad, P, c, l⟩, rfl, hr, hm⟩

theorem open_T {H : Type} {enc : TypeId × Value → H} {W : World} {base fuel : Nat} {spare : Nat → Bool} {held : Bool} {cs : List Value} {x : DataW H × List MemPlace} (h : DataW.trod enc Tryz.prog W base spare held fuel 23 cs = some x) : ∃ (P : Option Addr) (cap : Nat) (L : List QT), cs = [.slice P L.length cap] ∧ L.length ≤ 9223372036854775807 ∧ LiesG fT W P L ∧ ∀ t ∈ L, FitI t.a0 := by
 obtain ⟨P, c, L, h1, h2, h3, h4⟩ := open_rowG fT (fun t => FitI t.a0) Tryz.underlying23 (by kernel_rfl) (fun n cs x h => open_T1 h) h
 exact ⟨P, c, L, h1, h2, h3, h4⟩
theorem open_E {H : Type} {enc : TypeId × Value → H} {W : World} {base fuel : Nat} {spare : Nat → Bool} {held : Bool} {cs : List Value} {x : DataW H × List MemPlace} (h : DataW.trod enc Tryz.prog W base spare held fuel 24 cs = some x) : ∃ (P : Option Addr) (cap : Nat) (L : List QE), cs = [.slice P L.length cap] ∧ L.length ≤ 9223372036854775807 ∧ LiesG fE W P L ∧ ∀ a ∈ L, LiesG fI W a.P a.l ∧ a.l.length ≤ 9223372036854775807 ∧ ∀ x ∈ a.l, FitI x :=
 open_rowG fE (fun a => LiesG fI W a.P a.l ∧ a.l.length ≤ 9223372036854775807 ∧ ∀ x ∈ a.l, FitI x) Tryz.underlying24 (by kernel_rfl) (fun n cs x h => open_E1 h) h
theorem open_N {H : Type} {enc : TypeId × Value → H} {W : World} {base fuel : Nat} {spare : Nat → Bool} {held : Bool} {cs : List Value} {x : DataW H × List MemPlace} (h : DataW.trod enc Tryz.prog W base spare held fuel 25 cs = some x) : ∃ (P : Option Addr) (cap : Nat) (L : List QN), cs = [.slice P L.length cap] ∧ L.length ≤ 9223372036854775807 ∧ LiesG fN W P L ∧ ∀ a ∈ L, LiesG fI W a.P a.l ∧ a.l.length ≤ 9223372036854775807 ∧ ∀ x ∈ a.l, FitI x :=
 open_rowG fN (fun a => LiesG fI W a.P a.l ∧ a.l.length ≤ 9223372036854775807 ∧ ∀ x ∈ a.l, FitI x) Tryz.underlying25 (by kernel_rfl) (fun n cs x h => open_N1 h) h
theorem open_F {H : Type} {enc : TypeId × Value → H} {W : World} {base fuel : Nat} {spare : Nat → Bool} {held : Bool} {cs : List Value} {x : DataW H × List MemPlace} (h : DataW.trod enc Tryz.prog W base spare held fuel 26 cs = some x) : ∃ (P : Option Addr) (cap : Nat) (L : List QF), cs = [.slice P L.length cap] ∧ L.length ≤ 9223372036854775807 ∧ LiesG fF W P L ∧ ∀ a ∈ L, LiesG fU W a.P a.l ∧ a.l.length ≤ 9223372036854775807 :=
 open_rowG fF (fun a => LiesG fU W a.P a.l ∧ a.l.length ≤ 9223372036854775807) Tryz.underlying26 (by kernel_rfl) (fun n cs x h => open_F1 h) h

theorem open_S {H : Type} {enc : TypeId × Value → H} {W : World} {base fuel : Nat} {spare : Nat → Bool} {held : Bool} {cs : List Value} {x : DataW H × List MemPlace} (h : DataW.trod enc Tryz.prog W base spare held fuel 22 cs = some x) : ∃ (P : Option Addr) (cap : Nat) (L : List Sl), cs = [.slice P L.length cap] ∧ L.length ≤ 9223372036854775807 ∧ Lies W P L ∧ ∀ s ∈ L, s.Fit := by
 have hs : ∃ P len cap, cs = [.slice P len cap] := by
  rcases Deep.open_slice Tryz.underlying22 h with ⟨hcs, _⟩ | ⟨a, len, cap, m, n, D, Pl, hcs, _⟩
  ·exact ⟨none, 0, 0, hcs⟩
  ·exact ⟨some a, len, cap, hcs⟩
 obtain ⟨P, len, cap, rfl⟩ := hs
 obtain ⟨d, p⟩ := x
 obtain ⟨L, h1, h2, h3, h4⟩ := open_slots (d := d) (p := p) ⟨fuel, h⟩
 subst h1
 exact ⟨P, cap, L, rfl, h2, h3, h4⟩

theorem open_R8 {H : Type} {enc : TypeId × Value → H} {W : World} {base fuel : Nat} {spare : Nat → Bool} {held : Bool} {c0 c1 c2 c3 c4 c5 c6 c7 : Value} {x : DataW H × List MemPlace} (h : DataW.trod enc Tryz.prog W base spare held fuel 28 [c0, c1, c2, c3, c4, c5, c6, c7] = some x) :
  ∃ r0 r1 r2 r3 r4 r5 r6 r7 : QR, c0 = .slice r0.P r0.l.length r0.c ∧ c1 = .slice r1.P r1.l.length r1.c ∧ c2 = .slice r2.P r2.l.length r2.c ∧ c3 = .slice r3.P r3.l.length r3.c ∧ c4 = .slice r4.P r4.l.length r4.c ∧ c5 = .slice r5.P r5.l.length r5.c ∧ c6 = .slice r6.P r6.l.length r6.c ∧ c7 = .slice r7.P r7.l.length r7.c ∧ (LiesG fI W r0.P r0.l ∧ r0.l.length ≤ 9223372036854775807 ∧ ∀ a ∈ r0.l, FitI a) ∧ (LiesG fI W r1.P r1.l ∧ r1.l.length ≤ 9223372036854775807 ∧ ∀ a ∈ r1.l, FitI a) ∧ (LiesG fI W r2.P r2.l ∧ r2.l.length ≤ 9223372036854775807 ∧ ∀ a ∈ r2.l, FitI a) ∧ (LiesG fI W r3.P r3.l ∧ r3.l.length ≤ 9223372036854775807 ∧ ∀ a ∈ r3.l, FitI a) ∧ (LiesG fI W r4.P r4.l ∧ r4.l.length ≤ 9223372036854775807 ∧ ∀ a ∈ r4.l, FitI a) ∧ (LiesG fI W r5.P r5.l ∧ r5.l.length ≤ 9223372036854775807 ∧ ∀ a ∈ r5.l, FitI a) ∧ (LiesG fI W r6.P r6.l ∧ r6.l.length ≤ 9223372036854775807 ∧ ∀ a ∈ r6.l, FitI a) ∧ (LiesG fI W r7.P r7.l ∧ r7.l.length ≤ 9223372036854775807 ∧ ∀ a ∈ r7.l, FitI a) := by
 obtain ⟨xs, m, _, _, _, hl, hx⟩ := DataW.trod_array Tryz.underlying28 h
 have e6 : Tryz.prog.cellsOf 27 = 1 := by kernel_rfl
 have ex : ∀ i, i < 8 → ∃ y, xs[i]? = some y := fun i hi => ⟨_, List.getElem?_eq_getElem (by omega)⟩
 obtain ⟨y0, hy0⟩ := ex 0 (by omega)
 have h0 : DataW.trod enc Tryz.prog W base spare held m 27 [c0] = some y0 := by
  have := hx 0 (by omega)
  rw [hy0] at this
  simpa [e6] using this
 obtain ⟨P0, k0, l0, q0, m0, r0, s0⟩ := open_I h0
 simp only [List.cons.injEq, and_true] at q0
 obtain ⟨y1, hy1⟩ := ex 1 (by omega)
 have h1 : DataW.trod enc Tryz.prog W base spare held m 27 [c1] = some y1 := by
  have := hx 1 (by omega)
  rw [hy1] at this
  simpa [e6] using this
 obtain ⟨P1, k1, l1, q1, m1, r1, s1⟩ := open_I h1
 simp only [List.cons.injEq, and_true] at q1
 obtain ⟨y2, hy2⟩ := ex 2 (by omega)
 have h2 : DataW.trod enc Tryz.prog W base spare held m 27 [c2] = some y2 := by
  have := hx 2 (by omega)
  rw [hy2] at this
  simpa [e6] using this
 obtain ⟨P2, k2, l2, q2, m2, r2, s2⟩ := open_I h2
 simp only [List.cons.injEq, and_true] at q2
 obtain ⟨y3, hy3⟩ := ex 3 (by omega)
 have h3 : DataW.trod enc Tryz.prog W base spare held m 27 [c3] = some y3 := by
  have := hx 3 (by omega)
  rw [hy3] at this
  simpa [e6] using this
 obtain ⟨P3, k3, l3, q3, m3, r3, s3⟩ := open_I h3
 simp only [List.cons.injEq, and_true] at q3
 obtain ⟨y4, hy4⟩ := ex 4 (by omega)
 have h4 : DataW.trod enc Tryz.prog W base spare held m 27 [c4] = some y4 := by
  have := hx 4 (by omega)
  rw [hy4] at this
  simpa [e6] using this
 obtain ⟨P4, k4, l4, q4, m4, r4, s4⟩ := open_I h4
 simp only [List.cons.injEq, and_true] at q4
 obtain ⟨y5, hy5⟩ := ex 5 (by omega)
 have h5 : DataW.trod enc Tryz.prog W base spare held m 27 [c5] = some y5 := by
  have := hx 5 (by omega)
  rw [hy5] at this
  simpa [e6] using this
 obtain ⟨P5, k5, l5, q5, m5, r5, s5⟩ := open_I h5
 simp only [List.cons.injEq, and_true] at q5
 obtain ⟨y6, hy6⟩ := ex 6 (by omega)
 have h6 : DataW.trod enc Tryz.prog W base spare held m 27 [c6] = some y6 := by
  have := hx 6 (by omega)
  rw [hy6] at this
  simpa [e6] using this
 obtain ⟨P6, k6, l6, q6, m6, r6, s6⟩ := open_I h6
 simp only [List.cons.injEq, and_true] at q6
 obtain ⟨y7, hy7⟩ := ex 7 (by omega)
 have h7 : DataW.trod enc Tryz.prog W base spare held m 27 [c7] = some y7 := by
  have := hx 7 (by omega)
  rw [hy7] at this
  simpa [e6] using this
 obtain ⟨P7, k7, l7, q7, m7, r7, s7⟩ := open_I h7
 simp only [List.cons.injEq, and_true] at q7
 exact ⟨⟨P0, k0, l0⟩, ⟨P1, k1, l1⟩, ⟨P2, k2, l2⟩, ⟨P3, k3, l3⟩, ⟨P4, k4, l4⟩, ⟨P5, k5, l5⟩, ⟨P6, k6, l6⟩, ⟨P7, k7, l7⟩, q0, q1, q2, q3, q4, q5, q6, q7, ⟨r0, m0, s0⟩, ⟨r1, m1, s1⟩, ⟨r2, m2, s2⟩, ⟨r3, m3, s3⟩, ⟨r4, m4, s4⟩, ⟨r5, m5, s5⟩, ⟨r6, m6, s6⟩, ⟨r7, m7, s7⟩⟩

set_option maxRecDepth 100000 in
theorem open_K1 {H : Type} {enc : TypeId × Value → H} {W : World} {base fuel : Nat} {spare : Nat → Bool} {held : Bool} {cs : List Value} {x : DataW H × List MemPlace} (h : DataW.trod enc Tryz.prog W base spare held fuel 30 cs = some x) : ∃ K : QK, cs = [.int .i64 K.bits, .int .i64 K.ticks, .slice K.sP K.sl.length K.sc, .slice K.tP K.tl.length K.tc, .slice K.eP K.el.length K.ec, .slice K.nP K.nl.length K.nc, .slice K.fP K.fl.length K.fc, .slice K.r0.P K.r0.l.length K.r0.c, .slice K.r1.P K.r1.l.length K.r1.c, .slice K.r2.P K.r2.l.length K.r2.c, .slice K.r3.P K.r3.l.length K.r3.c, .slice K.r4.P K.r4.l.length K.r4.c, .slice K.r5.P K.r5.l.length K.r5.c, .slice K.r6.P K.r6.l.length K.r6.c, .slice K.r7.P K.r7.l.length K.r7.c] ∧ KernIn W K ∧ K.Long ∧ K.Fits := by
 obtain ⟨xs, n, _, _, hlen, hl, hx⟩ := DataW.trod_struct Tryz.underlying30 h
 have e3 : Tryz.prog.cellsOf 3 = 1 := by kernel_rfl
 have e4 : Tryz.prog.cellsOf 4 = 1 := by kernel_rfl
 have e5 : Tryz.prog.cellsOf 47 = 1 := by kernel_rfl
 have e6 : Tryz.prog.cellsOf 27 = 1 := by kernel_rfl
 have e7 : Tryz.prog.cellsOf 103 = 1 := by kernel_rfl
 have e8 : Tryz.prog.cellsOf 48 = 3 := by kernel_rfl
 have e9 : Tryz.prog.cellsOf 28 = 8 := by kernel_rfl
 have e0 : Tryz.prog.cellsOf 30 = 15 := by kernel_rfl
 rw [e0] at hlen
 have hl3 : xs.length = 8 := hl
 have ex : ∀ i, i < 8 → ∃ y, xs[i]? = some y := fun i hi => ⟨_, List.getElem?_eq_getElem (by omega)⟩
 match cs, hlen with
 | [c0, c1, c2, c3, c4, c5, c6, c7, c8, c9, c10, c11, c12, c13, c14], _ =>
  obtain ⟨y0, hy0⟩ := ex 0 (by omega)
  have h0 : DataW.trod enc Tryz.prog W base spare held n 3 [c0] = some y0 := by
   have := hx 0 _ rfl
   rw [hy0] at this
   simpa [e3] using this
  obtain ⟨y1, hy1⟩ := ex 1 (by omega)
  have h1 : DataW.trod enc Tryz.prog W base spare held n 3 [c1] = some y1 := by
   have := hx 1 _ rfl
   rw [hy1] at this
   simpa [e3] using this
  obtain ⟨y2, hy2⟩ := ex 2 (by omega)
  have h2 : DataW.trod enc Tryz.prog W base spare held n 22 [c2] = some y2 := by
   have := hx 2 _ rfl
   rw [hy2] at this
   have ez : Tryz.prog.cellsOf 22 = 1 := by kernel_rfl
   simpa [ez] using this
  obtain ⟨y3, hy3⟩ := ex 3 (by omega)
  have h3 : DataW.trod enc Tryz.prog W base spare held n 23 [c3] = some y3 := by
   have := hx 3 _ rfl
   rw [hy3] at this
   have ez : Tryz.prog.cellsOf 23 = 1 := by kernel_rfl
   simpa [ez] using this
  obtain ⟨y4, hy4⟩ := ex 4 (by omega)
  have h4 : DataW.trod enc Tryz.prog W base spare held n 24 [c4] = some y4 := by
   have := hx 4 _ rfl
   rw [hy4] at this
   have ez : Tryz.prog.cellsOf 24 = 1 := by kernel_rfl
   simpa [ez] using this
  obtain ⟨y5, hy5⟩ := ex 5 (by omega)
  have h5 : DataW.trod enc Tryz.prog W base spare held n 25 [c5] = some y5 := by
   have := hx 5 _ rfl
   rw [hy5] at this
   have ez : Tryz.prog.cellsOf 25 = 1 := by kernel_rfl
   simpa [ez] using this
  obtain ⟨y6, hy6⟩ := ex 6 (by omega)
  have h6 : DataW.trod enc Tryz.prog W base spare held n 26 [c6] = some y6 := by
   have := hx 6 _ rfl
   rw [hy6] at this
   have ez : Tryz.prog.cellsOf 26 = 1 := by kernel_rfl
   simpa [ez] using this
  obtain ⟨y7, hy7⟩ := ex 7 (by omega)
  have h7 : DataW.trod enc Tryz.prog W base spare held n 28 [c7, c8, c9, c10, c11, c12, c13, c14] = some y7 := by
   have := hx 7 _ rfl
   rw [hy7] at this
   simpa [e9] using this
  obtain ⟨bits, rfl, _⟩ := cell_int h0
  obtain ⟨ticks, rfl, _⟩ := cell_int h1
  obtain ⟨sP, sc, sl, hc2, sm, sL, sf⟩ := open_S h2
  obtain ⟨tP, tc, tl, hc3, tm, tL, tf⟩ := open_T h3
  obtain ⟨eP, ec, el, hc4, em, eL, eI⟩ := open_E h4
  obtain ⟨nP, nc, nl, hc5, nm, nL, nI⟩ := open_N h5
  obtain ⟨fP, fc, fl, hc6, fm, fL, fI⟩ := open_F h6
  obtain ⟨r0, r1, r2, r3, r4, r5, r6, r7, rfl, rfl, rfl, rfl, rfl, rfl, rfl, rfl, ⟨i0, j0, y90⟩, ⟨i1, j1, y91⟩, ⟨i2, j2, y92⟩, ⟨i3, j3, y93⟩, ⟨i4, j4, y94⟩, ⟨i5, j5, y95⟩, ⟨i6, j6, y96⟩, ⟨i7, j7, y97⟩⟩ := open_R8 h7
  simp only [List.cons.injEq, and_true] at hc2 hc3 hc4 hc5 hc6
  subst hc2 hc3 hc4 hc5 hc6
  refine ⟨⟨bits, ticks, sP, sc, sl, tP, tc, tl, eP, ec, el, nP, nc, nl, fP, fc, fl, r0, r1, r2, r3, r4, r5, r6, r7⟩, rfl, ⟨sL, tL, eL, fun e he => (eI e he).1, nL, fun e he => (nI e he).1, fL, fun e he => (fI e he).1, ?_⟩, ⟨sm, tm, em, fun e he => (eI e he).2.1, nm, fun e he => (nI e he).2.1, fm, fun e he => (fI e he).2, ?_⟩, ⟨sf, tf, fun e he => (eI e he).2.2, fun e he => (nI e he).2.2, ?_⟩⟩
  ·intro e he
   simp only [List.mem_cons, List.not_mem_nil, or_false] at he
   rcases he with rfl | rfl | rfl | rfl | rfl | rfl | rfl | rfl <;> assumption
  ·intro e he
   simp only [List.mem_cons, List.not_mem_nil, or_false] at he
   rcases he with rfl | rfl | rfl | rfl | rfl | rfl | rfl | rfl <;> assumption
  ·intro e he
   simp only [List.mem_cons, List.not_mem_nil, or_false] at he
   rcases he with rfl | rfl | rfl | rfl | rfl | rfl | rfl | rfl <;> assumption

set_option maxRecDepth 100000 in
theorem open_kernF {H : Type} {enc : TypeId × Value → H} {W : World} {base b0 : Nat} {spare : Nat → Bool} {held : Bool} {rc : Reach} {v : Value} {d : DataW H} {p : List MemPlace}
  (hv : Value.okWide Tryz.prog W rc b0 30 v) (h : DataW.Trod enc Tryz.prog W base spare held 30 v d p) :
  ∃ K : QK, v = .agg #[.int .i64 K.bits, .int .i64 K.ticks, .slice K.sP K.sl.length K.sc, .slice K.tP K.tl.length K.tc, .slice K.eP K.el.length K.ec, .slice K.nP K.nl.length K.nc, .slice K.fP K.fl.length K.fc, .slice K.r0.P K.r0.l.length K.r0.c, .slice K.r1.P K.r1.l.length K.r1.c, .slice K.r2.P K.r2.l.length K.r2.c, .slice K.r3.P K.r3.l.length K.r3.c, .slice K.r4.P K.r4.l.length K.r4.c, .slice K.r5.P K.r5.l.length K.r5.c, .slice K.r6.P K.r6.l.length K.r6.c, .slice K.r7.P K.r7.l.length K.r7.c] ∧ KernIn W K ∧ K.Long ∧ K.Fits := by
 obtain ⟨cs, rfl, hsz⟩ := okWide_struct Tryz.underlying30 hv
 obtain ⟨fuel, hf⟩ := h
 obtain ⟨K, hs, h1, h2, h3⟩ := open_K1 hf
 refine ⟨K, ?_, h1, h2, h3⟩
 have e : cs.toList = [.int .i64 K.bits, .int .i64 K.ticks, .slice K.sP K.sl.length K.sc, .slice K.tP K.tl.length K.tc, .slice K.eP K.el.length K.ec, .slice K.nP K.nl.length K.nc, .slice K.fP K.fl.length K.fc, .slice K.r0.P K.r0.l.length K.r0.c, .slice K.r1.P K.r1.l.length K.r1.c, .slice K.r2.P K.r2.l.length K.r2.c, .slice K.r3.P K.r3.l.length K.r3.c, .slice K.r4.P K.r4.l.length K.r4.c, .slice K.r5.P K.r5.l.length K.r5.c, .slice K.r6.P K.r6.l.length K.r6.c, .slice K.r7.P K.r7.l.length K.r7.c] := by simpa [Value.cells] using hs
 have e2 : cs = #[.int .i64 K.bits, .int .i64 K.ticks, .slice K.sP K.sl.length K.sc, .slice K.tP K.tl.length K.tc, .slice K.eP K.el.length K.ec, .slice K.nP K.nl.length K.nc, .slice K.fP K.fl.length K.fc, .slice K.r0.P K.r0.l.length K.r0.c, .slice K.r1.P K.r1.l.length K.r1.c, .slice K.r2.P K.r2.l.length K.r2.c, .slice K.r3.P K.r3.l.length K.r3.c, .slice K.r4.P K.r4.l.length K.r4.c, .slice K.r5.P K.r5.l.length K.r5.c, .slice K.r6.P K.r6.l.length K.r6.c, .slice K.r7.P K.r7.l.length K.r7.c] := by apply Array.ext'; rw [e]
 rw [e2]
end Go.Proofs.YtigpbjcmmgdiaaaGreat
