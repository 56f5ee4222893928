/-
 A state, copied by the laws.
-/
import Derived.Test.YtigpbjcmmgdiaaaGreatBk
import Derived.Laws.ResultCell
namespace Go.Proofs.YtigpbjcmmgdiaaaGreat
open Go.ChangeShapes Go.WideShapes Go.ChangeAt Go.RowKit
set_option linter.unusedVariables false

theorem lies_far1 {W : World} {P : Option Addr} {L : List Sl} {A J : Nat} {v : Value} (h : Lies W P L) (hA : ∀ B O, P = some ⟨B, O, none⟩ → B ≠ A) : Lies (W.setCell ⟨A, J, none⟩ v) P L :=
 ⟨h.place, fun B O e i hi => (h.cells B O e i hi).of fun j => World.cell?_setCell_far _ _ _ _ (fun e' => hA B O e e'.symm)⟩
/-- Rows inside, each at or above a bound. -/
theorem ins_far {α : Type} {W : World} {M : List α} {F : Form Int} {p : α → Option Addr} {l : α → List Int} {n A J : Nat} {v : Value} (h : ∀ e ∈ M, LiesG F W (p e) (l e) ∧ ∀ B O, p e = some ⟨B, O, none⟩ → n < B) (hA : A ≤ n) :
  ∀ e ∈ M, LiesG F (W.setCell ⟨A, J, none⟩ v) (p e) (l e) ∧ ∀ B O, p e = some ⟨B, O, none⟩ → n < B :=
 fun e he => ⟨(h e he).1.far (fun b o e' => by have := (h e he).2 b o e'; omega), (h e he).2⟩
theorem ins_below {α : Type} {W W' : World} {M : List α} {F : Form Int} {p : α → Option Addr} {l : α → List Int} {n : Nat} (h : ∀ e ∈ M, LiesG F W (p e) (l e) ∧ ∀ B O, p e = some ⟨B, O, none⟩ → n < B) (hb : Below W.heap.size W W') :
  ∀ e ∈ M, LiesG F W' (p e) (l e) ∧ ∀ B O, p e = some ⟨B, O, none⟩ → n < B :=
 fun e he => ⟨(h e he).1.below hb, (h e he).2⟩

set_option maxRecDepth 100000 in
set_option maxHeartbeats 4000000 in
theorem toK_cap (K : QK) (w : World) (hs : K.Short) (hK : KernIn w K) :
  Calls Tryz.prog 9 #[.agg #[.int .i64 K.bits, .int .i64 K.ticks, .slice K.sP K.sl.length K.sc, .slice K.tP K.tl.length K.tc, .slice K.eP K.el.length K.ec, .slice K.nP K.nl.length K.nc, .slice K.fP K.fl.length K.fc, .slice K.r0.P K.r0.l.length K.r0.c, .slice K.r1.P K.r1.l.length K.r1.c, .slice K.r2.P K.r2.l.length K.r2.c, .slice K.r3.P K.r3.l.length K.r3.c, .slice K.r4.P K.r4.l.length K.r4.c, .slice K.r5.P K.r5.l.length K.r5.c, .slice K.r6.P K.r6.l.length K.r6.c, .slice K.r7.P K.r7.l.length K.r7.c]] w fun r w' => ∃ K' : QK, r = .returned (.agg #[.int .i64 K'.bits, .int .i64 K'.ticks, .slice K'.sP K'.sl.length K'.sc, .slice K'.tP K'.tl.length K'.tc, .slice K'.eP K'.el.length K'.ec, .slice K'.nP K'.nl.length K'.nc, .slice K'.fP K'.fl.length K'.fc, .slice K'.r0.P K'.r0.l.length K'.r0.c, .slice K'.r1.P K'.r1.l.length K'.r1.c, .slice K'.r2.P K'.r2.l.length K'.r2.c, .slice K'.r3.P K'.r3.l.length K'.r3.c, .slice K'.r4.P K'.r4.l.length K'.r4.c, .slice K'.r5.P K'.r5.l.length K'.r5.c, .slice K'.r6.P K'.r6.l.length K'.r6.c, .slice K'.r7.P K'.r7.l.length K'.r7.c]) ∧ K'.pl = K.pl ∧ KernIn w' K' ∧ Below w.heap.size w w' ∧ (K'.sl.length ≤ K'.sc ∧ K'.sc ≤ 9223372036854775807) := by
 have kb := (boxV w K 30).below (((Below.refl _ _).alloc (Nat.le_refl _) (.cells #[.int .i64 0, .int .i64 0, .slice none 0 0, .slice none 0 0, .slice none 0 0, .slice none 0 0, .slice none 0 0, .slice none 0 0, .slice none 0 0, .slice none 0 0, .slice none 0 0, .slice none 0 0, .slice none 0 0, .slice none 0 0, .slice none 0 0] 42)).alloc (by simp) (.cells #[.int .i64 K.bits, .int .i64 K.ticks, .slice none 0 0, .slice none 0 0, .slice none 0 0, .slice none 0 0, .slice none 0 0, .slice none 0 0, .slice none 0 0, .slice none 0 0, .slice none 0 0, .slice none 0 0, .slice none 0 0, .slice none 0 0, .slice none 0 0] 42))
 obtain ⟨w0, hW0⟩ : ∃ w0, ((w.alloc (.cells #[.int .i64 K.bits, .int .i64 K.ticks, .slice K.sP K.sl.length K.sc, .slice K.tP K.tl.length K.tc, .slice K.eP K.el.length K.ec, .slice K.nP K.nl.length K.nc, .slice K.fP K.fl.length K.fc, .slice K.r0.P K.r0.l.length K.r0.c, .slice K.r1.P K.r1.l.length K.r1.c, .slice K.r2.P K.r2.l.length K.r2.c, .slice K.r3.P K.r3.l.length K.r3.c, .slice K.r4.P K.r4.l.length K.r4.c, .slice K.r5.P K.r5.l.length K.r5.c, .slice K.r6.P K.r6.l.length K.r6.c, .slice K.r7.P K.r7.l.length K.r7.c] 30)).alloc (.cells #[.int .i64 0, .int .i64 0, .slice none 0 0, .slice none 0 0, .slice none 0 0, .slice none 0 0, .slice none 0 0, .slice none 0 0, .slice none 0 0, .slice none 0 0, .slice none 0 0, .slice none 0 0, .slice none 0 0, .slice none 0 0, .slice none 0 0] 42)).alloc (.cells #[.int .i64 K.bits, .int .i64 K.ticks, .slice none 0 0, .slice none 0 0, .slice none 0 0, .slice none 0 0, .slice none 0 0, .slice none 0 0, .slice none 0 0, .slice none 0 0, .slice none 0 0, .slice none 0 0, .slice none 0 0, .slice none 0 0, .slice none 0 0] 42) = w0 := ⟨_, rfl⟩
 have HhW0 : Hid _ := hW0
 rw [hW0] at kb
 clear hW0
 have ob : LiesG fV (w0) (some ⟨w.heap.size + 1 + 1, 0, none⟩) [.int .i64 K.bits, .int .i64 K.ticks, .slice none 0 0, .slice none 0 0, .slice none 0 0, .slice none 0 0, .slice none 0 0, .slice none 0 0, .slice none 0 0, .slice none 0 0, .slice none 0 0, .slice none 0 0, .slice none 0 0, .slice none 0 0, .slice none 0 0] := by
  have hW0 := HhW0.out; subst hW0
  apply mkV
  intro k v hk
  rw [World.cell?_alloc_at _ _ _ _ (by simp)]
  simpa using hk
 have oz : ∀ j, (w0).frozen? ⟨w.heap.size + 1 + 1, j, none⟩ = false := by have hW0 := HhW0.out; subst hW0; exact fun j => by go_simp
 have rz : ∀ j, (w0).frozen? ⟨w.heap.size + 1, j, none⟩ = false := by have hW0 := HhW0.out; subst hW0; exact fun j => by go_simp
 have rb : LiesG fV (w0) (some ⟨w.heap.size + 1, 0, none⟩) [.int .i64 0, .int .i64 0, .slice none 0 0, .slice none 0 0, .slice none 0 0, .slice none 0 0, .slice none 0 0, .slice none 0 0, .slice none 0 0, .slice none 0 0, .slice none 0 0, .slice none 0 0, .slice none 0 0, .slice none 0 0, .slice none 0 0] := by
  have hW0 := HhW0.out; subst hW0
  apply mkV
  intro k v hk
  have hlt : k < 15 := (List.getElem?_eq_some_iff.1 hk).1
  rw [(bcell ((Below.refl _ _).alloc (Nat.le_refl _) _)).1 _ _ (by simp), World.cell?_alloc_at _ _ _ _ (by simp)]
  simpa using hk
 have bW : Below w.heap.size w (w0) := by have hW0 := HhW0.out; subst hW0; exact (by repeat (first | exact Below.refl _ _ | (refine Below.setCell ?_ (by simp; try omega) _) | (refine Below.alloc ?_ (by simp; try omega) _)))
 have zW : w.heap.size + 1 + 1 < (w0).heap.size := by have hW0 := HhW0.out; subst hW0; simp
 go_enter Tryz.func9, Tryz.ntmps9
 go_upto_region 4 with fail
 rw [HhW0.out]
 clear HhW0
 have y0 : w.heap.size + 1 + 1 < w0.heap.size := zW
 have g2 : w0.cell? ⟨w.heap.size, 2, none⟩ = some (.slice K.sP K.sl.length K.sc) := atV kb 2 _ rfl
 go_upto_region 5 with ((go_at_call 28; refine (toSlots_any K.sP _ K.sc K.sl w0 rfl hs.s (hK.s.below bW)).mono ?_; rintro r v0 ⟨rfl, hLs, hRs, hb⟩; have zz : ∀ j, v0.frozen? ⟨w.heap.size + 1 + 1, j, none⟩ = false := (fun j => ((bcell hb).2 _ _ zW).trans (oz j)); have u2 : v0.cell? ⟨w.heap.size + 1 + 1, 2, none⟩ = some (.slice none 0 0) := ((bcell hb).1 _ _ zW).trans (atV ob 2 _ rfl)))
 clear zz u2 g2
 have zV : w.heap.size + 1 + 1 < v0.heap.size := Nat.lt_of_lt_of_le zW hb.size
 obtain ⟨w1, hW1⟩ : ∃ w1, (v0.setCell ⟨w.heap.size + 1 + 1, 2, none⟩ (.slice (some ⟨w0.heap.size, 0, none⟩) K.sl.length K.sl.length)) = w1 := ⟨_, rfl⟩
 have kb1 : LiesG fV w1 (some ⟨w.heap.size, 0, none⟩) [.int .i64 K.bits, .int .i64 K.ticks, .slice K.sP K.sl.length K.sc, .slice K.tP K.tl.length K.tc, .slice K.eP K.el.length K.ec, .slice K.nP K.nl.length K.nc, .slice K.fP K.fl.length K.fc, .slice K.r0.P K.r0.l.length K.r0.c, .slice K.r1.P K.r1.l.length K.r1.c, .slice K.r2.P K.r2.l.length K.r2.c, .slice K.r3.P K.r3.l.length K.r3.c, .slice K.r4.P K.r4.l.length K.r4.c, .slice K.r5.P K.r5.l.length K.r5.c, .slice K.r6.P K.r6.l.length K.r6.c, .slice K.r7.P K.r7.l.length K.r7.c] := by subst hW1; exact (LiesG.far (kb.below hb) (fun b o e => by injection e with e; injection e with e; omega))
 have rb1 : LiesG fV w1 (some ⟨w.heap.size + 1, 0, none⟩) [.int .i64 0, .int .i64 0, .slice none 0 0, .slice none 0 0, .slice none 0 0, .slice none 0 0, .slice none 0 0, .slice none 0 0, .slice none 0 0, .slice none 0 0, .slice none 0 0, .slice none 0 0, .slice none 0 0, .slice none 0 0, .slice none 0 0] := by subst hW1; exact (LiesG.far (rb.below hb) (fun b o e => by injection e with e; injection e with e; omega))
 have ob1 : LiesG fV w1 (some ⟨w.heap.size + 1 + 1, 0, none⟩) [.int .i64 K.bits, .int .i64 K.ticks, .slice (some ⟨w0.heap.size, 0, none⟩) K.sl.length K.sl.length, .slice none 0 0, .slice none 0 0, .slice none 0 0, .slice none 0 0, .slice none 0 0, .slice none 0 0, .slice none 0 0, .slice none 0 0, .slice none 0 0, .slice none 0 0, .slice none 0 0, .slice none 0 0] := by subst hW1; exact (setV (ob.below hb) (j := 2) (by simp) (.slice (some ⟨w0.heap.size, 0, none⟩) K.sl.length K.sl.length))
 have oz1 : ∀ j, w1.frozen? ⟨w.heap.size + 1 + 1, j, none⟩ = false := by subst hW1; exact fun j => by rw [World.frozen?_setCell]; exact ((bcell hb).2 _ _ zW).trans (oz j)
 have rz1 : ∀ j, w1.frozen? ⟨w.heap.size + 1, j, none⟩ = false := by subst hW1; exact fun j => by rw [World.frozen?_setCell]; exact ((bcell hb).2 _ _ (by omega)).trans (rz j)
 have bW1 : Below w.heap.size w w1 := by
  subst hW1
  repeat (refine Below.setCell ?_ (by simp; omega) _)
  exact bW.trans (hb.mono bW.size)
 have zW1 : w.heap.size + 1 + 1 < w1.heap.size := by subst hW1; simpa using zV
 have hLs1 : Lies w1 (some ⟨w0.heap.size, 0, none⟩) K.sl := by subst hW1; exact (lies_far1 (hLs) (fun b o e => by injection e with e; injection e with e; omega))
 rw [hW1]
 clear hW1 hb zV kb rb ob oz rz bW zW hLs
 have kb := kb1
 have rb := rb1
 have ob := ob1
 have oz := oz1
 have rz := rz1
 have bW := bW1
 have zW := zW1
 have hLs := hLs1
 clear kb1 rb1 ob1 oz1 rz1 bW1 zW1 hLs1
 have y1 : w.heap.size + 1 + 1 < w1.heap.size := zW
 have g3 : w1.cell? ⟨w.heap.size, 3, none⟩ = some (.slice K.tP K.tl.length K.tc) := atV kb 3 _ rfl
 go_upto_region 6 with ((go_at_call 29; refine (toT_any K.tP K.tc K.tl w1 hs.t (hK.t.below bW)).mono ?_; rintro r v1 ⟨rfl, hLt, hzt, hb⟩; have zz : ∀ j, v1.frozen? ⟨w.heap.size + 1 + 1, j, none⟩ = false := (fun j => ((bcell hb).2 _ _ zW).trans (oz j)); have u3 : v1.cell? ⟨w.heap.size + 1 + 1, 3, none⟩ = some (.slice none 0 0) := ((bcell hb).1 _ _ zW).trans (atV ob 3 _ rfl)))
 clear zz u3 g3
 have zV : w.heap.size + 1 + 1 < v1.heap.size := Nat.lt_of_lt_of_le zW hb.size
 obtain ⟨w2, hW2⟩ : ∃ w2, (v1.setCell ⟨w.heap.size + 1 + 1, 3, none⟩ (.slice (some ⟨w1.heap.size, 0, none⟩) K.tl.length K.tl.length)) = w2 := ⟨_, rfl⟩
 have kb1 : LiesG fV w2 (some ⟨w.heap.size, 0, none⟩) [.int .i64 K.bits, .int .i64 K.ticks, .slice K.sP K.sl.length K.sc, .slice K.tP K.tl.length K.tc, .slice K.eP K.el.length K.ec, .slice K.nP K.nl.length K.nc, .slice K.fP K.fl.length K.fc, .slice K.r0.P K.r0.l.length K.r0.c, .slice K.r1.P K.r1.l.length K.r1.c, .slice K.r2.P K.r2.l.length K.r2.c, .slice K.r3.P K.r3.l.length K.r3.c, .slice K.r4.P K.r4.l.length K.r4.c, .slice K.r5.P K.r5.l.length K.r5.c, .slice K.r6.P K.r6.l.length K.r6.c, .slice K.r7.P K.r7.l.length K.r7.c] := by subst hW2; exact (LiesG.far (kb.below hb) (fun b o e => by injection e with e; injection e with e; omega))
 have rb1 : LiesG fV w2 (some ⟨w.heap.size + 1, 0, none⟩) [.int .i64 0, .int .i64 0, .slice none 0 0, .slice none 0 0, .slice none 0 0, .slice none 0 0, .slice none 0 0, .slice none 0 0, .slice none 0 0, .slice none 0 0, .slice none 0 0, .slice none 0 0, .slice none 0 0, .slice none 0 0, .slice none 0 0] := by subst hW2; exact (LiesG.far (rb.below hb) (fun b o e => by injection e with e; injection e with e; omega))
 have ob1 : LiesG fV w2 (some ⟨w.heap.size + 1 + 1, 0, none⟩) [.int .i64 K.bits, .int .i64 K.ticks, .slice (some ⟨w0.heap.size, 0, none⟩) K.sl.length K.sl.length, .slice (some ⟨w1.heap.size, 0, none⟩) K.tl.length K.tl.length, .slice none 0 0, .slice none 0 0, .slice none 0 0, .slice none 0 0, .slice none 0 0, .slice none 0 0, .slice none 0 0, .slice none 0 0, .slice none 0 0, .slice none 0 0, .slice none 0 0] := by subst hW2; exact (setV (ob.below hb) (j := 3) (by simp) (.slice (some ⟨w1.heap.size, 0, none⟩) K.tl.length K.tl.length))
 have oz1 : ∀ j, w2.frozen? ⟨w.heap.size + 1 + 1, j, none⟩ = false := by subst hW2; exact fun j => by rw [World.frozen?_setCell]; exact ((bcell hb).2 _ _ zW).trans (oz j)
 have rz1 : ∀ j, w2.frozen? ⟨w.heap.size + 1, j, none⟩ = false := by subst hW2; exact fun j => by rw [World.frozen?_setCell]; exact ((bcell hb).2 _ _ (by omega)).trans (rz j)
 have bW1 : Below w.heap.size w w2 := by
  subst hW2
  repeat (refine Below.setCell ?_ (by simp; omega) _)
  exact bW.trans (hb.mono bW.size)
 have zW1 : w.heap.size + 1 + 1 < w2.heap.size := by subst hW2; simpa using zV
 have hLs1 : Lies w2 (some ⟨w0.heap.size, 0, none⟩) K.sl := by subst hW2; exact (lies_far1 (hLs.below hb) (fun b o e => by injection e with e; injection e with e; omega))
 have hLt1 : LiesG fT w2 (some ⟨w1.heap.size, 0, none⟩) K.tl := by subst hW2; exact (LiesG.far (hLt) (fun b o e => by injection e with e; injection e with e; omega))
 rw [hW2]
 clear hW2 hb zV kb rb ob oz rz bW zW hLs hLt
 have kb := kb1
 have rb := rb1
 have ob := ob1
 have oz := oz1
 have rz := rz1
 have bW := bW1
 have zW := zW1
 have hLs := hLs1
 have hLt := hLt1
 clear kb1 rb1 ob1 oz1 rz1 bW1 zW1 hLs1 hLt1
 have y2 : w.heap.size + 1 + 1 < w2.heap.size := zW
 have g4 : w2.cell? ⟨w.heap.size, 4, none⟩ = some (.slice K.eP K.el.length K.ec) := atV kb 4 _ rfl
 go_upto_region 7 with ((go_at_call 30; refine (toE_any K.eP K.ec K.el w2 hs.e hs.ei (hK.e.below bW) (hK.ei.below bW)).mono ?_; rintro r v2 ⟨Me, rfl, hMe, hLe, hIe, hze, hb⟩; have zz : ∀ j, v2.frozen? ⟨w.heap.size + 1 + 1, j, none⟩ = false := (fun j => ((bcell hb).2 _ _ zW).trans (oz j)); have u4 : v2.cell? ⟨w.heap.size + 1 + 1, 4, none⟩ = some (.slice none 0 0) := ((bcell hb).1 _ _ zW).trans (atV ob 4 _ rfl)))
 clear zz u4 g4
 have zV : w.heap.size + 1 + 1 < v2.heap.size := Nat.lt_of_lt_of_le zW hb.size
 obtain ⟨w3, hW3⟩ : ∃ w3, (v2.setCell ⟨w.heap.size + 1 + 1, 4, none⟩ (.slice (some ⟨w2.heap.size, 0, none⟩) K.el.length K.el.length)) = w3 := ⟨_, rfl⟩
 have kb1 : LiesG fV w3 (some ⟨w.heap.size, 0, none⟩) [.int .i64 K.bits, .int .i64 K.ticks, .slice K.sP K.sl.length K.sc, .slice K.tP K.tl.length K.tc, .slice K.eP K.el.length K.ec, .slice K.nP K.nl.length K.nc, .slice K.fP K.fl.length K.fc, .slice K.r0.P K.r0.l.length K.r0.c, .slice K.r1.P K.r1.l.length K.r1.c, .slice K.r2.P K.r2.l.length K.r2.c, .slice K.r3.P K.r3.l.length K.r3.c, .slice K.r4.P K.r4.l.length K.r4.c, .slice K.r5.P K.r5.l.length K.r5.c, .slice K.r6.P K.r6.l.length K.r6.c, .slice K.r7.P K.r7.l.length K.r7.c] := by subst hW3; exact (LiesG.far (kb.below hb) (fun b o e => by injection e with e; injection e with e; omega))
 have rb1 : LiesG fV w3 (some ⟨w.heap.size + 1, 0, none⟩) [.int .i64 0, .int .i64 0, .slice none 0 0, .slice none 0 0, .slice none 0 0, .slice none 0 0, .slice none 0 0, .slice none 0 0, .slice none 0 0, .slice none 0 0, .slice none 0 0, .slice none 0 0, .slice none 0 0, .slice none 0 0, .slice none 0 0] := by subst hW3; exact (LiesG.far (rb.below hb) (fun b o e => by injection e with e; injection e with e; omega))
 have ob1 : LiesG fV w3 (some ⟨w.heap.size + 1 + 1, 0, none⟩) [.int .i64 K.bits, .int .i64 K.ticks, .slice (some ⟨w0.heap.size, 0, none⟩) K.sl.length K.sl.length, .slice (some ⟨w1.heap.size, 0, none⟩) K.tl.length K.tl.length, .slice (some ⟨w2.heap.size, 0, none⟩) K.el.length K.el.length, .slice none 0 0, .slice none 0 0, .slice none 0 0, .slice none 0 0, .slice none 0 0, .slice none 0 0, .slice none 0 0, .slice none 0 0, .slice none 0 0, .slice none 0 0] := by subst hW3; exact (setV (ob.below hb) (j := 4) (by simp) (.slice (some ⟨w2.heap.size, 0, none⟩) K.el.length K.el.length))
 have oz1 : ∀ j, w3.frozen? ⟨w.heap.size + 1 + 1, j, none⟩ = false := by subst hW3; exact fun j => by rw [World.frozen?_setCell]; exact ((bcell hb).2 _ _ zW).trans (oz j)
 have rz1 : ∀ j, w3.frozen? ⟨w.heap.size + 1, j, none⟩ = false := by subst hW3; exact fun j => by rw [World.frozen?_setCell]; exact ((bcell hb).2 _ _ (by omega)).trans (rz j)
 have bW1 : Below w.heap.size w w3 := by
  subst hW3
  repeat (refine Below.setCell ?_ (by simp; omega) _)
  exact bW.trans (hb.mono bW.size)
 have zW1 : w.heap.size + 1 + 1 < w3.heap.size := by subst hW3; simpa using zV
 have hLs1 : Lies w3 (some ⟨w0.heap.size, 0, none⟩) K.sl := by subst hW3; exact (lies_far1 (hLs.below hb) (fun b o e => by injection e with e; injection e with e; omega))
 have hLt1 : LiesG fT w3 (some ⟨w1.heap.size, 0, none⟩) K.tl := by subst hW3; exact (LiesG.far (hLt.below hb) (fun b o e => by injection e with e; injection e with e; omega))
 have hLe1 : LiesG fE w3 (some ⟨w2.heap.size, 0, none⟩) Me := by subst hW3; exact (LiesG.far (hLe) (fun b o e => by injection e with e; injection e with e; omega))
 have hIe1 : ∀ e ∈ Me, LiesG fI w3 e.P e.l ∧ ∀ B O, e.P = some ⟨B, O, none⟩ → w2.heap.size < B := by subst hW3; exact (ins_far (hIe) (by omega))
 rw [hW3]
 clear hW3 hb zV kb rb ob oz rz bW zW hLs hLt hLe hIe
 have kb := kb1
 have rb := rb1
 have ob := ob1
 have oz := oz1
 have rz := rz1
 have bW := bW1
 have zW := zW1
 have hLs := hLs1
 have hLt := hLt1
 have hLe := hLe1
 have hIe := hIe1
 clear kb1 rb1 ob1 oz1 rz1 bW1 zW1 hLs1 hLt1 hLe1 hIe1
 have y3 : w.heap.size + 1 + 1 < w3.heap.size := zW
 have g5 : w3.cell? ⟨w.heap.size, 5, none⟩ = some (.slice K.nP K.nl.length K.nc) := atV kb 5 _ rfl
 go_upto_region 8 with ((go_at_call 31; refine (toN_any K.nP K.nc K.nl w3 hs.n hs.ni (hK.n.below bW) (hK.ni.below bW)).mono ?_; rintro r v3 ⟨Mn, rfl, hMn, hLn, hIn, hzn, hb⟩; have zz : ∀ j, v3.frozen? ⟨w.heap.size + 1 + 1, j, none⟩ = false := (fun j => ((bcell hb).2 _ _ zW).trans (oz j)); have u5 : v3.cell? ⟨w.heap.size + 1 + 1, 5, none⟩ = some (.slice none 0 0) := ((bcell hb).1 _ _ zW).trans (atV ob 5 _ rfl)))
 clear zz u5 g5
 have zV : w.heap.size + 1 + 1 < v3.heap.size := Nat.lt_of_lt_of_le zW hb.size
 obtain ⟨w4, hW4⟩ : ∃ w4, (v3.setCell ⟨w.heap.size + 1 + 1, 5, none⟩ (.slice (some ⟨w3.heap.size, 0, none⟩) K.nl.length K.nl.length)) = w4 := ⟨_, rfl⟩
 have kb1 : LiesG fV w4 (some ⟨w.heap.size, 0, none⟩) [.int .i64 K.bits, .int .i64 K.ticks, .slice K.sP K.sl.length K.sc, .slice K.tP K.tl.length K.tc, .slice K.eP K.el.length K.ec, .slice K.nP K.nl.length K.nc, .slice K.fP K.fl.length K.fc, .slice K.r0.P K.r0.l.length K.r0.c, .slice K.r1.P K.r1.l.length K.r1.c, .slice K.r2.P K.r2.l.length K.r2.c, .slice K.r3.P K.r3.l.length K.r3.c, .slice K.r4.P K.r4.l.length K.r4.c, .slice K.r5.P K.r5.l.length K.r5.c, .slice K.r6.P K.r6.l.length K.r6.c, .slice K.r7.P K.r7.l.length K.r7.c] := by subst hW4; exact (LiesG.far (kb.below hb) (fun b o e => by injection e with e; injection e with e; omega))
 have rb1 : LiesG fV w4 (some ⟨w.heap.size + 1, 0, none⟩) [.int .i64 0, .int .i64 0, .slice none 0 0, .slice none 0 0, .slice none 0 0, .slice none 0 0, .slice none 0 0, .slice none 0 0, .slice none 0 0, .slice none 0 0, .slice none 0 0, .slice none 0 0, .slice none 0 0, .slice none 0 0, .slice none 0 0] := by subst hW4; exact (LiesG.far (rb.below hb) (fun b o e => by injection e with e; injection e with e; omega))
 have ob1 : LiesG fV w4 (some ⟨w.heap.size + 1 + 1, 0, none⟩) [.int .i64 K.bits, .int .i64 K.ticks, .slice (some ⟨w0.heap.size, 0, none⟩) K.sl.length K.sl.length, .slice (some ⟨w1.heap.size, 0, none⟩) K.tl.length K.tl.length, .slice (some ⟨w2.heap.size, 0, none⟩) K.el.length K.el.length, .slice (some ⟨w3.heap.size, 0, none⟩) K.nl.length K.nl.length, .slice none 0 0, .slice none 0 0, .slice none 0 0, .slice none 0 0, .slice none 0 0, .slice none 0 0, .slice none 0 0, .slice none 0 0, .slice none 0 0] := by subst hW4; exact (setV (ob.below hb) (j := 5) (by simp) (.slice (some ⟨w3.heap.size, 0, none⟩) K.nl.length K.nl.length))
 have oz1 : ∀ j, w4.frozen? ⟨w.heap.size + 1 + 1, j, none⟩ = false := by subst hW4; exact fun j => by rw [World.frozen?_setCell]; exact ((bcell hb).2 _ _ zW).trans (oz j)
 have rz1 : ∀ j, w4.frozen? ⟨w.heap.size + 1, j, none⟩ = false := by subst hW4; exact fun j => by rw [World.frozen?_setCell]; exact ((bcell hb).2 _ _ (by omega)).trans (rz j)
 have bW1 : Below w.heap.size w w4 := by
  subst hW4
  repeat (refine Below.setCell ?_ (by simp; omega) _)
  exact bW.trans (hb.mono bW.size)
 have zW1 : w.heap.size + 1 + 1 < w4.heap.size := by subst hW4; simpa using zV
 have hLs1 : Lies w4 (some ⟨w0.heap.size, 0, none⟩) K.sl := by subst hW4; exact (lies_far1 (hLs.below hb) (fun b o e => by injection e with e; injection e with e; omega))
 have hLt1 : LiesG fT w4 (some ⟨w1.heap.size, 0, none⟩) K.tl := by subst hW4; exact (LiesG.far (hLt.below hb) (fun b o e => by injection e with e; injection e with e; omega))
 have hLe1 : LiesG fE w4 (some ⟨w2.heap.size, 0, none⟩) Me := by subst hW4; exact (LiesG.far (hLe.below hb) (fun b o e => by injection e with e; injection e with e; omega))
 have hIe1 : ∀ e ∈ Me, LiesG fI w4 e.P e.l ∧ ∀ B O, e.P = some ⟨B, O, none⟩ → w2.heap.size < B := by subst hW4; exact (ins_far (ins_below hIe hb) (by omega))
 have hLn1 : LiesG fN w4 (some ⟨w3.heap.size, 0, none⟩) Mn := by subst hW4; exact (LiesG.far (hLn) (fun b o e => by injection e with e; injection e with e; omega))
 have hIn1 : ∀ e ∈ Mn, LiesG fI w4 e.P e.l ∧ ∀ B O, e.P = some ⟨B, O, none⟩ → w3.heap.size < B := by subst hW4; exact (ins_far (hIn) (by omega))
 rw [hW4]
 clear hW4 hb zV kb rb ob oz rz bW zW hLs hLt hLe hIe hLn hIn
 have kb := kb1
 have rb := rb1
 have ob := ob1
 have oz := oz1
 have rz := rz1
 have bW := bW1
 have zW := zW1
 have hLs := hLs1
 have hLt := hLt1
 have hLe := hLe1
 have hIe := hIe1
 have hLn := hLn1
 have hIn := hIn1
 clear kb1 rb1 ob1 oz1 rz1 bW1 zW1 hLs1 hLt1 hLe1 hIe1 hLn1 hIn1
 have y4 : w.heap.size + 1 + 1 < w4.heap.size := zW
 have g6 : w4.cell? ⟨w.heap.size, 6, none⟩ = some (.slice K.fP K.fl.length K.fc) := atV kb 6 _ rfl
 go_upto_region 9 with ((go_at_call 32; refine (toF_any K.fP K.fc K.fl w4 hs.f hs.fi (hK.f.below bW) (hK.fi.below bW)).mono ?_; rintro r v4 ⟨Mf, rfl, hMf, hLf, hIf, hzf, hb⟩; have zz : ∀ j, v4.frozen? ⟨w.heap.size + 1 + 1, j, none⟩ = false := (fun j => ((bcell hb).2 _ _ zW).trans (oz j)); have u6 : v4.cell? ⟨w.heap.size + 1 + 1, 6, none⟩ = some (.slice none 0 0) := ((bcell hb).1 _ _ zW).trans (atV ob 6 _ rfl)))
 clear zz u6 g6
 have zV : w.heap.size + 1 + 1 < v4.heap.size := Nat.lt_of_lt_of_le zW hb.size
 obtain ⟨w5, hW5⟩ : ∃ w5, (v4.setCell ⟨w.heap.size + 1 + 1, 6, none⟩ (.slice (some ⟨w4.heap.size, 0, none⟩) K.fl.length K.fl.length)) = w5 := ⟨_, rfl⟩
 have kb1 : LiesG fV w5 (some ⟨w.heap.size, 0, none⟩) [.int .i64 K.bits, .int .i64 K.ticks, .slice K.sP K.sl.length K.sc, .slice K.tP K.tl.length K.tc, .slice K.eP K.el.length K.ec, .slice K.nP K.nl.length K.nc, .slice K.fP K.fl.length K.fc, .slice K.r0.P K.r0.l.length K.r0.c, .slice K.r1.P K.r1.l.length K.r1.c, .slice K.r2.P K.r2.l.length K.r2.c, .slice K.r3.P K.r3.l.length K.r3.c, .slice K.r4.P K.r4.l.length K.r4.c, .slice K.r5.P K.r5.l.length K.r5.c, .slice K.r6.P K.r6.l.length K.r6.c, .slice K.r7.P K.r7.l.length K.r7.c] := by subst hW5; exact (LiesG.far (kb.below hb) (fun b o e => by injection e with e; injection e with e; omega))
 have rb1 : LiesG fV w5 (some ⟨w.heap.size + 1, 0, none⟩) [.int .i64 0, .int .i64 0, .slice none 0 0, .slice none 0 0, .slice none 0 0, .slice none 0 0, .slice none 0 0, .slice none 0 0, .slice none 0 0, .slice none 0 0, .slice none 0 0, .slice none 0 0, .slice none 0 0, .slice none 0 0, .slice none 0 0] := by subst hW5; exact (LiesG.far (rb.below hb) (fun b o e => by injection e with e; injection e with e; omega))
 have ob1 : LiesG fV w5 (some ⟨w.heap.size + 1 + 1, 0, none⟩) [.int .i64 K.bits, .int .i64 K.ticks, .slice (some ⟨w0.heap.size, 0, none⟩) K.sl.length K.sl.length, .slice (some ⟨w1.heap.size, 0, none⟩) K.tl.length K.tl.length, .slice (some ⟨w2.heap.size, 0, none⟩) K.el.length K.el.length, .slice (some ⟨w3.heap.size, 0, none⟩) K.nl.length K.nl.length, .slice (some ⟨w4.heap.size, 0, none⟩) K.fl.length K.fl.length, .slice none 0 0, .slice none 0 0, .slice none 0 0, .slice none 0 0, .slice none 0 0, .slice none 0 0, .slice none 0 0, .slice none 0 0] := by subst hW5; exact (setV (ob.below hb) (j := 6) (by simp) (.slice (some ⟨w4.heap.size, 0, none⟩) K.fl.length K.fl.length))
 have oz1 : ∀ j, w5.frozen? ⟨w.heap.size + 1 + 1, j, none⟩ = false := by subst hW5; exact fun j => by rw [World.frozen?_setCell]; exact ((bcell hb).2 _ _ zW).trans (oz j)
 have rz1 : ∀ j, w5.frozen? ⟨w.heap.size + 1, j, none⟩ = false := by subst hW5; exact fun j => by rw [World.frozen?_setCell]; exact ((bcell hb).2 _ _ (by omega)).trans (rz j)
 have bW1 : Below w.heap.size w w5 := by
  subst hW5
  repeat (refine Below.setCell ?_ (by simp; omega) _)
  exact bW.trans (hb.mono bW.size)
 have zW1 : w.heap.size + 1 + 1 < w5.heap.size := by subst hW5; simpa using zV
 have hLs1 : Lies w5 (some ⟨w0.heap.size, 0, none⟩) K.sl := by subst hW5; exact (lies_far1 (hLs.below hb) (fun b o e => by injection e with e; injection e with e; omega))
 have hLt1 : LiesG fT w5 (some ⟨w1.heap.size, 0, none⟩) K.tl := by subst hW5; exact (LiesG.far (hLt.below hb) (fun b o e => by injection e with e; injection e with e; omega))
 have hLe1 : LiesG fE w5 (some ⟨w2.heap.size, 0, none⟩) Me := by subst hW5; exact (LiesG.far (hLe.below hb) (fun b o e => by injection e with e; injection e with e; omega))
 have hIe1 : ∀ e ∈ Me, LiesG fI w5 e.P e.l ∧ ∀ B O, e.P = some ⟨B, O, none⟩ → w2.heap.size < B := by subst hW5; exact (ins_far (ins_below hIe hb) (by omega))
 have hLn1 : LiesG fN w5 (some ⟨w3.heap.size, 0, none⟩) Mn := by subst hW5; exact (LiesG.far (hLn.below hb) (fun b o e => by injection e with e; injection e with e; omega))
 have hIn1 : ∀ e ∈ Mn, LiesG fI w5 e.P e.l ∧ ∀ B O, e.P = some ⟨B, O, none⟩ → w3.heap.size < B := by subst hW5; exact (ins_far (ins_below hIn hb) (by omega))
 have hLf1 : LiesG fF w5 (some ⟨w4.heap.size, 0, none⟩) Mf := by subst hW5; exact (LiesG.far (hLf) (fun b o e => by injection e with e; injection e with e; omega))
 have hIf1 : ∀ e ∈ Mf, LiesG fU w5 e.P e.l ∧ ∀ B O, e.P = some ⟨B, O, none⟩ → w4.heap.size < B := by subst hW5; exact (ins_far (hIf) (by omega))
 rw [hW5]
 clear hW5 hb zV kb rb ob oz rz bW zW hLs hLt hLe hIe hLn hIn hLf hIf
 have kb := kb1
 have rb := rb1
 have ob := ob1
 have oz := oz1
 have rz := rz1
 have bW := bW1
 have zW := zW1
 have hLs := hLs1
 have hLt := hLt1
 have hLe := hLe1
 have hIe := hIe1
 have hLn := hLn1
 have hIn := hIn1
 have hLf := hLf1
 have hIf := hIf1
 clear kb1 rb1 ob1 oz1 rz1 bW1 zW1 hLs1 hLt1 hLe1 hIe1 hLn1 hIn1 hLf1 hIf1
 have y5 : w.heap.size + 1 + 1 < w5.heap.size := zW
 have g7 : w5.cell? ⟨w.heap.size, 7, none⟩ = some (.slice K.r0.P K.r0.l.length K.r0.c) := atV kb 7 _ rfl
 have g8 : w5.cell? ⟨w.heap.size, 8, none⟩ = some (.slice K.r1.P K.r1.l.length K.r1.c) := atV kb 8 _ rfl
 have g9 : w5.cell? ⟨w.heap.size, 9, none⟩ = some (.slice K.r2.P K.r2.l.length K.r2.c) := atV kb 9 _ rfl
 have g10 : w5.cell? ⟨w.heap.size, 10, none⟩ = some (.slice K.r3.P K.r3.l.length K.r3.c) := atV kb 10 _ rfl
 have g11 : w5.cell? ⟨w.heap.size, 11, none⟩ = some (.slice K.r4.P K.r4.l.length K.r4.c) := atV kb 11 _ rfl
 have g12 : w5.cell? ⟨w.heap.size, 12, none⟩ = some (.slice K.r5.P K.r5.l.length K.r5.c) := atV kb 12 _ rfl
 have g13 : w5.cell? ⟨w.heap.size, 13, none⟩ = some (.slice K.r6.P K.r6.l.length K.r6.c) := atV kb 13 _ rfl
 have g14 : w5.cell? ⟨w.heap.size, 14, none⟩ = some (.slice K.r7.P K.r7.l.length K.r7.c) := atV kb 14 _ rfl
 go_upto_region 10 with ((go_at_call 33; refine (toQ_any K.r0 K.r1 K.r2 K.r3 K.r4 K.r5 K.r6 K.r7 w5 hs.r (hK.r.below bW)).mono ?_; rintro r v5 ⟨m0, m1, m2, m3, m4, m5, m6, m7, rfl, hMr, hIr0, hb⟩; have zz : ∀ j, v5.frozen? ⟨w.heap.size + 1 + 1, j, none⟩ = false := (fun j => ((bcell hb).2 _ _ zW).trans (oz j)); have u7 : v5.cell? ⟨w.heap.size + 1 + 1, 7, none⟩ = some (.slice none 0 0) := ((bcell hb).1 _ _ zW).trans (atV ob 7 _ rfl); have u8 : v5.cell? ⟨w.heap.size + 1 + 1, 8, none⟩ = some (.slice none 0 0) := ((bcell hb).1 _ _ zW).trans (atV ob 8 _ rfl); have u9 : v5.cell? ⟨w.heap.size + 1 + 1, 9, none⟩ = some (.slice none 0 0) := ((bcell hb).1 _ _ zW).trans (atV ob 9 _ rfl); have u10 : v5.cell? ⟨w.heap.size + 1 + 1, 10, none⟩ = some (.slice none 0 0) := ((bcell hb).1 _ _ zW).trans (atV ob 10 _ rfl); have u11 : v5.cell? ⟨w.heap.size + 1 + 1, 11, none⟩ = some (.slice none 0 0) := ((bcell hb).1 _ _ zW).trans (atV ob 11 _ rfl); have u12 : v5.cell? ⟨w.heap.size + 1 + 1, 12, none⟩ = some (.slice none 0 0) := ((bcell hb).1 _ _ zW).trans (atV ob 12 _ rfl); have u13 : v5.cell? ⟨w.heap.size + 1 + 1, 13, none⟩ = some (.slice none 0 0) := ((bcell hb).1 _ _ zW).trans (atV ob 13 _ rfl); have u14 : v5.cell? ⟨w.heap.size + 1 + 1, 14, none⟩ = some (.slice none 0 0) := ((bcell hb).1 _ _ zW).trans (atV ob 14 _ rfl)))
 clear zz u7 u8 u9 u10 u11 u12 u13 u14 g7 g8 g9 g10 g11 g12 g13 g14
 have zV : w.heap.size + 1 + 1 < v5.heap.size := Nat.lt_of_lt_of_le zW hb.size
 obtain ⟨w6, hW6⟩ : ∃ w6, ((((((((v5.setCell ⟨w.heap.size + 1 + 1, 7, none⟩ (.slice m0.P m0.l.length m0.c)).setCell ⟨w.heap.size + 1 + 1, 8, none⟩ (.slice m1.P m1.l.length m1.c)).setCell ⟨w.heap.size + 1 + 1, 9, none⟩ (.slice m2.P m2.l.length m2.c)).setCell ⟨w.heap.size + 1 + 1, 10, none⟩ (.slice m3.P m3.l.length m3.c)).setCell ⟨w.heap.size + 1 + 1, 11, none⟩ (.slice m4.P m4.l.length m4.c)).setCell ⟨w.heap.size + 1 + 1, 12, none⟩ (.slice m5.P m5.l.length m5.c)).setCell ⟨w.heap.size + 1 + 1, 13, none⟩ (.slice m6.P m6.l.length m6.c)).setCell ⟨w.heap.size + 1 + 1, 14, none⟩ (.slice m7.P m7.l.length m7.c)) = w6 := ⟨_, rfl⟩
 have kb1 : LiesG fV w6 (some ⟨w.heap.size, 0, none⟩) [.int .i64 K.bits, .int .i64 K.ticks, .slice K.sP K.sl.length K.sc, .slice K.tP K.tl.length K.tc, .slice K.eP K.el.length K.ec, .slice K.nP K.nl.length K.nc, .slice K.fP K.fl.length K.fc, .slice K.r0.P K.r0.l.length K.r0.c, .slice K.r1.P K.r1.l.length K.r1.c, .slice K.r2.P K.r2.l.length K.r2.c, .slice K.r3.P K.r3.l.length K.r3.c, .slice K.r4.P K.r4.l.length K.r4.c, .slice K.r5.P K.r5.l.length K.r5.c, .slice K.r6.P K.r6.l.length K.r6.c, .slice K.r7.P K.r7.l.length K.r7.c] := by subst hW6; exact (LiesG.far ((LiesG.far ((LiesG.far ((LiesG.far ((LiesG.far ((LiesG.far ((LiesG.far ((LiesG.far (kb.below hb) (fun b o e => by injection e with e; injection e with e; omega))) (fun b o e => by injection e with e; injection e with e; omega))) (fun b o e => by injection e with e; injection e with e; omega))) (fun b o e => by injection e with e; injection e with e; omega))) (fun b o e => by injection e with e; injection e with e; omega))) (fun b o e => by injection e with e; injection e with e; omega))) (fun b o e => by injection e with e; injection e with e; omega))) (fun b o e => by injection e with e; injection e with e; omega))
 have rb1 : LiesG fV w6 (some ⟨w.heap.size + 1, 0, none⟩) [.int .i64 0, .int .i64 0, .slice none 0 0, .slice none 0 0, .slice none 0 0, .slice none 0 0, .slice none 0 0, .slice none 0 0, .slice none 0 0, .slice none 0 0, .slice none 0 0, .slice none 0 0, .slice none 0 0, .slice none 0 0, .slice none 0 0] := by subst hW6; exact (LiesG.far ((LiesG.far ((LiesG.far ((LiesG.far ((LiesG.far ((LiesG.far ((LiesG.far ((LiesG.far (rb.below hb) (fun b o e => by injection e with e; injection e with e; omega))) (fun b o e => by injection e with e; injection e with e; omega))) (fun b o e => by injection e with e; injection e with e; omega))) (fun b o e => by injection e with e; injection e with e; omega))) (fun b o e => by injection e with e; injection e with e; omega))) (fun b o e => by injection e with e; injection e with e; omega))) (fun b o e => by injection e with e; injection e with e; omega))) (fun b o e => by injection e with e; injection e with e; omega))
 have ob1 : LiesG fV w6 (some ⟨w.heap.size + 1 + 1, 0, none⟩) [.int .i64 K.bits, .int .i64 K.ticks, .slice (some ⟨w0.heap.size, 0, none⟩) K.sl.length K.sl.length, .slice (some ⟨w1.heap.size, 0, none⟩) K.tl.length K.tl.length, .slice (some ⟨w2.heap.size, 0, none⟩) K.el.length K.el.length, .slice (some ⟨w3.heap.size, 0, none⟩) K.nl.length K.nl.length, .slice (some ⟨w4.heap.size, 0, none⟩) K.fl.length K.fl.length, .slice m0.P m0.l.length m0.c, .slice m1.P m1.l.length m1.c, .slice m2.P m2.l.length m2.c, .slice m3.P m3.l.length m3.c, .slice m4.P m4.l.length m4.c, .slice m5.P m5.l.length m5.c, .slice m6.P m6.l.length m6.c, .slice m7.P m7.l.length m7.c] := by subst hW6; exact (setV (setV (setV (setV (setV (setV (setV (setV (ob.below hb) (j := 7) (by simp) (.slice m0.P m0.l.length m0.c)) (j := 8) (by simp) (.slice m1.P m1.l.length m1.c)) (j := 9) (by simp) (.slice m2.P m2.l.length m2.c)) (j := 10) (by simp) (.slice m3.P m3.l.length m3.c)) (j := 11) (by simp) (.slice m4.P m4.l.length m4.c)) (j := 12) (by simp) (.slice m5.P m5.l.length m5.c)) (j := 13) (by simp) (.slice m6.P m6.l.length m6.c)) (j := 14) (by simp) (.slice m7.P m7.l.length m7.c))
 have oz1 : ∀ j, w6.frozen? ⟨w.heap.size + 1 + 1, j, none⟩ = false := by subst hW6; exact fun j => by rw [World.frozen?_setCell, World.frozen?_setCell, World.frozen?_setCell, World.frozen?_setCell, World.frozen?_setCell, World.frozen?_setCell, World.frozen?_setCell, World.frozen?_setCell]; exact ((bcell hb).2 _ _ zW).trans (oz j)
 have rz1 : ∀ j, w6.frozen? ⟨w.heap.size + 1, j, none⟩ = false := by subst hW6; exact fun j => by rw [World.frozen?_setCell, World.frozen?_setCell, World.frozen?_setCell, World.frozen?_setCell, World.frozen?_setCell, World.frozen?_setCell, World.frozen?_setCell, World.frozen?_setCell]; exact ((bcell hb).2 _ _ (by omega)).trans (rz j)
 have bW1 : Below w.heap.size w w6 := by
  subst hW6
  repeat (refine Below.setCell ?_ (by simp; omega) _)
  exact bW.trans (hb.mono bW.size)
 have zW1 : w.heap.size + 1 + 1 < w6.heap.size := by subst hW6; simpa using zV
 have hIr : ∀ e ∈ [m0, m1, m2, m3, m4, m5, m6, m7], LiesG fI v5 e.P e.l ∧ ∀ B O, e.P = some ⟨B, O, none⟩ → w5.heap.size < B := hIr0
 clear hIr0
 have hLs1 : Lies w6 (some ⟨w0.heap.size, 0, none⟩) K.sl := by subst hW6; exact (lies_far1 ((lies_far1 ((lies_far1 ((lies_far1 ((lies_far1 ((lies_far1 ((lies_far1 ((lies_far1 (hLs.below hb) (fun b o e => by injection e with e; injection e with e; omega))) (fun b o e => by injection e with e; injection e with e; omega))) (fun b o e => by injection e with e; injection e with e; omega))) (fun b o e => by injection e with e; injection e with e; omega))) (fun b o e => by injection e with e; injection e with e; omega))) (fun b o e => by injection e with e; injection e with e; omega))) (fun b o e => by injection e with e; injection e with e; omega))) (fun b o e => by injection e with e; injection e with e; omega))
 have hLt1 : LiesG fT w6 (some ⟨w1.heap.size, 0, none⟩) K.tl := by subst hW6; exact (LiesG.far ((LiesG.far ((LiesG.far ((LiesG.far ((LiesG.far ((LiesG.far ((LiesG.far ((LiesG.far (hLt.below hb) (fun b o e => by injection e with e; injection e with e; omega))) (fun b o e => by injection e with e; injection e with e; omega))) (fun b o e => by injection e with e; injection e with e; omega))) (fun b o e => by injection e with e; injection e with e; omega))) (fun b o e => by injection e with e; injection e with e; omega))) (fun b o e => by injection e with e; injection e with e; omega))) (fun b o e => by injection e with e; injection e with e; omega))) (fun b o e => by injection e with e; injection e with e; omega))
 have hLe1 : LiesG fE w6 (some ⟨w2.heap.size, 0, none⟩) Me := by subst hW6; exact (LiesG.far ((LiesG.far ((LiesG.far ((LiesG.far ((LiesG.far ((LiesG.far ((LiesG.far ((LiesG.far (hLe.below hb) (fun b o e => by injection e with e; injection e with e; omega))) (fun b o e => by injection e with e; injection e with e; omega))) (fun b o e => by injection e with e; injection e with e; omega))) (fun b o e => by injection e with e; injection e with e; omega))) (fun b o e => by injection e with e; injection e with e; omega))) (fun b o e => by injection e with e; injection e with e; omega))) (fun b o e => by injection e with e; injection e with e; omega))) (fun b o e => by injection e with e; injection e with e; omega))
 have hIe1 : ∀ e ∈ Me, LiesG fI w6 e.P e.l ∧ ∀ B O, e.P = some ⟨B, O, none⟩ → w2.heap.size < B := by subst hW6; exact (ins_far ((ins_far ((ins_far ((ins_far ((ins_far ((ins_far ((ins_far ((ins_far (ins_below hIe hb) (by omega))) (by omega))) (by omega))) (by omega))) (by omega))) (by omega))) (by omega))) (by omega))
 have hLn1 : LiesG fN w6 (some ⟨w3.heap.size, 0, none⟩) Mn := by subst hW6; exact (LiesG.far ((LiesG.far ((LiesG.far ((LiesG.far ((LiesG.far ((LiesG.far ((LiesG.far ((LiesG.far (hLn.below hb) (fun b o e => by injection e with e; injection e with e; omega))) (fun b o e => by injection e with e; injection e with e; omega))) (fun b o e => by injection e with e; injection e with e; omega))) (fun b o e => by injection e with e; injection e with e; omega))) (fun b o e => by injection e with e; injection e with e; omega))) (fun b o e => by injection e with e; injection e with e; omega))) (fun b o e => by injection e with e; injection e with e; omega))) (fun b o e => by injection e with e; injection e with e; omega))
 have hIn1 : ∀ e ∈ Mn, LiesG fI w6 e.P e.l ∧ ∀ B O, e.P = some ⟨B, O, none⟩ → w3.heap.size < B := by subst hW6; exact (ins_far ((ins_far ((ins_far ((ins_far ((ins_far ((ins_far ((ins_far ((ins_far (ins_below hIn hb) (by omega))) (by omega))) (by omega))) (by omega))) (by omega))) (by omega))) (by omega))) (by omega))
 have hLf1 : LiesG fF w6 (some ⟨w4.heap.size, 0, none⟩) Mf := by subst hW6; exact (LiesG.far ((LiesG.far ((LiesG.far ((LiesG.far ((LiesG.far ((LiesG.far ((LiesG.far ((LiesG.far (hLf.below hb) (fun b o e => by injection e with e; injection e with e; omega))) (fun b o e => by injection e with e; injection e with e; omega))) (fun b o e => by injection e with e; injection e with e; omega))) (fun b o e => by injection e with e; injection e with e; omega))) (fun b o e => by injection e with e; injection e with e; omega))) (fun b o e => by injection e with e; injection e with e; omega))) (fun b o e => by injection e with e; injection e with e; omega))) (fun b o e => by injection e with e; injection e with e; omega))
 have hIf1 : ∀ e ∈ Mf, LiesG fU w6 e.P e.l ∧ ∀ B O, e.P = some ⟨B, O, none⟩ → w4.heap.size < B := by subst hW6; exact (ins_far ((ins_far ((ins_far ((ins_far ((ins_far ((ins_far ((ins_far ((ins_far (ins_below hIf hb) (by omega))) (by omega))) (by omega))) (by omega))) (by omega))) (by omega))) (by omega))) (by omega))
 have hIr1 : ∀ e ∈ [m0, m1, m2, m3, m4, m5, m6, m7], LiesG fI w6 e.P e.l ∧ ∀ B O, e.P = some ⟨B, O, none⟩ → w5.heap.size < B := by subst hW6; exact (ins_far ((ins_far ((ins_far ((ins_far ((ins_far ((ins_far ((ins_far ((ins_far (hIr) (by omega))) (by omega))) (by omega))) (by omega))) (by omega))) (by omega))) (by omega))) (by omega))
 rw [hW6]
 clear hW6 hb zV kb rb ob oz rz bW zW hLs hLt hLe hIe hLn hIn hLf hIf hIr
 have kb := kb1
 have rb := rb1
 have ob := ob1
 have oz := oz1
 have rz := rz1
 have bW := bW1
 have zW := zW1
 have hLs := hLs1
 have hLt := hLt1
 have hLe := hLe1
 have hIe := hIe1
 have hLn := hLn1
 have hIn := hIn1
 have hLf := hLf1
 have hIf := hIf1
 have hIr := hIr1
 clear kb1 rb1 ob1 oz1 rz1 bW1 zW1 hLs1 hLt1 hLe1 hIe1 hLn1 hIn1 hLf1 hIf1 hIr1
 have c0 : w6.cell? ⟨w.heap.size + 1 + 1, 0, none⟩ = some (.int .i64 K.bits) := atV ob 0 _ rfl
 have d0 := atV rb 0 _ rfl
 have c1 : w6.cell? ⟨w.heap.size + 1 + 1, 1, none⟩ = some (.int .i64 K.ticks) := atV ob 1 _ rfl
 have d1 := atV rb 1 _ rfl
 have c2 : w6.cell? ⟨w.heap.size + 1 + 1, 2, none⟩ = some (.slice (some ⟨w0.heap.size, 0, none⟩) K.sl.length K.sl.length) := atV ob 2 _ rfl
 have d2 := atV rb 2 _ rfl
 have c3 : w6.cell? ⟨w.heap.size + 1 + 1, 3, none⟩ = some (.slice (some ⟨w1.heap.size, 0, none⟩) K.tl.length K.tl.length) := atV ob 3 _ rfl
 have d3 := atV rb 3 _ rfl
 have c4 : w6.cell? ⟨w.heap.size + 1 + 1, 4, none⟩ = some (.slice (some ⟨w2.heap.size, 0, none⟩) K.el.length K.el.length) := atV ob 4 _ rfl
 have d4 := atV rb 4 _ rfl
 have c5 : w6.cell? ⟨w.heap.size + 1 + 1, 5, none⟩ = some (.slice (some ⟨w3.heap.size, 0, none⟩) K.nl.length K.nl.length) := atV ob 5 _ rfl
 have d5 := atV rb 5 _ rfl
 have c6 : w6.cell? ⟨w.heap.size + 1 + 1, 6, none⟩ = some (.slice (some ⟨w4.heap.size, 0, none⟩) K.fl.length K.fl.length) := atV ob 6 _ rfl
 have d6 := atV rb 6 _ rfl
 have c7 : w6.cell? ⟨w.heap.size + 1 + 1, 7, none⟩ = some (.slice m0.P m0.l.length m0.c) := atV ob 7 _ rfl
 have d7 := atV rb 7 _ rfl
 have c8 : w6.cell? ⟨w.heap.size + 1 + 1, 8, none⟩ = some (.slice m1.P m1.l.length m1.c) := atV ob 8 _ rfl
 have d8 := atV rb 8 _ rfl
 have c9 : w6.cell? ⟨w.heap.size + 1 + 1, 9, none⟩ = some (.slice m2.P m2.l.length m2.c) := atV ob 9 _ rfl
 have d9 := atV rb 9 _ rfl
 have c10 : w6.cell? ⟨w.heap.size + 1 + 1, 10, none⟩ = some (.slice m3.P m3.l.length m3.c) := atV ob 10 _ rfl
 have d10 := atV rb 10 _ rfl
 have c11 : w6.cell? ⟨w.heap.size + 1 + 1, 11, none⟩ = some (.slice m4.P m4.l.length m4.c) := atV ob 11 _ rfl
 have d11 := atV rb 11 _ rfl
 have c12 : w6.cell? ⟨w.heap.size + 1 + 1, 12, none⟩ = some (.slice m5.P m5.l.length m5.c) := atV ob 12 _ rfl
 have d12 := atV rb 12 _ rfl
 have c13 : w6.cell? ⟨w.heap.size + 1 + 1, 13, none⟩ = some (.slice m6.P m6.l.length m6.c) := atV ob 13 _ rfl
 have d13 := atV rb 13 _ rfl
 have c14 : w6.cell? ⟨w.heap.size + 1 + 1, 14, none⟩ = some (.slice m7.P m7.l.length m7.c) := atV ob 14 _ rfl
 have d14 := atV rb 14 _ rfl
 have hn1 : ¬ w.heap.size + 1 = w.heap.size + 1 + 1 := by omega
 have hn2 : ¬ w.heap.size + 1 + 1 = w.heap.size + 1 := by omega
 have le : Me.length = K.el.length := by have := congrArg List.length hMe; simpa using this
 have ln : Mn.length = K.nl.length := by have := congrArg List.length hMn; simpa using this
 have lf : Mf.length = K.fl.length := by have := congrArg List.length hMf; simpa using this
 have HE : Hid _ := le
 have HN : Hid _ := ln
 have HF : Hid _ := lf
 clear le ln lf
 go_wp2
 refine bodyPost_ret (show (results Tryz.f9 _).run Tryz.prog _ = .ok (.agg #[.int .i64 K.bits, .int .i64 K.ticks, .slice (some ⟨w0.heap.size, 0, none⟩) K.sl.length K.sl.length, .slice (some ⟨w1.heap.size, 0, none⟩) K.tl.length K.tl.length, .slice (some ⟨w2.heap.size, 0, none⟩) K.el.length K.el.length, .slice (some ⟨w3.heap.size, 0, none⟩) K.nl.length K.nl.length, .slice (some ⟨w4.heap.size, 0, none⟩) K.fl.length K.fl.length, .slice m0.P m0.l.length m0.c, .slice m1.P m1.l.length m1.c, .slice m2.P m2.l.length m2.c, .slice m3.P m3.l.length m3.c, .slice m4.P m4.l.length m4.c, .slice m5.P m5.l.length m5.c, .slice m6.P m6.l.length m6.c, .slice m7.P m7.l.length m7.c]) _ from by simp [results, Tryz.results9, go_sem, *]) rfl ⟨⟨K.bits, K.ticks, some ⟨w0.heap.size, 0, none⟩, K.sl.length, K.sl, some ⟨w1.heap.size, 0, none⟩, K.tl.length, K.tl, some ⟨w2.heap.size, 0, none⟩, K.el.length, Me, some ⟨w3.heap.size, 0, none⟩, K.nl.length, Mn, some ⟨w4.heap.size, 0, none⟩, K.fl.length, Mf, m0, m1, m2, m3, m4, m5, m6, m7⟩, ?_, ?_, ?_, ?_, Nat.le_refl _, Nat.le_trans hs.s (by decide)⟩
 ·simp only [HE.out, HN.out, HF.out]
 ·simp only [QK.pl, hMe, hMn, hMf]
  exact congrArg _ (congrArg _ (congrArg _ (congrArg _ (congrArg _ (congrArg _ hMr)))))
 ·refine ⟨?_, ?_, ?_, fun e he => ?_, ?_, fun e he => ?_, ?_, fun e he => ?_, fun e he => ?_⟩
  ·repeat (refine lies_far1 ?_ (fun b o e => by injection e with e; injection e with e; omega))
   exact hLs
  ·repeat (refine LiesG.far ?_ (fun b o e => by injection e with e; injection e with e; omega))
   exact hLt
  ·repeat (refine LiesG.far ?_ (fun b o e => by injection e with e; injection e with e; omega))
   exact hLe
  ·repeat (refine LiesG.far ?_ (fun b o e' => by have := (hIe e he).2 b o e'; omega))
   exact (hIe e he).1
  ·repeat (refine LiesG.far ?_ (fun b o e => by injection e with e; injection e with e; omega))
   exact hLn
  ·repeat (refine LiesG.far ?_ (fun b o e' => by have := (hIn e he).2 b o e'; omega))
   exact (hIn e he).1
  ·repeat (refine LiesG.far ?_ (fun b o e => by injection e with e; injection e with e; omega))
   exact hLf
  ·repeat (refine LiesG.far ?_ (fun b o e' => by have := (hIf e he).2 b o e'; omega))
   exact (hIf e he).1
  ·repeat (refine LiesG.far ?_ (fun b o e' => by have := (hIr e he).2 b o e'; omega))
   exact (hIr e he).1
 ·repeat (refine Below.setCell ?_ (by simp) _)
  exact bW
set_option maxRecDepth 100000 in
theorem toK_any (K : QK) (w : World) (hs : K.Short) (hK : KernIn w K) :
  Calls Tryz.prog 9 #[.agg #[.int .i64 K.bits, .int .i64 K.ticks, .slice K.sP K.sl.length K.sc, .slice K.tP K.tl.length K.tc, .slice K.eP K.el.length K.ec, .slice K.nP K.nl.length K.nc, .slice K.fP K.fl.length K.fc, .slice K.r0.P K.r0.l.length K.r0.c, .slice K.r1.P K.r1.l.length K.r1.c, .slice K.r2.P K.r2.l.length K.r2.c, .slice K.r3.P K.r3.l.length K.r3.c, .slice K.r4.P K.r4.l.length K.r4.c, .slice K.r5.P K.r5.l.length K.r5.c, .slice K.r6.P K.r6.l.length K.r6.c, .slice K.r7.P K.r7.l.length K.r7.c]] w fun r w' => ∃ K' : QK, r = .returned (.agg #[.int .i64 K'.bits, .int .i64 K'.ticks, .slice K'.sP K'.sl.length K'.sc, .slice K'.tP K'.tl.length K'.tc, .slice K'.eP K'.el.length K'.ec, .slice K'.nP K'.nl.length K'.nc, .slice K'.fP K'.fl.length K'.fc, .slice K'.r0.P K'.r0.l.length K'.r0.c, .slice K'.r1.P K'.r1.l.length K'.r1.c, .slice K'.r2.P K'.r2.l.length K'.r2.c, .slice K'.r3.P K'.r3.l.length K'.r3.c, .slice K'.r4.P K'.r4.l.length K'.r4.c, .slice K'.r5.P K'.r5.l.length K'.r5.c, .slice K'.r6.P K'.r6.l.length K'.r6.c, .slice K'.r7.P K'.r7.l.length K'.r7.c]) ∧ K'.pl = K.pl ∧ KernIn w' K' ∧ Below w.heap.size w w' := by
 refine (toK_cap K w hs hK).mono ?_
 rintro r w' ⟨K', h1, h2, h3, h4, _⟩
 exact ⟨K', h1, h2, h3, h4⟩

end Go.Proofs.YtigpbjcmmgdiaaaGreat
