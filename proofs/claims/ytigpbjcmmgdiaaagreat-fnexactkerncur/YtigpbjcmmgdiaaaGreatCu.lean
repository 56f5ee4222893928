/-
  Texts of the proof, put together: CurB.
-/
import Derived.Test.YtigpbjcmmgdiaaaGreatBk
/-
 The thread that runs, by both: the first of the ready ones of the greatest priority. Conditions: the state's rows lie in memory.
-/
namespace Go.Proofs.YtigpbjcmmgdiaaaGreat
open Go.ChangeShapes Go.WideShapes Go.ChangeAt Go.RowKit
set_option linter.unusedVariables false

def rdQ (K : QK) (n : Nat) : QR := if n = 0 then K.r0 else if n = 1 then K.r1 else if n = 2 then K.r2 else if n = 3 then K.r3 else if n = 4 then K.r4 else if n = 5 then K.r5 else if n = 6 then K.r6 else K.r7
theorem rdQ_mem (K : QK) (n : Nat) : rdQ K n ∈ [K.r0, K.r1, K.r2, K.r3, K.r4, K.r5, K.r6, K.r7] := by
 unfold rdQ; repeat' split
 all_goals simp
theorem KBox.rd {w W : World} {K : QK} (h : KBox w K W) (p : Nat) (hp : p < 8) : W.cell? ⟨w.heap.size, 7 + p, none⟩ = some (.slice (rdQ K p).P (rdQ K p).l.length (rdQ K p).c) := by
 rcases (by omega : p = 0 ∨ p = 1 ∨ p = 2 ∨ p = 3 ∨ p = 4 ∨ p = 5 ∨ p = 6 ∨ p = 7) with rfl | rfl | rfl | rfl | rfl | rfl | rfl | rfl
 ·exact h.cr0
 ·exact h.cr1
 ·exact h.cr2
 ·exact h.cr3
 ·exact h.cr4
 ·exact h.cr5
 ·exact h.cr6
 ·exact h.cr7
/-- The first of those of priority below p, the greatest first. -/
def curN (K : QK) : Nat → Int
 | 0 => 0
 | p + 1 => match (rdQ K p).l with
  | [] => curN K p
  | a :: _ => a
def curInv (w : World) (K : QK) (v : Value) (W : World) : Prop :=
 ∃ p : Nat, p ≤ 8 ∧ v = .int .i64 ((p : Int) - 1) ∧ curN K 8 = curN K p ∧ KBox w K W
set_option maxRecDepth 100000 in
set_option maxHeartbeats 8000000 in
theorem l4Cur_any (K : QK) (w : World) (h : KernIn w K) :
  Calls Tryz.prog 44 #[.agg #[.int .i64 K.bits, .int .i64 K.ticks, .slice K.sP K.sl.length K.sc, .slice K.tP K.tl.length K.tc, .slice K.eP K.el.length K.ec, .slice K.nP K.nl.length K.nc, .slice K.fP K.fl.length K.fc, .slice K.r0.P K.r0.l.length K.r0.c, .slice K.r1.P K.r1.l.length K.r1.c, .slice K.r2.P K.r2.l.length K.r2.c, .slice K.r3.P K.r3.l.length K.r3.c, .slice K.r4.P K.r4.l.length K.r4.c, .slice K.r5.P K.r5.l.length K.r5.c, .slice K.r6.P K.r6.l.length K.r6.c, .slice K.r7.P K.r7.l.length K.r7.c]] w fun e w' => e = .returned (.int .i64 (curN K 8)) ∧ Below w.heap.size w w' := by
 have hb0 := KBox.new h 42
 clear h
 go_enter Tryz.func44, Tryz.ntmps44
 go_upto_region 1 with fail
 generalize w.alloc (.cells #[.int .i64 K.bits, .int .i64 K.ticks, .slice K.sP K.sl.length K.sc, .slice K.tP K.tl.length K.tc, .slice K.eP K.el.length K.ec, .slice K.nP K.nl.length K.nc, .slice K.fP K.fl.length K.fc, .slice K.r0.P K.r0.l.length K.r0.c, .slice K.r1.P K.r1.l.length K.r1.c, .slice K.r2.P K.r2.l.length K.r2.c, .slice K.r3.P K.r3.l.length K.r3.c, .slice K.r4.P K.r4.l.length K.r4.c, .slice K.r5.P K.r5.l.length K.r5.c, .slice K.r6.P K.r6.l.length K.r6.c, .slice K.r7.P K.r7.l.length K.r7.c] 42) = W1 at hb0 ⊢
 go_wp2
 go_loopw [3] (fun v W => curInv w K v W) (fun v W => (intOf v + 1).toNat)
 case atStart => exact ⟨8, by omega, rfl, rfl, hb0⟩
 case round =>
  obtain ⟨p, hp, rfl, hc, bb⟩ := hrel
  rcases p with _ | p
  ·have hk1 : ¬ (0 : Int) ≤ ((0 : Nat) : Int) - 1 := by omega
   have HC : Hid _ := hc
   have HB : Hid _ := bb.bw
   clear hc bb hb0
   go_wp2
   go_ret
   exact ⟨ret_int HC.out.symm, HB.out⟩
  ·obtain ⟨z, hz⟩ : ∃ z : Int, ((p + 1 : Nat) : Int) - 1 = z := ⟨_, rfl⟩
   have hzp : z = (p : Int) := by omega
   rw [hz]
   clear hz
   subst hzp
   have hk1 : (0 : Int) ≤ (p : Int) := by omega
   have hk2 : (p : Int) < 8 := by omega
   have c0 := bb.rd p (by omega)
   have hrow := bb.b.r _ (rdQ_mem K p)
   have HC : Hid _ := hc
   have HBb : Hid _ := bb
   clear hc hb0
   cases hl : (rdQ K p).l with
   | nil =>
    rw [hl] at c0
    have HX : Hid (curN K (p + 1) = curN K p) := by unfold Hid; rw [curN, hl]
    have hk3 : ¬ (0 : Int) < (([] : List Int).length : Int) := by simp
    clear hrow bb
    go_wp2
    go_roundw
    case rel => exact ⟨p, by omega, by go_num, by rw [← HX.out]; exact HC.out, HBb.out⟩
    case measure => first | (simp [intOf]; done) | (simp [intOf]; omega)
   | cons a t =>
    rw [hl] at c0 hrow
    have HX : Hid (curN K (p + 1) = a) := by unfold Hid; rw [curN, hl]
    obtain ⟨B, O, hP⟩ := hrow.has (i := 0) (by simp)
    rw [hP] at c0 hrow
    have c1 := atI hrow (k := 0) (by simp)
    simp only [List.getElem_cons_zero, Nat.add_zero] at c1
    have hk3 : (0 : Int) < ((a :: t).length : Int) := by simp
    have HB : Hid _ := bb.bw
    clear hrow bb hP
    go_wp2
    go_ret
    exact ⟨ret_int (HC.out.trans HX.out).symm, HB.out⟩
set_option maxRecDepth 100000 in
set_option maxHeartbeats 8000000 in
theorem kernCurImpl_any (K : QK) (w : World) (b : Bool) (HK : ∀ W, KernIn W K → Calls Tryz.prog 45 #[.agg #[.int .i64 K.bits, .int .i64 K.ticks, .slice K.sP K.sl.length K.sc, .slice K.tP K.tl.length K.tc, .slice K.eP K.el.length K.ec, .slice K.nP K.nl.length K.nc, .slice K.fP K.fl.length K.fc, .slice K.r0.P K.r0.l.length K.r0.c, .slice K.r1.P K.r1.l.length K.r1.c, .slice K.r2.P K.r2.l.length K.r2.c, .slice K.r3.P K.r3.l.length K.r3.c, .slice K.r4.P K.r4.l.length K.r4.c, .slice K.r5.P K.r5.l.length K.r5.c, .slice K.r6.P K.r6.l.length K.r6.c, .slice K.r7.P K.r7.l.length K.r7.c]] W fun e w' => e = .returned (.bool b) ∧ Below W.heap.size W w') (h : KernIn w K) :
  Calls Tryz.prog 17 #[.agg #[.int .i64 K.bits, .int .i64 K.ticks, .slice K.sP K.sl.length K.sc, .slice K.tP K.tl.length K.tc, .slice K.eP K.el.length K.ec, .slice K.nP K.nl.length K.nc, .slice K.fP K.fl.length K.fc, .slice K.r0.P K.r0.l.length K.r0.c, .slice K.r1.P K.r1.l.length K.r1.c, .slice K.r2.P K.r2.l.length K.r2.c, .slice K.r3.P K.r3.l.length K.r3.c, .slice K.r4.P K.r4.l.length K.r4.c, .slice K.r5.P K.r5.l.length K.r5.c, .slice K.r6.P K.r6.l.length K.r6.c, .slice K.r7.P K.r7.l.length K.r7.c]] w fun e w' => e = .returned (.int .i64 (if b = true then curN K 8 else 0)) ∧ Below w.heap.size w w' := by
 have hb0 := KBox.new h 42
 clear h
 go_enter Tryz.func17, Tryz.ntmps17
 go_upto_region 1 with fail
 generalize w.alloc (.cells #[.int .i64 K.bits, .int .i64 K.ticks, .slice K.sP K.sl.length K.sc, .slice K.tP K.tl.length K.tc, .slice K.eP K.el.length K.ec, .slice K.nP K.nl.length K.nc, .slice K.fP K.fl.length K.fc, .slice K.r0.P K.r0.l.length K.r0.c, .slice K.r1.P K.r1.l.length K.r1.c, .slice K.r2.P K.r2.l.length K.r2.c, .slice K.r3.P K.r3.l.length K.r3.c, .slice K.r4.P K.r4.l.length K.r4.c, .slice K.r5.P K.r5.l.length K.r5.c, .slice K.r6.P K.r6.l.length K.r6.c, .slice K.r7.P K.r7.l.length K.r7.c] 42) = W1 at hb0 ⊢
 have HC0 : Hid _ := HK W1 hb0.b
 have HB0 : Hid _ := hb0
 have g0 := atV hb0.a 0 _ rfl
 have g1 := atV hb0.a 1 _ rfl
 have g2 := atV hb0.a 2 _ rfl
 have g3 := atV hb0.a 3 _ rfl
 have g4 := atV hb0.a 4 _ rfl
 have g5 := atV hb0.a 5 _ rfl
 have g6 := atV hb0.a 6 _ rfl
 have g7 := atV hb0.a 7 _ rfl
 have g8 := atV hb0.a 8 _ rfl
 have g9 := atV hb0.a 9 _ rfl
 have g10 := atV hb0.a 10 _ rfl
 have g11 := atV hb0.a 11 _ rfl
 have g12 := atV hb0.a 12 _ rfl
 have g13 := atV hb0.a 13 _ rfl
 have g14 := atV hb0.a 14 _ rfl
 clear HK hb0
 cases b
 ·go_wp2_with (go_at_call 45; refine Calls.mono HC0.out ?_; rintro e w5 ⟨rfl, hb5⟩)
  go_ret
  exact ⟨rfl, (HB0.out.below hb5).bw⟩
 ·go_upto_region 3 with (go_at_call 45; refine Calls.mono HC0.out ?_; rintro e w5 ⟨rfl, hb5⟩)
  have hb0 := HB0.out.below hb5
  clear hb5 HC0 HB0 g0 g1 g2 g3 g4 g5 g6 g7 g8 g9 g10 g11 g12 g13 g14

  go_wp2
  go_loopw [3] (fun v W => curInv w K v W) (fun v W => (intOf v + 1).toNat)
  case atStart => exact ⟨8, by omega, rfl, rfl, hb0⟩
  case round =>
   obtain ⟨p, hp, rfl, hc, bb⟩ := hrel
   rcases p with _ | p
   ·have hk1 : ¬ (0 : Int) ≤ ((0 : Nat) : Int) - 1 := by omega
    have HC : Hid _ := hc
    have HB : Hid _ := bb.bw
    clear hc bb hb0
    go_wp2
    go_ret
    exact ⟨ret_int HC.out.symm, HB.out⟩
   ·obtain ⟨z, hz⟩ : ∃ z : Int, ((p + 1 : Nat) : Int) - 1 = z := ⟨_, rfl⟩
    have hzp : z = (p : Int) := by omega
    rw [hz]
    clear hz
    subst hzp
    have hk1 : (0 : Int) ≤ (p : Int) := by omega
    have hk2 : (p : Int) < 8 := by omega
    have c0 := bb.rd p (by omega)
    have hrow := bb.b.r _ (rdQ_mem K p)
    have HC : Hid _ := hc
    have HBb : Hid _ := bb
    clear hc hb0
    cases hl : (rdQ K p).l with
    | nil =>
     rw [hl] at c0
     have HX : Hid (curN K (p + 1) = curN K p) := by unfold Hid; rw [curN, hl]
     have hk3 : ¬ (0 : Int) < (([] : List Int).length : Int) := by simp
     clear hrow bb
     go_wp2
     go_roundw
     case rel => exact ⟨p, by omega, by go_num, by rw [← HX.out]; exact HC.out, HBb.out⟩
     case measure => first | (simp [intOf]; done) | (simp [intOf]; omega)
    | cons a t =>
     rw [hl] at c0 hrow
     have HX : Hid (curN K (p + 1) = a) := by unfold Hid; rw [curN, hl]
     obtain ⟨B, O, hP⟩ := hrow.has (i := 0) (by simp)
     rw [hP] at c0 hrow
     have c1 := atI hrow (k := 0) (by simp)
     simp only [List.getElem_cons_zero, Nat.add_zero] at c1
     have hk3 : (0 : Int) < ((a :: t).length : Int) := by simp
     have HB : Hid _ := bb.bw
     clear hrow bb hP
     go_wp2
     go_ret
     exact ⟨ret_int (HC.out.trans HX.out).symm, HB.out⟩
set_option maxRecDepth 100000 in
set_option maxHeartbeats 8000000 in
theorem kernCurSpec_any (K : QK) (w : World) (b : Bool) (HK : ∀ W, KernIn W K → Calls Tryz.prog 27 #[.agg #[.int .i64 K.bits, .int .i64 K.ticks, .slice K.sP K.sl.length K.sc, .slice K.tP K.tl.length K.tc, .slice K.eP K.el.length K.ec, .slice K.nP K.nl.length K.nc, .slice K.fP K.fl.length K.fc, .slice K.r0.P K.r0.l.length K.r0.c, .slice K.r1.P K.r1.l.length K.r1.c, .slice K.r2.P K.r2.l.length K.r2.c, .slice K.r3.P K.r3.l.length K.r3.c, .slice K.r4.P K.r4.l.length K.r4.c, .slice K.r5.P K.r5.l.length K.r5.c, .slice K.r6.P K.r6.l.length K.r6.c, .slice K.r7.P K.r7.l.length K.r7.c]] W fun e w' => e = .returned (.bool b) ∧ Below W.heap.size W w') (h : KernIn w K) :
  Calls Tryz.prog 16 #[.agg #[.int .i64 K.bits, .int .i64 K.ticks, .slice K.sP K.sl.length K.sc, .slice K.tP K.tl.length K.tc, .slice K.eP K.el.length K.ec, .slice K.nP K.nl.length K.nc, .slice K.fP K.fl.length K.fc, .slice K.r0.P K.r0.l.length K.r0.c, .slice K.r1.P K.r1.l.length K.r1.c, .slice K.r2.P K.r2.l.length K.r2.c, .slice K.r3.P K.r3.l.length K.r3.c, .slice K.r4.P K.r4.l.length K.r4.c, .slice K.r5.P K.r5.l.length K.r5.c, .slice K.r6.P K.r6.l.length K.r6.c, .slice K.r7.P K.r7.l.length K.r7.c]] w fun e w' => e = .returned (.int .i64 (if b = true then curN K 8 else 0)) ∧ Below w.heap.size w w' := by
 have hb0 := KBox.new h 42
 clear h
 go_enter Tryz.func16, Tryz.ntmps16
 go_upto_region 1 with fail
 generalize w.alloc (.cells #[.int .i64 K.bits, .int .i64 K.ticks, .slice K.sP K.sl.length K.sc, .slice K.tP K.tl.length K.tc, .slice K.eP K.el.length K.ec, .slice K.nP K.nl.length K.nc, .slice K.fP K.fl.length K.fc, .slice K.r0.P K.r0.l.length K.r0.c, .slice K.r1.P K.r1.l.length K.r1.c, .slice K.r2.P K.r2.l.length K.r2.c, .slice K.r3.P K.r3.l.length K.r3.c, .slice K.r4.P K.r4.l.length K.r4.c, .slice K.r5.P K.r5.l.length K.r5.c, .slice K.r6.P K.r6.l.length K.r6.c, .slice K.r7.P K.r7.l.length K.r7.c] 42) = W1 at hb0 ⊢
 have HC0 : Hid _ := HK W1 hb0.b
 have HB0 : Hid _ := hb0
 have g0 := atV hb0.a 0 _ rfl
 have g1 := atV hb0.a 1 _ rfl
 have g2 := atV hb0.a 2 _ rfl
 have g3 := atV hb0.a 3 _ rfl
 have g4 := atV hb0.a 4 _ rfl
 have g5 := atV hb0.a 5 _ rfl
 have g6 := atV hb0.a 6 _ rfl
 have g7 := atV hb0.a 7 _ rfl
 have g8 := atV hb0.a 8 _ rfl
 have g9 := atV hb0.a 9 _ rfl
 have g10 := atV hb0.a 10 _ rfl
 have g11 := atV hb0.a 11 _ rfl
 have g12 := atV hb0.a 12 _ rfl
 have g13 := atV hb0.a 13 _ rfl
 have g14 := atV hb0.a 14 _ rfl
 clear HK hb0
 cases b
 ·go_wp2_with (go_at_call 27; refine Calls.mono HC0.out ?_; rintro e w5 ⟨rfl, hb5⟩)
  go_ret
  exact ⟨rfl, (HB0.out.below hb5).bw⟩
 ·go_upto_region 3 with (go_at_call 27; refine Calls.mono HC0.out ?_; rintro e w5 ⟨rfl, hb5⟩)
  have hb0 := HB0.out.below hb5
  clear hb5 HC0 HB0 g0 g1 g2 g3 g4 g5 g6 g7 g8 g9 g10 g11 g12 g13 g14
  have g0 := atV hb0.a 0 _ rfl
  have g1 := atV hb0.a 1 _ rfl
  have g2 := atV hb0.a 2 _ rfl
  have g3 := atV hb0.a 3 _ rfl
  have g4 := atV hb0.a 4 _ rfl
  have g5 := atV hb0.a 5 _ rfl
  have g6 := atV hb0.a 6 _ rfl
  have g7 := atV hb0.a 7 _ rfl
  have g8 := atV hb0.a 8 _ rfl
  have g9 := atV hb0.a 9 _ rfl
  have g10 := atV hb0.a 10 _ rfl
  have g11 := atV hb0.a 11 _ rfl
  have g12 := atV hb0.a 12 _ rfl
  have g13 := atV hb0.a 13 _ rfl
  have g14 := atV hb0.a 14 _ rfl
  have HC1 : Hid _ := l4Cur_any K w5 hb0.b
  have HB1 : Hid _ := hb0.bw
  clear hb0
  go_wp2_with (go_at_call 44; refine Calls.mono HC1.out ?_; rintro e w6 ⟨rfl, hb6⟩)
  go_ret
  exact ⟨rfl, HB1.out.trans (hb6.mono HB1.out.size)⟩

end Go.Proofs.YtigpbjcmmgdiaaaGreat
