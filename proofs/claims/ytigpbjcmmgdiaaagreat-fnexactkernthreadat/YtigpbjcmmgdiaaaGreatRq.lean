/-
  Texts of the proof, put together: ThrChk, ViewE.
-/
import Derived.Test.YtigpbjcmmgdiaaaGreatRf
import Derived.Test.YtigpbjcmmgdiaaaGreatRa
import Derived.Test.YtigpbjcmmgdiaaaGreatBa
import Derived.Test.YtigpbjcmmgdiaaaGreatRi
import Derived.StillTailTactics
/-
 What the program's small checks of a thread answer: its message, what it has begun, where it waits. No conditions.
-/
namespace Go.Proofs.YtigpbjcmmgdiaaaGreat
open Go.ChangeShapes Go.WideShapes Go.ChangeAt Go.RowKit
set_option linter.unusedVariables false

def msgI (t : QT) : Bool := withinB t.a6 0 65535 && withinB t.a8 0 3 && msgB t
def pendI (t : QT) : Bool := if (t.a13 == 0) = true then t.a14 == 0 else t.a1 == 1 && withinB t.a13 1 2

set_option maxRecDepth 100000 in
set_option maxHeartbeats 8000000 in
theorem onOk_any (t : QT) (w : World) :
  Calls Tryz.prog 129 #[.agg #[.int .i64 t.a0, .int .i64 t.a1, .int .i64 t.a2, .int .i64 t.a3, .int .i64 t.a4, .int .i64 t.a5, .int .i64 t.a6, .int .u32 t.a7, .int .i64 t.a8, .int .u32 t.a9, .int .u32 t.a10, .int .u32 t.a11, .int .u32 t.a12, .int .i64 t.a13, .int .u32 t.a14]] w fun e w' => e = .returned (.bool (onB t)) ∧ Below w.heap.size w w' := by
 have xB := Bx.newAt w 50 [.int .i64 t.a0, .int .i64 t.a1, .int .i64 t.a2, .int .i64 t.a3, .int .i64 t.a4, .int .i64 t.a5, .int .i64 t.a6, .int .u32 t.a7, .int .i64 t.a8, .int .u32 t.a9, .int .u32 t.a10, .int .u32 t.a11, .int .u32 t.a12, .int .i64 t.a13, .int .u32 t.a14] (c := w.heap.size) rfl
 have bw := (Below.refl w.heap.size w).alloc (Nat.le_refl _) (.cells #[.int .i64 t.a0, .int .i64 t.a1, .int .i64 t.a2, .int .i64 t.a3, .int .i64 t.a4, .int .i64 t.a5, .int .i64 t.a6, .int .u32 t.a7, .int .i64 t.a8, .int .u32 t.a9, .int .u32 t.a10, .int .u32 t.a11, .int .u32 t.a12, .int .i64 t.a13, .int .u32 t.a14] 50)
 have hz := xB.frozen
 go_enter Tryz.func129, Tryz.ntmps129
 go_upto_region 1 with fail
 generalize w.alloc (.cells #[.int .i64 t.a0, .int .i64 t.a1, .int .i64 t.a2, .int .i64 t.a3, .int .i64 t.a4, .int .i64 t.a5, .int .i64 t.a6, .int .u32 t.a7, .int .i64 t.a8, .int .u32 t.a9, .int .u32 t.a10, .int .u32 t.a11, .int .u32 t.a12, .int .i64 t.a13, .int .u32 t.a14] 50) = W0 at xB bw hz ⊢
 have hle : w.heap.size ≤ w.heap.size := Nat.le_refl _
 have c1 := xB.cell 1 _ rfl
 have c5 := xB.cell 5 _ rfl
 cases h2 : (t.a1 == 2)
 ·cases h3 : (t.a1 == 3)
  ·cases h5 : (t.a1 == 5)
   ·cases h0 : (t.a5 == 0)
    ·skip
     have HX : Hid (onB t = false) := by unfold Hid; unfold onB; rw [h2, h3, h5, h0]; rfl
     go_wp2
     go_ret
     exact ⟨ret_bool HX.out.symm, bw⟩
    ·skip
     have HX : Hid (onB t = true) := by unfold Hid; unfold onB; rw [h2, h3, h5, h0]; rfl
     go_wp2
     go_ret
     exact ⟨ret_bool HX.out.symm, bw⟩
   ·skip
    have HX : Hid (onB t = true) := by unfold Hid; unfold onB; rw [h2, h3, h5]; rfl
    go_wp2
    go_ret
    exact ⟨ret_bool HX.out.symm, bw⟩
  ·skip
   have HX : Hid (onB t = true) := by unfold Hid; unfold onB; rw [h2, h3]; rfl
   go_wp2
   go_ret
   exact ⟨ret_bool HX.out.symm, bw⟩
 ·skip
  have HX : Hid (onB t = true) := by unfold Hid; unfold onB; rw [h2]; rfl
  go_wp2
  go_ret
  exact ⟨ret_bool HX.out.symm, bw⟩

set_option maxRecDepth 100000 in
set_option maxHeartbeats 8000000 in
theorem pendOk_any (t : QT) (w : World) :
  Calls Tryz.prog 128 #[.agg #[.int .i64 t.a0, .int .i64 t.a1, .int .i64 t.a2, .int .i64 t.a3, .int .i64 t.a4, .int .i64 t.a5, .int .i64 t.a6, .int .u32 t.a7, .int .i64 t.a8, .int .u32 t.a9, .int .u32 t.a10, .int .u32 t.a11, .int .u32 t.a12, .int .i64 t.a13, .int .u32 t.a14]] w fun e w' => e = .returned (.bool (pendI t)) ∧ Below w.heap.size w w' := by
 have xB := Bx.newAt w 50 [.int .i64 t.a0, .int .i64 t.a1, .int .i64 t.a2, .int .i64 t.a3, .int .i64 t.a4, .int .i64 t.a5, .int .i64 t.a6, .int .u32 t.a7, .int .i64 t.a8, .int .u32 t.a9, .int .u32 t.a10, .int .u32 t.a11, .int .u32 t.a12, .int .i64 t.a13, .int .u32 t.a14] (c := w.heap.size) rfl
 have bw := (Below.refl w.heap.size w).alloc (Nat.le_refl _) (.cells #[.int .i64 t.a0, .int .i64 t.a1, .int .i64 t.a2, .int .i64 t.a3, .int .i64 t.a4, .int .i64 t.a5, .int .i64 t.a6, .int .u32 t.a7, .int .i64 t.a8, .int .u32 t.a9, .int .u32 t.a10, .int .u32 t.a11, .int .u32 t.a12, .int .i64 t.a13, .int .u32 t.a14] 50)
 have hz := xB.frozen
 go_enter Tryz.func128, Tryz.ntmps128
 go_upto_region 1 with fail
 generalize w.alloc (.cells #[.int .i64 t.a0, .int .i64 t.a1, .int .i64 t.a2, .int .i64 t.a3, .int .i64 t.a4, .int .i64 t.a5, .int .i64 t.a6, .int .u32 t.a7, .int .i64 t.a8, .int .u32 t.a9, .int .u32 t.a10, .int .u32 t.a11, .int .u32 t.a12, .int .i64 t.a13, .int .u32 t.a14] 50) = W0 at xB bw hz ⊢
 have hle : w.heap.size ≤ w.heap.size := Nat.le_refl _
 have c1 := xB.cell 1 _ rfl
 have c13 := xB.cell 13 _ rfl
 have c14 := xB.cell 14 _ rfl
 have HW0 := fun W => within_any t.a13 1 2 W
 obtain ⟨wv, hwv⟩ : ∃ wv, withinB t.a13 1 2 = wv := ⟨_, rfl⟩
 rw [hwv] at HW0
 have HW := HW0
 cases h0 : (t.a13 == 0)
 ·cases h1 : (t.a1 == 1)
  ·skip
   have HX : Hid (pendI t = false) := by unfold Hid; unfold pendI; rw [h0, h1]; rfl
   go_wp2
   go_ret
   exact ⟨ret_bool HX.out.symm, bw⟩
  ·cases wv
   ·skip
    have HX : Hid (pendI t = false) := by unfold Hid; unfold pendI; rw [h0, h1, hwv]; rfl
    go_wp2_with (go_at_call 99; refine (HW _).mono ?_; rintro e w' ⟨rfl, rfl⟩)
    go_ret
    exact ⟨ret_bool HX.out.symm, bw⟩
   ·skip
    have HX : Hid (pendI t = true) := by unfold Hid; unfold pendI; rw [h0, h1, hwv]; rfl
    go_wp2_with (go_at_call 99; refine (HW _).mono ?_; rintro e w' ⟨rfl, rfl⟩)
    go_ret
    exact ⟨ret_bool HX.out.symm, bw⟩
 ·cases h4 : (t.a14 == 0)
  ·skip
   have HX : Hid (pendI t = false) := by unfold Hid; unfold pendI; rw [h0, h4]; rfl
   go_wp2
   go_ret
   exact ⟨ret_bool HX.out.symm, bw⟩
  ·skip
   have HX : Hid (pendI t = true) := by unfold Hid; unfold pendI; rw [h0, h4]; rfl
   go_wp2
   go_ret
   exact ⟨ret_bool HX.out.symm, bw⟩

set_option maxRecDepth 100000 in
set_option maxHeartbeats 8000000 in
theorem msgOk_any (t : QT) (w : World) :
  Calls Tryz.prog 127 #[.agg #[.int .i64 t.a0, .int .i64 t.a1, .int .i64 t.a2, .int .i64 t.a3, .int .i64 t.a4, .int .i64 t.a5, .int .i64 t.a6, .int .u32 t.a7, .int .i64 t.a8, .int .u32 t.a9, .int .u32 t.a10, .int .u32 t.a11, .int .u32 t.a12, .int .i64 t.a13, .int .u32 t.a14]] w fun e w' => e = .returned (.bool (msgI t)) ∧ Below w.heap.size w w' := by
 have xB := Bx.newAt w 50 [.int .i64 t.a0, .int .i64 t.a1, .int .i64 t.a2, .int .i64 t.a3, .int .i64 t.a4, .int .i64 t.a5, .int .i64 t.a6, .int .u32 t.a7, .int .i64 t.a8, .int .u32 t.a9, .int .u32 t.a10, .int .u32 t.a11, .int .u32 t.a12, .int .i64 t.a13, .int .u32 t.a14] (c := w.heap.size) rfl
 have bw := (Below.refl w.heap.size w).alloc (Nat.le_refl _) (.cells #[.int .i64 t.a0, .int .i64 t.a1, .int .i64 t.a2, .int .i64 t.a3, .int .i64 t.a4, .int .i64 t.a5, .int .i64 t.a6, .int .u32 t.a7, .int .i64 t.a8, .int .u32 t.a9, .int .u32 t.a10, .int .u32 t.a11, .int .u32 t.a12, .int .i64 t.a13, .int .u32 t.a14] 50)
 have hz := xB.frozen
 go_enter Tryz.func127, Tryz.ntmps127
 go_upto_region 1 with fail
 generalize w.alloc (.cells #[.int .i64 t.a0, .int .i64 t.a1, .int .i64 t.a2, .int .i64 t.a3, .int .i64 t.a4, .int .i64 t.a5, .int .i64 t.a6, .int .u32 t.a7, .int .i64 t.a8, .int .u32 t.a9, .int .u32 t.a10, .int .u32 t.a11, .int .u32 t.a12, .int .i64 t.a13, .int .u32 t.a14] 50) = W0 at xB bw hz ⊢
 have hle : w.heap.size ≤ w.heap.size := Nat.le_refl _
 have c1 := xB.cell 1 _ rfl
 have c6 := xB.cell 6 _ rfl
 have c7 := xB.cell 7 _ rfl
 have c8 := xB.cell 8 _ rfl
 have c9 := xB.cell 9 _ rfl
 have W1 := fun W => within_any t.a6 0 65535 W
 have W2 := fun W => within_any t.a8 0 3 W
 obtain ⟨v1, hv1⟩ : ∃ v, withinB t.a6 0 65535 = v := ⟨_, rfl⟩
 obtain ⟨v2, hv2⟩ : ∃ v, withinB t.a8 0 3 = v := ⟨_, rfl⟩
 rw [hv1] at W1
 rw [hv2] at W2
 have HM : Hid (msgI t = (v1 && v2 && (t.a1 == 2 || (t.a6 == 0 && t.a7 == 0 && t.a8 == 0 && (t.a1 == 3 || t.a9 == 0))))) := by unfold Hid msgI msgB; rw [hv1, hv2]
 clear hv1 hv2
 cases v1
 ·skip
  have HX : Hid (msgI t = false) := by unfold Hid; rw [HM.out]; rfl
  go_wp2_with (go_at_call 99; first | (have _q := mk1; refine (W2 _).mono ?_; rintro e w' ⟨rfl, rfl⟩) | (refine (W1 _).mono ?_; rintro e w' ⟨rfl, rfl⟩; have mk1 := True.intro))
  go_ret
  exact ⟨ret_bool HX.out.symm, bw⟩
 ·cases v2
  ·skip
   have HX : Hid (msgI t = false) := by unfold Hid; rw [HM.out]; rfl
   go_wp2_with (go_at_call 99; first | (have _q := mk1; refine (W2 _).mono ?_; rintro e w' ⟨rfl, rfl⟩) | (refine (W1 _).mono ?_; rintro e w' ⟨rfl, rfl⟩; have mk1 := True.intro))
   go_ret
   exact ⟨ret_bool HX.out.symm, bw⟩
  ·cases h2 : (t.a1 == 2)
   ·cases h3 : (t.a1 == 3)
    ·skip
     cases h6 : (t.a6 == 0)
     ·skip
      have HX : Hid (msgI t = false) := by unfold Hid; rw [HM.out, h2, h3, h6]; rfl
      go_wp2_with (go_at_call 99; first | (have _q := mk1; refine (W2 _).mono ?_; rintro e w' ⟨rfl, rfl⟩) | (refine (W1 _).mono ?_; rintro e w' ⟨rfl, rfl⟩; have mk1 := True.intro))
      go_ret
      exact ⟨ret_bool HX.out.symm, bw⟩
     ·cases h7 : (t.a7 == 0)
      ·skip
       have HX : Hid (msgI t = false) := by unfold Hid; rw [HM.out, h2, h3, h6, h7]; rfl
       go_wp2_with (go_at_call 99; first | (have _q := mk1; refine (W2 _).mono ?_; rintro e w' ⟨rfl, rfl⟩) | (refine (W1 _).mono ?_; rintro e w' ⟨rfl, rfl⟩; have mk1 := True.intro))
       go_ret
       exact ⟨ret_bool HX.out.symm, bw⟩
      ·cases h8 : (t.a8 == 0)
       ·skip
        have HX : Hid (msgI t = false) := by unfold Hid; rw [HM.out, h2, h3, h6, h7, h8]; rfl
        go_wp2_with (go_at_call 99; first | (have _q := mk1; refine (W2 _).mono ?_; rintro e w' ⟨rfl, rfl⟩) | (refine (W1 _).mono ?_; rintro e w' ⟨rfl, rfl⟩; have mk1 := True.intro))
        go_ret
        exact ⟨ret_bool HX.out.symm, bw⟩
       ·cases h9 : (t.a9 == 0)
        ·skip
         have HX : Hid (msgI t = false) := by unfold Hid; rw [HM.out, h2, h3, h6, h7, h8, h9]; rfl
         go_wp2_with (go_at_call 99; first | (have _q := mk1; refine (W2 _).mono ?_; rintro e w' ⟨rfl, rfl⟩) | (refine (W1 _).mono ?_; rintro e w' ⟨rfl, rfl⟩; have mk1 := True.intro))
         go_ret
         exact ⟨ret_bool HX.out.symm, bw⟩
        ·skip
         have HX : Hid (msgI t = true) := by unfold Hid; rw [HM.out, h2, h3, h6, h7, h8, h9]; rfl
         go_wp2_with (go_at_call 99; first | (have _q := mk1; refine (W2 _).mono ?_; rintro e w' ⟨rfl, rfl⟩) | (refine (W1 _).mono ?_; rintro e w' ⟨rfl, rfl⟩; have mk1 := True.intro))
         go_ret
         exact ⟨ret_bool HX.out.symm, bw⟩
    ·skip
     cases h6 : (t.a6 == 0)
     ·skip
      have HX : Hid (msgI t = false) := by unfold Hid; rw [HM.out, h2, h3, h6]; rfl
      go_wp2_with (go_at_call 99; first | (have _q := mk1; refine (W2 _).mono ?_; rintro e w' ⟨rfl, rfl⟩) | (refine (W1 _).mono ?_; rintro e w' ⟨rfl, rfl⟩; have mk1 := True.intro))
      go_ret
      exact ⟨ret_bool HX.out.symm, ((bw.setCell (p := ⟨w.heap.size, 9, none⟩) hle _))⟩
     ·cases h7 : (t.a7 == 0)
      ·skip
       have HX : Hid (msgI t = false) := by unfold Hid; rw [HM.out, h2, h3, h6, h7]; rfl
       go_wp2_with (go_at_call 99; first | (have _q := mk1; refine (W2 _).mono ?_; rintro e w' ⟨rfl, rfl⟩) | (refine (W1 _).mono ?_; rintro e w' ⟨rfl, rfl⟩; have mk1 := True.intro))
       go_ret
       exact ⟨ret_bool HX.out.symm, ((bw.setCell (p := ⟨w.heap.size, 9, none⟩) hle _))⟩
      ·cases h8 : (t.a8 == 0)
       ·skip
        have HX : Hid (msgI t = false) := by unfold Hid; rw [HM.out, h2, h3, h6, h7, h8]; rfl
        go_wp2_with (go_at_call 99; first | (have _q := mk1; refine (W2 _).mono ?_; rintro e w' ⟨rfl, rfl⟩) | (refine (W1 _).mono ?_; rintro e w' ⟨rfl, rfl⟩; have mk1 := True.intro))
        go_ret
        exact ⟨ret_bool HX.out.symm, ((bw.setCell (p := ⟨w.heap.size, 9, none⟩) hle _))⟩
       ·skip
        have HX : Hid (msgI t = true) := by unfold Hid; rw [HM.out, h2, h3, h6, h7, h8]; rfl
        go_wp2_with (go_at_call 99; first | (have _q := mk1; refine (W2 _).mono ?_; rintro e w' ⟨rfl, rfl⟩) | (refine (W1 _).mono ?_; rintro e w' ⟨rfl, rfl⟩; have mk1 := True.intro))
        go_ret
        exact ⟨ret_bool HX.out.symm, ((bw.setCell (p := ⟨w.heap.size, 9, none⟩) hle _))⟩
   ·skip
    have HX : Hid (msgI t = true) := by unfold Hid; rw [HM.out, h2]; rfl
    go_wp2_with (go_at_call 99; first | (have _q := mk1; refine (W2 _).mono ?_; rintro e w' ⟨rfl, rfl⟩) | (refine (W1 _).mono ?_; rintro e w' ⟨rfl, rfl⟩; have mk1 := True.intro))
    go_ret
    exact ⟨ret_bool HX.out.symm, bw⟩

theorem numMsg (t : QT) : (withinB t.a1 0 5 && withinB t.a2 0 7 && withinB t.a3 0 7 && withinB t.a4 1 4 && msgI t && pendI t && onB t) = threadB t := by
 unfold threadB numB msgI pendI pendB withinB
 generalize msgB t = M
 generalize onB t = N
 rw [Bool.eq_iff_iff]
 cases M <;> cases N <;> simp
 by_cases h : t.a13 = 0
 ·simp [h]; grind
 ·by_cases h2 : 0 < t.a13
  ·simp [h, h2]; grind
  ·simp [h, h2]; grind

end Go.Proofs.YtigpbjcmmgdiaaaGreat
/-
 Whether the numbers of each thread are as they should be, by the program, and the map of threads by their addresses. Conditions: the view lies in memory; addresses are numbers.
-/
namespace Go.Proofs.YtigpbjcmmgdiaaaGreat
open Go.ChangeShapes Go.WideShapes Go.ChangeAt Go.RowKit
set_option linter.unusedVariables false

theorem wpStill_val {P : Program} {ops : Array Oper} {w : World} {Q : Act → Prop} {a : Act} {o : Oper} {rest : List Oper} {v : Value} (hg : o.guard = none) (h : (execOp a.eval o).run P w = .ok (.value v) w) (hk : wpStill P ops w Q rest (a.put o.dst v)) : wpStill P ops w Q (o :: rest) a :=
 wpStill_step fun K hK => by
  have hw : Region.wanted o (yielded ops a.tmps) = true := by unfold Region.wanted; rw [hg]
  rw [if_pos hw]; unfold Oper.still; rw [h]; exact ⟨rfl, hK _ hk⟩
theorem exec_build {ρ : Operand → Value} {o : Oper} {T : TypeId} {parts : Array (Nat × Operand)} {parts' : Array (Nat × Value)} {v : Value} {P : Program} {w : World} (h : o.op = .build T parts) (hp : (parts.map fun (i, x) => (i, ρ x)) = parts') (hr : (Instr.build T parts').run P w = .ok v w) : (execOp ρ o).run P w = .ok (.value v) w := by
 unfold execOp
 rw [h]
 simp only [hp]
 simp [hr, Result.andThen]
theorem buildMem (t : QT) (W : World) : (Instr.build 85 #[(1, .agg #[.int .i64 t.a0, .int .i64 t.a1, .int .i64 t.a2, .int .i64 t.a3, .int .i64 t.a4, .int .i64 t.a5, .int .i64 t.a6, .int .u32 t.a7, .int .i64 t.a8, .int .u32 t.a9, .int .u32 t.a10, .int .u32 t.a11, .int .u32 t.a12, .int .i64 t.a13, .int .u32 t.a14])]).run Tryz.prog W = .ok (.agg #[.int .i64 0, .int .i64 0, .int .i64 t.a0, .int .i64 t.a1, .int .i64 t.a2, .int .i64 t.a3, .int .i64 t.a4, .int .i64 t.a5, .int .i64 t.a6, .int .u32 t.a7, .int .i64 t.a8, .int .u32 t.a9, .int .u32 t.a10, .int .u32 t.a11, .int .u32 t.a12, .int .i64 t.a13, .int .u32 t.a14]) W := by
 kernel_rfl
theorem thrF_step {L : List QT} {k : Nat} (hk : k < L.length) : putV (thrF L k) L[k].a0 (memH (0, 0) L[k]) = thrF L (k + 1) := by
 funext x
 unfold putV
 rw [thrF, List.getElem?_eq_getElem hk]
 simp
def thrInv (w0 : World) (K : QK) (vB tB : Nat) (fs : List Value) (w : World) (v : Value) (W : World) : Prop :=
 ∃ k : Nat, k ≤ K.tl.length ∧ v = .int .i64 (k : Int) ∧ (∀ i (hi : i < K.tl.length), i < k → threadB K.tl[i] = true) ∧ View w0 K vB (fs.set 12 (.map (some tB))) W ∧ MapV W tB k (thrF K.tl k) ∧ But vB w W
theorem butSet {g b : Nat} {a W W' : World} (h : But g a W) (hg : W.grownBy W' (some b)) (hb : a.heap.size ≤ b) : But g a W' :=
 ⟨hg.os.trans h.os, hg.tape.trans h.tape, hg.output.trans h.output, Nat.le_trans h.size hg.size, fun k hk hn => (hg.block k (Nat.lt_of_lt_of_le hk h.size) (fun e => by injection e with e; omega)).trans (h.block k hk hn)⟩
set_option maxRecDepth 100000 in
set_option maxHeartbeats 16000000 in
theorem threadsOk_any (w0 : World) (K : QK) (vB : Nat) (fs : List Value) (w : World) (hs : K.Short) (htf : ∀ t ∈ K.tl, FitI t.a0) (hf : fs[12]? = some (.map none)) (h : View w0 K vB fs w) :
  Calls Tryz.prog 71 #[.pointer (some ⟨vB, 0, none⟩)] w fun e w' => ∃ tB, w.heap.size ≤ tB ∧ e = .returned (.bool (K.tl.all threadB)) ∧ But vB w w' ∧ (K.tl.all threadB = true → View w0 K vB (fs.set 12 (.map (some tB))) w' ∧ MapV w' tB K.tl.length (thrF K.tl K.tl.length)) := by
 have hlent := hs.t
 have HTf : Hid _ := htf
 have hmm := makeMapV 90 85 Tryz.underlying90 K.tl.length
 have HNo : Hid (∀ (k : Nat) (hk : k < K.tl.length), threadB K.tl[k] = false → K.tl.all threadB = false) := fun k hk hx => by rw [List.all_eq_false]; exact ⟨_, List.getElem_mem hk, by simp [hx]⟩
 have HYes : Hid ((∀ i (hi : i < K.tl.length), threadB K.tl[i] = true) → K.tl.all threadB = true) := fun hx => by
  rw [List.all_eq_true]; intro s hs2
  obtain ⟨i, hi, rfl⟩ := List.mem_iff_getElem.1 hs2
  exact hx i hi
 have hlf : 12 < fs.length := (List.getElem?_eq_some_iff.1 hf).1
 have g3 := h.ct
 have f12 := h.snd 12 _ hf
 have hz := h.frozen
 have hvl := h.lt
 have ne1 : ¬ vB = w.heap.size := by omega
 have ne2 : ¬ w.heap.size = vB := by omega
 have h5 := h.below ((Below.refl _ _).alloc (Nat.le_refl _) (.map #[] 0))
 have f5 := h5.snd 12 _ hf
 have z5 := h5.frozen
 clear htf
 go_enter Tryz.func71, Tryz.ntmps71
 go_upto_region 2 with fail
 have v6 := h.set 12 (.map (some w.heap.size))
 have v7 := v6.below ((Below.refl _ _).alloc (Nat.le_refl _) (.map #[] 0))
 have m7 := MapV.new (w.setCell ⟨vB, 27, none⟩ (.map (some w.heap.size)))
 have e7 : (w.setCell ⟨vB, 27, none⟩ (.map (some w.heap.size))).heap.size = w.heap.size := by simp
 rw [e7] at m7
 have b7 : But vB w ((w.setCell ⟨vB, 27, none⟩ (.map (some w.heap.size))).alloc (.map #[] 0)) := ((But.of vB (Below.refl _ _)).set 27 _).trans (But.of vB ((Below.refl _ _).alloc (Nat.le_refl _) _))
 have HVl : Hid (vB < w.heap.size) := hvl
 have HVw : Hid (w0.heap.size ≤ w.heap.size) := h.bw.size
 have HF : Hid (∀ v, (fs.set 12 v)[12]? = some v) := fun v => by rw [List.getElem?_set]; simp [hlf]
 clear h g3 f12 hz hvl ne1 ne2 h5 f5 z5 v6 e7 hmm hf hlf
 generalize (w.setCell ⟨vB, 27, none⟩ (.map (some w.heap.size))).alloc (.map #[] 0) = W5 at v7 m7 b7 ⊢
 obtain ⟨tB, htB⟩ : ∃ tB, w.heap.size = tB := ⟨_, rfl⟩
 rw [htB] at v7 m7 ⊢
 have HTB : Hid (w.heap.size ≤ tB) := by unfold Hid; omega
 clear htB
 have g3 := v7.ct
 go_wp2
 go_loopw [21] (fun v W => thrInv w0 K vB tB fs w v W) (fun v W => K.tl.length - (intOf v).toNat)
 case atStart => exact ⟨0, Nat.zero_le _, rfl, fun i hi h => absurd h (Nat.not_lt_zero _), v7, m7, b7⟩
 case round =>
  clear v7 m7 b7 g3
  obtain ⟨k, hk, rfl, hno, hv, hm, hbu⟩ := hrel
  have HN : Hid _ := hno
  clear hno
  by_cases hlt : k < K.tl.length
  ·have hk1 : (k : Int) < (K.tl.length : Int) := by omega
   have hrow := hv.b.t
   obtain ⟨B, O, hP⟩ := hrow.has hlt
   rw [hP] at hrow
   obtain ⟨t, htl⟩ : ∃ t, K.tl[k] = t := ⟨_, rfl⟩
   have HTl : Hid (K.tl[k] = t) := htl
   have c0 := hrow.at hlt 0 _ rfl; have c1 := hrow.at hlt 1 _ rfl; have c2 := hrow.at hlt 2 _ rfl; have c3 := hrow.at hlt 3 _ rfl; have c4 := hrow.at hlt 4 _ rfl; have c5 := hrow.at hlt 5 _ rfl; have c6 := hrow.at hlt 6 _ rfl; have c7 := hrow.at hlt 7 _ rfl; have c8 := hrow.at hlt 8 _ rfl; have c9 := hrow.at hlt 9 _ rfl; have c10 := hrow.at hlt 10 _ rfl; have c11 := hrow.at hlt 11 _ rfl; have c12 := hrow.at hlt 12 _ rfl; have c13 := hrow.at hlt 13 _ rfl; have c14 := hrow.at hlt 14 _ rfl
   simp only [fT, Nat.add_zero, htl] at c0 c1 c2 c3 c4 c5 c6 c7 c8 c9 c10 c11 c12 c13 c14
   have hft := HTf.out t (by rw [← htl]; exact List.getElem_mem hlt)
   have hix : ∀ W, (Instr.indexAt 37 (.slice K.tP K.tl.length K.tc) (.int .i64 (k : Int))).run Tryz.prog W = .ok (.pointer (some ⟨B, O + k * 15, none⟩)) W := fun W => by rw [hP]; go_simp
   have HX0 : Hid (threadB K.tl[k] = (withinB t.a1 0 5 && withinB t.a2 0 7 && withinB t.a3 0 7 && withinB t.a4 1 4 && msgI t && pendI t && onB t)) := by unfold Hid; rw [htl, numMsg]
   clear hP hrow htl
   go_upto_region 5 with fail
   clear c0 c1 c2 c3 c4 c5 c6 c7 c8 c9 c10 c11 c12 c13 c14 hix
   have hv1 := hv.below ((Below.refl _ _).alloc (Nat.le_refl _) (.cells #[.int .i64 t.a0, .int .i64 t.a1, .int .i64 t.a2, .int .i64 t.a3, .int .i64 t.a4, .int .i64 t.a5, .int .i64 t.a6, .int .u32 t.a7, .int .i64 t.a8, .int .u32 t.a9, .int .u32 t.a10, .int .u32 t.a11, .int .u32 t.a12, .int .i64 t.a13, .int .u32 t.a14] 50))
   have hm1 := hm.below ((Below.refl _ _).alloc (Nat.le_refl _) (.cells #[.int .i64 t.a0, .int .i64 t.a1, .int .i64 t.a2, .int .i64 t.a3, .int .i64 t.a4, .int .i64 t.a5, .int .i64 t.a6, .int .u32 t.a7, .int .i64 t.a8, .int .u32 t.a9, .int .u32 t.a10, .int .u32 t.a11, .int .u32 t.a12, .int .i64 t.a13, .int .u32 t.a14] 50))
   have hbu1 := hbu.trans (But.of vB ((Below.refl _ _).alloc (Nat.le_refl _) (.cells #[.int .i64 t.a0, .int .i64 t.a1, .int .i64 t.a2, .int .i64 t.a3, .int .i64 t.a4, .int .i64 t.a5, .int .i64 t.a6, .int .u32 t.a7, .int .i64 t.a8, .int .u32 t.a9, .int .u32 t.a10, .int .u32 t.a11, .int .u32 t.a12, .int .i64 t.a13, .int .u32 t.a14] 50)))
   have cx1 := Bx.newAt wr 50 [.int .i64 t.a0, .int .i64 t.a1, .int .i64 t.a2, .int .i64 t.a3, .int .i64 t.a4, .int .i64 t.a5, .int .i64 t.a6, .int .u32 t.a7, .int .i64 t.a8, .int .u32 t.a9, .int .u32 t.a10, .int .u32 t.a11, .int .u32 t.a12, .int .i64 t.a13, .int .u32 t.a14] rfl
   generalize wr.alloc (.cells #[.int .i64 t.a0, .int .i64 t.a1, .int .i64 t.a2, .int .i64 t.a3, .int .i64 t.a4, .int .i64 t.a5, .int .i64 t.a6, .int .u32 t.a7, .int .i64 t.a8, .int .u32 t.a9, .int .u32 t.a10, .int .u32 t.a11, .int .u32 t.a12, .int .i64 t.a13, .int .u32 t.a14] 50) = W1 at hv1 hm1 hbu1 cx1 ⊢
   generalize wr.heap.size = cB at cx1 ⊢
   clear hv hm hbu
   have c0 := cx1.cell 0 _ rfl; have c1 := cx1.cell 1 _ rfl; have c2 := cx1.cell 2 _ rfl; have c3 := cx1.cell 3 _ rfl; have c4 := cx1.cell 4 _ rfl; have c5 := cx1.cell 5 _ rfl; have c6 := cx1.cell 6 _ rfl; have c7 := cx1.cell 7 _ rfl; have c8 := cx1.cell 8 _ rfl; have c9 := cx1.cell 9 _ rfl; have c10 := cx1.cell 10 _ rfl; have c11 := cx1.cell 11 _ rfl; have c12 := cx1.cell 12 _ rfl; have c13 := cx1.cell 13 _ rfl; have c14 := cx1.cell 14 _ rfl
   have W1 := fun W => within_any t.a1 0 5 W
   have W2 := fun W => within_any t.a2 0 7 W
   have W3 := fun W => within_any t.a3 0 7 W
   have W4 := fun W => within_any t.a4 1 4 W
   have W5 := fun W => msgOk_any t W
   have W6 := fun W => pendOk_any t W
   have W7 := fun W => onOk_any t W
   obtain ⟨v1, hv1'⟩ : ∃ v, withinB t.a1 0 5 = v := ⟨_, rfl⟩
   rw [hv1'] at W1 HX0
   clear hv1'
   obtain ⟨v2, hv2'⟩ : ∃ v, withinB t.a2 0 7 = v := ⟨_, rfl⟩
   rw [hv2'] at W2 HX0
   clear hv2'
   obtain ⟨v3, hv3'⟩ : ∃ v, withinB t.a3 0 7 = v := ⟨_, rfl⟩
   rw [hv3'] at W3 HX0
   clear hv3'
   obtain ⟨v4, hv4'⟩ : ∃ v, withinB t.a4 1 4 = v := ⟨_, rfl⟩
   rw [hv4'] at W4 HX0
   clear hv4'
   obtain ⟨v5, hv5'⟩ : ∃ v, msgI t = v := ⟨_, rfl⟩
   rw [hv5'] at W5 HX0
   clear hv5'
   obtain ⟨v6, hv6'⟩ : ∃ v, pendI t = v := ⟨_, rfl⟩
   rw [hv6'] at W6 HX0
   clear hv6'
   obtain ⟨v7, hv7'⟩ : ∃ v, onB t = v := ⟨_, rfl⟩
   rw [hv7'] at W7 HX0
   clear hv7'
   have HX := HX0
   clear HX0
   cases v1
   ·as_aux_lemma =>
    go_upto_if 61 with (first
       | (go_at_call 99; first | (have _q := mk3; refine (W4 _).mono ?_; rintro e w' ⟨rfl, hq⟩; have hq := hq.symm; subst hq) | (have _q := mk2; refine (W3 _).mono ?_; rintro e w' ⟨rfl, hq⟩; have hq := hq.symm; subst hq; have mk3 := True.intro) | (have _q := mk1; refine (W2 _).mono ?_; rintro e w' ⟨rfl, hq⟩; have hq := hq.symm; subst hq; have mk2 := True.intro) | (refine (W1 _).mono ?_; rintro e w' ⟨rfl, hq⟩; have hq := hq.symm; subst hq; have mk1 := True.intro))
       | (go_at_call 127; refine (W5 _).mono ?_; rintro e wm ⟨rfl, hbm⟩; have cxm := cx1.below hbm; have m0 := cxm.cell 0 _ rfl; have m1 := cxm.cell 1 _ rfl; have m2 := cxm.cell 2 _ rfl; have m3 := cxm.cell 3 _ rfl; have m4 := cxm.cell 4 _ rfl; have m5 := cxm.cell 5 _ rfl; have m6 := cxm.cell 6 _ rfl; have m7 := cxm.cell 7 _ rfl; have m8 := cxm.cell 8 _ rfl; have m9 := cxm.cell 9 _ rfl; have m10 := cxm.cell 10 _ rfl; have m11 := cxm.cell 11 _ rfl; have m12 := cxm.cell 12 _ rfl; have m13 := cxm.cell 13 _ rfl; have m14 := cxm.cell 14 _ rfl)
       | (go_at_call 128; refine (W6 _).mono ?_; rintro e wp ⟨rfl, hbp⟩; have cxp := cxm.below hbp; have p0 := cxp.cell 0 _ rfl; have p1 := cxp.cell 1 _ rfl; have p2 := cxp.cell 2 _ rfl; have p3 := cxp.cell 3 _ rfl; have p4 := cxp.cell 4 _ rfl; have p5 := cxp.cell 5 _ rfl; have p6 := cxp.cell 6 _ rfl; have p7 := cxp.cell 7 _ rfl; have p8 := cxp.cell 8 _ rfl; have p9 := cxp.cell 9 _ rfl; have p10 := cxp.cell 10 _ rfl; have p11 := cxp.cell 11 _ rfl; have p12 := cxp.cell 12 _ rfl; have p13 := cxp.cell 13 _ rfl; have p14 := cxp.cell 14 _ rfl)
       | (go_at_call 129; refine (W7 _).mono ?_; rintro e wo ⟨rfl, hbo⟩))
    go_wp2
    go_ret
    exact ⟨tB, HTB.out, ret_bool (HNo.out k hlt (by rw [HX.out]; simp)).symm, (by first | exact hbu1 | exact But.trans hbu1 (But.of vB hbm) | exact But.trans hbu1 (But.of vB (hbm.trans (hbp.mono hbm.size))) | exact But.trans hbu1 (But.of vB ((hbm.trans (hbp.mono hbm.size)).trans (hbo.mono (hbm.trans (hbp.mono hbm.size)).size)))), fun hc => by rw [HNo.out k hlt (by rw [HX.out]; simp)] at hc; cases hc⟩
   ·skip
    cases v2
    ·as_aux_lemma =>
     go_upto_if 61 with (first
       | (go_at_call 99; first | (have _q := mk3; refine (W4 _).mono ?_; rintro e w' ⟨rfl, hq⟩; have hq := hq.symm; subst hq) | (have _q := mk2; refine (W3 _).mono ?_; rintro e w' ⟨rfl, hq⟩; have hq := hq.symm; subst hq; have mk3 := True.intro) | (have _q := mk1; refine (W2 _).mono ?_; rintro e w' ⟨rfl, hq⟩; have hq := hq.symm; subst hq; have mk2 := True.intro) | (refine (W1 _).mono ?_; rintro e w' ⟨rfl, hq⟩; have hq := hq.symm; subst hq; have mk1 := True.intro))
       | (go_at_call 127; refine (W5 _).mono ?_; rintro e wm ⟨rfl, hbm⟩; have cxm := cx1.below hbm; have m0 := cxm.cell 0 _ rfl; have m1 := cxm.cell 1 _ rfl; have m2 := cxm.cell 2 _ rfl; have m3 := cxm.cell 3 _ rfl; have m4 := cxm.cell 4 _ rfl; have m5 := cxm.cell 5 _ rfl; have m6 := cxm.cell 6 _ rfl; have m7 := cxm.cell 7 _ rfl; have m8 := cxm.cell 8 _ rfl; have m9 := cxm.cell 9 _ rfl; have m10 := cxm.cell 10 _ rfl; have m11 := cxm.cell 11 _ rfl; have m12 := cxm.cell 12 _ rfl; have m13 := cxm.cell 13 _ rfl; have m14 := cxm.cell 14 _ rfl)
       | (go_at_call 128; refine (W6 _).mono ?_; rintro e wp ⟨rfl, hbp⟩; have cxp := cxm.below hbp; have p0 := cxp.cell 0 _ rfl; have p1 := cxp.cell 1 _ rfl; have p2 := cxp.cell 2 _ rfl; have p3 := cxp.cell 3 _ rfl; have p4 := cxp.cell 4 _ rfl; have p5 := cxp.cell 5 _ rfl; have p6 := cxp.cell 6 _ rfl; have p7 := cxp.cell 7 _ rfl; have p8 := cxp.cell 8 _ rfl; have p9 := cxp.cell 9 _ rfl; have p10 := cxp.cell 10 _ rfl; have p11 := cxp.cell 11 _ rfl; have p12 := cxp.cell 12 _ rfl; have p13 := cxp.cell 13 _ rfl; have p14 := cxp.cell 14 _ rfl)
       | (go_at_call 129; refine (W7 _).mono ?_; rintro e wo ⟨rfl, hbo⟩))
     go_wp2
     go_ret
     exact ⟨tB, HTB.out, ret_bool (HNo.out k hlt (by rw [HX.out]; simp)).symm, (by first | exact hbu1 | exact But.trans hbu1 (But.of vB hbm) | exact But.trans hbu1 (But.of vB (hbm.trans (hbp.mono hbm.size))) | exact But.trans hbu1 (But.of vB ((hbm.trans (hbp.mono hbm.size)).trans (hbo.mono (hbm.trans (hbp.mono hbm.size)).size)))), fun hc => by rw [HNo.out k hlt (by rw [HX.out]; simp)] at hc; cases hc⟩
    ·skip
     cases v3
     ·as_aux_lemma =>
      go_upto_if 61 with (first
       | (go_at_call 99; first | (have _q := mk3; refine (W4 _).mono ?_; rintro e w' ⟨rfl, hq⟩; have hq := hq.symm; subst hq) | (have _q := mk2; refine (W3 _).mono ?_; rintro e w' ⟨rfl, hq⟩; have hq := hq.symm; subst hq; have mk3 := True.intro) | (have _q := mk1; refine (W2 _).mono ?_; rintro e w' ⟨rfl, hq⟩; have hq := hq.symm; subst hq; have mk2 := True.intro) | (refine (W1 _).mono ?_; rintro e w' ⟨rfl, hq⟩; have hq := hq.symm; subst hq; have mk1 := True.intro))
       | (go_at_call 127; refine (W5 _).mono ?_; rintro e wm ⟨rfl, hbm⟩; have cxm := cx1.below hbm; have m0 := cxm.cell 0 _ rfl; have m1 := cxm.cell 1 _ rfl; have m2 := cxm.cell 2 _ rfl; have m3 := cxm.cell 3 _ rfl; have m4 := cxm.cell 4 _ rfl; have m5 := cxm.cell 5 _ rfl; have m6 := cxm.cell 6 _ rfl; have m7 := cxm.cell 7 _ rfl; have m8 := cxm.cell 8 _ rfl; have m9 := cxm.cell 9 _ rfl; have m10 := cxm.cell 10 _ rfl; have m11 := cxm.cell 11 _ rfl; have m12 := cxm.cell 12 _ rfl; have m13 := cxm.cell 13 _ rfl; have m14 := cxm.cell 14 _ rfl)
       | (go_at_call 128; refine (W6 _).mono ?_; rintro e wp ⟨rfl, hbp⟩; have cxp := cxm.below hbp; have p0 := cxp.cell 0 _ rfl; have p1 := cxp.cell 1 _ rfl; have p2 := cxp.cell 2 _ rfl; have p3 := cxp.cell 3 _ rfl; have p4 := cxp.cell 4 _ rfl; have p5 := cxp.cell 5 _ rfl; have p6 := cxp.cell 6 _ rfl; have p7 := cxp.cell 7 _ rfl; have p8 := cxp.cell 8 _ rfl; have p9 := cxp.cell 9 _ rfl; have p10 := cxp.cell 10 _ rfl; have p11 := cxp.cell 11 _ rfl; have p12 := cxp.cell 12 _ rfl; have p13 := cxp.cell 13 _ rfl; have p14 := cxp.cell 14 _ rfl)
       | (go_at_call 129; refine (W7 _).mono ?_; rintro e wo ⟨rfl, hbo⟩))
      go_wp2
      go_ret
      exact ⟨tB, HTB.out, ret_bool (HNo.out k hlt (by rw [HX.out]; simp)).symm, (by first | exact hbu1 | exact But.trans hbu1 (But.of vB hbm) | exact But.trans hbu1 (But.of vB (hbm.trans (hbp.mono hbm.size))) | exact But.trans hbu1 (But.of vB ((hbm.trans (hbp.mono hbm.size)).trans (hbo.mono (hbm.trans (hbp.mono hbm.size)).size)))), fun hc => by rw [HNo.out k hlt (by rw [HX.out]; simp)] at hc; cases hc⟩
     ·skip
      cases v4
      ·as_aux_lemma =>
       go_upto_if 61 with (first
       | (go_at_call 99; first | (have _q := mk3; refine (W4 _).mono ?_; rintro e w' ⟨rfl, hq⟩; have hq := hq.symm; subst hq) | (have _q := mk2; refine (W3 _).mono ?_; rintro e w' ⟨rfl, hq⟩; have hq := hq.symm; subst hq; have mk3 := True.intro) | (have _q := mk1; refine (W2 _).mono ?_; rintro e w' ⟨rfl, hq⟩; have hq := hq.symm; subst hq; have mk2 := True.intro) | (refine (W1 _).mono ?_; rintro e w' ⟨rfl, hq⟩; have hq := hq.symm; subst hq; have mk1 := True.intro))
       | (go_at_call 127; refine (W5 _).mono ?_; rintro e wm ⟨rfl, hbm⟩; have cxm := cx1.below hbm; have m0 := cxm.cell 0 _ rfl; have m1 := cxm.cell 1 _ rfl; have m2 := cxm.cell 2 _ rfl; have m3 := cxm.cell 3 _ rfl; have m4 := cxm.cell 4 _ rfl; have m5 := cxm.cell 5 _ rfl; have m6 := cxm.cell 6 _ rfl; have m7 := cxm.cell 7 _ rfl; have m8 := cxm.cell 8 _ rfl; have m9 := cxm.cell 9 _ rfl; have m10 := cxm.cell 10 _ rfl; have m11 := cxm.cell 11 _ rfl; have m12 := cxm.cell 12 _ rfl; have m13 := cxm.cell 13 _ rfl; have m14 := cxm.cell 14 _ rfl)
       | (go_at_call 128; refine (W6 _).mono ?_; rintro e wp ⟨rfl, hbp⟩; have cxp := cxm.below hbp; have p0 := cxp.cell 0 _ rfl; have p1 := cxp.cell 1 _ rfl; have p2 := cxp.cell 2 _ rfl; have p3 := cxp.cell 3 _ rfl; have p4 := cxp.cell 4 _ rfl; have p5 := cxp.cell 5 _ rfl; have p6 := cxp.cell 6 _ rfl; have p7 := cxp.cell 7 _ rfl; have p8 := cxp.cell 8 _ rfl; have p9 := cxp.cell 9 _ rfl; have p10 := cxp.cell 10 _ rfl; have p11 := cxp.cell 11 _ rfl; have p12 := cxp.cell 12 _ rfl; have p13 := cxp.cell 13 _ rfl; have p14 := cxp.cell 14 _ rfl)
       | (go_at_call 129; refine (W7 _).mono ?_; rintro e wo ⟨rfl, hbo⟩))
       go_wp2
       go_ret
       exact ⟨tB, HTB.out, ret_bool (HNo.out k hlt (by rw [HX.out]; simp)).symm, (by first | exact hbu1 | exact But.trans hbu1 (But.of vB hbm) | exact But.trans hbu1 (But.of vB (hbm.trans (hbp.mono hbm.size))) | exact But.trans hbu1 (But.of vB ((hbm.trans (hbp.mono hbm.size)).trans (hbo.mono (hbm.trans (hbp.mono hbm.size)).size)))), fun hc => by rw [HNo.out k hlt (by rw [HX.out]; simp)] at hc; cases hc⟩
      ·skip
       cases v5
       ·as_aux_lemma =>
        go_upto_if 61 with (first
       | (go_at_call 99; first | (have _q := mk3; refine (W4 _).mono ?_; rintro e w' ⟨rfl, hq⟩; have hq := hq.symm; subst hq) | (have _q := mk2; refine (W3 _).mono ?_; rintro e w' ⟨rfl, hq⟩; have hq := hq.symm; subst hq; have mk3 := True.intro) | (have _q := mk1; refine (W2 _).mono ?_; rintro e w' ⟨rfl, hq⟩; have hq := hq.symm; subst hq; have mk2 := True.intro) | (refine (W1 _).mono ?_; rintro e w' ⟨rfl, hq⟩; have hq := hq.symm; subst hq; have mk1 := True.intro))
       | (go_at_call 127; refine (W5 _).mono ?_; rintro e wm ⟨rfl, hbm⟩; have cxm := cx1.below hbm; have m0 := cxm.cell 0 _ rfl; have m1 := cxm.cell 1 _ rfl; have m2 := cxm.cell 2 _ rfl; have m3 := cxm.cell 3 _ rfl; have m4 := cxm.cell 4 _ rfl; have m5 := cxm.cell 5 _ rfl; have m6 := cxm.cell 6 _ rfl; have m7 := cxm.cell 7 _ rfl; have m8 := cxm.cell 8 _ rfl; have m9 := cxm.cell 9 _ rfl; have m10 := cxm.cell 10 _ rfl; have m11 := cxm.cell 11 _ rfl; have m12 := cxm.cell 12 _ rfl; have m13 := cxm.cell 13 _ rfl; have m14 := cxm.cell 14 _ rfl)
       | (go_at_call 128; refine (W6 _).mono ?_; rintro e wp ⟨rfl, hbp⟩; have cxp := cxm.below hbp; have p0 := cxp.cell 0 _ rfl; have p1 := cxp.cell 1 _ rfl; have p2 := cxp.cell 2 _ rfl; have p3 := cxp.cell 3 _ rfl; have p4 := cxp.cell 4 _ rfl; have p5 := cxp.cell 5 _ rfl; have p6 := cxp.cell 6 _ rfl; have p7 := cxp.cell 7 _ rfl; have p8 := cxp.cell 8 _ rfl; have p9 := cxp.cell 9 _ rfl; have p10 := cxp.cell 10 _ rfl; have p11 := cxp.cell 11 _ rfl; have p12 := cxp.cell 12 _ rfl; have p13 := cxp.cell 13 _ rfl; have p14 := cxp.cell 14 _ rfl)
       | (go_at_call 129; refine (W7 _).mono ?_; rintro e wo ⟨rfl, hbo⟩))
        go_wp2
        go_ret
        exact ⟨tB, HTB.out, ret_bool (HNo.out k hlt (by rw [HX.out]; simp)).symm, (by first | exact hbu1 | exact But.trans hbu1 (But.of vB hbm) | exact But.trans hbu1 (But.of vB (hbm.trans (hbp.mono hbm.size))) | exact But.trans hbu1 (But.of vB ((hbm.trans (hbp.mono hbm.size)).trans (hbo.mono (hbm.trans (hbp.mono hbm.size)).size)))), fun hc => by rw [HNo.out k hlt (by rw [HX.out]; simp)] at hc; cases hc⟩
       ·skip
        cases v6
        ·as_aux_lemma =>
         go_upto_if 61 with (first
       | (go_at_call 99; first | (have _q := mk3; refine (W4 _).mono ?_; rintro e w' ⟨rfl, hq⟩; have hq := hq.symm; subst hq) | (have _q := mk2; refine (W3 _).mono ?_; rintro e w' ⟨rfl, hq⟩; have hq := hq.symm; subst hq; have mk3 := True.intro) | (have _q := mk1; refine (W2 _).mono ?_; rintro e w' ⟨rfl, hq⟩; have hq := hq.symm; subst hq; have mk2 := True.intro) | (refine (W1 _).mono ?_; rintro e w' ⟨rfl, hq⟩; have hq := hq.symm; subst hq; have mk1 := True.intro))
       | (go_at_call 127; refine (W5 _).mono ?_; rintro e wm ⟨rfl, hbm⟩; have cxm := cx1.below hbm; have m0 := cxm.cell 0 _ rfl; have m1 := cxm.cell 1 _ rfl; have m2 := cxm.cell 2 _ rfl; have m3 := cxm.cell 3 _ rfl; have m4 := cxm.cell 4 _ rfl; have m5 := cxm.cell 5 _ rfl; have m6 := cxm.cell 6 _ rfl; have m7 := cxm.cell 7 _ rfl; have m8 := cxm.cell 8 _ rfl; have m9 := cxm.cell 9 _ rfl; have m10 := cxm.cell 10 _ rfl; have m11 := cxm.cell 11 _ rfl; have m12 := cxm.cell 12 _ rfl; have m13 := cxm.cell 13 _ rfl; have m14 := cxm.cell 14 _ rfl)
       | (go_at_call 128; refine (W6 _).mono ?_; rintro e wp ⟨rfl, hbp⟩; have cxp := cxm.below hbp; have p0 := cxp.cell 0 _ rfl; have p1 := cxp.cell 1 _ rfl; have p2 := cxp.cell 2 _ rfl; have p3 := cxp.cell 3 _ rfl; have p4 := cxp.cell 4 _ rfl; have p5 := cxp.cell 5 _ rfl; have p6 := cxp.cell 6 _ rfl; have p7 := cxp.cell 7 _ rfl; have p8 := cxp.cell 8 _ rfl; have p9 := cxp.cell 9 _ rfl; have p10 := cxp.cell 10 _ rfl; have p11 := cxp.cell 11 _ rfl; have p12 := cxp.cell 12 _ rfl; have p13 := cxp.cell 13 _ rfl; have p14 := cxp.cell 14 _ rfl)
       | (go_at_call 129; refine (W7 _).mono ?_; rintro e wo ⟨rfl, hbo⟩))
         go_wp2
         go_ret
         exact ⟨tB, HTB.out, ret_bool (HNo.out k hlt (by rw [HX.out]; simp)).symm, (by first | exact hbu1 | exact But.trans hbu1 (But.of vB hbm) | exact But.trans hbu1 (But.of vB (hbm.trans (hbp.mono hbm.size))) | exact But.trans hbu1 (But.of vB ((hbm.trans (hbp.mono hbm.size)).trans (hbo.mono (hbm.trans (hbp.mono hbm.size)).size)))), fun hc => by rw [HNo.out k hlt (by rw [HX.out]; simp)] at hc; cases hc⟩
        ·skip
         cases v7
         ·as_aux_lemma =>
          go_upto_if 61 with (first
       | (go_at_call 99; first | (have _q := mk3; refine (W4 _).mono ?_; rintro e w' ⟨rfl, hq⟩; have hq := hq.symm; subst hq) | (have _q := mk2; refine (W3 _).mono ?_; rintro e w' ⟨rfl, hq⟩; have hq := hq.symm; subst hq; have mk3 := True.intro) | (have _q := mk1; refine (W2 _).mono ?_; rintro e w' ⟨rfl, hq⟩; have hq := hq.symm; subst hq; have mk2 := True.intro) | (refine (W1 _).mono ?_; rintro e w' ⟨rfl, hq⟩; have hq := hq.symm; subst hq; have mk1 := True.intro))
       | (go_at_call 127; refine (W5 _).mono ?_; rintro e wm ⟨rfl, hbm⟩; have cxm := cx1.below hbm; have m0 := cxm.cell 0 _ rfl; have m1 := cxm.cell 1 _ rfl; have m2 := cxm.cell 2 _ rfl; have m3 := cxm.cell 3 _ rfl; have m4 := cxm.cell 4 _ rfl; have m5 := cxm.cell 5 _ rfl; have m6 := cxm.cell 6 _ rfl; have m7 := cxm.cell 7 _ rfl; have m8 := cxm.cell 8 _ rfl; have m9 := cxm.cell 9 _ rfl; have m10 := cxm.cell 10 _ rfl; have m11 := cxm.cell 11 _ rfl; have m12 := cxm.cell 12 _ rfl; have m13 := cxm.cell 13 _ rfl; have m14 := cxm.cell 14 _ rfl)
       | (go_at_call 128; refine (W6 _).mono ?_; rintro e wp ⟨rfl, hbp⟩; have cxp := cxm.below hbp; have p0 := cxp.cell 0 _ rfl; have p1 := cxp.cell 1 _ rfl; have p2 := cxp.cell 2 _ rfl; have p3 := cxp.cell 3 _ rfl; have p4 := cxp.cell 4 _ rfl; have p5 := cxp.cell 5 _ rfl; have p6 := cxp.cell 6 _ rfl; have p7 := cxp.cell 7 _ rfl; have p8 := cxp.cell 8 _ rfl; have p9 := cxp.cell 9 _ rfl; have p10 := cxp.cell 10 _ rfl; have p11 := cxp.cell 11 _ rfl; have p12 := cxp.cell 12 _ rfl; have p13 := cxp.cell 13 _ rfl; have p14 := cxp.cell 14 _ rfl)
       | (go_at_call 129; refine (W7 _).mono ?_; rintro e wo ⟨rfl, hbo⟩))
          go_wp2
          go_ret
          exact ⟨tB, HTB.out, ret_bool (HNo.out k hlt (by rw [HX.out]; simp)).symm, (by first | exact hbu1 | exact But.trans hbu1 (But.of vB hbm) | exact But.trans hbu1 (But.of vB (hbm.trans (hbp.mono hbm.size))) | exact But.trans hbu1 (But.of vB ((hbm.trans (hbp.mono hbm.size)).trans (hbo.mono (hbm.trans (hbp.mono hbm.size)).size)))), fun hc => by rw [HNo.out k hlt (by rw [HX.out]; simp)] at hc; cases hc⟩
         ·as_aux_lemma =>
          go_upto_region 7 with (first
       | (go_at_call 99; first | (have _q := mk3; refine (W4 _).mono ?_; rintro e w' ⟨rfl, hq⟩; have hq := hq.symm; subst hq) | (have _q := mk2; refine (W3 _).mono ?_; rintro e w' ⟨rfl, hq⟩; have hq := hq.symm; subst hq; have mk3 := True.intro) | (have _q := mk1; refine (W2 _).mono ?_; rintro e w' ⟨rfl, hq⟩; have hq := hq.symm; subst hq; have mk2 := True.intro) | (refine (W1 _).mono ?_; rintro e w' ⟨rfl, hq⟩; have hq := hq.symm; subst hq; have mk1 := True.intro))
       | (go_at_call 127; refine (W5 _).mono ?_; rintro e wm ⟨rfl, hbm⟩; have cxm := cx1.below hbm; have m0 := cxm.cell 0 _ rfl; have m1 := cxm.cell 1 _ rfl; have m2 := cxm.cell 2 _ rfl; have m3 := cxm.cell 3 _ rfl; have m4 := cxm.cell 4 _ rfl; have m5 := cxm.cell 5 _ rfl; have m6 := cxm.cell 6 _ rfl; have m7 := cxm.cell 7 _ rfl; have m8 := cxm.cell 8 _ rfl; have m9 := cxm.cell 9 _ rfl; have m10 := cxm.cell 10 _ rfl; have m11 := cxm.cell 11 _ rfl; have m12 := cxm.cell 12 _ rfl; have m13 := cxm.cell 13 _ rfl; have m14 := cxm.cell 14 _ rfl)
       | (go_at_call 128; refine (W6 _).mono ?_; rintro e wp ⟨rfl, hbp⟩; have cxp := cxm.below hbp; have p0 := cxp.cell 0 _ rfl; have p1 := cxp.cell 1 _ rfl; have p2 := cxp.cell 2 _ rfl; have p3 := cxp.cell 3 _ rfl; have p4 := cxp.cell 4 _ rfl; have p5 := cxp.cell 5 _ rfl; have p6 := cxp.cell 6 _ rfl; have p7 := cxp.cell 7 _ rfl; have p8 := cxp.cell 8 _ rfl; have p9 := cxp.cell 9 _ rfl; have p10 := cxp.cell 10 _ rfl; have p11 := cxp.cell 11 _ rfl; have p12 := cxp.cell 12 _ rfl; have p13 := cxp.cell 13 _ rfl; have p14 := cxp.cell 14 _ rfl)
       | (go_at_call 129; refine (W7 _).mono ?_; rintro e wo ⟨rfl, hbo⟩))
          have hb2 := (hbm.trans (hbp.mono hbm.size)).trans (hbo.mono (hbm.trans (hbp.mono hbm.size)).size)
          have hv3 := hv1.below hb2
          have hm3 := hm1.below hb2
          have hbu3 := hbu1.trans (But.of vB hb2)
          have cx3 := cx1.below hb2
          clear hv1 hm1 hbu1 cx1 hbm hbp hbo hb2 cxm cxp c0 c1 c2 c3 c4 c5 c6 c7 c8 c9 c10 c11 c12 c13 c14 m0 m1 m2 m3 m4 m5 m6 m7 m8 m9 m10 m11 m12 m13 m14 p0 p1 p2 p3 p4 p5 p6 p7 p8 p9 p10 p11 p12 p13 p14
          have y0 := cx3.cell 0 _ rfl; have y1 := cx3.cell 1 _ rfl; have y2 := cx3.cell 2 _ rfl; have y3 := cx3.cell 3 _ rfl; have y4 := cx3.cell 4 _ rfl; have y5 := cx3.cell 5 _ rfl; have y6 := cx3.cell 6 _ rfl; have y7 := cx3.cell 7 _ rfl; have y8 := cx3.cell 8 _ rfl; have y9 := cx3.cell 9 _ rfl; have y10 := cx3.cell 10 _ rfl; have y11 := cx3.cell 11 _ rfl; have y12 := cx3.cell 12 _ rfl; have y13 := cx3.cell 13 _ rfl; have y14 := cx3.cell 14 _ rfl
          have g27 := hv3.snd 12 _ (HF.out _)
          obtain ⟨W', hrun, hm4, hg⟩ := (hm3.below (Below.refl _ _).drew).put Tryz.underlying90 (by unfold maxLen; omega) (x := t.a0) hft (.agg #[.int .i64 0, .int .i64 0, .int .i64 t.a0, .int .i64 t.a1, .int .i64 t.a2, .int .i64 t.a3, .int .i64 t.a4, .int .i64 t.a5, .int .i64 t.a6, .int .u32 t.a7, .int .i64 t.a8, .int .u32 t.a9, .int .u32 t.a10, .int .u32 t.a11, .int .u32 t.a12, .int .i64 t.a13, .int .u32 t.a14])
          have HM : Hid (MapV W' tB (k + 1) (thrF K.tl (k + 1))) := by unfold Hid; rw [← thrF_step hlt, HTl.out]; exact hm4
          have HG : Hid _ := hg
          have hnx : vB ≠ tB := by have := HTB.out; have := HVl.out; omega
          clear hm4 hg W1 W2 W3 W4 W5 W6 W7 hm3
          have hmx : Tryz.prog.follows .mixedOrders = true := by kernel_rfl
          refine wp_region_still_tail 8 hmx (by kernel_rfl) ?_
          simp only [List.take_succ_cons, List.take_zero, List.drop_succ_cons, List.drop_zero]
          iterate 7 still_step
          refine wpStill_val rfl (exec_build rfl (by kernel_rfl) (buildMem t _)) ?_
          refine wpStill_nil ?_
          go_wp2
          go_roundw
          case rel => exact ⟨k + 1, by omega, by go_num, fun i hi h => by by_cases e : i = k; subst e; rw [HX.out]; rfl; exact HN.out i hi (by omega), hv3.drew.but HG.out hnx (by have := HTB.out; have := HVw.out; omega), HM.out, butSet (hbu3.trans (But.of vB (Below.refl _ _).drew)) HG.out HTB.out⟩
          case measure => simp [intOf]; omega
  ·have hk1 : ¬ (k : Int) < (K.tl.length : Int) := by omega
   have hke : k = K.tl.length := by omega
   have hall := HYes.out (fun i hi => HN.out i hi (by omega))
   rw [hke] at hm
   have HAll : Hid _ := hall
   clear hall hke
   go_wp2
   go_ret
   exact ⟨tB, HTB.out, ret_bool HAll.out.symm, hbu, fun _ => ⟨hv, hm⟩⟩

end Go.Proofs.YtigpbjcmmgdiaaaGreat
