/-
  The program's check of one who gets something, and of something shared.
-/
import Derived.Test.YtjiignkappabpaaDoorBootFault
import Derived.Test.YtjiignkappabpaaDoorSlots
import Derived.Deep.CutRange
import Derived.Deep.DeepCutAuto
import Derived.WalkSmall
namespace Go.Proofs.YtjiignkappabpaaDoor
open Go.ChangeShapes Go.WideShapes Go.ChangeAt Go.RowKit
set_option linter.unusedVariables false

theorem place_eq (n i : Int) (w : World) (b : Bool) (hn : -1000 ≤ n) (hn2 : n ≤ 1000000) (h : withinB i 0 (n - 1) = b) :
    Calls Tryd.prog 52 #[.int .i64 n, .int .i64 i] w fun e w' => e = .returned (.bool b) ∧ w' = w := by
  go_enter Tryd.func52, Tryd.ntmps52
  go_wp2_with ((go_at_call 41; refine Calls.mono (within_eq _ _ _ _ b (by first | exact h | assumption)) ?_; rintro e w' ⟨rfl, rfl⟩))
  go_ret
  exact ⟨rfl, rfl⟩

/-! ### One who gets something. -/
set_option maxRecDepth 100000 in
set_option maxHeartbeats 2000000 in
theorem toFault_4a (n : Int) (t : QO) (w : World) (e0 e1 e2 e3 e4 : Addr) (hS : Sents w e0 e1 e2 e3 e4) (hn : -1000 ≤ n) (hn2 : n ≤ 1000000) (h1 : withinB t.dm 0 (n - 1) = false) :
    Calls Tryd.prog 45 #[.int .i64 4, .int .i64 n, .agg #[.int .i64 t.dm, .int .i64 t.rt, .int .i64 t.bd]] w fun e w' => ∃ v, e = .returned v ∧ ErrO w' 0 false v ∧ Below w.heap.size w w' := by
  have bw : Below w.heap.size w (w.alloc (.cells #[.int .i64 t.dm, .int .i64 t.rt, .int .i64 t.bd] 61)) := (Below.refl _ _).alloc (Nat.le_refl _) _
  have hS1 := hS.below bw
  have hx := Bx.new w 61 [.int .i64 t.dm, .int .i64 t.rt, .int .i64 t.bd]
  go_enter Tryd.func45, Tryd.ntmps45
  go_upto_region 7 with fail
  generalize hW0 : w.alloc (.cells #[.int .i64 t.dm, .int .i64 t.rt, .int .i64 t.bd] 61) = w0 at bw hS1 ⊢
  have hx0 : Bx w0 w.heap.size 61 [.int .i64 t.dm, .int .i64 t.rt, .int .i64 t.bd] := by rw [← hW0]; exact hx
  clear hW0 hx
  have p0 := cell_regrown (hx0.cell 0 _ rfl)
  have p1 := cell_regrown (hx0.cell 1 _ rfl)
  have p2 := cell_regrown (hx0.cell 2 _ rfl)
  refine wq_region (by kernel_rfl) (by kernel_rfl) ?_
  repeat (first | (refine wq_step (fun K hK => ?_); go_simp; first | (refine hK _ ?_; clear hK K) | (apply Exists.intro; refine ⟨fun _ => ?_, hK _ ?_⟩; (first | (go_at_call 52; exact Calls.regrown_of (Calls.mono (place_eq _ _ _ _ hn hn2 h1) (fun e w' h => ⟨h.1, h.2 ▸ Below.refl _ _⟩)))); clear hK K)))
  refine wq_nil ?_
  intro _ hw'
  obtain ⟨⟨dq, osq⟩, hw''⟩ := hw'
  subst hw''
  have bw2 := bw.trans ((below_regrown w0 dq osq).mono bw.size)
  have hS2 := hS1.below (below_regrown w0 dq osq)
  have c2 := hS2.c2
  go_wp2
  go_ret
  exact ⟨_, rfl, hS2.i2, bw2⟩
set_option maxRecDepth 100000 in
set_option maxHeartbeats 2000000 in
theorem toFault_4b (n : Int) (t : QO) (w : World) (e0 e1 e2 e3 e4 : Addr) (hS : Sents w e0 e1 e2 e3 e4) (hn : -1000 ≤ n) (hn2 : n ≤ 1000000) (h1 : withinB t.dm 0 (n - 1) = true) (h2 : (bits BinOp.andNot IntKind.i64 t.rt (maxI 4) == 0) = false) :
    Calls Tryd.prog 45 #[.int .i64 4, .int .i64 n, .agg #[.int .i64 t.dm, .int .i64 t.rt, .int .i64 t.bd]] w fun e w' => ∃ v, e = .returned v ∧ ErrO w' 0 false v ∧ Below w.heap.size w w' := by
  have bw : Below w.heap.size w (w.alloc (.cells #[.int .i64 t.dm, .int .i64 t.rt, .int .i64 t.bd] 61)) := (Below.refl _ _).alloc (Nat.le_refl _) _
  have hS1 := hS.below bw
  have hx := Bx.new w 61 [.int .i64 t.dm, .int .i64 t.rt, .int .i64 t.bd]
  go_enter Tryd.func45, Tryd.ntmps45
  go_upto_region 7 with fail
  generalize hW0 : w.alloc (.cells #[.int .i64 t.dm, .int .i64 t.rt, .int .i64 t.bd] 61) = w0 at bw hS1 ⊢
  have hx0 : Bx w0 w.heap.size 61 [.int .i64 t.dm, .int .i64 t.rt, .int .i64 t.bd] := by rw [← hW0]; exact hx
  clear hW0 hx
  have p0 := cell_regrown (hx0.cell 0 _ rfl)
  have p1 := cell_regrown (hx0.cell 1 _ rfl)
  have p2 := cell_regrown (hx0.cell 2 _ rfl)
  refine wq_region (by kernel_rfl) (by kernel_rfl) ?_
  repeat (first | (refine wq_step (fun K hK => ?_); go_simp; first | (refine hK _ ?_; clear hK K) | (apply Exists.intro; refine ⟨fun _ => ?_, hK _ ?_⟩; (first | (go_at_call 52; exact Calls.regrown_of (Calls.mono (place_eq _ _ _ _ hn hn2 h1) (fun e w' h => ⟨h.1, h.2 ▸ Below.refl _ _⟩))) | (go_at_call 53; exact Calls.regrown_of (maxImpl_any _ _))); clear hK K)))
  refine wq_nil ?_
  intro _ hw'
  obtain ⟨⟨dq, osq⟩, hw''⟩ := hw'
  subst hw''
  have bw2 := bw.trans ((below_regrown w0 dq osq).mono bw.size)
  have hS2 := hS1.below (below_regrown w0 dq osq)
  have c2 := hS2.c2
  go_wp2
  go_ret
  exact ⟨_, rfl, hS2.i2, bw2⟩
set_option maxRecDepth 100000 in
set_option maxHeartbeats 2000000 in
theorem toFault_4c (n : Int) (t : QO) (w : World) (e0 e1 e2 e3 e4 : Addr) (hS : Sents w e0 e1 e2 e3 e4) (hn : -1000 ≤ n) (hn2 : n ≤ 1000000) (h1 : withinB t.dm 0 (n - 1) = true) (h2 : (bits BinOp.andNot IntKind.i64 t.rt (maxI 4) == 0) = true) (h3 : withinB t.bd 0 65535 = false) :
    Calls Tryd.prog 45 #[.int .i64 4, .int .i64 n, .agg #[.int .i64 t.dm, .int .i64 t.rt, .int .i64 t.bd]] w fun e w' => ∃ v, e = .returned v ∧ ErrO w' 0 false v ∧ Below w.heap.size w w' := by
  have bw : Below w.heap.size w (w.alloc (.cells #[.int .i64 t.dm, .int .i64 t.rt, .int .i64 t.bd] 61)) := (Below.refl _ _).alloc (Nat.le_refl _) _
  have hS1 := hS.below bw
  have hx := Bx.new w 61 [.int .i64 t.dm, .int .i64 t.rt, .int .i64 t.bd]
  go_enter Tryd.func45, Tryd.ntmps45
  go_upto_region 7 with fail
  generalize hW0 : w.alloc (.cells #[.int .i64 t.dm, .int .i64 t.rt, .int .i64 t.bd] 61) = w0 at bw hS1 ⊢
  have hx0 : Bx w0 w.heap.size 61 [.int .i64 t.dm, .int .i64 t.rt, .int .i64 t.bd] := by rw [← hW0]; exact hx
  clear hW0 hx
  have p0 := cell_regrown (hx0.cell 0 _ rfl)
  have p1 := cell_regrown (hx0.cell 1 _ rfl)
  have p2 := cell_regrown (hx0.cell 2 _ rfl)
  refine wq_region (by kernel_rfl) (by kernel_rfl) ?_
  repeat (first | (refine wq_step (fun K hK => ?_); go_simp; first | (refine hK _ ?_; clear hK K) | (apply Exists.intro; refine ⟨fun _ => ?_, hK _ ?_⟩; (first | (go_at_call 52; exact Calls.regrown_of (Calls.mono (place_eq _ _ _ _ hn hn2 h1) (fun e w' h => ⟨h.1, h.2 ▸ Below.refl _ _⟩))) | (go_at_call 53; exact Calls.regrown_of (maxImpl_any _ _)) | (go_at_call 41; exact Calls.regrown_of (Calls.mono (within_eq _ _ _ _ _ h3) (fun e w' h => ⟨h.1, h.2 ▸ Below.refl _ _⟩)))); clear hK K)))
  refine wq_nil ?_
  intro _ hw'
  obtain ⟨⟨dq, osq⟩, hw''⟩ := hw'
  subst hw''
  have bw2 := bw.trans ((below_regrown w0 dq osq).mono bw.size)
  have hS2 := hS1.below (below_regrown w0 dq osq)
  have c2 := hS2.c2
  go_wp2
  go_ret
  exact ⟨_, rfl, hS2.i2, bw2⟩
set_option maxRecDepth 100000 in
set_option maxHeartbeats 2000000 in
theorem toFault_4d (n : Int) (t : QO) (w : World) (e0 e1 e2 e3 e4 : Addr) (hS : Sents w e0 e1 e2 e3 e4) (hn : -1000 ≤ n) (hn2 : n ≤ 1000000) (h1 : withinB t.dm 0 (n - 1) = true) (h2 : (bits BinOp.andNot IntKind.i64 t.rt (maxI 4) == 0) = true) (h3 : withinB t.bd 0 65535 = true) :
    Calls Tryd.prog 45 #[.int .i64 4, .int .i64 n, .agg #[.int .i64 t.dm, .int .i64 t.rt, .int .i64 t.bd]] w fun e w' => ∃ v, e = .returned v ∧ ErrO w' 0 true v ∧ Below w.heap.size w w' := by
  have bw : Below w.heap.size w (w.alloc (.cells #[.int .i64 t.dm, .int .i64 t.rt, .int .i64 t.bd] 61)) := (Below.refl _ _).alloc (Nat.le_refl _) _
  have hS1 := hS.below bw
  have hx := Bx.new w 61 [.int .i64 t.dm, .int .i64 t.rt, .int .i64 t.bd]
  go_enter Tryd.func45, Tryd.ntmps45
  go_upto_region 7 with fail
  generalize hW0 : w.alloc (.cells #[.int .i64 t.dm, .int .i64 t.rt, .int .i64 t.bd] 61) = w0 at bw hS1 ⊢
  have hx0 : Bx w0 w.heap.size 61 [.int .i64 t.dm, .int .i64 t.rt, .int .i64 t.bd] := by rw [← hW0]; exact hx
  clear hW0 hx
  have p0 := cell_regrown (hx0.cell 0 _ rfl)
  have p1 := cell_regrown (hx0.cell 1 _ rfl)
  have p2 := cell_regrown (hx0.cell 2 _ rfl)
  refine wq_region (by kernel_rfl) (by kernel_rfl) ?_
  repeat (first | (refine wq_step (fun K hK => ?_); go_simp; first | (refine hK _ ?_; clear hK K) | (apply Exists.intro; refine ⟨fun _ => ?_, hK _ ?_⟩; (first | (go_at_call 52; exact Calls.regrown_of (Calls.mono (place_eq _ _ _ _ hn hn2 h1) (fun e w' h => ⟨h.1, h.2 ▸ Below.refl _ _⟩))) | (go_at_call 53; exact Calls.regrown_of (maxImpl_any _ _)) | (go_at_call 41; exact Calls.regrown_of (Calls.mono (within_eq _ _ _ _ _ h3) (fun e w' h => ⟨h.1, h.2 ▸ Below.refl _ _⟩)))); clear hK K)))
  refine wq_nil ?_
  intro _ hw'
  obtain ⟨⟨dq, osq⟩, hw''⟩ := hw'
  subst hw''
  have bw2 := bw.trans ((below_regrown w0 dq osq).mono bw.size)
  have hS2 := hS1.below (below_regrown w0 dq osq)
  have c2 := hS2.c2
  go_wp2
  go_ret
  exact ⟨_, rfl, rfl, bw2⟩
set_option maxRecDepth 100000 in
set_option maxHeartbeats 2000000 in
theorem toFault_5a (n : Int) (t : QO) (w : World) (e0 e1 e2 e3 e4 : Addr) (hS : Sents w e0 e1 e2 e3 e4) (hn : -1000 ≤ n) (hn2 : n ≤ 1000000) (h1 : withinB t.dm 0 (n - 1) = false) :
    Calls Tryd.prog 45 #[.int .i64 5, .int .i64 n, .agg #[.int .i64 t.dm, .int .i64 t.rt, .int .i64 t.bd]] w fun e w' => ∃ v, e = .returned v ∧ ErrO w' 0 false v ∧ Below w.heap.size w w' := by
  have bw : Below w.heap.size w (w.alloc (.cells #[.int .i64 t.dm, .int .i64 t.rt, .int .i64 t.bd] 61)) := (Below.refl _ _).alloc (Nat.le_refl _) _
  have hS1 := hS.below bw
  have hx := Bx.new w 61 [.int .i64 t.dm, .int .i64 t.rt, .int .i64 t.bd]
  go_enter Tryd.func45, Tryd.ntmps45
  go_upto_region 7 with fail
  generalize hW0 : w.alloc (.cells #[.int .i64 t.dm, .int .i64 t.rt, .int .i64 t.bd] 61) = w0 at bw hS1 ⊢
  have hx0 : Bx w0 w.heap.size 61 [.int .i64 t.dm, .int .i64 t.rt, .int .i64 t.bd] := by rw [← hW0]; exact hx
  clear hW0 hx
  have p0 := cell_regrown (hx0.cell 0 _ rfl)
  have p1 := cell_regrown (hx0.cell 1 _ rfl)
  have p2 := cell_regrown (hx0.cell 2 _ rfl)
  refine wq_region (by kernel_rfl) (by kernel_rfl) ?_
  repeat (first | (refine wq_step (fun K hK => ?_); go_simp; first | (refine hK _ ?_; clear hK K) | (apply Exists.intro; refine ⟨fun _ => ?_, hK _ ?_⟩; (first | (go_at_call 52; exact Calls.regrown_of (Calls.mono (place_eq _ _ _ _ hn hn2 h1) (fun e w' h => ⟨h.1, h.2 ▸ Below.refl _ _⟩)))); clear hK K)))
  refine wq_nil ?_
  intro _ hw'
  obtain ⟨⟨dq, osq⟩, hw''⟩ := hw'
  subst hw''
  have bw2 := bw.trans ((below_regrown w0 dq osq).mono bw.size)
  have hS2 := hS1.below (below_regrown w0 dq osq)
  have c2 := hS2.c2
  go_wp2
  go_ret
  exact ⟨_, rfl, hS2.i2, bw2⟩
set_option maxRecDepth 100000 in
set_option maxHeartbeats 2000000 in
theorem toFault_5b (n : Int) (t : QO) (w : World) (e0 e1 e2 e3 e4 : Addr) (hS : Sents w e0 e1 e2 e3 e4) (hn : -1000 ≤ n) (hn2 : n ≤ 1000000) (h1 : withinB t.dm 0 (n - 1) = true) (h2 : (bits BinOp.andNot IntKind.i64 t.rt (maxI 5) == 0) = false) :
    Calls Tryd.prog 45 #[.int .i64 5, .int .i64 n, .agg #[.int .i64 t.dm, .int .i64 t.rt, .int .i64 t.bd]] w fun e w' => ∃ v, e = .returned v ∧ ErrO w' 0 false v ∧ Below w.heap.size w w' := by
  have bw : Below w.heap.size w (w.alloc (.cells #[.int .i64 t.dm, .int .i64 t.rt, .int .i64 t.bd] 61)) := (Below.refl _ _).alloc (Nat.le_refl _) _
  have hS1 := hS.below bw
  have hx := Bx.new w 61 [.int .i64 t.dm, .int .i64 t.rt, .int .i64 t.bd]
  go_enter Tryd.func45, Tryd.ntmps45
  go_upto_region 7 with fail
  generalize hW0 : w.alloc (.cells #[.int .i64 t.dm, .int .i64 t.rt, .int .i64 t.bd] 61) = w0 at bw hS1 ⊢
  have hx0 : Bx w0 w.heap.size 61 [.int .i64 t.dm, .int .i64 t.rt, .int .i64 t.bd] := by rw [← hW0]; exact hx
  clear hW0 hx
  have p0 := cell_regrown (hx0.cell 0 _ rfl)
  have p1 := cell_regrown (hx0.cell 1 _ rfl)
  have p2 := cell_regrown (hx0.cell 2 _ rfl)
  refine wq_region (by kernel_rfl) (by kernel_rfl) ?_
  repeat (first | (refine wq_step (fun K hK => ?_); go_simp; first | (refine hK _ ?_; clear hK K) | (apply Exists.intro; refine ⟨fun _ => ?_, hK _ ?_⟩; (first | (go_at_call 52; exact Calls.regrown_of (Calls.mono (place_eq _ _ _ _ hn hn2 h1) (fun e w' h => ⟨h.1, h.2 ▸ Below.refl _ _⟩))) | (go_at_call 53; exact Calls.regrown_of (maxImpl_any _ _))); clear hK K)))
  refine wq_nil ?_
  intro _ hw'
  obtain ⟨⟨dq, osq⟩, hw''⟩ := hw'
  subst hw''
  have bw2 := bw.trans ((below_regrown w0 dq osq).mono bw.size)
  have hS2 := hS1.below (below_regrown w0 dq osq)
  have c2 := hS2.c2
  go_wp2
  go_ret
  exact ⟨_, rfl, hS2.i2, bw2⟩
set_option maxRecDepth 100000 in
set_option maxHeartbeats 2000000 in
theorem toFault_5c (n : Int) (t : QO) (w : World) (e0 e1 e2 e3 e4 : Addr) (hS : Sents w e0 e1 e2 e3 e4) (hn : -1000 ≤ n) (hn2 : n ≤ 1000000) (h1 : withinB t.dm 0 (n - 1) = true) (h2 : (bits BinOp.andNot IntKind.i64 t.rt (maxI 5) == 0) = true) (h3 : withinB t.bd 0 65535 = false) :
    Calls Tryd.prog 45 #[.int .i64 5, .int .i64 n, .agg #[.int .i64 t.dm, .int .i64 t.rt, .int .i64 t.bd]] w fun e w' => ∃ v, e = .returned v ∧ ErrO w' 0 false v ∧ Below w.heap.size w w' := by
  have bw : Below w.heap.size w (w.alloc (.cells #[.int .i64 t.dm, .int .i64 t.rt, .int .i64 t.bd] 61)) := (Below.refl _ _).alloc (Nat.le_refl _) _
  have hS1 := hS.below bw
  have hx := Bx.new w 61 [.int .i64 t.dm, .int .i64 t.rt, .int .i64 t.bd]
  go_enter Tryd.func45, Tryd.ntmps45
  go_upto_region 7 with fail
  generalize hW0 : w.alloc (.cells #[.int .i64 t.dm, .int .i64 t.rt, .int .i64 t.bd] 61) = w0 at bw hS1 ⊢
  have hx0 : Bx w0 w.heap.size 61 [.int .i64 t.dm, .int .i64 t.rt, .int .i64 t.bd] := by rw [← hW0]; exact hx
  clear hW0 hx
  have p0 := cell_regrown (hx0.cell 0 _ rfl)
  have p1 := cell_regrown (hx0.cell 1 _ rfl)
  have p2 := cell_regrown (hx0.cell 2 _ rfl)
  refine wq_region (by kernel_rfl) (by kernel_rfl) ?_
  repeat (first | (refine wq_step (fun K hK => ?_); go_simp; first | (refine hK _ ?_; clear hK K) | (apply Exists.intro; refine ⟨fun _ => ?_, hK _ ?_⟩; (first | (go_at_call 52; exact Calls.regrown_of (Calls.mono (place_eq _ _ _ _ hn hn2 h1) (fun e w' h => ⟨h.1, h.2 ▸ Below.refl _ _⟩))) | (go_at_call 53; exact Calls.regrown_of (maxImpl_any _ _)) | (go_at_call 41; exact Calls.regrown_of (Calls.mono (within_eq _ _ _ _ _ h3) (fun e w' h => ⟨h.1, h.2 ▸ Below.refl _ _⟩)))); clear hK K)))
  refine wq_nil ?_
  intro _ hw'
  obtain ⟨⟨dq, osq⟩, hw''⟩ := hw'
  subst hw''
  have bw2 := bw.trans ((below_regrown w0 dq osq).mono bw.size)
  have hS2 := hS1.below (below_regrown w0 dq osq)
  have c2 := hS2.c2
  go_wp2
  go_ret
  exact ⟨_, rfl, hS2.i2, bw2⟩
set_option maxRecDepth 100000 in
set_option maxHeartbeats 2000000 in
theorem toFault_5d (n : Int) (t : QO) (w : World) (e0 e1 e2 e3 e4 : Addr) (hS : Sents w e0 e1 e2 e3 e4) (hn : -1000 ≤ n) (hn2 : n ≤ 1000000) (h1 : withinB t.dm 0 (n - 1) = true) (h2 : (bits BinOp.andNot IntKind.i64 t.rt (maxI 5) == 0) = true) (h3 : withinB t.bd 0 65535 = true) :
    Calls Tryd.prog 45 #[.int .i64 5, .int .i64 n, .agg #[.int .i64 t.dm, .int .i64 t.rt, .int .i64 t.bd]] w fun e w' => ∃ v, e = .returned v ∧ ErrO w' 0 true v ∧ Below w.heap.size w w' := by
  have bw : Below w.heap.size w (w.alloc (.cells #[.int .i64 t.dm, .int .i64 t.rt, .int .i64 t.bd] 61)) := (Below.refl _ _).alloc (Nat.le_refl _) _
  have hS1 := hS.below bw
  have hx := Bx.new w 61 [.int .i64 t.dm, .int .i64 t.rt, .int .i64 t.bd]
  go_enter Tryd.func45, Tryd.ntmps45
  go_upto_region 7 with fail
  generalize hW0 : w.alloc (.cells #[.int .i64 t.dm, .int .i64 t.rt, .int .i64 t.bd] 61) = w0 at bw hS1 ⊢
  have hx0 : Bx w0 w.heap.size 61 [.int .i64 t.dm, .int .i64 t.rt, .int .i64 t.bd] := by rw [← hW0]; exact hx
  clear hW0 hx
  have p0 := cell_regrown (hx0.cell 0 _ rfl)
  have p1 := cell_regrown (hx0.cell 1 _ rfl)
  have p2 := cell_regrown (hx0.cell 2 _ rfl)
  refine wq_region (by kernel_rfl) (by kernel_rfl) ?_
  repeat (first | (refine wq_step (fun K hK => ?_); go_simp; first | (refine hK _ ?_; clear hK K) | (apply Exists.intro; refine ⟨fun _ => ?_, hK _ ?_⟩; (first | (go_at_call 52; exact Calls.regrown_of (Calls.mono (place_eq _ _ _ _ hn hn2 h1) (fun e w' h => ⟨h.1, h.2 ▸ Below.refl _ _⟩))) | (go_at_call 53; exact Calls.regrown_of (maxImpl_any _ _)) | (go_at_call 41; exact Calls.regrown_of (Calls.mono (within_eq _ _ _ _ _ h3) (fun e w' h => ⟨h.1, h.2 ▸ Below.refl _ _⟩)))); clear hK K)))
  refine wq_nil ?_
  intro _ hw'
  obtain ⟨⟨dq, osq⟩, hw''⟩ := hw'
  subst hw''
  have bw2 := bw.trans ((below_regrown w0 dq osq).mono bw.size)
  have hS2 := hS1.below (below_regrown w0 dq osq)
  have c2 := hS2.c2
  go_wp2
  go_ret
  exact ⟨_, rfl, rfl, bw2⟩
set_option maxRecDepth 100000 in
set_option maxHeartbeats 2000000 in
theorem toFault_6a (n : Int) (t : QO) (w : World) (e0 e1 e2 e3 e4 : Addr) (hS : Sents w e0 e1 e2 e3 e4) (hn : -1000 ≤ n) (hn2 : n ≤ 1000000) (h1 : withinB t.dm 0 (n - 1) = false) :
    Calls Tryd.prog 45 #[.int .i64 6, .int .i64 n, .agg #[.int .i64 t.dm, .int .i64 t.rt, .int .i64 t.bd]] w fun e w' => ∃ v, e = .returned v ∧ ErrO w' 0 false v ∧ Below w.heap.size w w' := by
  have bw : Below w.heap.size w (w.alloc (.cells #[.int .i64 t.dm, .int .i64 t.rt, .int .i64 t.bd] 61)) := (Below.refl _ _).alloc (Nat.le_refl _) _
  have hS1 := hS.below bw
  have hx := Bx.new w 61 [.int .i64 t.dm, .int .i64 t.rt, .int .i64 t.bd]
  go_enter Tryd.func45, Tryd.ntmps45
  go_upto_region 7 with fail
  generalize hW0 : w.alloc (.cells #[.int .i64 t.dm, .int .i64 t.rt, .int .i64 t.bd] 61) = w0 at bw hS1 ⊢
  have hx0 : Bx w0 w.heap.size 61 [.int .i64 t.dm, .int .i64 t.rt, .int .i64 t.bd] := by rw [← hW0]; exact hx
  clear hW0 hx
  have p0 := cell_regrown (hx0.cell 0 _ rfl)
  have p1 := cell_regrown (hx0.cell 1 _ rfl)
  have p2 := cell_regrown (hx0.cell 2 _ rfl)
  refine wq_region (by kernel_rfl) (by kernel_rfl) ?_
  repeat (first | (refine wq_step (fun K hK => ?_); go_simp; first | (refine hK _ ?_; clear hK K) | (apply Exists.intro; refine ⟨fun _ => ?_, hK _ ?_⟩; (first | (go_at_call 52; exact Calls.regrown_of (Calls.mono (place_eq _ _ _ _ hn hn2 h1) (fun e w' h => ⟨h.1, h.2 ▸ Below.refl _ _⟩)))); clear hK K)))
  refine wq_nil ?_
  intro _ hw'
  obtain ⟨⟨dq, osq⟩, hw''⟩ := hw'
  subst hw''
  have bw2 := bw.trans ((below_regrown w0 dq osq).mono bw.size)
  have hS2 := hS1.below (below_regrown w0 dq osq)
  have c2 := hS2.c2
  go_wp2
  go_ret
  exact ⟨_, rfl, hS2.i2, bw2⟩
set_option maxRecDepth 100000 in
set_option maxHeartbeats 2000000 in
theorem toFault_6b (n : Int) (t : QO) (w : World) (e0 e1 e2 e3 e4 : Addr) (hS : Sents w e0 e1 e2 e3 e4) (hn : -1000 ≤ n) (hn2 : n ≤ 1000000) (h1 : withinB t.dm 0 (n - 1) = true) (h2 : (bits BinOp.andNot IntKind.i64 t.rt (maxI 6) == 0) = false) :
    Calls Tryd.prog 45 #[.int .i64 6, .int .i64 n, .agg #[.int .i64 t.dm, .int .i64 t.rt, .int .i64 t.bd]] w fun e w' => ∃ v, e = .returned v ∧ ErrO w' 0 false v ∧ Below w.heap.size w w' := by
  have bw : Below w.heap.size w (w.alloc (.cells #[.int .i64 t.dm, .int .i64 t.rt, .int .i64 t.bd] 61)) := (Below.refl _ _).alloc (Nat.le_refl _) _
  have hS1 := hS.below bw
  have hx := Bx.new w 61 [.int .i64 t.dm, .int .i64 t.rt, .int .i64 t.bd]
  go_enter Tryd.func45, Tryd.ntmps45
  go_upto_region 7 with fail
  generalize hW0 : w.alloc (.cells #[.int .i64 t.dm, .int .i64 t.rt, .int .i64 t.bd] 61) = w0 at bw hS1 ⊢
  have hx0 : Bx w0 w.heap.size 61 [.int .i64 t.dm, .int .i64 t.rt, .int .i64 t.bd] := by rw [← hW0]; exact hx
  clear hW0 hx
  have p0 := cell_regrown (hx0.cell 0 _ rfl)
  have p1 := cell_regrown (hx0.cell 1 _ rfl)
  have p2 := cell_regrown (hx0.cell 2 _ rfl)
  refine wq_region (by kernel_rfl) (by kernel_rfl) ?_
  repeat (first | (refine wq_step (fun K hK => ?_); go_simp; first | (refine hK _ ?_; clear hK K) | (apply Exists.intro; refine ⟨fun _ => ?_, hK _ ?_⟩; (first | (go_at_call 52; exact Calls.regrown_of (Calls.mono (place_eq _ _ _ _ hn hn2 h1) (fun e w' h => ⟨h.1, h.2 ▸ Below.refl _ _⟩))) | (go_at_call 53; exact Calls.regrown_of (maxImpl_any _ _))); clear hK K)))
  refine wq_nil ?_
  intro _ hw'
  obtain ⟨⟨dq, osq⟩, hw''⟩ := hw'
  subst hw''
  have bw2 := bw.trans ((below_regrown w0 dq osq).mono bw.size)
  have hS2 := hS1.below (below_regrown w0 dq osq)
  have c2 := hS2.c2
  go_wp2
  go_ret
  exact ⟨_, rfl, hS2.i2, bw2⟩
set_option maxRecDepth 100000 in
set_option maxHeartbeats 2000000 in
theorem toFault_6c (n : Int) (t : QO) (w : World) (e0 e1 e2 e3 e4 : Addr) (hS : Sents w e0 e1 e2 e3 e4) (hn : -1000 ≤ n) (hn2 : n ≤ 1000000) (h1 : withinB t.dm 0 (n - 1) = true) (h2 : (bits BinOp.andNot IntKind.i64 t.rt (maxI 6) == 0) = true) (h3 : withinB t.bd 0 0 = false) :
    Calls Tryd.prog 45 #[.int .i64 6, .int .i64 n, .agg #[.int .i64 t.dm, .int .i64 t.rt, .int .i64 t.bd]] w fun e w' => ∃ v, e = .returned v ∧ ErrO w' 0 false v ∧ Below w.heap.size w w' := by
  have bw : Below w.heap.size w (w.alloc (.cells #[.int .i64 t.dm, .int .i64 t.rt, .int .i64 t.bd] 61)) := (Below.refl _ _).alloc (Nat.le_refl _) _
  have hS1 := hS.below bw
  have hx := Bx.new w 61 [.int .i64 t.dm, .int .i64 t.rt, .int .i64 t.bd]
  go_enter Tryd.func45, Tryd.ntmps45
  go_upto_region 7 with fail
  generalize hW0 : w.alloc (.cells #[.int .i64 t.dm, .int .i64 t.rt, .int .i64 t.bd] 61) = w0 at bw hS1 ⊢
  have hx0 : Bx w0 w.heap.size 61 [.int .i64 t.dm, .int .i64 t.rt, .int .i64 t.bd] := by rw [← hW0]; exact hx
  clear hW0 hx
  have p0 := cell_regrown (hx0.cell 0 _ rfl)
  have p1 := cell_regrown (hx0.cell 1 _ rfl)
  have p2 := cell_regrown (hx0.cell 2 _ rfl)
  refine wq_region (by kernel_rfl) (by kernel_rfl) ?_
  repeat (first | (refine wq_step (fun K hK => ?_); go_simp; first | (refine hK _ ?_; clear hK K) | (apply Exists.intro; refine ⟨fun _ => ?_, hK _ ?_⟩; (first | (go_at_call 52; exact Calls.regrown_of (Calls.mono (place_eq _ _ _ _ hn hn2 h1) (fun e w' h => ⟨h.1, h.2 ▸ Below.refl _ _⟩))) | (go_at_call 53; exact Calls.regrown_of (maxImpl_any _ _)) | (go_at_call 41; exact Calls.regrown_of (Calls.mono (within_eq _ _ _ _ _ h3) (fun e w' h => ⟨h.1, h.2 ▸ Below.refl _ _⟩)))); clear hK K)))
  refine wq_nil ?_
  intro _ hw'
  obtain ⟨⟨dq, osq⟩, hw''⟩ := hw'
  subst hw''
  have bw2 := bw.trans ((below_regrown w0 dq osq).mono bw.size)
  have hS2 := hS1.below (below_regrown w0 dq osq)
  have c2 := hS2.c2
  go_wp2
  go_ret
  exact ⟨_, rfl, hS2.i2, bw2⟩
set_option maxRecDepth 100000 in
set_option maxHeartbeats 2000000 in
theorem toFault_6d (n : Int) (t : QO) (w : World) (e0 e1 e2 e3 e4 : Addr) (hS : Sents w e0 e1 e2 e3 e4) (hn : -1000 ≤ n) (hn2 : n ≤ 1000000) (h1 : withinB t.dm 0 (n - 1) = true) (h2 : (bits BinOp.andNot IntKind.i64 t.rt (maxI 6) == 0) = true) (h3 : withinB t.bd 0 0 = true) :
    Calls Tryd.prog 45 #[.int .i64 6, .int .i64 n, .agg #[.int .i64 t.dm, .int .i64 t.rt, .int .i64 t.bd]] w fun e w' => ∃ v, e = .returned v ∧ ErrO w' 0 true v ∧ Below w.heap.size w w' := by
  have bw : Below w.heap.size w (w.alloc (.cells #[.int .i64 t.dm, .int .i64 t.rt, .int .i64 t.bd] 61)) := (Below.refl _ _).alloc (Nat.le_refl _) _
  have hS1 := hS.below bw
  have hx := Bx.new w 61 [.int .i64 t.dm, .int .i64 t.rt, .int .i64 t.bd]
  go_enter Tryd.func45, Tryd.ntmps45
  go_upto_region 7 with fail
  generalize hW0 : w.alloc (.cells #[.int .i64 t.dm, .int .i64 t.rt, .int .i64 t.bd] 61) = w0 at bw hS1 ⊢
  have hx0 : Bx w0 w.heap.size 61 [.int .i64 t.dm, .int .i64 t.rt, .int .i64 t.bd] := by rw [← hW0]; exact hx
  clear hW0 hx
  have p0 := cell_regrown (hx0.cell 0 _ rfl)
  have p1 := cell_regrown (hx0.cell 1 _ rfl)
  have p2 := cell_regrown (hx0.cell 2 _ rfl)
  refine wq_region (by kernel_rfl) (by kernel_rfl) ?_
  repeat (first | (refine wq_step (fun K hK => ?_); go_simp; first | (refine hK _ ?_; clear hK K) | (apply Exists.intro; refine ⟨fun _ => ?_, hK _ ?_⟩; (first | (go_at_call 52; exact Calls.regrown_of (Calls.mono (place_eq _ _ _ _ hn hn2 h1) (fun e w' h => ⟨h.1, h.2 ▸ Below.refl _ _⟩))) | (go_at_call 53; exact Calls.regrown_of (maxImpl_any _ _)) | (go_at_call 41; exact Calls.regrown_of (Calls.mono (within_eq _ _ _ _ _ h3) (fun e w' h => ⟨h.1, h.2 ▸ Below.refl _ _⟩)))); clear hK K)))
  refine wq_nil ?_
  intro _ hw'
  obtain ⟨⟨dq, osq⟩, hw''⟩ := hw'
  subst hw''
  have bw2 := bw.trans ((below_regrown w0 dq osq).mono bw.size)
  have hS2 := hS1.below (below_regrown w0 dq osq)
  have c2 := hS2.c2
  go_wp2
  go_ret
  exact ⟨_, rfl, rfl, bw2⟩

theorem toFault_any (k n : Int) (t : QO) (w : World) (e0 e1 e2 e3 e4 : Addr) (hS : Sents w e0 e1 e2 e3 e4) (hn : -1000 ≤ n) (hn2 : n ≤ 1000000) (hk : 4 ≤ k ∧ k ≤ 6) (hr0 : -9223372036854775808 ≤ t.rt) (hr1 : t.rt ≤ 9223372036854775807) :
    Calls Tryd.prog 45 #[.int .i64 k, .int .i64 n, .agg #[.int .i64 t.dm, .int .i64 t.rt, .int .i64 t.bd]] w fun e w' => ∃ v, e = .returned v ∧ ErrO w' 0 (toB k n t) v ∧ Below w.heap.size w w' := by
  have hnr : (bits BinOp.andNot IntKind.i64 t.rt (maxI k) == 0) = withinB t.rt 0 (maxI k) := by
    have := notRights k t.rt hr0 hr1
    rw [bne, Bool.not_inj_iff] at this
    exact this
  unfold toB
  rw [← hnr]
  obtain rfl | rfl | rfl : k = 4 ∨ k = 5 ∨ k = 6 := by omega
  · show Calls _ _ _ _ (fun e w' => ∃ v, e = .returned v ∧ ErrO w' 0 (withinB t.dm 0 (n - 1) && ((bits BinOp.andNot IntKind.i64 t.rt (maxI 4) == 0) && withinB t.bd 0 65535)) v ∧ Below w.heap.size w w')
    cases h1 : withinB t.dm 0 (n - 1)
    · exact toFault_4a n t w e0 e1 e2 e3 e4 hS hn hn2 h1
    · cases h2 : (bits BinOp.andNot IntKind.i64 t.rt (maxI 4) == 0)
      · exact toFault_4b n t w e0 e1 e2 e3 e4 hS hn hn2 h1 h2
      · cases h3 : withinB t.bd 0 65535
        · exact toFault_4c n t w e0 e1 e2 e3 e4 hS hn hn2 h1 h2 h3
        · exact toFault_4d n t w e0 e1 e2 e3 e4 hS hn hn2 h1 h2 h3
  · show Calls _ _ _ _ (fun e w' => ∃ v, e = .returned v ∧ ErrO w' 0 (withinB t.dm 0 (n - 1) && ((bits BinOp.andNot IntKind.i64 t.rt (maxI 5) == 0) && withinB t.bd 0 65535)) v ∧ Below w.heap.size w w')
    cases h1 : withinB t.dm 0 (n - 1)
    · exact toFault_5a n t w e0 e1 e2 e3 e4 hS hn hn2 h1
    · cases h2 : (bits BinOp.andNot IntKind.i64 t.rt (maxI 5) == 0)
      · exact toFault_5b n t w e0 e1 e2 e3 e4 hS hn hn2 h1 h2
      · cases h3 : withinB t.bd 0 65535
        · exact toFault_5c n t w e0 e1 e2 e3 e4 hS hn hn2 h1 h2 h3
        · exact toFault_5d n t w e0 e1 e2 e3 e4 hS hn hn2 h1 h2 h3
  · show Calls _ _ _ _ (fun e w' => ∃ v, e = .returned v ∧ ErrO w' 0 (withinB t.dm 0 (n - 1) && ((bits BinOp.andNot IntKind.i64 t.rt (maxI 6) == 0) && withinB t.bd 0 0)) v ∧ Below w.heap.size w w')
    cases h1 : withinB t.dm 0 (n - 1)
    · exact toFault_6a n t w e0 e1 e2 e3 e4 hS hn hn2 h1
    · cases h2 : (bits BinOp.andNot IntKind.i64 t.rt (maxI 6) == 0)
      · exact toFault_6b n t w e0 e1 e2 e3 e4 hS hn hn2 h1 h2
      · cases h3 : withinB t.bd 0 0
        · exact toFault_6c n t w e0 e1 e2 e3 e4 hS hn hn2 h1 h2 h3
        · exact toFault_6d n t w e0 e1 e2 e3 e4 hS hn hn2 h1 h2 h3

end Go.Proofs.YtjiignkappabpaaDoor
