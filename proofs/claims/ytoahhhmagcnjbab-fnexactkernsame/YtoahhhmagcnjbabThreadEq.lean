/-
  Two threads, compared by the laws.
-/
import Derived.Test.YtoahhhmagcnjbabThreads2
namespace Go.Proofs.Ytoahhhmagcnjbab
open Go.ChangeShapes Go.WideShapes Go.ChangeAt Go.RowKit
set_option linter.unusedVariables false

set_option maxRecDepth 100000 in
set_option maxHeartbeats 4000000 in
theorem eqT1_same (e : QT) (w : World) :
    Calls Try.prog 51 #[.agg #[.int .i64 e.a0, .int .i64 e.a1, .int .i64 e.a2, .int .i64 e.a3, .int .i64 e.a4, .int .i64 e.a5, .int .i64 e.a6, .int .u32 e.a7, .int .i64 e.a8, .int .u32 e.a9, .int .u32 e.a10, .int .u32 e.a11, .int .u32 e.a12, .int .i64 e.a13, .int .u32 e.a14], .agg #[.int .i64 e.a0, .int .i64 e.a1, .int .i64 e.a2, .int .i64 e.a3, .int .i64 e.a4, .int .i64 e.a5, .int .i64 e.a6, .int .u32 e.a7, .int .i64 e.a8, .int .u32 e.a9, .int .u32 e.a10, .int .u32 e.a11, .int .u32 e.a12, .int .i64 e.a13, .int .u32 e.a14]] w fun r w' => r = .returned (.bool true) ∧ Below w.heap.size w w' := by
  go_enter Try.func51, Try.ntmps51
  go_wp2_with ((go_at_call 61; refine (eqA3_same _ _ _ _).mono ?_; rintro r w1 ⟨rfl, hb⟩; obtain ⟨hc, hf⟩ := bcell hb; have hz1 : w.heap.size + 2 ≤ w1.heap.size := (by have := hb.size; simp at this; omega)))
  go_ret
  exact ⟨rfl, Below.trans (by repeat (first | exact Below.refl _ _ | (refine Below.setCell ?_ (by simp; try omega) _) | (refine Below.alloc ?_ (by simp; try omega) _))) (hb.mono (by simp; try omega))⟩

end Go.Proofs.Ytoahhhmagcnjbab
