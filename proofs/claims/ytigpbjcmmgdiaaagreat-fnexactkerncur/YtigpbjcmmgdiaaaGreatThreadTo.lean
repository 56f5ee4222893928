/-
 A thread, copied by the laws.
-/
import Derived.Test.YtigpbjcmmgdiaaaGreatBd
namespace Go.Proofs.YtigpbjcmmgdiaaaGreat
open Go.ChangeShapes Go.WideShapes Go.ChangeAt Go.RowKit
set_option linter.unusedVariables false

set_option maxRecDepth 100000 in
set_option maxHeartbeats 4000000 in
theorem toT1_any (e : QT) (w : World) :
  Calls Tryz.prog 57 #[.agg #[.int .i64 e.a0, .int .i64 e.a1, .int .i64 e.a2, .int .i64 e.a3, .int .i64 e.a4, .int .i64 e.a5, .int .i64 e.a6, .int .u32 e.a7, .int .i64 e.a8, .int .u32 e.a9, .int .u32 e.a10, .int .u32 e.a11, .int .u32 e.a12, .int .i64 e.a13, .int .u32 e.a14]] w fun r w' => r = .returned (.agg #[.int .i64 e.a0, .int .i64 e.a1, .int .i64 e.a2, .int .i64 e.a3, .int .i64 e.a4, .int .i64 e.a5, .int .i64 e.a6, .int .u32 e.a7, .int .i64 e.a8, .int .u32 e.a9, .int .u32 e.a10, .int .u32 e.a11, .int .u32 e.a12, .int .i64 e.a13, .int .u32 e.a14]) ∧ Below w.heap.size w w' := by
 go_enter Tryz.func57, Tryz.ntmps57
 go_wp2_with ((go_at_call 97; refine (toA3_any _ _ _ _).mono ?_; rintro r w1 ⟨rfl, hb⟩; obtain ⟨hc, hf⟩ := bcell hb; have hz1 : w.heap.size + 3 ≤ w1.heap.size := (by have := hb.size; simp at this; omega)))
 have hn1 : ¬ w.heap.size + 1 = w.heap.size + 1 + 1 := by omega
 have hn2 : ¬ w.heap.size + 1 + 1 = w.heap.size + 1 := by omega
 refine bodyPost_ret (show (results Tryz.f57 _).run Tryz.prog _ = .ok (.agg #[.int .i64 e.a0, .int .i64 e.a1, .int .i64 e.a2, .int .i64 e.a3, .int .i64 e.a4, .int .i64 e.a5, .int .i64 e.a6, .int .u32 e.a7, .int .i64 e.a8, .int .u32 e.a9, .int .u32 e.a10, .int .u32 e.a11, .int .u32 e.a12, .int .i64 e.a13, .int .u32 e.a14]) _ from by simp [results, Tryz.results57, go_sem, *]) rfl ⟨rfl, ?_⟩
 repeat (refine Below.setCell ?_ (by simp; try omega) _)
 refine Below.trans ?_ (hb.mono (by simp; omega))
 exact (by repeat (first | exact Below.refl _ _ | (refine Below.setCell ?_ (by simp; try omega) _) | (refine Below.alloc ?_ (by simp; try omega) _)))

end Go.Proofs.YtigpbjcmmgdiaaaGreat
