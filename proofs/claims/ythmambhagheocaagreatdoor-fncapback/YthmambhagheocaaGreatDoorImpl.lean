/-
  What WordUp, WordMeet and WordIn of the program answer, each at every argument.
-/
import Derived.Test.YthmambhagheocaaGreatDoorWords
namespace Go.Proofs.YthmambhagheocaaGreatDoor
open Go.ChangeShapes Go.WideShapes Go.ChangeAt Go.RowKit
set_option linter.unusedVariables false

theorem wrap_both (n : Int) (h0 : 0 ≤ n) (h1 : n ≤ 10000) : IntKind.i64.wrap (IntKind.u32.wrap n) = n := by
  have e : IntKind.u32.wrap n = n := by simp [IntKind.wrap, IntKind.bits, IntKind.signed]; omega
  rw [e]; simp [IntKind.wrap, IntKind.bits, IntKind.signed]; omega



theorem common_is (x y z t p q : Int) (w : World) (hx0 : 0 ≤ x) (hx : x ≤ 4096) (hy0 : 0 ≤ y) (hy : y ≤ 4096) (hz0 : 0 ≤ z) (hz : z ≤ 4096) (ht0 : 0 ≤ t) (ht : t ≤ 4096) (hp : Hid (comA x y z t = p)) (hq : Hid (comS x y z t = q)) :
    Calls Tryz.prog 75 #[.agg #[.int .u32 x, .int .u32 y], .agg #[.int .u32 z, .int .u32 t]] w fun e w' => e = .returned (.agg #[.int .u32 p, .int .u32 q]) ∧ Below w.heap.size w w' := by
  have := common_any x y z t w hx0 hx hy0 hy hz0 hz ht0 ht
  rw [hp.out, hq.out] at this
  exact this


end Go.Proofs.YthmambhagheocaaGreatDoor
