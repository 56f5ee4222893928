/-
  What capBesideOk of the program answers, at every kind.
-/
import Derived.Test.YthmambhagheocaaGreatDoorBesideA
import Derived.Test.YthmambhagheocaaGreatDoorBesideB
import Derived.Deep.QuietTactic
import Derived.BigQuiet
import Derived.WalkSmall
namespace Go.Proofs.YthmambhagheocaaGreatDoor
open Go.ChangeShapes Go.WideShapes Go.ChangeAt Go.RowKit
set_option linter.unusedVariables false

theorem beside_any (n k a b r d g q f : Int) (o : Bool) (w : World) (hk1 : 1 ≤ n) (hk7 : n ≤ 7) :
    Calls Tryz.prog 45 #[kindV n, .agg #[.int .i64 k, .int .i64 a, .int .i64 b, .int .i64 r, .int .i64 d, .int .i64 g, .int .i64 q, .int .i64 f, .bool o]] w fun e w' => e = .returned (.bool (besideB n b d g q f)) ∧ Below w.heap.size w w' := by
  rcases seven hk1 hk7 with h | h | h | h | h | h | h <;> subst h
  · exact beside_1 k a b r d g q f o w
  · exact beside_2 k a b r d g q f o w
  · exact beside_3 k a b r d g q f o w
  · exact beside_4 k a b r d g q f o w
  · exact beside_5 k a b r d g q f o w
  · exact beside_6 k a b r d g q f o w
  · exact beside_7 k a b r d g q f o w

end Go.Proofs.YthmambhagheocaaGreatDoor
