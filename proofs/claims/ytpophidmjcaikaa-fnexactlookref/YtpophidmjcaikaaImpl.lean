/-
  What WordUp, WordMeet and WordIn of the program answer, each at every argument.
-/
import Derived.Test.YtpophidmjcaikaaWords
namespace Go.Proofs.Ytpophidmjcaikaa
open Go.ChangeShapes Go.WideShapes Go.ChangeAt Go.RowKit
set_option linter.unusedVariables false

theorem wrap_both (n : Int) (h0 : 0 ≤ n) (h1 : n ≤ 10000) : IntKind.i64.wrap (IntKind.u32.wrap n) = n := by
  have e : IntKind.u32.wrap n = n := by simp [IntKind.wrap, IntKind.bits, IntKind.signed]; omega
  rw [e]; simp [IntKind.wrap, IntKind.bits, IntKind.signed]; omega



end Go.Proofs.Ytpophidmjcaikaa
