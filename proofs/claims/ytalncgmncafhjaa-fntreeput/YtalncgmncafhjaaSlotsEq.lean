/-
  Rows of slots compared by the program.
-/
import Derived.Test.YtalncgmncafhjaaLawSlots
import Derived.Test.YtalncgmncafhjaaInts
namespace Go.Proofs.Ytalncgmncafhjaa
open Go.ChangeShapes Go.WideShapes Go.ChangeAt Go.RowKit
set_option linter.unusedVariables false

instance : DecidableEq Sl := fun x y => decidable_of_iff (x.t = y.t ∧ x.k = y.k ∧ x.e = y.e ∧ x.b = y.b ∧ x.r = y.r ∧ x.d = y.d ∧ x.g = y.g ∧ x.q = y.q ∧ x.f = y.f ∧ x.o = y.o ∧ x.p = y.p) ⟨fun h => by cases x; cases y; simp_all, fun h => by subst h; simp⟩

theorem eqCap_in (xk xe xb xr xd xg xq xf : Int) (xo : Bool) (yk ye yb yr yd yg yq yf : Int) (yo : Bool) (w : World) : (Op.equalIn 9999 25 (.agg #[.int .i64 xk, .int .i64 xe, .int .i64 xb, .int .i64 xr, .int .i64 xd, .int .i64 xg, .int .i64 xq, .int .i64 xf, .bool xo]) (.agg #[.int .i64 yk, .int .i64 ye, .int .i64 yb, .int .i64 yr, .int .i64 yd, .int .i64 yg, .int .i64 yq, .int .i64 yf, .bool yo])).run Try.prog w = .ok (decide (xk = yk) && decide (xe = ye) && decide (xb = yb) && decide (xr = yr) && decide (xd = yd) && decide (xg = yg) && decide (xq = yq) && decide (xf = yf) && decide (xo = yo)) w := by
  go_simp
  by_cases h0 : xk = yk
  · skip
    by_cases h1 : xe = ye
    · skip
      by_cases h2 : xb = yb
      · skip
        by_cases h3 : xr = yr
        · skip
          by_cases h4 : xd = yd
          · skip
            by_cases h5 : xg = yg
            · skip
              by_cases h6 : xq = yq
              · skip
                by_cases h7 : xf = yf
                · skip
                  by_cases h8 : xo = yo
                  · skip
                    simp [h0, h1, h2, h3, h4, h5, h6, h7, h8]
                  · simp [h0, h1, h2, h3, h4, h5, h6, h7, h8]
                · simp [h0, h1, h2, h3, h4, h5, h6, h7]
              · simp [h0, h1, h2, h3, h4, h5, h6]
            · simp [h0, h1, h2, h3, h4, h5]
          · simp [h0, h1, h2, h3, h4]
        · simp [h0, h1, h2, h3]
      · simp [h0, h1, h2]
    · simp [h0, h1]
  · simp [h0]

theorem eqS_in (x y : Sl) (w : World) : (Op.equalIn 10000 27 (.agg #[.int .i64 x.t, .int .i64 x.k, .int .i64 x.e, .int .i64 x.b, .int .i64 x.r, .int .i64 x.d, .int .i64 x.g, .int .i64 x.q, .int .i64 x.f, .bool x.o, .int .i64 x.p]) (.agg #[.int .i64 y.t, .int .i64 y.k, .int .i64 y.e, .int .i64 y.b, .int .i64 y.r, .int .i64 y.d, .int .i64 y.g, .int .i64 y.q, .int .i64 y.f, .bool y.o, .int .i64 y.p])).run Try.prog w = .ok (decide (x = y)) w := by
  obtain ⟨xt, xk, xe, xb, xr, xd, xg, xq, xf, xo, xp⟩ := x
  obtain ⟨yt, yk, ye, yb, yr, yd, yg, yq, yf, yo, yp⟩ := y
  have h3 := eqCap_in xk xe xb xr xd xg xq xf xo yk ye yb yr yd yg yq yf yo w
  go_simp
  by_cases h0 : xt = yt
  · skip
    by_cases h1 : xk = yk
    · skip
      by_cases h2 : xe = ye
      · skip
        by_cases h3 : xb = yb
        · skip
          by_cases h4 : xr = yr
          · skip
            by_cases h5 : xd = yd
            · skip
              by_cases h6 : xg = yg
              · skip
                by_cases h7 : xq = yq
                · skip
                  by_cases h8 : xf = yf
                  · skip
                    by_cases h9 : xo = yo
                    · skip
                      by_cases h10 : xp = yp
                      · skip
                        simp [h0, h1, h2, h3, h4, h5, h6, h7, h8, h9, h10]
                      · simp [h0, h1, h2, h3, h4, h5, h6, h7, h8, h9, h10]
                    · simp [h0, h1, h2, h3, h4, h5, h6, h7, h8, h9]
                  · simp [h0, h1, h2, h3, h4, h5, h6, h7, h8]
                · simp [h0, h1, h2, h3, h4, h5, h6, h7]
              · simp [h0, h1, h2, h3, h4, h5, h6]
            · simp [h0, h1, h2, h3, h4, h5]
          · simp [h0, h1, h2, h3, h4]
        · simp [h0, h1, h2, h3]
      · simp [h0, h1, h2]
    · simp [h0, h1]
  · simp [h0]

theorem neqS_run (x y : Sl) (w : World) : (binOp .neq 27 (.agg #[.int .i64 x.t, .int .i64 x.k, .int .i64 x.e, .int .i64 x.b, .int .i64 x.r, .int .i64 x.d, .int .i64 x.g, .int .i64 x.q, .int .i64 x.f, .bool x.o, .int .i64 x.p]) (.agg #[.int .i64 y.t, .int .i64 y.k, .int .i64 y.e, .int .i64 y.b, .int .i64 y.r, .int .i64 y.d, .int .i64 y.g, .int .i64 y.q, .int .i64 y.f, .bool y.o, .int .i64 y.p])).run Try.prog w = .ok (.bool (!decide (x = y))) w := by
  rw [run_neq_struct, eqS_in]; rfl

def eqSInv (w : World) (L M : List Sl) (i : Value) (w' : World) : Prop :=
  ∃ k : Nat, k ≤ L.length ∧ i = .int .i64 k ∧ sameTo L M k ∧ Below w.heap.size w w'

end Go.Proofs.Ytalncgmncafhjaa
