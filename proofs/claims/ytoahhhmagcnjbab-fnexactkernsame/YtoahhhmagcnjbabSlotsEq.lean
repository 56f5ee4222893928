/-
  Rows of slots compared by the program.
-/
import Derived.Test.YtoahhhmagcnjbabLawSlots
import Derived.Test.YtoahhhmagcnjbabInts
namespace Go.Proofs.Ytoahhhmagcnjbab
open Go.ChangeShapes Go.WideShapes Go.ChangeAt Go.RowKit
set_option linter.unusedVariables false

instance : DecidableEq Sl := fun x y => decidable_of_iff (x.t = y.t ∧ x.k = y.k ∧ x.e = y.e ∧ x.b = y.b ∧ x.r = y.r ∧ x.d = y.d ∧ x.g = y.g ∧ x.q = y.q ∧ x.f = y.f ∧ x.o = y.o ∧ x.p = y.p) ⟨fun h => by cases x; cases y; simp_all, fun h => by subst h; simp⟩

theorem eqCap_in (xk xe xb xr xd xg xq xf : Int) (xo : Bool) (yk ye yb yr yd yg yq yf : Int) (yo : Bool) (w : World) : (Op.equalIn 9999 49 (.agg #[.int .i64 xk, .int .i64 xe, .int .i64 xb, .int .i64 xr, .int .i64 xd, .int .i64 xg, .int .i64 xq, .int .i64 xf, .bool xo]) (.agg #[.int .i64 yk, .int .i64 ye, .int .i64 yb, .int .i64 yr, .int .i64 yd, .int .i64 yg, .int .i64 yq, .int .i64 yf, .bool yo])).run Try.prog w = .ok (decide (xk = yk) && decide (xe = ye) && decide (xb = yb) && decide (xr = yr) && decide (xd = yd) && decide (xg = yg) && decide (xq = yq) && decide (xf = yf) && decide (xo = yo)) w := by
  go_simp
  by_cases h0 : xk = yk
  · skip
    by_cases h1 : xe = ye
    · skip
      by_cases h2 : xb = yb
      · skip
        by_cases h3 : xr = yr
        · skip
          by_cases h4 : xd = yd
          · skip
            by_cases h5 : xg = yg
            · skip
              by_cases h6 : xq = yq
              · skip
                by_cases h7 : xf = yf
                · skip
                  by_cases h8 : xo = yo
                  · skip
                    simp [h0, h1, h2, h3, h4, h5, h6, h7, h8]
                  · simp [h0, h1, h2, h3, h4, h5, h6, h7, h8]
                · simp [h0, h1, h2, h3, h4, h5, h6, h7]
              · simp [h0, h1, h2, h3, h4, h5, h6]
            · simp [h0, h1, h2, h3, h4, h5]
          · simp [h0, h1, h2, h3, h4]
        · simp [h0, h1, h2, h3]
      · simp [h0, h1, h2]
    · simp [h0, h1]
  · simp [h0]

theorem eqS_in (x y : Sl) (w : World) : (Op.equalIn 10000 51 (.agg #[.int .i64 x.t, .int .i64 x.k, .int .i64 x.e, .int .i64 x.b, .int .i64 x.r, .int .i64 x.d, .int .i64 x.g, .int .i64 x.q, .int .i64 x.f, .bool x.o, .int .i64 x.p]) (.agg #[.int .i64 y.t, .int .i64 y.k, .int .i64 y.e, .int .i64 y.b, .int .i64 y.r, .int .i64 y.d, .int .i64 y.g, .int .i64 y.q, .int .i64 y.f, .bool y.o, .int .i64 y.p])).run Try.prog w = .ok (decide (x = y)) w := by
  obtain ⟨xt, xk, xe, xb, xr, xd, xg, xq, xf, xo, xp⟩ := x
  obtain ⟨yt, yk, ye, yb, yr, yd, yg, yq, yf, yo, yp⟩ := y
  have h3 := eqCap_in xk xe xb xr xd xg xq xf xo yk ye yb yr yd yg yq yf yo w
  go_simp
  by_cases h0 : xt = yt
  · skip
    by_cases h1 : xk = yk
    · skip
      by_cases h2 : xe = ye
      · skip
        by_cases h3 : xb = yb
        · skip
          by_cases h4 : xr = yr
          · skip
            by_cases h5 : xd = yd
            · skip
              by_cases h6 : xg = yg
              · skip
                by_cases h7 : xq = yq
                · skip
                  by_cases h8 : xf = yf
                  · skip
                    by_cases h9 : xo = yo
                    · skip
                      by_cases h10 : xp = yp
                      · skip
                        simp [h0, h1, h2, h3, h4, h5, h6, h7, h8, h9, h10]
                      · simp [h0, h1, h2, h3, h4, h5, h6, h7, h8, h9, h10]
                    · simp [h0, h1, h2, h3, h4, h5, h6, h7, h8, h9]
                  · simp [h0, h1, h2, h3, h4, h5, h6, h7, h8]
                · simp [h0, h1, h2, h3, h4, h5, h6, h7]
              · simp [h0, h1, h2, h3, h4, h5, h6]
            · simp [h0, h1, h2, h3, h4, h5]
          · simp [h0, h1, h2, h3, h4]
        · simp [h0, h1, h2, h3]
      · simp [h0, h1, h2]
    · simp [h0, h1]
  · simp [h0]

theorem neqS_run (x y : Sl) (w : World) : (binOp .neq 51 (.agg #[.int .i64 x.t, .int .i64 x.k, .int .i64 x.e, .int .i64 x.b, .int .i64 x.r, .int .i64 x.d, .int .i64 x.g, .int .i64 x.q, .int .i64 x.f, .bool x.o, .int .i64 x.p]) (.agg #[.int .i64 y.t, .int .i64 y.k, .int .i64 y.e, .int .i64 y.b, .int .i64 y.r, .int .i64 y.d, .int .i64 y.g, .int .i64 y.q, .int .i64 y.f, .bool y.o, .int .i64 y.p])).run Try.prog w = .ok (.bool (!decide (x = y))) w := by
  rw [run_neq_struct, eqS_in]; rfl

def eqSInv (w : World) (L M : List Sl) (i : Value) (w' : World) : Prop :=
  ∃ k : Nat, k ≤ L.length ∧ i = .int .i64 k ∧ sameTo L M k ∧ Below w.heap.size w w'

set_option maxRecDepth 100000 in
set_option maxHeartbeats 2000000 in
theorem eqS_impl (P Q : Option Addr) (c d : Nat) (L M : List Sl) (w : World) (hl : L.length ≤ 1048576) (hm : M.length ≤ 1048576) (hP : Lies w P L) (hQ : Lies w Q M) :
    Calls Try.prog 23 #[.slice P L.length c, .slice Q M.length d] w fun e w' => e = .returned (.bool (decide (L = M))) ∧ Below w.heap.size w w' := by
  by_cases hn : (L.length : Int) = (M.length : Int)
  · have hn1 : L.length = M.length := by omega
    have HN : Hid _ := hn1
    clear hn1
    go_enter Try.func23, Try.ntmps23
    go_wp2
    go_loopw [13] (fun i w' => eqSInv w L M i w') (fun i w' => L.length - (intOf i).toNat)
    case atStart => exact ⟨0, Nat.zero_le _, rfl, rfl, Below.refl _ _⟩
    case round =>
      obtain ⟨k, hk, rfl, hsm, hB⟩ := hrel
      have hP1 := hP.below hB
      have hQ1 := hQ.below hB
      by_cases hlt : k < L.length
      · have hlt2 : k < M.length := by have := HN.out; omega
        obtain ⟨B, O, rfl⟩ := hP1.some hlt
        obtain ⟨B2, O2, rfl⟩ := hQ1.some hlt2
        have cc := hP1.cells B O rfl k hlt
        have dd := hQ1.cells B2 O2 rfl k hlt2
        have hk1 : (k : Int) < (L.length : Int) := by omega
        have hk2 : (k : Int) < (M.length : Int) := by omega
        generalize hx : L[k] = x at cc
        generalize hy : M[k] = y at dd
        have HX : Hid _ := hx
        have HY : Hid _ := hy
        clear hx hy
        obtain ⟨c0, c1, c2, c3, c4, c5, c6, c7, c8, c9, c10⟩ := cc
        obtain ⟨d0, d1, d2, d3, d4, d5, d6, d7, d8, d9, d10⟩ := dd
        have hne := neqS_run x y
        cases he : decide (x = y)
        · rw [he] at hne
          have HE : Hid _ := he
          clear he
          simp only [Bool.not_false] at hne
          go_wp2
          go_quiet (fail)
          all_goals go_wp2
          all_goals go_ret
          all_goals exact ⟨ret_bool (decide_eq_false (ne_at hlt hlt2 (by rw [HX.out, HY.out]; simpa using HE.out))).symm, by first | exact belowG_drewN hB _ | exact hB.drew | exact hB⟩
        · rw [he] at hne
          have HE : Hid _ := he
          clear he
          simp only [Bool.not_true] at hne
          go_wp2
          go_quiet (fail)
          all_goals go_wp2
          all_goals go_roundw
          case rel => exact ⟨k + 1, by omega, by go_num, sameTo_next hsm hlt hlt2 (by rw [HX.out, HY.out]; simpa using HE.out), by first | exact belowG_drewN hB _ | exact hB.drew | exact hB⟩
          case measure => simp [intOf]; omega
      · have hk1 : ¬ (k : Int) < (L.length : Int) := by omega
        go_wp2
        go_ret
        exact ⟨ret_bool (decide_eq_true (sameTo_end hsm (by omega) HN.out)).symm, hB⟩
  · go_enter Try.func23, Try.ntmps23
    go_wp2
    go_ret
    exact ⟨ret_bool (decide_eq_false (fun e => hn (by rw [e]))).symm, Below.refl _ _⟩

set_option maxHeartbeats 1000000 in
theorem szS_any (P : Option Addr) (c n : Nat) (a : Int) (w : World) (ha : 0 ≤ a) (ha2 : a ≤ 1048576) (hm : n ≤ 9223372036854775807) :
    Calls Try.prog 9 #[.slice P n c, .int .i64 a] w fun e w' => e = .returned (.int .i64 (szR (n : Int) a)) ∧ w = w' := by
  by_cases h : (n : Int) ≤ a
  · have h1 : ¬ a - (n : Int) < 0 := by omega
    have h2 : 0 ≤ a - (n : Int) := by omega
    rw [szR_pos h]
    go_enter Try.func9, Try.ntmps9
    go_wp2
    go_ret
    exact ⟨rfl, rfl⟩
  · have h1 : a - (n : Int) < 0 := by omega
    rw [szR_neg h]
    go_enter Try.func9, Try.ntmps9
    go_wp2
    go_ret
    exact ⟨rfl, rfl⟩

end Go.Proofs.Ytoahhhmagcnjbab
