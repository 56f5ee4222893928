/-
  Threads: copies, sizes and compares of one and of a row of them.
-/
import Derived.Test.YtoahhhmagcnjbabInts
import Derived.Laws.ResultCell
import Derived.Deep.RegionHeld3
namespace Go.Proofs.Ytoahhhmagcnjbab
open Go.ChangeShapes Go.WideShapes Go.ChangeAt Go.RowKit
set_option linter.unusedVariables false

/-- A thread: its fifteen numbers, in their order. -/
structure QT where
  a0 : Int
  a1 : Int
  a2 : Int
  a3 : Int
  a4 : Int
  a5 : Int
  a6 : Int
  a7 : Int
  a8 : Int
  a9 : Int
  a10 : Int
  a11 : Int
  a12 : Int
  a13 : Int
  a14 : Int
  deriving DecidableEq
def fT : Form QT := ⟨15, fun e => [.int .i64 e.a0, .int .i64 e.a1, .int .i64 e.a2, .int .i64 e.a3, .int .i64 e.a4, .int .i64 e.a5, .int .i64 e.a6, .int .u32 e.a7, .int .i64 e.a8, .int .u32 e.a9, .int .u32 e.a10, .int .u32 e.a11, .int .u32 e.a12, .int .i64 e.a13, .int .u32 e.a14], fun _ => rfl, by decide⟩

theorem eqA3_in (a b c x y z : Int) (w : World) : (Op.equalIn 9999 53 (.agg #[.int .u32 a, .int .u32 b, .int .u32 c]) (.agg #[.int .u32 x, .int .u32 y, .int .u32 z])).run Try.prog w = .ok (decide (a = x) && (decide (b = y) && decide (c = z))) w := by
  have he : Try.prog.underlying 52 = some (.int .u32) := Try.underlying52
  have hs : ∀ w, (sizeOf 52).run Try.prog w = .ok 1 w := fun w => by go_simp
  rw [Op.equalIn]
  simp only [Sem.run_bind, run_underlying Try.underlying53, Result.andThen_ok, hs, Std.Legacy.Range.forIn_eq_forIn_range', Std.Legacy.Range.size, Nat.sub_zero, Nat.add_sub_cancel, Nat.div_one]
  have p : ∀ (q0 q1 q2 : Int) (i : Nat) (q : Int) (w : World), #[q0, q1, q2][i]? = some q → (part 52 #[.int .u32 q0, .int .u32 q1, .int .u32 q2] (i * 1)).run Try.prog w = .ok (.int .u32 q) w := by
    intro q0 q1 q2 i q w hq
    match i with
    | 0 => simp at hq; subst hq; simp [part, isAgg, run_underlying he]
    | 1 => simp at hq; subst hq; simp [part, isAgg, run_underlying he]
    | 2 => simp at hq; subst hq; simp [part, isAgg, run_underlying he]
    | k + 3 => simp at hq
  have p1 : ∀ (q0 q1 q2 : Int) (w : World), (part 52 #[.int .u32 q0, .int .u32 q1, .int .u32 q2] 1).run Try.prog w = .ok (.int .u32 q1) w := fun q0 q1 q2 w => p q0 q1 q2 1 q1 w rfl
  have p2 : ∀ (q0 q1 q2 : Int) (w : World), (part 52 #[.int .u32 q0, .int .u32 q1, .int .u32 q2] 2).run Try.prog w = .ok (.int .u32 q2) w := fun q0 q1 q2 w => p q0 q1 q2 2 q2 w rfl
  have pe : ∀ (u v : Int) (w : World), (Op.equalIn 9998 52 (.int .u32 u) (.int .u32 v)).run Try.prog w = .ok (u == v) w := fun u v w => run_equalIn_int w 9997 52 .u32 .u32 u v he
  have hl : List.range' 0 3 1 = [0, 1, 2] := rfl
  simp only [hl, List.forIn_cons, List.forIn_nil, Sem.run_bind, p a b c 0 a _ rfl, p x y z 0 x _ rfl, pe, Result.andThen_ok]
  by_cases h0 : a = x
  · by_cases h1 : b = y
    · by_cases h2 : c = z
      · simp [h0, h1, h2, p1, p2, pe]
      · simp [h0, h1, h2, p1, p2, pe]
    · simp [h0, h1, p1, pe]
  · simp [h0]

theorem eqT_in (x y : QT) (w : World) : (Op.equalIn 10000 55 (.agg #[.int .i64 x.a0, .int .i64 x.a1, .int .i64 x.a2, .int .i64 x.a3, .int .i64 x.a4, .int .i64 x.a5, .int .i64 x.a6, .int .u32 x.a7, .int .i64 x.a8, .int .u32 x.a9, .int .u32 x.a10, .int .u32 x.a11, .int .u32 x.a12, .int .i64 x.a13, .int .u32 x.a14]) (.agg #[.int .i64 y.a0, .int .i64 y.a1, .int .i64 y.a2, .int .i64 y.a3, .int .i64 y.a4, .int .i64 y.a5, .int .i64 y.a6, .int .u32 y.a7, .int .i64 y.a8, .int .u32 y.a9, .int .u32 y.a10, .int .u32 y.a11, .int .u32 y.a12, .int .i64 y.a13, .int .u32 y.a14])).run Try.prog w = .ok (decide (x = y)) w := by
  obtain ⟨x0, x1, x2, x3, x4, x5, x6, x7, x8, x9, x10, x11, x12, x13, x14⟩ := x
  obtain ⟨y0, y1, y2, y3, y4, y5, y6, y7, y8, y9, y10, y11, y12, y13, y14⟩ := y
  have h3 := eqA3_in x10 x11 x12 y10 y11 y12 w
  go_simp
  by_cases h0 : x0 = y0
  · skip
    by_cases h1 : x1 = y1
    · skip
      by_cases h2 : x2 = y2
      · skip
        by_cases h3 : x3 = y3
        · skip
          by_cases h4 : x4 = y4
          · skip
            by_cases h5 : x5 = y5
            · skip
              by_cases h6 : x6 = y6
              · skip
                by_cases h7 : x7 = y7
                · skip
                  by_cases h8 : x8 = y8
                  · skip
                    by_cases h9 : x9 = y9
                    · skip
                      by_cases h10 : x10 = y10
                      · skip
                        by_cases h11 : x11 = y11
                        · skip
                          by_cases h12 : x12 = y12
                          · skip
                            by_cases h13 : x13 = y13
                            · skip
                              by_cases h14 : x14 = y14
                              · skip
                                simp [h0, h1, h2, h3, h4, h5, h6, h7, h8, h9, h10, h11, h12, h13, h14]
                              · simp [h0, h1, h2, h3, h4, h5, h6, h7, h8, h9, h10, h11, h12, h13, h14]
                            · simp [h0, h1, h2, h3, h4, h5, h6, h7, h8, h9, h10, h11, h12, h13]
                          · simp [h0, h1, h2, h3, h4, h5, h6, h7, h8, h9, h10, h11, h12]
                        · simp [h0, h1, h2, h3, h4, h5, h6, h7, h8, h9, h10, h11]
                      · simp [h0, h1, h2, h3, h4, h5, h6, h7, h8, h9, h10]
                    · simp [h0, h1, h2, h3, h4, h5, h6, h7, h8, h9]
                  · simp [h0, h1, h2, h3, h4, h5, h6, h7, h8]
                · simp [h0, h1, h2, h3, h4, h5, h6, h7]
              · simp [h0, h1, h2, h3, h4, h5, h6]
            · simp [h0, h1, h2, h3, h4, h5]
          · simp [h0, h1, h2, h3, h4]
        · simp [h0, h1, h2, h3]
      · simp [h0, h1, h2]
    · simp [h0, h1]
  · simp [h0]

theorem neqT_run (x y : QT) (w : World) : (binOp .neq 55 (.agg #[.int .i64 x.a0, .int .i64 x.a1, .int .i64 x.a2, .int .i64 x.a3, .int .i64 x.a4, .int .i64 x.a5, .int .i64 x.a6, .int .u32 x.a7, .int .i64 x.a8, .int .u32 x.a9, .int .u32 x.a10, .int .u32 x.a11, .int .u32 x.a12, .int .i64 x.a13, .int .u32 x.a14]) (.agg #[.int .i64 y.a0, .int .i64 y.a1, .int .i64 y.a2, .int .i64 y.a3, .int .i64 y.a4, .int .i64 y.a5, .int .i64 y.a6, .int .u32 y.a7, .int .i64 y.a8, .int .u32 y.a9, .int .u32 y.a10, .int .u32 y.a11, .int .u32 y.a12, .int .i64 y.a13, .int .u32 y.a14])).run Try.prog w = .ok (.bool (!decide (x = y))) w := by
  rw [run_neq_struct, eqT_in]; rfl

theorem atT {W : World} {B O : Nat} {L : List QT} (h : LiesG fT W (some ⟨B, O, none⟩) L) {k : Nat} (hk : k < L.length) : W.cell? ⟨B, O + k * 15, none⟩ = some (.int .i64 L[k].a0) ∧ W.cell? ⟨B, O + k * 15 + 1, none⟩ = some (.int .i64 L[k].a1) ∧ W.cell? ⟨B, O + k * 15 + 2, none⟩ = some (.int .i64 L[k].a2) ∧ W.cell? ⟨B, O + k * 15 + 3, none⟩ = some (.int .i64 L[k].a3) ∧ W.cell? ⟨B, O + k * 15 + 4, none⟩ = some (.int .i64 L[k].a4) ∧ W.cell? ⟨B, O + k * 15 + 5, none⟩ = some (.int .i64 L[k].a5) ∧ W.cell? ⟨B, O + k * 15 + 6, none⟩ = some (.int .i64 L[k].a6) ∧ W.cell? ⟨B, O + k * 15 + 7, none⟩ = some (.int .u32 L[k].a7) ∧ W.cell? ⟨B, O + k * 15 + 8, none⟩ = some (.int .i64 L[k].a8) ∧ W.cell? ⟨B, O + k * 15 + 9, none⟩ = some (.int .u32 L[k].a9) ∧ W.cell? ⟨B, O + k * 15 + 10, none⟩ = some (.int .u32 L[k].a10) ∧ W.cell? ⟨B, O + k * 15 + 11, none⟩ = some (.int .u32 L[k].a11) ∧ W.cell? ⟨B, O + k * 15 + 12, none⟩ = some (.int .u32 L[k].a12) ∧ W.cell? ⟨B, O + k * 15 + 13, none⟩ = some (.int .i64 L[k].a13) ∧ W.cell? ⟨B, O + k * 15 + 14, none⟩ = some (.int .u32 L[k].a14) :=
  ⟨by have := h.at hk 0 _ rfl; simpa [fT] using this, by have := h.at hk 1 _ rfl; simpa [fT] using this, by have := h.at hk 2 _ rfl; simpa [fT] using this, by have := h.at hk 3 _ rfl; simpa [fT] using this, by have := h.at hk 4 _ rfl; simpa [fT] using this, by have := h.at hk 5 _ rfl; simpa [fT] using this, by have := h.at hk 6 _ rfl; simpa [fT] using this, by have := h.at hk 7 _ rfl; simpa [fT] using this, by have := h.at hk 8 _ rfl; simpa [fT] using this, by have := h.at hk 9 _ rfl; simpa [fT] using this, by have := h.at hk 10 _ rfl; simpa [fT] using this, by have := h.at hk 11 _ rfl; simpa [fT] using this, by have := h.at hk 12 _ rfl; simpa [fT] using this, by have := h.at hk 13 _ rfl; simpa [fT] using this, by have := h.at hk 14 _ rfl; simpa [fT] using this⟩

def eqTInv (w : World) (L M : List QT) (i : Value) (w' : World) : Prop :=
  ∃ k : Nat, k ≤ L.length ∧ i = .int .i64 k ∧ sameTo L M k ∧ Below w.heap.size w w'

set_option maxRecDepth 100000 in
set_option maxHeartbeats 2000000 in
theorem eqT_impl (P Q : Option Addr) (c d : Nat) (L M : List QT) (w : World) (hl : L.length ≤ 1048576) (hm : M.length ≤ 1048576) (hP : LiesG fT w P L) (hQ : LiesG fT w Q M) :
    Calls Try.prog 24 #[.slice P L.length c, .slice Q M.length d] w fun e w' => e = .returned (.bool (decide (L = M))) ∧ Below w.heap.size w w' := by
  by_cases hn : (L.length : Int) = (M.length : Int)
  · have hn1 : L.length = M.length := by omega
    have HN : Hid _ := hn1
    clear hn1
    go_enter Try.func24, Try.ntmps24
    go_wp2
    go_loopw [13] (fun i w' => eqTInv w L M i w') (fun i w' => L.length - (intOf i).toNat)
    case atStart => exact ⟨0, Nat.zero_le _, rfl, rfl, Below.refl _ _⟩
    case round =>
      obtain ⟨k, hk, rfl, hsm, hB⟩ := hrel
      have hP1 := hP.below hB
      have hQ1 := hQ.below hB
      by_cases hlt : k < L.length
      · have hlt2 : k < M.length := by have := HN.out; omega
        obtain ⟨B, O, rfl⟩ := hP1.has hlt
        obtain ⟨B2, O2, rfl⟩ := hQ1.has hlt2
        have cc := atT hP1 hlt
        have dd := atT hQ1 hlt2
        have hk1 : (k : Int) < (L.length : Int) := by omega
        have hk2 : (k : Int) < (M.length : Int) := by omega
        generalize hx : L[k] = x at cc
        generalize hy : M[k] = y at dd
        have HX : Hid _ := hx
        have HY : Hid _ := hy
        clear hx hy
        obtain ⟨c0, c1, c2, c3, c4, c5, c6, c7, c8, c9, c10, c11, c12, c13, c14⟩ := cc
        obtain ⟨d0, d1, d2, d3, d4, d5, d6, d7, d8, d9, d10, d11, d12, d13, d14⟩ := dd
        have hne := neqT_run x y
        cases he : decide (x = y)
        · rw [he] at hne
          have HE : Hid _ := he
          clear he
          simp only [Bool.not_false] at hne
          go_wp2
          go_quiet (fail)
          all_goals go_wp2
          all_goals go_ret
          all_goals exact ⟨ret_bool (decide_eq_false (ne_at hlt hlt2 (by rw [HX.out, HY.out]; simpa using HE.out))).symm, by first | exact belowG_drewN hB _ | exact hB.drew | exact hB⟩
        · rw [he] at hne
          have HE : Hid _ := he
          clear he
          simp only [Bool.not_true] at hne
          go_wp2
          go_quiet (fail)
          all_goals go_wp2
          all_goals go_roundw
          case rel => exact ⟨k + 1, by omega, by go_num, sameTo_next hsm hlt hlt2 (by rw [HX.out, HY.out]; simpa using HE.out), by first | exact belowG_drewN hB _ | exact hB.drew | exact hB⟩
          case measure => simp [intOf]; omega
      · have hk1 : ¬ (k : Int) < (L.length : Int) := by omega
        go_wp2
        go_ret
        exact ⟨ret_bool (decide_eq_true (sameTo_end hsm (by omega) HN.out)).symm, hB⟩
  · go_enter Try.func24, Try.ntmps24
    go_wp2
    go_ret
    exact ⟨ret_bool (decide_eq_false (fun e => hn (by rw [e]))).symm, Below.refl _ _⟩

end Go.Proofs.Ytoahhhmagcnjbab
