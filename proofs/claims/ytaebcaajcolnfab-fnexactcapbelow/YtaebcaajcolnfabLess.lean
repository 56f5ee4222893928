/-
  What CapBelow of the program and of the specification answer, at every two capabilities.
-/
import Derived.Test.YtaebcaajcolnfabCopy
import Derived.Deep.Cut
namespace Go.Proofs.Ytaebcaajcolnfab
open Go.ChangeShapes Go.WideShapes Go.ChangeAt Go.RowKit
set_option linter.unusedVariables false

/-- One gives no more than another one, where both are ok. -/
def lessB (k1 a1 b1 r1 d1 k2 a2 b2 r2 d2 : Int) : Bool := (k1 == k2) && (a1 == a2) && (b1 == b2) && subB r1 r2 && ((d1 == d2) || (d2 == 0))
def belowB (k1 a1 b1 r1 d1 g1 q1 f1 : Int) (o1 : Bool) (k2 a2 b2 r2 d2 g2 q2 f2 : Int) (o2 : Bool) : Bool :=
  okB k1 a1 b1 r1 d1 g1 q1 f1 o1 && okB k2 a2 b2 r2 d2 g2 q2 f2 o2 && lessB k1 a1 b1 r1 d1 k2 a2 b2 r2 d2

theorem sub_bits {a b : Int} (h0 : 0 ≤ a) (h1 : a ≤ 7) (h2 : 0 ≤ b) (h3 : b ≤ 7) : (bits BinOp.andNot IntKind.i64 a b == 0) = subB a b := by
  rcases upto7 h0 h1 with e | e | e | e | e | e | e | e <;> subst e <;> rcases upto7 h2 h3 with e | e | e | e | e | e | e | e <;> subst e <;> decide

set_option maxHeartbeats 400000 in
theorem belowImpl_a (k1 a1 b1 r1 d1 g1 q1 f1 k2 a2 b2 r2 d2 g2 q2 f2 : Int) (o1 o2 : Bool) (w : World) (h0 : -9223372036854775808 ≤ r1) (h1 : r1 ≤ 9223372036854775807) (h2 : -9223372036854775808 ≤ r2) (h3 : r2 ≤ 9223372036854775807) (e1 : okB k1 a1 b1 r1 d1 g1 q1 f1 o1 = false) :
    Calls Try.prog 16 #[.agg #[.int .i64 k1, .int .i64 a1, .int .i64 b1, .int .i64 r1, .int .i64 d1, .int .i64 g1, .int .i64 q1, .int .i64 f1, .bool o1], .agg #[.int .i64 k2, .int .i64 a2, .int .i64 b2, .int .i64 r2, .int .i64 d2, .int .i64 g2, .int .i64 q2, .int .i64 f2, .bool o2]] w fun e w' => e = .returned (.bool (false)) ∧ Below w.heap.size w w' := by
  go_enter Try.func16, Try.ntmps16
  go_wp2_with fail
  refine (okImpl_any _ _ _ _ _ _ _ _ _ _ h0 h1).mono ?_
  rintro e w1 ⟨rfl, hb⟩
  obtain ⟨HA, HB, fA, fB, hbase, hz⟩ := after2 hb
  clear hb
  obtain ⟨x0, x1, x2, x3, x4, x5, x6, x7, x8⟩ := id HA
  obtain ⟨y0, y1, y2, y3, y4, y5, y6, y7, y8⟩ := id HB
  rw [e1]
  go_wp2_with fail
  go_ret
  exact ⟨rfl, hbase⟩

set_option maxHeartbeats 400000 in
theorem belowImpl_b (k1 a1 b1 r1 d1 g1 q1 f1 k2 a2 b2 r2 d2 g2 q2 f2 : Int) (o1 o2 : Bool) (w : World) (h0 : -9223372036854775808 ≤ r1) (h1 : r1 ≤ 9223372036854775807) (h2 : -9223372036854775808 ≤ r2) (h3 : r2 ≤ 9223372036854775807) (e1 : okB k1 a1 b1 r1 d1 g1 q1 f1 o1 = true) (e2 : okB k2 a2 b2 r2 d2 g2 q2 f2 o2 = false) :
    Calls Try.prog 16 #[.agg #[.int .i64 k1, .int .i64 a1, .int .i64 b1, .int .i64 r1, .int .i64 d1, .int .i64 g1, .int .i64 q1, .int .i64 f1, .bool o1], .agg #[.int .i64 k2, .int .i64 a2, .int .i64 b2, .int .i64 r2, .int .i64 d2, .int .i64 g2, .int .i64 q2, .int .i64 f2, .bool o2]] w fun e w' => e = .returned (.bool (false)) ∧ Below w.heap.size w w' := by
  go_enter Try.func16, Try.ntmps16
  go_wp2_with fail
  refine (okImpl_any _ _ _ _ _ _ _ _ _ _ h0 h1).mono ?_
  rintro e w1 ⟨rfl, hb⟩
  obtain ⟨HA, HB, fA, fB, hbase, hz⟩ := after2 hb
  clear hb
  obtain ⟨x0, x1, x2, x3, x4, x5, x6, x7, x8⟩ := id HA
  obtain ⟨y0, y1, y2, y3, y4, y5, y6, y7, y8⟩ := id HB
  rw [e1]
  go_wp2_with fail
  refine (okImpl_any _ _ _ _ _ _ _ _ _ _ h2 h3).mono ?_
  rintro e w2 ⟨rfl, hb⟩
  have HA2 := HA.below hb (by omega)
  have HB2 := HB.below hb hz
  have hbase2 := hbase.trans (hb.mono (by omega))
  clear hb x0 x1 x2 x3 x4 x5 x6 x7 x8 y0 y1 y2 y3 y4 y5 y6 y7 y8 HA HB fA fB hbase hz
  obtain ⟨x0, x1, x2, x3, x4, x5, x6, x7, x8⟩ := HA2
  obtain ⟨y0, y1, y2, y3, y4, y5, y6, y7, y8⟩ := HB2
  rw [e2]
  go_wp2_with fail
  go_ret
  exact ⟨rfl, hbase2⟩

set_option maxHeartbeats 2000000 in
theorem belowImpl_c (k1 a1 b1 r1 d1 g1 q1 f1 k2 a2 b2 r2 d2 g2 q2 f2 : Int) (o1 o2 : Bool) (w : World) (h0 : -9223372036854775808 ≤ r1) (h1 : r1 ≤ 9223372036854775807) (h2 : -9223372036854775808 ≤ r2) (h3 : r2 ≤ 9223372036854775807) (e1 : okB k1 a1 b1 r1 d1 g1 q1 f1 o1 = true) (e2 : okB k2 a2 b2 r2 d2 g2 q2 f2 o2 = true) :
    Calls Try.prog 16 #[.agg #[.int .i64 k1, .int .i64 a1, .int .i64 b1, .int .i64 r1, .int .i64 d1, .int .i64 g1, .int .i64 q1, .int .i64 f1, .bool o1], .agg #[.int .i64 k2, .int .i64 a2, .int .i64 b2, .int .i64 r2, .int .i64 d2, .int .i64 g2, .int .i64 q2, .int .i64 f2, .bool o2]] w fun e w' => e = .returned (.bool (lessB k1 a1 b1 r1 d1 k2 a2 b2 r2 d2)) ∧ Below w.heap.size w w' := by
  obtain ⟨_, _, _, ⟨r10, r11⟩, _⟩ := ok_bounds e1
  obtain ⟨_, _, _, ⟨r20, r21⟩, _⟩ := ok_bounds e2
  have hsb := sub_bits r10 r11 r20 r21
  go_enter Try.func16, Try.ntmps16
  go_wp2_with fail
  refine (okImpl_any _ _ _ _ _ _ _ _ _ _ h0 h1).mono ?_
  rintro e w1 ⟨rfl, hb⟩
  obtain ⟨HA, HB, fA, fB, hbase, hz⟩ := after2 hb
  clear hb
  obtain ⟨x0, x1, x2, x3, x4, x5, x6, x7, x8⟩ := id HA
  obtain ⟨y0, y1, y2, y3, y4, y5, y6, y7, y8⟩ := id HB
  rw [e1]
  go_wp2_with fail
  refine (okImpl_any _ _ _ _ _ _ _ _ _ _ h2 h3).mono ?_
  rintro e w2 ⟨rfl, hb⟩
  have HA2 := HA.below hb (by omega)
  have HB2 := HB.below hb hz
  have hbase2 := hbase.trans (hb.mono (by omega))
  clear hb x0 x1 x2 x3 x4 x5 x6 x7 x8 y0 y1 y2 y3 y4 y5 y6 y7 y8 HA HB fA fB hbase hz
  obtain ⟨x0, x1, x2, x3, x4, x5, x6, x7, x8⟩ := HA2
  obtain ⟨y0, y1, y2, y3, y4, y5, y6, y7, y8⟩ := HB2
  rw [e2]
  cases ek : (k1 == k2)
  · have nk : (k1 != k2) = true := by simp [bne, ek]
    go_wp2_with fail
    go_ret
    exact ⟨ret_bool (by simp [lessB, ek]), hbase2⟩
  · have nk : (k1 != k2) = false := by simp [bne, ek]
    cases ea : (a1 == a2)
    · have na : (a1 != a2) = true := by simp [bne, ea]
      go_wp2_with fail
      go_ret
      exact ⟨ret_bool (by simp [lessB, ea]), hbase2⟩
    · have na : (a1 != a2) = false := by simp [bne, ea]
      cases eb : (b1 == b2)
      · have nb : (b1 != b2) = true := by simp [bne, eb]
        go_wp2_with fail
        go_ret
        exact ⟨ret_bool (by simp [lessB, eb]), hbase2⟩
      · have nb : (b1 != b2) = false := by simp [bne, eb]
        cases es : subB r1 r2
        · rw [es] at hsb
          go_wp2_with (first | fail)
          go_ret
          exact ⟨ret_bool (by simp [lessB, es]), hbase2⟩
        · rw [es] at hsb
          cases ed : (d1 == d2)
          · go_wp2_with (first | fail)
            go_ret
            exact ⟨ret_bool (by simp [lessB, ek, ea, eb, es, ed]), hbase2⟩
          · go_wp2_with (first | fail)
            go_ret
            exact ⟨ret_bool (by simp [lessB, ek, ea, eb, es, ed]), hbase2⟩

theorem belowImpl_any (k1 a1 b1 r1 d1 g1 q1 f1 k2 a2 b2 r2 d2 g2 q2 f2 : Int) (o1 o2 : Bool) (w : World) (h0 : -9223372036854775808 ≤ r1) (h1 : r1 ≤ 9223372036854775807) (h2 : -9223372036854775808 ≤ r2) (h3 : r2 ≤ 9223372036854775807) :
    Calls Try.prog 16 #[.agg #[.int .i64 k1, .int .i64 a1, .int .i64 b1, .int .i64 r1, .int .i64 d1, .int .i64 g1, .int .i64 q1, .int .i64 f1, .bool o1], .agg #[.int .i64 k2, .int .i64 a2, .int .i64 b2, .int .i64 r2, .int .i64 d2, .int .i64 g2, .int .i64 q2, .int .i64 f2, .bool o2]] w fun e w' => e = .returned (.bool (belowB k1 a1 b1 r1 d1 g1 q1 f1 o1 k2 a2 b2 r2 d2 g2 q2 f2 o2)) ∧ Below w.heap.size w w' := by
  cases e1 : okB k1 a1 b1 r1 d1 g1 q1 f1 o1
  · have : belowB k1 a1 b1 r1 d1 g1 q1 f1 o1 k2 a2 b2 r2 d2 g2 q2 f2 o2 = false := by simp [belowB, e1]
    rw [this]; exact belowImpl_a k1 a1 b1 r1 d1 g1 q1 f1 k2 a2 b2 r2 d2 g2 q2 f2 o1 o2 w h0 h1 h2 h3 e1
  · cases e2 : okB k2 a2 b2 r2 d2 g2 q2 f2 o2
    · have : belowB k1 a1 b1 r1 d1 g1 q1 f1 o1 k2 a2 b2 r2 d2 g2 q2 f2 o2 = false := by simp [belowB, e2]
      rw [this]; exact belowImpl_b k1 a1 b1 r1 d1 g1 q1 f1 k2 a2 b2 r2 d2 g2 q2 f2 o1 o2 w h0 h1 h2 h3 e1 e2
    · have : belowB k1 a1 b1 r1 d1 g1 q1 f1 o1 k2 a2 b2 r2 d2 g2 q2 f2 o2 = lessB k1 a1 b1 r1 d1 k2 a2 b2 r2 d2 := by simp [belowB, e1, e2]
      rw [this]; exact belowImpl_c k1 a1 b1 r1 d1 g1 q1 f1 k2 a2 b2 r2 d2 g2 q2 f2 o1 o2 w h0 h1 h2 h3 e1 e2

set_option maxHeartbeats 400000 in
theorem belowSpec_a (k1 a1 b1 r1 d1 g1 q1 f1 k2 a2 b2 r2 d2 g2 q2 f2 : Int) (o1 o2 : Bool) (w : World) (h0 : -9223372036854775808 ≤ r1) (h1 : r1 ≤ 9223372036854775807) (h2 : -9223372036854775808 ≤ r2) (h3 : r2 ≤ 9223372036854775807) (e1 : okB k1 a1 b1 r1 d1 g1 q1 f1 o1 = false) :
    Calls Try.prog 15 #[.agg #[.int .i64 k1, .int .i64 a1, .int .i64 b1, .int .i64 r1, .int .i64 d1, .int .i64 g1, .int .i64 q1, .int .i64 f1, .bool o1], .agg #[.int .i64 k2, .int .i64 a2, .int .i64 b2, .int .i64 r2, .int .i64 d2, .int .i64 g2, .int .i64 q2, .int .i64 f2, .bool o2]] w fun e w' => e = .returned (.bool (false)) ∧ Below w.heap.size w w' := by
  go_enter Try.func15, Try.ntmps15
  go_wp2_with fail
  refine (okSpec_any _ _ _ _ _ _ _ _ _ _).mono ?_
  rintro e w1 ⟨rfl, hb⟩
  obtain ⟨HA, HB, fA, fB, hbase, hz⟩ := after2 hb
  clear hb
  obtain ⟨x0, x1, x2, x3, x4, x5, x6, x7, x8⟩ := id HA
  obtain ⟨y0, y1, y2, y3, y4, y5, y6, y7, y8⟩ := id HB
  rw [e1]
  go_wp2_with fail
  go_ret
  exact ⟨rfl, hbase⟩

set_option maxHeartbeats 400000 in
theorem belowSpec_b (k1 a1 b1 r1 d1 g1 q1 f1 k2 a2 b2 r2 d2 g2 q2 f2 : Int) (o1 o2 : Bool) (w : World) (h0 : -9223372036854775808 ≤ r1) (h1 : r1 ≤ 9223372036854775807) (h2 : -9223372036854775808 ≤ r2) (h3 : r2 ≤ 9223372036854775807) (e1 : okB k1 a1 b1 r1 d1 g1 q1 f1 o1 = true) (e2 : okB k2 a2 b2 r2 d2 g2 q2 f2 o2 = false) :
    Calls Try.prog 15 #[.agg #[.int .i64 k1, .int .i64 a1, .int .i64 b1, .int .i64 r1, .int .i64 d1, .int .i64 g1, .int .i64 q1, .int .i64 f1, .bool o1], .agg #[.int .i64 k2, .int .i64 a2, .int .i64 b2, .int .i64 r2, .int .i64 d2, .int .i64 g2, .int .i64 q2, .int .i64 f2, .bool o2]] w fun e w' => e = .returned (.bool (false)) ∧ Below w.heap.size w w' := by
  go_enter Try.func15, Try.ntmps15
  go_wp2_with fail
  refine (okSpec_any _ _ _ _ _ _ _ _ _ _).mono ?_
  rintro e w1 ⟨rfl, hb⟩
  obtain ⟨HA, HB, fA, fB, hbase, hz⟩ := after2 hb
  clear hb
  obtain ⟨x0, x1, x2, x3, x4, x5, x6, x7, x8⟩ := id HA
  obtain ⟨y0, y1, y2, y3, y4, y5, y6, y7, y8⟩ := id HB
  rw [e1]
  go_wp2_with fail
  refine (okSpec_any _ _ _ _ _ _ _ _ _ _).mono ?_
  rintro e w2 ⟨rfl, hb⟩
  have HA2 := HA.below hb (by omega)
  have HB2 := HB.below hb hz
  have hbase2 := hbase.trans (hb.mono (by omega))
  clear hb x0 x1 x2 x3 x4 x5 x6 x7 x8 y0 y1 y2 y3 y4 y5 y6 y7 y8 HA HB fA fB hbase hz
  obtain ⟨x0, x1, x2, x3, x4, x5, x6, x7, x8⟩ := HA2
  obtain ⟨y0, y1, y2, y3, y4, y5, y6, y7, y8⟩ := HB2
  rw [e2]
  go_wp2_with fail
  go_ret
  exact ⟨rfl, hbase2⟩

set_option maxHeartbeats 2000000 in
theorem belowSpec_c (k1 a1 b1 r1 d1 g1 q1 f1 k2 a2 b2 r2 d2 g2 q2 f2 : Int) (o1 o2 : Bool) (w : World) (h0 : -9223372036854775808 ≤ r1) (h1 : r1 ≤ 9223372036854775807) (h2 : -9223372036854775808 ≤ r2) (h3 : r2 ≤ 9223372036854775807) (e1 : okB k1 a1 b1 r1 d1 g1 q1 f1 o1 = true) (e2 : okB k2 a2 b2 r2 d2 g2 q2 f2 o2 = true) :
    Calls Try.prog 15 #[.agg #[.int .i64 k1, .int .i64 a1, .int .i64 b1, .int .i64 r1, .int .i64 d1, .int .i64 g1, .int .i64 q1, .int .i64 f1, .bool o1], .agg #[.int .i64 k2, .int .i64 a2, .int .i64 b2, .int .i64 r2, .int .i64 d2, .int .i64 g2, .int .i64 q2, .int .i64 f2, .bool o2]] w fun e w' => e = .returned (.bool (lessB k1 a1 b1 r1 d1 k2 a2 b2 r2 d2)) ∧ Below w.heap.size w w' := by
  obtain ⟨_, _, _, ⟨r10, r11⟩, _⟩ := ok_bounds e1
  obtain ⟨_, _, _, ⟨r20, r21⟩, _⟩ := ok_bounds e2
  have hsb := sub_bits r10 r11 r20 r21
  go_enter Try.func15, Try.ntmps15
  go_wp2_with fail
  refine (okSpec_any _ _ _ _ _ _ _ _ _ _).mono ?_
  rintro e w1 ⟨rfl, hb⟩
  obtain ⟨HA, HB, fA, fB, hbase, hz⟩ := after2 hb
  clear hb
  obtain ⟨x0, x1, x2, x3, x4, x5, x6, x7, x8⟩ := id HA
  obtain ⟨y0, y1, y2, y3, y4, y5, y6, y7, y8⟩ := id HB
  rw [e1]
  go_wp2_with fail
  refine (okSpec_any _ _ _ _ _ _ _ _ _ _).mono ?_
  rintro e w2 ⟨rfl, hb⟩
  have HA2 := HA.below hb (by omega)
  have HB2 := HB.below hb hz
  have hbase2 := hbase.trans (hb.mono (by omega))
  clear hb x0 x1 x2 x3 x4 x5 x6 x7 x8 y0 y1 y2 y3 y4 y5 y6 y7 y8 HA HB fA fB hbase hz
  obtain ⟨x0, x1, x2, x3, x4, x5, x6, x7, x8⟩ := HA2
  obtain ⟨y0, y1, y2, y3, y4, y5, y6, y7, y8⟩ := HB2
  rw [e2]
  cases ek : (k1 == k2)
  · have nk : (k1 != k2) = true := by simp [bne, ek]
    go_wp2_with fail
    go_ret
    exact ⟨ret_bool (by simp [lessB, ek]), hbase2⟩
  · have nk : (k1 != k2) = false := by simp [bne, ek]
    cases ea : (a1 == a2)
    · have na : (a1 != a2) = true := by simp [bne, ea]
      go_wp2_with fail
      go_ret
      exact ⟨ret_bool (by simp [lessB, ea]), hbase2⟩
    · have na : (a1 != a2) = false := by simp [bne, ea]
      cases eb : (b1 == b2)
      · have nb : (b1 != b2) = true := by simp [bne, eb]
        go_wp2_with fail
        go_ret
        exact ⟨ret_bool (by simp [lessB, eb]), hbase2⟩
      · have nb : (b1 != b2) = false := by simp [bne, eb]
        cases es : subB r1 r2
        · clear hsb
          go_wp2_with (first | (go_at_call 22; refine (sub_any _ _ _ (by omega) (by omega) (by omega) (by omega)).mono ?_; rintro e w' ⟨rfl, rfl⟩))
          go_ret
          exact ⟨ret_bool (by simp [lessB, es]), hbase2⟩
        · clear hsb
          cases ed : (d1 == d2)
          · go_wp2_with (first | (go_at_call 22; refine (sub_any _ _ _ (by omega) (by omega) (by omega) (by omega)).mono ?_; rintro e w' ⟨rfl, rfl⟩))
            go_ret
            exact ⟨ret_bool (by simp [lessB, ek, ea, eb, es, ed]), hbase2⟩
          · go_wp2_with (first | (go_at_call 22; refine (sub_any _ _ _ (by omega) (by omega) (by omega) (by omega)).mono ?_; rintro e w' ⟨rfl, rfl⟩))
            go_ret
            exact ⟨ret_bool (by simp [lessB, ek, ea, eb, es, ed]), hbase2⟩

theorem belowSpec_any (k1 a1 b1 r1 d1 g1 q1 f1 k2 a2 b2 r2 d2 g2 q2 f2 : Int) (o1 o2 : Bool) (w : World) (h0 : -9223372036854775808 ≤ r1) (h1 : r1 ≤ 9223372036854775807) (h2 : -9223372036854775808 ≤ r2) (h3 : r2 ≤ 9223372036854775807) :
    Calls Try.prog 15 #[.agg #[.int .i64 k1, .int .i64 a1, .int .i64 b1, .int .i64 r1, .int .i64 d1, .int .i64 g1, .int .i64 q1, .int .i64 f1, .bool o1], .agg #[.int .i64 k2, .int .i64 a2, .int .i64 b2, .int .i64 r2, .int .i64 d2, .int .i64 g2, .int .i64 q2, .int .i64 f2, .bool o2]] w fun e w' => e = .returned (.bool (belowB k1 a1 b1 r1 d1 g1 q1 f1 o1 k2 a2 b2 r2 d2 g2 q2 f2 o2)) ∧ Below w.heap.size w w' := by
  cases e1 : okB k1 a1 b1 r1 d1 g1 q1 f1 o1
  · have : belowB k1 a1 b1 r1 d1 g1 q1 f1 o1 k2 a2 b2 r2 d2 g2 q2 f2 o2 = false := by simp [belowB, e1]
    rw [this]; exact belowSpec_a k1 a1 b1 r1 d1 g1 q1 f1 k2 a2 b2 r2 d2 g2 q2 f2 o1 o2 w h0 h1 h2 h3 e1
  · cases e2 : okB k2 a2 b2 r2 d2 g2 q2 f2 o2
    · have : belowB k1 a1 b1 r1 d1 g1 q1 f1 o1 k2 a2 b2 r2 d2 g2 q2 f2 o2 = false := by simp [belowB, e2]
      rw [this]; exact belowSpec_b k1 a1 b1 r1 d1 g1 q1 f1 k2 a2 b2 r2 d2 g2 q2 f2 o1 o2 w h0 h1 h2 h3 e1 e2
    · have : belowB k1 a1 b1 r1 d1 g1 q1 f1 o1 k2 a2 b2 r2 d2 g2 q2 f2 o2 = lessB k1 a1 b1 r1 d1 k2 a2 b2 r2 d2 := by simp [belowB, e1, e2]
      rw [this]; exact belowSpec_c k1 a1 b1 r1 d1 g1 q1 f1 k2 a2 b2 r2 d2 g2 q2 f2 o1 o2 w h0 h1 h2 h3 e1 e2

end Go.Proofs.Ytaebcaajcolnfab
