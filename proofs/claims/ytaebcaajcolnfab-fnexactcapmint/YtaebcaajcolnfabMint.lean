/-
  What CapMint of the program and of the specification answer, at every capability.
-/
import Derived.Test.YtaebcaajcolnfabCopy
import Derived.Deep.Cut
namespace Go.Proofs.Ytaebcaajcolnfab
open Go.ChangeShapes Go.WideShapes Go.ChangeAt Go.RowKit
set_option linter.unusedVariables false

theorem mask16 {m : Int} (h0 : 0 ≤ m) (h1 : m ≤ 4294967295) : bits BinOp.and IntKind.u32 m 65535 = m % 65536 := by
  obtain ⟨M, rfl⟩ := Int.eq_ofNat_of_zero_le h0
  have e7 : (65535 : Int) = ((65535 : Nat) : Int) := rfl
  rw [e7, u32_and_nat _ _ (by omega) (by omega)]
  have : M &&& 65535 = M % 65536 := Nat.and_two_pow_sub_one_eq_mod M 16
  rw [this]; omega

set_option maxHeartbeats 400000 in
theorem mintImpl_no (k a b r d g q f m x : Int) (o : Bool) (w : World) (h0 : -9223372036854775808 ≤ r) (h1 : r ≤ 9223372036854775807) (h : copyB k a b r d g q f o = false) :
    Calls Try.prog 14 #[.agg #[.int .i64 k, .int .i64 a, .int .i64 b, .int .i64 r, .int .i64 d, .int .i64 g, .int .i64 q, .int .i64 f, .bool o], .int .u32 m, .int .u32 x] w fun e w' => e = .returned (.tuple #[.agg #[.int .i64 0, .int .i64 0, .int .i64 0, .int .i64 0, .int .i64 0, .int .i64 0, .int .i64 0, .int .i64 0, .bool false], .bool false]) ∧ Below w.heap.size w w' := by
  go_enter Try.func14, Try.ntmps14
  go_wp2_with fail
  refine (copyImpl_no _ _ _ _ _ _ _ _ _ _ _ h0 h1 (by assumption)).mono ?_
  rintro e w1 ⟨rfl, hb⟩
  obtain ⟨HB, HR, fB, fR, hbase, hz⟩ := after2 hb
  clear hb
  go_upto_region 2 with fail
  have F := fresh9 (.int .i64 0) (.int .i64 0) (.int .i64 0) (.int .i64 0) (.int .i64 0) (.int .i64 0) (.int .i64 0) (.int .i64 0) (.bool false) 24 HB HR (by omega) hz fB fR
  have hB2 := hbase.alloc (by omega) (.cells #[.int .i64 0, .int .i64 0, .int .i64 0, .int .i64 0, .int .i64 0, .int .i64 0, .int .i64 0, .int .i64 0, .bool false] 24)
  clear HB HR fB fR hbase
  generalize w1.alloc (.cells #[.int .i64 0, .int .i64 0, .int .i64 0, .int .i64 0, .int .i64 0, .int .i64 0, .int .i64 0, .int .i64 0, .bool false] 24) = W2 at F hB2 ⊢
  generalize w1.heap.size = M at F hz ⊢
  obtain ⟨HM, HC, HR, fM, fB, fR, n1, n2, n3, n4, hs⟩ := F
  obtain ⟨m0, m1, m2, m3, m4, m5, m6, m7, m8⟩ := id HM
  obtain ⟨c0, c1, c2, c3, c4, c5, c6, c7, c8⟩ := HC
  obtain ⟨z0, z1, z2, z3, z4, z5, z6, z7, z8⟩ := id HR
  go_wp2_with fail
  have HF := HR.put (.int .i64 0) (.int .i64 0) (.int .i64 0) (.int .i64 0) (.int .i64 0) (.int .i64 0) (.int .i64 0) (.int .i64 0) (.bool false)
  refine bodyPost_ret (impl_CapMint_res rfl rfl HF) rfl ?_
  refine ⟨rfl, ?_⟩
  repeat (refine Below.setCell ?_ (by simp; try omega) _)
  exact hB2

set_option maxHeartbeats 400000 in
theorem mintImpl_3 (a b r d g q f m x : Int) (o : Bool) (w : World) (hm0 : 0 ≤ m) (hm1 : m ≤ 4294967295) (hx0 : 0 ≤ x) (hx1 : x ≤ 4294967295) (h : copyB 3 a b r d g q f o = true) :
    Calls Try.prog 14 #[.agg #[.int .i64 3, .int .i64 a, .int .i64 b, .int .i64 r, .int .i64 d, .int .i64 g, .int .i64 q, .int .i64 f, .bool o], .int .u32 m, .int .u32 x] w fun e w' => e = .returned (.tuple #[.agg #[.int .i64 0, .int .i64 0, .int .i64 0, .int .i64 0, .int .i64 0, .int .i64 0, .int .i64 0, .int .i64 0, .bool false], .bool false]) ∧ Below w.heap.size w w' := by
  have t4 := ta_3_4
  have t5 := ta_3_5
  have t2 := ta_3_2
  go_enter Try.func14, Try.ntmps14
  go_wp2_with fail
  refine (copyImpl_yes _ _ _ _ _ _ _ _ _ _ _ hm0 hm1 (by assumption)).mono ?_
  rintro e w1 ⟨rfl, hb⟩
  obtain ⟨HB, HR, fB, fR, hbase, hz⟩ := after2 hb
  clear hb
  go_upto_region 2 with fail
  have F := fresh9 (.int .i64 3) (.int .i64 a) (.int .i64 b) (.int .i64 (bothI r (m % 8))) (.int .i64 d) (.int .i64 g) (.int .i64 q) (.int .i64 f) (.bool false) 24 HB HR (by omega) hz fB fR
  have hB2 := hbase.alloc (by omega) (.cells #[.int .i64 3, .int .i64 a, .int .i64 b, .int .i64 (bothI r (m % 8)), .int .i64 d, .int .i64 g, .int .i64 q, .int .i64 f, .bool false] 24)
  clear HB HR fB fR hbase
  generalize w1.alloc (.cells #[.int .i64 3, .int .i64 a, .int .i64 b, .int .i64 (bothI r (m % 8)), .int .i64 d, .int .i64 g, .int .i64 q, .int .i64 f, .bool false] 24) = W2 at F hB2 ⊢
  generalize w1.heap.size = M at F hz ⊢
  obtain ⟨HM, HC, HR, fM, fB, fR, n1, n2, n3, n4, hs⟩ := F
  obtain ⟨m0, m1, m2, m3, m4, m5, m6, m7, m8⟩ := id HM
  obtain ⟨c0, c1, c2, c3, c4, c5, c6, c7, c8⟩ := HC
  obtain ⟨z0, z1, z2, z3, z4, z5, z6, z7, z8⟩ := id HR
  go_wp2_with (first | (go_at_call 18; refine (kindOf_any _ _).mono ?_; rintro e w' ⟨rfl, rfl⟩; rw [kindV_3]))
  have HF := HR.put (.int .i64 0) (.int .i64 0) (.int .i64 0) (.int .i64 0) (.int .i64 0) (.int .i64 0) (.int .i64 0) (.int .i64 0) (.bool false)
  refine bodyPost_ret (impl_CapMint_res rfl rfl HF) rfl ?_
  refine ⟨rfl, ?_⟩
  repeat (refine Below.setCell ?_ (by simp; try omega) _)
  exact hB2

set_option maxHeartbeats 400000 in
theorem mintImpl_6 (a b r d g q f m x : Int) (o : Bool) (w : World) (hm0 : 0 ≤ m) (hm1 : m ≤ 4294967295) (hx0 : 0 ≤ x) (hx1 : x ≤ 4294967295) (h : copyB 6 a b r d g q f o = true) :
    Calls Try.prog 14 #[.agg #[.int .i64 6, .int .i64 a, .int .i64 b, .int .i64 r, .int .i64 d, .int .i64 g, .int .i64 q, .int .i64 f, .bool o], .int .u32 m, .int .u32 x] w fun e w' => e = .returned (.tuple #[.agg #[.int .i64 0, .int .i64 0, .int .i64 0, .int .i64 0, .int .i64 0, .int .i64 0, .int .i64 0, .int .i64 0, .bool false], .bool false]) ∧ Below w.heap.size w w' := by
  have t4 := ta_6_4
  have t5 := ta_6_5
  have t2 := ta_6_2
  go_enter Try.func14, Try.ntmps14
  go_wp2_with fail
  refine (copyImpl_yes _ _ _ _ _ _ _ _ _ _ _ hm0 hm1 (by assumption)).mono ?_
  rintro e w1 ⟨rfl, hb⟩
  obtain ⟨HB, HR, fB, fR, hbase, hz⟩ := after2 hb
  clear hb
  go_upto_region 2 with fail
  have F := fresh9 (.int .i64 6) (.int .i64 a) (.int .i64 b) (.int .i64 (bothI r (m % 8))) (.int .i64 d) (.int .i64 g) (.int .i64 q) (.int .i64 f) (.bool false) 24 HB HR (by omega) hz fB fR
  have hB2 := hbase.alloc (by omega) (.cells #[.int .i64 6, .int .i64 a, .int .i64 b, .int .i64 (bothI r (m % 8)), .int .i64 d, .int .i64 g, .int .i64 q, .int .i64 f, .bool false] 24)
  clear HB HR fB fR hbase
  generalize w1.alloc (.cells #[.int .i64 6, .int .i64 a, .int .i64 b, .int .i64 (bothI r (m % 8)), .int .i64 d, .int .i64 g, .int .i64 q, .int .i64 f, .bool false] 24) = W2 at F hB2 ⊢
  generalize w1.heap.size = M at F hz ⊢
  obtain ⟨HM, HC, HR, fM, fB, fR, n1, n2, n3, n4, hs⟩ := F
  obtain ⟨m0, m1, m2, m3, m4, m5, m6, m7, m8⟩ := id HM
  obtain ⟨c0, c1, c2, c3, c4, c5, c6, c7, c8⟩ := HC
  obtain ⟨z0, z1, z2, z3, z4, z5, z6, z7, z8⟩ := id HR
  go_wp2_with (first | (go_at_call 18; refine (kindOf_any _ _).mono ?_; rintro e w' ⟨rfl, rfl⟩; rw [kindV_6]))
  have HF := HR.put (.int .i64 0) (.int .i64 0) (.int .i64 0) (.int .i64 0) (.int .i64 0) (.int .i64 0) (.int .i64 0) (.int .i64 0) (.bool false)
  refine bodyPost_ret (impl_CapMint_res rfl rfl HF) rfl ?_
  refine ⟨rfl, ?_⟩
  repeat (refine Below.setCell ?_ (by simp; try omega) _)
  exact hB2

set_option maxHeartbeats 400000 in
theorem mintImpl_4a (a b r d g q f m x : Int) (o : Bool) (w : World) (hm0 : 0 ≤ m) (hm1 : m ≤ 4294967295) (hx0 : 0 ≤ x) (hx1 : x ≤ 4294967295) (h : copyB 4 a b r d g q f o = true) (hd : (d != 0) = true) (hd1 : 0 < d) :
    Calls Try.prog 14 #[.agg #[.int .i64 4, .int .i64 a, .int .i64 b, .int .i64 r, .int .i64 d, .int .i64 g, .int .i64 q, .int .i64 f, .bool o], .int .u32 m, .int .u32 x] w fun e w' => e = .returned (.tuple #[.agg #[.int .i64 0, .int .i64 0, .int .i64 0, .int .i64 0, .int .i64 0, .int .i64 0, .int .i64 0, .int .i64 0, .bool false], .bool false]) ∧ Below w.heap.size w w' := by
  have t4 := ta_4_4
  have t5 := ta_4_5
  have t2 := ta_4_2
  go_enter Try.func14, Try.ntmps14
  go_wp2_with fail
  refine (copyImpl_yes _ _ _ _ _ _ _ _ _ _ _ hm0 hm1 (by assumption)).mono ?_
  rintro e w1 ⟨rfl, hb⟩
  obtain ⟨HB, HR, fB, fR, hbase, hz⟩ := after2 hb
  clear hb
  go_upto_region 2 with fail
  have F := fresh9 (.int .i64 4) (.int .i64 a) (.int .i64 b) (.int .i64 (bothI r (m % 8))) (.int .i64 d) (.int .i64 g) (.int .i64 q) (.int .i64 f) (.bool false) 24 HB HR (by omega) hz fB fR
  have hB2 := hbase.alloc (by omega) (.cells #[.int .i64 4, .int .i64 a, .int .i64 b, .int .i64 (bothI r (m % 8)), .int .i64 d, .int .i64 g, .int .i64 q, .int .i64 f, .bool false] 24)
  clear HB HR fB fR hbase
  generalize w1.alloc (.cells #[.int .i64 4, .int .i64 a, .int .i64 b, .int .i64 (bothI r (m % 8)), .int .i64 d, .int .i64 g, .int .i64 q, .int .i64 f, .bool false] 24) = W2 at F hB2 ⊢
  generalize w1.heap.size = M at F hz ⊢
  obtain ⟨HM, HC, HR, fM, fB, fR, n1, n2, n3, n4, hs⟩ := F
  obtain ⟨m0, m1, m2, m3, m4, m5, m6, m7, m8⟩ := id HM
  obtain ⟨c0, c1, c2, c3, c4, c5, c6, c7, c8⟩ := HC
  obtain ⟨z0, z1, z2, z3, z4, z5, z6, z7, z8⟩ := id HR
  go_wp2_with (first | (go_at_call 18; refine (kindOf_any _ _).mono ?_; rintro e w' ⟨rfl, rfl⟩; rw [kindV_4]))
  have HF := HR.put (.int .i64 0) (.int .i64 0) (.int .i64 0) (.int .i64 0) (.int .i64 0) (.int .i64 0) (.int .i64 0) (.int .i64 0) (.bool false)
  refine bodyPost_ret (impl_CapMint_res rfl rfl HF) rfl ?_
  refine ⟨rfl, ?_⟩
  repeat (refine Below.setCell ?_ (by simp; try omega) _)
  exact hB2

set_option maxHeartbeats 400000 in
theorem mintImpl_4b (a b r d g q f m x : Int) (o : Bool) (w : World) (hm0 : 0 ≤ m) (hm1 : m ≤ 4294967295) (hx0 : 0 ≤ x) (hx1 : x ≤ 4294967295) (h : copyB 4 a b r d g q f o = true) (hd : (d != 0) = false) (hd1 : ¬ 0 < d) (hx : 65535 < x) :
    Calls Try.prog 14 #[.agg #[.int .i64 4, .int .i64 a, .int .i64 b, .int .i64 r, .int .i64 d, .int .i64 g, .int .i64 q, .int .i64 f, .bool o], .int .u32 m, .int .u32 x] w fun e w' => e = .returned (.tuple #[.agg #[.int .i64 0, .int .i64 0, .int .i64 0, .int .i64 0, .int .i64 0, .int .i64 0, .int .i64 0, .int .i64 0, .bool false], .bool false]) ∧ Below w.heap.size w w' := by
  have t4 := ta_4_4
  have t5 := ta_4_5
  have t2 := ta_4_2
  go_enter Try.func14, Try.ntmps14
  go_wp2_with fail
  refine (copyImpl_yes _ _ _ _ _ _ _ _ _ _ _ hm0 hm1 (by assumption)).mono ?_
  rintro e w1 ⟨rfl, hb⟩
  obtain ⟨HB, HR, fB, fR, hbase, hz⟩ := after2 hb
  clear hb
  go_upto_region 2 with fail
  have F := fresh9 (.int .i64 4) (.int .i64 a) (.int .i64 b) (.int .i64 (bothI r (m % 8))) (.int .i64 d) (.int .i64 g) (.int .i64 q) (.int .i64 f) (.bool false) 24 HB HR (by omega) hz fB fR
  have hB2 := hbase.alloc (by omega) (.cells #[.int .i64 4, .int .i64 a, .int .i64 b, .int .i64 (bothI r (m % 8)), .int .i64 d, .int .i64 g, .int .i64 q, .int .i64 f, .bool false] 24)
  clear HB HR fB fR hbase
  generalize w1.alloc (.cells #[.int .i64 4, .int .i64 a, .int .i64 b, .int .i64 (bothI r (m % 8)), .int .i64 d, .int .i64 g, .int .i64 q, .int .i64 f, .bool false] 24) = W2 at F hB2 ⊢
  generalize w1.heap.size = M at F hz ⊢
  obtain ⟨HM, HC, HR, fM, fB, fR, n1, n2, n3, n4, hs⟩ := F
  obtain ⟨m0, m1, m2, m3, m4, m5, m6, m7, m8⟩ := id HM
  obtain ⟨c0, c1, c2, c3, c4, c5, c6, c7, c8⟩ := HC
  obtain ⟨z0, z1, z2, z3, z4, z5, z6, z7, z8⟩ := id HR
  go_wp2_with (first | (go_at_call 18; refine (kindOf_any _ _).mono ?_; rintro e w' ⟨rfl, rfl⟩; rw [kindV_4]))
  have HF := HR.put (.int .i64 0) (.int .i64 0) (.int .i64 0) (.int .i64 0) (.int .i64 0) (.int .i64 0) (.int .i64 0) (.int .i64 0) (.bool false)
  refine bodyPost_ret (impl_CapMint_res rfl rfl HF) rfl ?_
  refine ⟨rfl, ?_⟩
  repeat (refine Below.setCell ?_ (by simp; try omega) _)
  exact hB2

set_option maxHeartbeats 400000 in
theorem mintImpl_4c (a b r d g q f m x : Int) (o : Bool) (w : World) (hm0 : 0 ≤ m) (hm1 : m ≤ 4294967295) (hx0 : 0 ≤ x) (hx1 : x ≤ 4294967295) (h : copyB 4 a b r d g q f o = true) (hd : (d != 0) = false) (hd1 : ¬ 0 < d) (hx : ¬ 65535 < x) :
    Calls Try.prog 14 #[.agg #[.int .i64 4, .int .i64 a, .int .i64 b, .int .i64 r, .int .i64 d, .int .i64 g, .int .i64 q, .int .i64 f, .bool o], .int .u32 m, .int .u32 x] w fun e w' => e = .returned (.tuple #[.agg #[.int .i64 4, .int .i64 a, .int .i64 b, .int .i64 (bothI r (m % 8)), .int .i64 x, .int .i64 g, .int .i64 q, .int .i64 f, .bool false], .bool true]) ∧ Below w.heap.size w w' := by
  have t4 := ta_4_4
  have t5 := ta_4_5
  have t2 := ta_4_2
  go_enter Try.func14, Try.ntmps14
  go_wp2_with fail
  refine (copyImpl_yes _ _ _ _ _ _ _ _ _ _ _ hm0 hm1 (by assumption)).mono ?_
  rintro e w1 ⟨rfl, hb⟩
  obtain ⟨HB, HR, fB, fR, hbase, hz⟩ := after2 hb
  clear hb
  go_upto_region 2 with fail
  have F := fresh9 (.int .i64 4) (.int .i64 a) (.int .i64 b) (.int .i64 (bothI r (m % 8))) (.int .i64 d) (.int .i64 g) (.int .i64 q) (.int .i64 f) (.bool false) 24 HB HR (by omega) hz fB fR
  have hB2 := hbase.alloc (by omega) (.cells #[.int .i64 4, .int .i64 a, .int .i64 b, .int .i64 (bothI r (m % 8)), .int .i64 d, .int .i64 g, .int .i64 q, .int .i64 f, .bool false] 24)
  clear HB HR fB fR hbase
  generalize w1.alloc (.cells #[.int .i64 4, .int .i64 a, .int .i64 b, .int .i64 (bothI r (m % 8)), .int .i64 d, .int .i64 g, .int .i64 q, .int .i64 f, .bool false] 24) = W2 at F hB2 ⊢
  generalize w1.heap.size = M at F hz ⊢
  obtain ⟨HM, HC, HR, fM, fB, fR, n1, n2, n3, n4, hs⟩ := F
  obtain ⟨m0, m1, m2, m3, m4, m5, m6, m7, m8⟩ := id HM
  obtain ⟨c0, c1, c2, c3, c4, c5, c6, c7, c8⟩ := HC
  obtain ⟨z0, z1, z2, z3, z4, z5, z6, z7, z8⟩ := id HR
  go_wp2_with (first | (go_at_call 18; refine (kindOf_any _ _).mono ?_; rintro e w' ⟨rfl, rfl⟩; rw [kindV_4]))
  have HF := (HR.other (C := M) 4 (.int .i64 x) n4).put (.int .i64 4) (.int .i64 a) (.int .i64 b) (.int .i64 (bothI r (m % 8))) (.int .i64 x) (.int .i64 g) (.int .i64 q) (.int .i64 f) (.bool false)
  refine bodyPost_ret (impl_CapMint_res rfl rfl HF) rfl ?_
  refine ⟨rfl, ?_⟩
  repeat (refine Below.setCell ?_ (by simp; try omega) _)
  exact hB2

set_option maxHeartbeats 400000 in
theorem mintImpl_5a (a b r d g q f m x : Int) (o : Bool) (w : World) (hm0 : 0 ≤ m) (hm1 : m ≤ 4294967295) (hx0 : 0 ≤ x) (hx1 : x ≤ 4294967295) (h : copyB 5 a b r d g q f o = true) (hd : (d != 0) = true) (hd1 : 0 < d) :
    Calls Try.prog 14 #[.agg #[.int .i64 5, .int .i64 a, .int .i64 b, .int .i64 r, .int .i64 d, .int .i64 g, .int .i64 q, .int .i64 f, .bool o], .int .u32 m, .int .u32 x] w fun e w' => e = .returned (.tuple #[.agg #[.int .i64 0, .int .i64 0, .int .i64 0, .int .i64 0, .int .i64 0, .int .i64 0, .int .i64 0, .int .i64 0, .bool false], .bool false]) ∧ Below w.heap.size w w' := by
  have t4 := ta_5_4
  have t5 := ta_5_5
  have t2 := ta_5_2
  go_enter Try.func14, Try.ntmps14
  go_wp2_with fail
  refine (copyImpl_yes _ _ _ _ _ _ _ _ _ _ _ hm0 hm1 (by assumption)).mono ?_
  rintro e w1 ⟨rfl, hb⟩
  obtain ⟨HB, HR, fB, fR, hbase, hz⟩ := after2 hb
  clear hb
  go_upto_region 2 with fail
  have F := fresh9 (.int .i64 5) (.int .i64 a) (.int .i64 b) (.int .i64 (bothI r (m % 8))) (.int .i64 d) (.int .i64 g) (.int .i64 q) (.int .i64 f) (.bool false) 24 HB HR (by omega) hz fB fR
  have hB2 := hbase.alloc (by omega) (.cells #[.int .i64 5, .int .i64 a, .int .i64 b, .int .i64 (bothI r (m % 8)), .int .i64 d, .int .i64 g, .int .i64 q, .int .i64 f, .bool false] 24)
  clear HB HR fB fR hbase
  generalize w1.alloc (.cells #[.int .i64 5, .int .i64 a, .int .i64 b, .int .i64 (bothI r (m % 8)), .int .i64 d, .int .i64 g, .int .i64 q, .int .i64 f, .bool false] 24) = W2 at F hB2 ⊢
  generalize w1.heap.size = M at F hz ⊢
  obtain ⟨HM, HC, HR, fM, fB, fR, n1, n2, n3, n4, hs⟩ := F
  obtain ⟨m0, m1, m2, m3, m4, m5, m6, m7, m8⟩ := id HM
  obtain ⟨c0, c1, c2, c3, c4, c5, c6, c7, c8⟩ := HC
  obtain ⟨z0, z1, z2, z3, z4, z5, z6, z7, z8⟩ := id HR
  go_wp2_with (first | (go_at_call 18; refine (kindOf_any _ _).mono ?_; rintro e w' ⟨rfl, rfl⟩; rw [kindV_5]))
  have HF := HR.put (.int .i64 0) (.int .i64 0) (.int .i64 0) (.int .i64 0) (.int .i64 0) (.int .i64 0) (.int .i64 0) (.int .i64 0) (.bool false)
  refine bodyPost_ret (impl_CapMint_res rfl rfl HF) rfl ?_
  refine ⟨rfl, ?_⟩
  repeat (refine Below.setCell ?_ (by simp; try omega) _)
  exact hB2

set_option maxHeartbeats 400000 in
theorem mintImpl_5b (a b r d g q f m x : Int) (o : Bool) (w : World) (hm0 : 0 ≤ m) (hm1 : m ≤ 4294967295) (hx0 : 0 ≤ x) (hx1 : x ≤ 4294967295) (h : copyB 5 a b r d g q f o = true) (hd : (d != 0) = false) (hd1 : ¬ 0 < d) (hx : 65535 < x) :
    Calls Try.prog 14 #[.agg #[.int .i64 5, .int .i64 a, .int .i64 b, .int .i64 r, .int .i64 d, .int .i64 g, .int .i64 q, .int .i64 f, .bool o], .int .u32 m, .int .u32 x] w fun e w' => e = .returned (.tuple #[.agg #[.int .i64 0, .int .i64 0, .int .i64 0, .int .i64 0, .int .i64 0, .int .i64 0, .int .i64 0, .int .i64 0, .bool false], .bool false]) ∧ Below w.heap.size w w' := by
  have t4 := ta_5_4
  have t5 := ta_5_5
  have t2 := ta_5_2
  go_enter Try.func14, Try.ntmps14
  go_wp2_with fail
  refine (copyImpl_yes _ _ _ _ _ _ _ _ _ _ _ hm0 hm1 (by assumption)).mono ?_
  rintro e w1 ⟨rfl, hb⟩
  obtain ⟨HB, HR, fB, fR, hbase, hz⟩ := after2 hb
  clear hb
  go_upto_region 2 with fail
  have F := fresh9 (.int .i64 5) (.int .i64 a) (.int .i64 b) (.int .i64 (bothI r (m % 8))) (.int .i64 d) (.int .i64 g) (.int .i64 q) (.int .i64 f) (.bool false) 24 HB HR (by omega) hz fB fR
  have hB2 := hbase.alloc (by omega) (.cells #[.int .i64 5, .int .i64 a, .int .i64 b, .int .i64 (bothI r (m % 8)), .int .i64 d, .int .i64 g, .int .i64 q, .int .i64 f, .bool false] 24)
  clear HB HR fB fR hbase
  generalize w1.alloc (.cells #[.int .i64 5, .int .i64 a, .int .i64 b, .int .i64 (bothI r (m % 8)), .int .i64 d, .int .i64 g, .int .i64 q, .int .i64 f, .bool false] 24) = W2 at F hB2 ⊢
  generalize w1.heap.size = M at F hz ⊢
  obtain ⟨HM, HC, HR, fM, fB, fR, n1, n2, n3, n4, hs⟩ := F
  obtain ⟨m0, m1, m2, m3, m4, m5, m6, m7, m8⟩ := id HM
  obtain ⟨c0, c1, c2, c3, c4, c5, c6, c7, c8⟩ := HC
  obtain ⟨z0, z1, z2, z3, z4, z5, z6, z7, z8⟩ := id HR
  go_wp2_with (first | (go_at_call 18; refine (kindOf_any _ _).mono ?_; rintro e w' ⟨rfl, rfl⟩; rw [kindV_5]))
  have HF := HR.put (.int .i64 0) (.int .i64 0) (.int .i64 0) (.int .i64 0) (.int .i64 0) (.int .i64 0) (.int .i64 0) (.int .i64 0) (.bool false)
  refine bodyPost_ret (impl_CapMint_res rfl rfl HF) rfl ?_
  refine ⟨rfl, ?_⟩
  repeat (refine Below.setCell ?_ (by simp; try omega) _)
  exact hB2

set_option maxHeartbeats 400000 in
theorem mintImpl_5c (a b r d g q f m x : Int) (o : Bool) (w : World) (hm0 : 0 ≤ m) (hm1 : m ≤ 4294967295) (hx0 : 0 ≤ x) (hx1 : x ≤ 4294967295) (h : copyB 5 a b r d g q f o = true) (hd : (d != 0) = false) (hd1 : ¬ 0 < d) (hx : ¬ 65535 < x) :
    Calls Try.prog 14 #[.agg #[.int .i64 5, .int .i64 a, .int .i64 b, .int .i64 r, .int .i64 d, .int .i64 g, .int .i64 q, .int .i64 f, .bool o], .int .u32 m, .int .u32 x] w fun e w' => e = .returned (.tuple #[.agg #[.int .i64 5, .int .i64 a, .int .i64 b, .int .i64 (bothI r (m % 8)), .int .i64 x, .int .i64 g, .int .i64 q, .int .i64 f, .bool false], .bool true]) ∧ Below w.heap.size w w' := by
  have t4 := ta_5_4
  have t5 := ta_5_5
  have t2 := ta_5_2
  go_enter Try.func14, Try.ntmps14
  go_wp2_with fail
  refine (copyImpl_yes _ _ _ _ _ _ _ _ _ _ _ hm0 hm1 (by assumption)).mono ?_
  rintro e w1 ⟨rfl, hb⟩
  obtain ⟨HB, HR, fB, fR, hbase, hz⟩ := after2 hb
  clear hb
  go_upto_region 2 with fail
  have F := fresh9 (.int .i64 5) (.int .i64 a) (.int .i64 b) (.int .i64 (bothI r (m % 8))) (.int .i64 d) (.int .i64 g) (.int .i64 q) (.int .i64 f) (.bool false) 24 HB HR (by omega) hz fB fR
  have hB2 := hbase.alloc (by omega) (.cells #[.int .i64 5, .int .i64 a, .int .i64 b, .int .i64 (bothI r (m % 8)), .int .i64 d, .int .i64 g, .int .i64 q, .int .i64 f, .bool false] 24)
  clear HB HR fB fR hbase
  generalize w1.alloc (.cells #[.int .i64 5, .int .i64 a, .int .i64 b, .int .i64 (bothI r (m % 8)), .int .i64 d, .int .i64 g, .int .i64 q, .int .i64 f, .bool false] 24) = W2 at F hB2 ⊢
  generalize w1.heap.size = M at F hz ⊢
  obtain ⟨HM, HC, HR, fM, fB, fR, n1, n2, n3, n4, hs⟩ := F
  obtain ⟨m0, m1, m2, m3, m4, m5, m6, m7, m8⟩ := id HM
  obtain ⟨c0, c1, c2, c3, c4, c5, c6, c7, c8⟩ := HC
  obtain ⟨z0, z1, z2, z3, z4, z5, z6, z7, z8⟩ := id HR
  go_wp2_with (first | (go_at_call 18; refine (kindOf_any _ _).mono ?_; rintro e w' ⟨rfl, rfl⟩; rw [kindV_5]))
  have HF := (HR.other (C := M) 4 (.int .i64 x) n4).put (.int .i64 5) (.int .i64 a) (.int .i64 b) (.int .i64 (bothI r (m % 8))) (.int .i64 x) (.int .i64 g) (.int .i64 q) (.int .i64 f) (.bool false)
  refine bodyPost_ret (impl_CapMint_res rfl rfl HF) rfl ?_
  refine ⟨rfl, ?_⟩
  repeat (refine Below.setCell ?_ (by simp; try omega) _)
  exact hB2

set_option maxHeartbeats 400000 in
theorem mintImpl_2n (a b r d g q f m x : Int) (o : Bool) (w : World) (hm0 : 0 ≤ m) (hm1 : m ≤ 4294967295) (hx0 : 0 ≤ x) (hx1 : x ≤ 4294967295) (h : copyB 2 a b r d g q f o = true) (hn : okB 2 a b (bothI r (m % 8)) d (x % 65536) (x / 65536) f false = false) :
    Calls Try.prog 14 #[.agg #[.int .i64 2, .int .i64 a, .int .i64 b, .int .i64 r, .int .i64 d, .int .i64 g, .int .i64 q, .int .i64 f, .bool o], .int .u32 m, .int .u32 x] w fun e w' => e = .returned (.tuple #[.agg #[.int .i64 0, .int .i64 0, .int .i64 0, .int .i64 0, .int .i64 0, .int .i64 0, .int .i64 0, .int .i64 0, .bool false], .bool false]) ∧ Below w.heap.size w w' := by
  have t4 := ta_2_4
  have t5 := ta_2_5
  have t2 := ta_2_2
  have hk := mask16 hx0 hx1
  have hbd : 0 ≤ (bothI r (m % 8)) ∧ (bothI r (m % 8)) ≤ 7 := by
    have h' : (okB 2 a b r d g q f o = true ∧ ((2 : Int) == 1) = false) ∧ ((2 : Int) == 7) = false := by simpa [copyB] using h
    obtain ⟨_, _, _, ⟨r0, r1⟩, _⟩ := ok_bounds h'.1.1
    have := both_bd r0 r1 (b := m % 8) (by omega) (by omega)
    omega
  go_enter Try.func14, Try.ntmps14
  go_wp2_with fail
  refine (copyImpl_yes _ _ _ _ _ _ _ _ _ _ _ hm0 hm1 (by assumption)).mono ?_
  rintro e w1 ⟨rfl, hb⟩
  obtain ⟨HB, HR, fB, fR, hbase, hz⟩ := after2 hb
  clear hb
  go_upto_region 2 with fail
  have F := fresh9 (.int .i64 2) (.int .i64 a) (.int .i64 b) (.int .i64 (bothI r (m % 8))) (.int .i64 d) (.int .i64 g) (.int .i64 q) (.int .i64 f) (.bool false) 24 HB HR (by omega) hz fB fR
  have hB2 := hbase.alloc (by omega) (.cells #[.int .i64 2, .int .i64 a, .int .i64 b, .int .i64 (bothI r (m % 8)), .int .i64 d, .int .i64 g, .int .i64 q, .int .i64 f, .bool false] 24)
  clear HB HR fB fR hbase
  generalize w1.alloc (.cells #[.int .i64 2, .int .i64 a, .int .i64 b, .int .i64 (bothI r (m % 8)), .int .i64 d, .int .i64 g, .int .i64 q, .int .i64 f, .bool false] 24) = W2 at F hB2 ⊢
  generalize w1.heap.size = M at F hz ⊢
  obtain ⟨HM, HC, HR, fM, fB, fR, n1, n2, n3, n4, hs⟩ := F
  obtain ⟨m0, m1, m2, m3, m4, m5, m6, m7, m8⟩ := id HM
  obtain ⟨c0, c1, c2, c3, c4, c5, c6, c7, c8⟩ := HC
  obtain ⟨z0, z1, z2, z3, z4, z5, z6, z7, z8⟩ := id HR
  go_wp2_with (first | (go_at_call 18; refine (kindOf_any _ _).mono ?_; rintro e w' ⟨rfl, rfl⟩; rw [kindV_2]))
  refine (okImpl_any _ _ _ _ _ _ _ _ _ _ (by omega) (by omega)).mono ?_
  rintro e w3 ⟨rfl, hb3⟩
  rw [hn]
  have HM3 := ((HM.putGuard (.int .i64 (x % 65536)) (.int .i64 (x / 65536)))).below hb3 (by simp; omega)
  have HR3 := (((HR.other (C := M) 5 (.int .i64 (x % 65536)) n4).other (C := M) 6 (.int .i64 (x / 65536)) n4)).below hb3 (by simp; omega)
  have fR3 : ∀ i, w3.frozen? ⟨w.heap.size + 1, i, none⟩ = false := fun i => by rw [(bcell hb3).2 _ _ (by simp; omega)]; go_simp
  have hB3 := ((hB2.setCell (p := ⟨M, 5, none⟩) (by simp; omega) (.int .i64 (x % 65536))).setCell (p := ⟨M, 6, none⟩) (by simp; omega) (.int .i64 (x / 65536))).trans (hb3.mono (by simp; omega))
  clear hb3 m0 m1 m2 m3 m4 m5 m6 m7 m8 c0 c1 c2 c3 c4 c5 c6 c7 c8 z0 z1 z2 z3 z4 z5 z6 z7 z8 HM HR fM fB fR hB2
  obtain ⟨m0, m1, m2, m3, m4, m5, m6, m7, m8⟩ := HM3
  obtain ⟨z0, z1, z2, z3, z4, z5, z6, z7, z8⟩ := id HR3
  go_wp2_with fail
  have HF := HR3.put (.int .i64 0) (.int .i64 0) (.int .i64 0) (.int .i64 0) (.int .i64 0) (.int .i64 0) (.int .i64 0) (.int .i64 0) (.bool false)
  refine bodyPost_ret (impl_CapMint_res rfl rfl HF) rfl ?_
  refine ⟨rfl, ?_⟩
  repeat (refine Below.setCell ?_ (by simp; try omega) _)
  exact hB3

set_option maxHeartbeats 400000 in
theorem mintImpl_2y (a b r d g q f m x : Int) (o : Bool) (w : World) (hm0 : 0 ≤ m) (hm1 : m ≤ 4294967295) (hx0 : 0 ≤ x) (hx1 : x ≤ 4294967295) (h : copyB 2 a b r d g q f o = true) (hn : okB 2 a b (bothI r (m % 8)) d (x % 65536) (x / 65536) f false = true) :
    Calls Try.prog 14 #[.agg #[.int .i64 2, .int .i64 a, .int .i64 b, .int .i64 r, .int .i64 d, .int .i64 g, .int .i64 q, .int .i64 f, .bool o], .int .u32 m, .int .u32 x] w fun e w' => e = .returned (.tuple #[.agg #[.int .i64 2, .int .i64 a, .int .i64 b, .int .i64 (bothI r (m % 8)), .int .i64 d, .int .i64 (x % 65536), .int .i64 (x / 65536), .int .i64 f, .bool false], .bool true]) ∧ Below w.heap.size w w' := by
  have t4 := ta_2_4
  have t5 := ta_2_5
  have t2 := ta_2_2
  have hk := mask16 hx0 hx1
  have hbd : 0 ≤ (bothI r (m % 8)) ∧ (bothI r (m % 8)) ≤ 7 := by
    have h' : (okB 2 a b r d g q f o = true ∧ ((2 : Int) == 1) = false) ∧ ((2 : Int) == 7) = false := by simpa [copyB] using h
    obtain ⟨_, _, _, ⟨r0, r1⟩, _⟩ := ok_bounds h'.1.1
    have := both_bd r0 r1 (b := m % 8) (by omega) (by omega)
    omega
  go_enter Try.func14, Try.ntmps14
  go_wp2_with fail
  refine (copyImpl_yes _ _ _ _ _ _ _ _ _ _ _ hm0 hm1 (by assumption)).mono ?_
  rintro e w1 ⟨rfl, hb⟩
  obtain ⟨HB, HR, fB, fR, hbase, hz⟩ := after2 hb
  clear hb
  go_upto_region 2 with fail
  have F := fresh9 (.int .i64 2) (.int .i64 a) (.int .i64 b) (.int .i64 (bothI r (m % 8))) (.int .i64 d) (.int .i64 g) (.int .i64 q) (.int .i64 f) (.bool false) 24 HB HR (by omega) hz fB fR
  have hB2 := hbase.alloc (by omega) (.cells #[.int .i64 2, .int .i64 a, .int .i64 b, .int .i64 (bothI r (m % 8)), .int .i64 d, .int .i64 g, .int .i64 q, .int .i64 f, .bool false] 24)
  clear HB HR fB fR hbase
  generalize w1.alloc (.cells #[.int .i64 2, .int .i64 a, .int .i64 b, .int .i64 (bothI r (m % 8)), .int .i64 d, .int .i64 g, .int .i64 q, .int .i64 f, .bool false] 24) = W2 at F hB2 ⊢
  generalize w1.heap.size = M at F hz ⊢
  obtain ⟨HM, HC, HR, fM, fB, fR, n1, n2, n3, n4, hs⟩ := F
  obtain ⟨m0, m1, m2, m3, m4, m5, m6, m7, m8⟩ := id HM
  obtain ⟨c0, c1, c2, c3, c4, c5, c6, c7, c8⟩ := HC
  obtain ⟨z0, z1, z2, z3, z4, z5, z6, z7, z8⟩ := id HR
  go_wp2_with (first | (go_at_call 18; refine (kindOf_any _ _).mono ?_; rintro e w' ⟨rfl, rfl⟩; rw [kindV_2]))
  refine (okImpl_any _ _ _ _ _ _ _ _ _ _ (by omega) (by omega)).mono ?_
  rintro e w3 ⟨rfl, hb3⟩
  rw [hn]
  have HM3 := ((HM.putGuard (.int .i64 (x % 65536)) (.int .i64 (x / 65536)))).below hb3 (by simp; omega)
  have HR3 := (((HR.other (C := M) 5 (.int .i64 (x % 65536)) n4).other (C := M) 6 (.int .i64 (x / 65536)) n4)).below hb3 (by simp; omega)
  have fR3 : ∀ i, w3.frozen? ⟨w.heap.size + 1, i, none⟩ = false := fun i => by rw [(bcell hb3).2 _ _ (by simp; omega)]; go_simp
  have hB3 := ((hB2.setCell (p := ⟨M, 5, none⟩) (by simp; omega) (.int .i64 (x % 65536))).setCell (p := ⟨M, 6, none⟩) (by simp; omega) (.int .i64 (x / 65536))).trans (hb3.mono (by simp; omega))
  clear hb3 m0 m1 m2 m3 m4 m5 m6 m7 m8 c0 c1 c2 c3 c4 c5 c6 c7 c8 z0 z1 z2 z3 z4 z5 z6 z7 z8 HM HR fM fB fR hB2
  obtain ⟨m0, m1, m2, m3, m4, m5, m6, m7, m8⟩ := HM3
  obtain ⟨z0, z1, z2, z3, z4, z5, z6, z7, z8⟩ := id HR3
  go_wp2_with fail
  have HF := HR3.put (.int .i64 2) (.int .i64 a) (.int .i64 b) (.int .i64 (bothI r (m % 8))) (.int .i64 d) (.int .i64 (x % 65536)) (.int .i64 (x / 65536)) (.int .i64 f) (.bool false)
  refine bodyPost_ret (impl_CapMint_res rfl rfl HF) rfl ?_
  refine ⟨rfl, ?_⟩
  repeat (refine Below.setCell ?_ (by simp; try omega) _)
  exact hB3

set_option maxHeartbeats 400000 in
theorem mintSpec_no (k a b r d g q f m x : Int) (o : Bool) (w : World) (h0 : -9223372036854775808 ≤ r) (h1 : r ≤ 9223372036854775807) (h : copyB k a b r d g q f o = false) :
    Calls Try.prog 13 #[.agg #[.int .i64 k, .int .i64 a, .int .i64 b, .int .i64 r, .int .i64 d, .int .i64 g, .int .i64 q, .int .i64 f, .bool o], .int .u32 m, .int .u32 x] w fun e w' => e = .returned (.tuple #[.agg #[.int .i64 0, .int .i64 0, .int .i64 0, .int .i64 0, .int .i64 0, .int .i64 0, .int .i64 0, .int .i64 0, .bool false], .bool false]) ∧ Below w.heap.size w w' := by
  go_enter Try.func13, Try.ntmps13
  go_wp2_with fail
  refine (copySpec_no _ _ _ _ _ _ _ _ _ _ _ h0 h1 (by assumption)).mono ?_
  rintro e w1 ⟨rfl, hb⟩
  obtain ⟨HB, HR, fB, fR, hbase, hz⟩ := after2 hb
  clear hb
  go_upto_region 2 with fail
  have F := fresh9 (.int .i64 0) (.int .i64 0) (.int .i64 0) (.int .i64 0) (.int .i64 0) (.int .i64 0) (.int .i64 0) (.int .i64 0) (.bool false) 24 HB HR (by omega) hz fB fR
  have hB2 := hbase.alloc (by omega) (.cells #[.int .i64 0, .int .i64 0, .int .i64 0, .int .i64 0, .int .i64 0, .int .i64 0, .int .i64 0, .int .i64 0, .bool false] 24)
  clear HB HR fB fR hbase
  generalize w1.alloc (.cells #[.int .i64 0, .int .i64 0, .int .i64 0, .int .i64 0, .int .i64 0, .int .i64 0, .int .i64 0, .int .i64 0, .bool false] 24) = W2 at F hB2 ⊢
  generalize w1.heap.size = M at F hz ⊢
  obtain ⟨HM, HC, HR, fM, fB, fR, n1, n2, n3, n4, hs⟩ := F
  obtain ⟨m0, m1, m2, m3, m4, m5, m6, m7, m8⟩ := id HM
  obtain ⟨c0, c1, c2, c3, c4, c5, c6, c7, c8⟩ := HC
  obtain ⟨z0, z1, z2, z3, z4, z5, z6, z7, z8⟩ := id HR
  go_wp2_with fail
  have HF := HR.put (.int .i64 0) (.int .i64 0) (.int .i64 0) (.int .i64 0) (.int .i64 0) (.int .i64 0) (.int .i64 0) (.int .i64 0) (.bool false)
  refine bodyPost_ret (spec_CapMint_res rfl rfl HF) rfl ?_
  refine ⟨rfl, ?_⟩
  repeat (refine Below.setCell ?_ (by simp; try omega) _)
  exact hB2

set_option maxHeartbeats 400000 in
theorem mintSpec_3 (a b r d g q f m x : Int) (o : Bool) (w : World) (hm0 : 0 ≤ m) (hm1 : m ≤ 4294967295) (hx0 : 0 ≤ x) (hx1 : x ≤ 4294967295) (h : copyB 3 a b r d g q f o = true) :
    Calls Try.prog 13 #[.agg #[.int .i64 3, .int .i64 a, .int .i64 b, .int .i64 r, .int .i64 d, .int .i64 g, .int .i64 q, .int .i64 f, .bool o], .int .u32 m, .int .u32 x] w fun e w' => e = .returned (.tuple #[.agg #[.int .i64 0, .int .i64 0, .int .i64 0, .int .i64 0, .int .i64 0, .int .i64 0, .int .i64 0, .int .i64 0, .bool false], .bool false]) ∧ Below w.heap.size w w' := by
  go_enter Try.func13, Try.ntmps13
  go_wp2_with fail
  refine (copySpec_yes _ _ _ _ _ _ _ _ _ _ _ hm0 hm1 (by assumption)).mono ?_
  rintro e w1 ⟨rfl, hb⟩
  obtain ⟨HB, HR, fB, fR, hbase, hz⟩ := after2 hb
  clear hb
  go_upto_region 2 with fail
  have F := fresh9 (.int .i64 3) (.int .i64 a) (.int .i64 b) (.int .i64 (bothI r (m % 8))) (.int .i64 d) (.int .i64 g) (.int .i64 q) (.int .i64 f) (.bool false) 24 HB HR (by omega) hz fB fR
  have hB2 := hbase.alloc (by omega) (.cells #[.int .i64 3, .int .i64 a, .int .i64 b, .int .i64 (bothI r (m % 8)), .int .i64 d, .int .i64 g, .int .i64 q, .int .i64 f, .bool false] 24)
  clear HB HR fB fR hbase
  generalize w1.alloc (.cells #[.int .i64 3, .int .i64 a, .int .i64 b, .int .i64 (bothI r (m % 8)), .int .i64 d, .int .i64 g, .int .i64 q, .int .i64 f, .bool false] 24) = W2 at F hB2 ⊢
  generalize w1.heap.size = M at F hz ⊢
  obtain ⟨HM, HC, HR, fM, fB, fR, n1, n2, n3, n4, hs⟩ := F
  obtain ⟨m0, m1, m2, m3, m4, m5, m6, m7, m8⟩ := id HM
  obtain ⟨c0, c1, c2, c3, c4, c5, c6, c7, c8⟩ := HC
  obtain ⟨z0, z1, z2, z3, z4, z5, z6, z7, z8⟩ := id HR
  go_wp2_with (first | fail)
  have HF := HR.put (.int .i64 0) (.int .i64 0) (.int .i64 0) (.int .i64 0) (.int .i64 0) (.int .i64 0) (.int .i64 0) (.int .i64 0) (.bool false)
  refine bodyPost_ret (spec_CapMint_res rfl rfl HF) rfl ?_
  refine ⟨rfl, ?_⟩
  repeat (refine Below.setCell ?_ (by simp; try omega) _)
  exact hB2

set_option maxHeartbeats 400000 in
theorem mintSpec_6 (a b r d g q f m x : Int) (o : Bool) (w : World) (hm0 : 0 ≤ m) (hm1 : m ≤ 4294967295) (hx0 : 0 ≤ x) (hx1 : x ≤ 4294967295) (h : copyB 6 a b r d g q f o = true) :
    Calls Try.prog 13 #[.agg #[.int .i64 6, .int .i64 a, .int .i64 b, .int .i64 r, .int .i64 d, .int .i64 g, .int .i64 q, .int .i64 f, .bool o], .int .u32 m, .int .u32 x] w fun e w' => e = .returned (.tuple #[.agg #[.int .i64 0, .int .i64 0, .int .i64 0, .int .i64 0, .int .i64 0, .int .i64 0, .int .i64 0, .int .i64 0, .bool false], .bool false]) ∧ Below w.heap.size w w' := by
  go_enter Try.func13, Try.ntmps13
  go_wp2_with fail
  refine (copySpec_yes _ _ _ _ _ _ _ _ _ _ _ hm0 hm1 (by assumption)).mono ?_
  rintro e w1 ⟨rfl, hb⟩
  obtain ⟨HB, HR, fB, fR, hbase, hz⟩ := after2 hb
  clear hb
  go_upto_region 2 with fail
  have F := fresh9 (.int .i64 6) (.int .i64 a) (.int .i64 b) (.int .i64 (bothI r (m % 8))) (.int .i64 d) (.int .i64 g) (.int .i64 q) (.int .i64 f) (.bool false) 24 HB HR (by omega) hz fB fR
  have hB2 := hbase.alloc (by omega) (.cells #[.int .i64 6, .int .i64 a, .int .i64 b, .int .i64 (bothI r (m % 8)), .int .i64 d, .int .i64 g, .int .i64 q, .int .i64 f, .bool false] 24)
  clear HB HR fB fR hbase
  generalize w1.alloc (.cells #[.int .i64 6, .int .i64 a, .int .i64 b, .int .i64 (bothI r (m % 8)), .int .i64 d, .int .i64 g, .int .i64 q, .int .i64 f, .bool false] 24) = W2 at F hB2 ⊢
  generalize w1.heap.size = M at F hz ⊢
  obtain ⟨HM, HC, HR, fM, fB, fR, n1, n2, n3, n4, hs⟩ := F
  obtain ⟨m0, m1, m2, m3, m4, m5, m6, m7, m8⟩ := id HM
  obtain ⟨c0, c1, c2, c3, c4, c5, c6, c7, c8⟩ := HC
  obtain ⟨z0, z1, z2, z3, z4, z5, z6, z7, z8⟩ := id HR
  go_wp2_with (first | fail)
  have HF := HR.put (.int .i64 0) (.int .i64 0) (.int .i64 0) (.int .i64 0) (.int .i64 0) (.int .i64 0) (.int .i64 0) (.int .i64 0) (.bool false)
  refine bodyPost_ret (spec_CapMint_res rfl rfl HF) rfl ?_
  refine ⟨rfl, ?_⟩
  repeat (refine Below.setCell ?_ (by simp; try omega) _)
  exact hB2

set_option maxHeartbeats 400000 in
theorem mintSpec_4a (a b r d g q f m x : Int) (o : Bool) (w : World) (hm0 : 0 ≤ m) (hm1 : m ≤ 4294967295) (hx0 : 0 ≤ x) (hx1 : x ≤ 4294967295) (h : copyB 4 a b r d g q f o = true) (hd : (d != 0) = true) (hd1 : 0 < d) :
    Calls Try.prog 13 #[.agg #[.int .i64 4, .int .i64 a, .int .i64 b, .int .i64 r, .int .i64 d, .int .i64 g, .int .i64 q, .int .i64 f, .bool o], .int .u32 m, .int .u32 x] w fun e w' => e = .returned (.tuple #[.agg #[.int .i64 0, .int .i64 0, .int .i64 0, .int .i64 0, .int .i64 0, .int .i64 0, .int .i64 0, .int .i64 0, .bool false], .bool false]) ∧ Below w.heap.size w w' := by
  go_enter Try.func13, Try.ntmps13
  go_wp2_with fail
  refine (copySpec_yes _ _ _ _ _ _ _ _ _ _ _ hm0 hm1 (by assumption)).mono ?_
  rintro e w1 ⟨rfl, hb⟩
  obtain ⟨HB, HR, fB, fR, hbase, hz⟩ := after2 hb
  clear hb
  go_upto_region 2 with fail
  have F := fresh9 (.int .i64 4) (.int .i64 a) (.int .i64 b) (.int .i64 (bothI r (m % 8))) (.int .i64 d) (.int .i64 g) (.int .i64 q) (.int .i64 f) (.bool false) 24 HB HR (by omega) hz fB fR
  have hB2 := hbase.alloc (by omega) (.cells #[.int .i64 4, .int .i64 a, .int .i64 b, .int .i64 (bothI r (m % 8)), .int .i64 d, .int .i64 g, .int .i64 q, .int .i64 f, .bool false] 24)
  clear HB HR fB fR hbase
  generalize w1.alloc (.cells #[.int .i64 4, .int .i64 a, .int .i64 b, .int .i64 (bothI r (m % 8)), .int .i64 d, .int .i64 g, .int .i64 q, .int .i64 f, .bool false] 24) = W2 at F hB2 ⊢
  generalize w1.heap.size = M at F hz ⊢
  obtain ⟨HM, HC, HR, fM, fB, fR, n1, n2, n3, n4, hs⟩ := F
  obtain ⟨m0, m1, m2, m3, m4, m5, m6, m7, m8⟩ := id HM
  obtain ⟨c0, c1, c2, c3, c4, c5, c6, c7, c8⟩ := HC
  obtain ⟨z0, z1, z2, z3, z4, z5, z6, z7, z8⟩ := id HR
  go_wp2_with (first | fail)
  have HF := HR.put (.int .i64 0) (.int .i64 0) (.int .i64 0) (.int .i64 0) (.int .i64 0) (.int .i64 0) (.int .i64 0) (.int .i64 0) (.bool false)
  refine bodyPost_ret (spec_CapMint_res rfl rfl HF) rfl ?_
  refine ⟨rfl, ?_⟩
  repeat (refine Below.setCell ?_ (by simp; try omega) _)
  exact hB2

set_option maxHeartbeats 400000 in
theorem mintSpec_4b (a b r d g q f m x : Int) (o : Bool) (w : World) (hm0 : 0 ≤ m) (hm1 : m ≤ 4294967295) (hx0 : 0 ≤ x) (hx1 : x ≤ 4294967295) (h : copyB 4 a b r d g q f o = true) (hd : (d != 0) = false) (hd1 : ¬ 0 < d) (hx : 65535 < x) :
    Calls Try.prog 13 #[.agg #[.int .i64 4, .int .i64 a, .int .i64 b, .int .i64 r, .int .i64 d, .int .i64 g, .int .i64 q, .int .i64 f, .bool o], .int .u32 m, .int .u32 x] w fun e w' => e = .returned (.tuple #[.agg #[.int .i64 0, .int .i64 0, .int .i64 0, .int .i64 0, .int .i64 0, .int .i64 0, .int .i64 0, .int .i64 0, .bool false], .bool false]) ∧ Below w.heap.size w w' := by
  go_enter Try.func13, Try.ntmps13
  go_wp2_with fail
  refine (copySpec_yes _ _ _ _ _ _ _ _ _ _ _ hm0 hm1 (by assumption)).mono ?_
  rintro e w1 ⟨rfl, hb⟩
  obtain ⟨HB, HR, fB, fR, hbase, hz⟩ := after2 hb
  clear hb
  go_upto_region 2 with fail
  have F := fresh9 (.int .i64 4) (.int .i64 a) (.int .i64 b) (.int .i64 (bothI r (m % 8))) (.int .i64 d) (.int .i64 g) (.int .i64 q) (.int .i64 f) (.bool false) 24 HB HR (by omega) hz fB fR
  have hB2 := hbase.alloc (by omega) (.cells #[.int .i64 4, .int .i64 a, .int .i64 b, .int .i64 (bothI r (m % 8)), .int .i64 d, .int .i64 g, .int .i64 q, .int .i64 f, .bool false] 24)
  clear HB HR fB fR hbase
  generalize w1.alloc (.cells #[.int .i64 4, .int .i64 a, .int .i64 b, .int .i64 (bothI r (m % 8)), .int .i64 d, .int .i64 g, .int .i64 q, .int .i64 f, .bool false] 24) = W2 at F hB2 ⊢
  generalize w1.heap.size = M at F hz ⊢
  obtain ⟨HM, HC, HR, fM, fB, fR, n1, n2, n3, n4, hs⟩ := F
  obtain ⟨m0, m1, m2, m3, m4, m5, m6, m7, m8⟩ := id HM
  obtain ⟨c0, c1, c2, c3, c4, c5, c6, c7, c8⟩ := HC
  obtain ⟨z0, z1, z2, z3, z4, z5, z6, z7, z8⟩ := id HR
  go_wp2_with (first | fail)
  have HF := HR.put (.int .i64 0) (.int .i64 0) (.int .i64 0) (.int .i64 0) (.int .i64 0) (.int .i64 0) (.int .i64 0) (.int .i64 0) (.bool false)
  refine bodyPost_ret (spec_CapMint_res rfl rfl HF) rfl ?_
  refine ⟨rfl, ?_⟩
  repeat (refine Below.setCell ?_ (by simp; try omega) _)
  exact hB2

set_option maxHeartbeats 400000 in
theorem mintSpec_4c (a b r d g q f m x : Int) (o : Bool) (w : World) (hm0 : 0 ≤ m) (hm1 : m ≤ 4294967295) (hx0 : 0 ≤ x) (hx1 : x ≤ 4294967295) (h : copyB 4 a b r d g q f o = true) (hd : (d != 0) = false) (hd1 : ¬ 0 < d) (hx : ¬ 65535 < x) :
    Calls Try.prog 13 #[.agg #[.int .i64 4, .int .i64 a, .int .i64 b, .int .i64 r, .int .i64 d, .int .i64 g, .int .i64 q, .int .i64 f, .bool o], .int .u32 m, .int .u32 x] w fun e w' => e = .returned (.tuple #[.agg #[.int .i64 4, .int .i64 a, .int .i64 b, .int .i64 (bothI r (m % 8)), .int .i64 x, .int .i64 g, .int .i64 q, .int .i64 f, .bool false], .bool true]) ∧ Below w.heap.size w w' := by
  go_enter Try.func13, Try.ntmps13
  go_wp2_with fail
  refine (copySpec_yes _ _ _ _ _ _ _ _ _ _ _ hm0 hm1 (by assumption)).mono ?_
  rintro e w1 ⟨rfl, hb⟩
  obtain ⟨HB, HR, fB, fR, hbase, hz⟩ := after2 hb
  clear hb
  go_upto_region 2 with fail
  have F := fresh9 (.int .i64 4) (.int .i64 a) (.int .i64 b) (.int .i64 (bothI r (m % 8))) (.int .i64 d) (.int .i64 g) (.int .i64 q) (.int .i64 f) (.bool false) 24 HB HR (by omega) hz fB fR
  have hB2 := hbase.alloc (by omega) (.cells #[.int .i64 4, .int .i64 a, .int .i64 b, .int .i64 (bothI r (m % 8)), .int .i64 d, .int .i64 g, .int .i64 q, .int .i64 f, .bool false] 24)
  clear HB HR fB fR hbase
  generalize w1.alloc (.cells #[.int .i64 4, .int .i64 a, .int .i64 b, .int .i64 (bothI r (m % 8)), .int .i64 d, .int .i64 g, .int .i64 q, .int .i64 f, .bool false] 24) = W2 at F hB2 ⊢
  generalize w1.heap.size = M at F hz ⊢
  obtain ⟨HM, HC, HR, fM, fB, fR, n1, n2, n3, n4, hs⟩ := F
  obtain ⟨m0, m1, m2, m3, m4, m5, m6, m7, m8⟩ := id HM
  obtain ⟨c0, c1, c2, c3, c4, c5, c6, c7, c8⟩ := HC
  obtain ⟨z0, z1, z2, z3, z4, z5, z6, z7, z8⟩ := id HR
  go_wp2_with (first | fail)
  have HF := (HR.other (C := M) 4 (.int .i64 x) n4).put (.int .i64 4) (.int .i64 a) (.int .i64 b) (.int .i64 (bothI r (m % 8))) (.int .i64 x) (.int .i64 g) (.int .i64 q) (.int .i64 f) (.bool false)
  refine bodyPost_ret (spec_CapMint_res rfl rfl HF) rfl ?_
  refine ⟨rfl, ?_⟩
  repeat (refine Below.setCell ?_ (by simp; try omega) _)
  exact hB2

set_option maxHeartbeats 400000 in
theorem mintSpec_5a (a b r d g q f m x : Int) (o : Bool) (w : World) (hm0 : 0 ≤ m) (hm1 : m ≤ 4294967295) (hx0 : 0 ≤ x) (hx1 : x ≤ 4294967295) (h : copyB 5 a b r d g q f o = true) (hd : (d != 0) = true) (hd1 : 0 < d) :
    Calls Try.prog 13 #[.agg #[.int .i64 5, .int .i64 a, .int .i64 b, .int .i64 r, .int .i64 d, .int .i64 g, .int .i64 q, .int .i64 f, .bool o], .int .u32 m, .int .u32 x] w fun e w' => e = .returned (.tuple #[.agg #[.int .i64 0, .int .i64 0, .int .i64 0, .int .i64 0, .int .i64 0, .int .i64 0, .int .i64 0, .int .i64 0, .bool false], .bool false]) ∧ Below w.heap.size w w' := by
  go_enter Try.func13, Try.ntmps13
  go_wp2_with fail
  refine (copySpec_yes _ _ _ _ _ _ _ _ _ _ _ hm0 hm1 (by assumption)).mono ?_
  rintro e w1 ⟨rfl, hb⟩
  obtain ⟨HB, HR, fB, fR, hbase, hz⟩ := after2 hb
  clear hb
  go_upto_region 2 with fail
  have F := fresh9 (.int .i64 5) (.int .i64 a) (.int .i64 b) (.int .i64 (bothI r (m % 8))) (.int .i64 d) (.int .i64 g) (.int .i64 q) (.int .i64 f) (.bool false) 24 HB HR (by omega) hz fB fR
  have hB2 := hbase.alloc (by omega) (.cells #[.int .i64 5, .int .i64 a, .int .i64 b, .int .i64 (bothI r (m % 8)), .int .i64 d, .int .i64 g, .int .i64 q, .int .i64 f, .bool false] 24)
  clear HB HR fB fR hbase
  generalize w1.alloc (.cells #[.int .i64 5, .int .i64 a, .int .i64 b, .int .i64 (bothI r (m % 8)), .int .i64 d, .int .i64 g, .int .i64 q, .int .i64 f, .bool false] 24) = W2 at F hB2 ⊢
  generalize w1.heap.size = M at F hz ⊢
  obtain ⟨HM, HC, HR, fM, fB, fR, n1, n2, n3, n4, hs⟩ := F
  obtain ⟨m0, m1, m2, m3, m4, m5, m6, m7, m8⟩ := id HM
  obtain ⟨c0, c1, c2, c3, c4, c5, c6, c7, c8⟩ := HC
  obtain ⟨z0, z1, z2, z3, z4, z5, z6, z7, z8⟩ := id HR
  go_wp2_with (first | fail)
  have HF := HR.put (.int .i64 0) (.int .i64 0) (.int .i64 0) (.int .i64 0) (.int .i64 0) (.int .i64 0) (.int .i64 0) (.int .i64 0) (.bool false)
  refine bodyPost_ret (spec_CapMint_res rfl rfl HF) rfl ?_
  refine ⟨rfl, ?_⟩
  repeat (refine Below.setCell ?_ (by simp; try omega) _)
  exact hB2

set_option maxHeartbeats 400000 in
theorem mintSpec_5b (a b r d g q f m x : Int) (o : Bool) (w : World) (hm0 : 0 ≤ m) (hm1 : m ≤ 4294967295) (hx0 : 0 ≤ x) (hx1 : x ≤ 4294967295) (h : copyB 5 a b r d g q f o = true) (hd : (d != 0) = false) (hd1 : ¬ 0 < d) (hx : 65535 < x) :
    Calls Try.prog 13 #[.agg #[.int .i64 5, .int .i64 a, .int .i64 b, .int .i64 r, .int .i64 d, .int .i64 g, .int .i64 q, .int .i64 f, .bool o], .int .u32 m, .int .u32 x] w fun e w' => e = .returned (.tuple #[.agg #[.int .i64 0, .int .i64 0, .int .i64 0, .int .i64 0, .int .i64 0, .int .i64 0, .int .i64 0, .int .i64 0, .bool false], .bool false]) ∧ Below w.heap.size w w' := by
  go_enter Try.func13, Try.ntmps13
  go_wp2_with fail
  refine (copySpec_yes _ _ _ _ _ _ _ _ _ _ _ hm0 hm1 (by assumption)).mono ?_
  rintro e w1 ⟨rfl, hb⟩
  obtain ⟨HB, HR, fB, fR, hbase, hz⟩ := after2 hb
  clear hb
  go_upto_region 2 with fail
  have F := fresh9 (.int .i64 5) (.int .i64 a) (.int .i64 b) (.int .i64 (bothI r (m % 8))) (.int .i64 d) (.int .i64 g) (.int .i64 q) (.int .i64 f) (.bool false) 24 HB HR (by omega) hz fB fR
  have hB2 := hbase.alloc (by omega) (.cells #[.int .i64 5, .int .i64 a, .int .i64 b, .int .i64 (bothI r (m % 8)), .int .i64 d, .int .i64 g, .int .i64 q, .int .i64 f, .bool false] 24)
  clear HB HR fB fR hbase
  generalize w1.alloc (.cells #[.int .i64 5, .int .i64 a, .int .i64 b, .int .i64 (bothI r (m % 8)), .int .i64 d, .int .i64 g, .int .i64 q, .int .i64 f, .bool false] 24) = W2 at F hB2 ⊢
  generalize w1.heap.size = M at F hz ⊢
  obtain ⟨HM, HC, HR, fM, fB, fR, n1, n2, n3, n4, hs⟩ := F
  obtain ⟨m0, m1, m2, m3, m4, m5, m6, m7, m8⟩ := id HM
  obtain ⟨c0, c1, c2, c3, c4, c5, c6, c7, c8⟩ := HC
  obtain ⟨z0, z1, z2, z3, z4, z5, z6, z7, z8⟩ := id HR
  go_wp2_with (first | fail)
  have HF := HR.put (.int .i64 0) (.int .i64 0) (.int .i64 0) (.int .i64 0) (.int .i64 0) (.int .i64 0) (.int .i64 0) (.int .i64 0) (.bool false)
  refine bodyPost_ret (spec_CapMint_res rfl rfl HF) rfl ?_
  refine ⟨rfl, ?_⟩
  repeat (refine Below.setCell ?_ (by simp; try omega) _)
  exact hB2

set_option maxHeartbeats 400000 in
theorem mintSpec_5c (a b r d g q f m x : Int) (o : Bool) (w : World) (hm0 : 0 ≤ m) (hm1 : m ≤ 4294967295) (hx0 : 0 ≤ x) (hx1 : x ≤ 4294967295) (h : copyB 5 a b r d g q f o = true) (hd : (d != 0) = false) (hd1 : ¬ 0 < d) (hx : ¬ 65535 < x) :
    Calls Try.prog 13 #[.agg #[.int .i64 5, .int .i64 a, .int .i64 b, .int .i64 r, .int .i64 d, .int .i64 g, .int .i64 q, .int .i64 f, .bool o], .int .u32 m, .int .u32 x] w fun e w' => e = .returned (.tuple #[.agg #[.int .i64 5, .int .i64 a, .int .i64 b, .int .i64 (bothI r (m % 8)), .int .i64 x, .int .i64 g, .int .i64 q, .int .i64 f, .bool false], .bool true]) ∧ Below w.heap.size w w' := by
  go_enter Try.func13, Try.ntmps13
  go_wp2_with fail
  refine (copySpec_yes _ _ _ _ _ _ _ _ _ _ _ hm0 hm1 (by assumption)).mono ?_
  rintro e w1 ⟨rfl, hb⟩
  obtain ⟨HB, HR, fB, fR, hbase, hz⟩ := after2 hb
  clear hb
  go_upto_region 2 with fail
  have F := fresh9 (.int .i64 5) (.int .i64 a) (.int .i64 b) (.int .i64 (bothI r (m % 8))) (.int .i64 d) (.int .i64 g) (.int .i64 q) (.int .i64 f) (.bool false) 24 HB HR (by omega) hz fB fR
  have hB2 := hbase.alloc (by omega) (.cells #[.int .i64 5, .int .i64 a, .int .i64 b, .int .i64 (bothI r (m % 8)), .int .i64 d, .int .i64 g, .int .i64 q, .int .i64 f, .bool false] 24)
  clear HB HR fB fR hbase
  generalize w1.alloc (.cells #[.int .i64 5, .int .i64 a, .int .i64 b, .int .i64 (bothI r (m % 8)), .int .i64 d, .int .i64 g, .int .i64 q, .int .i64 f, .bool false] 24) = W2 at F hB2 ⊢
  generalize w1.heap.size = M at F hz ⊢
  obtain ⟨HM, HC, HR, fM, fB, fR, n1, n2, n3, n4, hs⟩ := F
  obtain ⟨m0, m1, m2, m3, m4, m5, m6, m7, m8⟩ := id HM
  obtain ⟨c0, c1, c2, c3, c4, c5, c6, c7, c8⟩ := HC
  obtain ⟨z0, z1, z2, z3, z4, z5, z6, z7, z8⟩ := id HR
  go_wp2_with (first | fail)
  have HF := (HR.other (C := M) 4 (.int .i64 x) n4).put (.int .i64 5) (.int .i64 a) (.int .i64 b) (.int .i64 (bothI r (m % 8))) (.int .i64 x) (.int .i64 g) (.int .i64 q) (.int .i64 f) (.bool false)
  refine bodyPost_ret (spec_CapMint_res rfl rfl HF) rfl ?_
  refine ⟨rfl, ?_⟩
  repeat (refine Below.setCell ?_ (by simp; try omega) _)
  exact hB2

set_option maxHeartbeats 400000 in
theorem mintSpec_2n (a b r d g q f m x : Int) (o : Bool) (w : World) (hm0 : 0 ≤ m) (hm1 : m ≤ 4294967295) (hx0 : 0 ≤ x) (hx1 : x ≤ 4294967295) (h : copyB 2 a b r d g q f o = true) (hn : okB 2 a b (bothI r (m % 8)) d (x % 65536) (x / 65536) f false = false) :
    Calls Try.prog 13 #[.agg #[.int .i64 2, .int .i64 a, .int .i64 b, .int .i64 r, .int .i64 d, .int .i64 g, .int .i64 q, .int .i64 f, .bool o], .int .u32 m, .int .u32 x] w fun e w' => e = .returned (.tuple #[.agg #[.int .i64 0, .int .i64 0, .int .i64 0, .int .i64 0, .int .i64 0, .int .i64 0, .int .i64 0, .int .i64 0, .bool false], .bool false]) ∧ Below w.heap.size w w' := by
  have hk := mask16 hx0 hx1
  have hbd : 0 ≤ (bothI r (m % 8)) ∧ (bothI r (m % 8)) ≤ 7 := by
    have h' : (okB 2 a b r d g q f o = true ∧ ((2 : Int) == 1) = false) ∧ ((2 : Int) == 7) = false := by simpa [copyB] using h
    obtain ⟨_, _, _, ⟨r0, r1⟩, _⟩ := ok_bounds h'.1.1
    have := both_bd r0 r1 (b := m % 8) (by omega) (by omega)
    omega
  go_enter Try.func13, Try.ntmps13
  go_wp2_with fail
  refine (copySpec_yes _ _ _ _ _ _ _ _ _ _ _ hm0 hm1 (by assumption)).mono ?_
  rintro e w1 ⟨rfl, hb⟩
  obtain ⟨HB, HR, fB, fR, hbase, hz⟩ := after2 hb
  clear hb
  go_upto_region 2 with fail
  have F := fresh9 (.int .i64 2) (.int .i64 a) (.int .i64 b) (.int .i64 (bothI r (m % 8))) (.int .i64 d) (.int .i64 g) (.int .i64 q) (.int .i64 f) (.bool false) 24 HB HR (by omega) hz fB fR
  have hB2 := hbase.alloc (by omega) (.cells #[.int .i64 2, .int .i64 a, .int .i64 b, .int .i64 (bothI r (m % 8)), .int .i64 d, .int .i64 g, .int .i64 q, .int .i64 f, .bool false] 24)
  clear HB HR fB fR hbase
  generalize w1.alloc (.cells #[.int .i64 2, .int .i64 a, .int .i64 b, .int .i64 (bothI r (m % 8)), .int .i64 d, .int .i64 g, .int .i64 q, .int .i64 f, .bool false] 24) = W2 at F hB2 ⊢
  generalize w1.heap.size = M at F hz ⊢
  obtain ⟨HM, HC, HR, fM, fB, fR, n1, n2, n3, n4, hs⟩ := F
  obtain ⟨m0, m1, m2, m3, m4, m5, m6, m7, m8⟩ := id HM
  obtain ⟨c0, c1, c2, c3, c4, c5, c6, c7, c8⟩ := HC
  obtain ⟨z0, z1, z2, z3, z4, z5, z6, z7, z8⟩ := id HR
  go_wp2_with fail
  refine (okSpec_any _ _ _ _ _ _ _ _ _ _).mono ?_
  rintro e w3 ⟨rfl, hb3⟩
  rw [hn]
  have HM3 := ((HM.putGuard (.int .i64 (x % 65536)) (.int .i64 (x / 65536)))).below hb3 (by simp; omega)
  have HR3 := (((HR.other (C := M) 5 (.int .i64 (x % 65536)) n4).other (C := M) 6 (.int .i64 (x / 65536)) n4)).below hb3 (by simp; omega)
  have fR3 : ∀ i, w3.frozen? ⟨w.heap.size + 1, i, none⟩ = false := fun i => by rw [(bcell hb3).2 _ _ (by simp; omega)]; go_simp
  have hB3 := ((hB2.setCell (p := ⟨M, 5, none⟩) (by simp; omega) (.int .i64 (x % 65536))).setCell (p := ⟨M, 6, none⟩) (by simp; omega) (.int .i64 (x / 65536))).trans (hb3.mono (by simp; omega))
  clear hb3 m0 m1 m2 m3 m4 m5 m6 m7 m8 c0 c1 c2 c3 c4 c5 c6 c7 c8 z0 z1 z2 z3 z4 z5 z6 z7 z8 HM HR fM fB fR hB2
  obtain ⟨m0, m1, m2, m3, m4, m5, m6, m7, m8⟩ := HM3
  obtain ⟨z0, z1, z2, z3, z4, z5, z6, z7, z8⟩ := id HR3
  go_wp2_with fail
  have HF := HR3.put (.int .i64 0) (.int .i64 0) (.int .i64 0) (.int .i64 0) (.int .i64 0) (.int .i64 0) (.int .i64 0) (.int .i64 0) (.bool false)
  refine bodyPost_ret (spec_CapMint_res rfl rfl HF) rfl ?_
  refine ⟨rfl, ?_⟩
  repeat (refine Below.setCell ?_ (by simp; try omega) _)
  exact hB3

set_option maxHeartbeats 400000 in
theorem mintSpec_2y (a b r d g q f m x : Int) (o : Bool) (w : World) (hm0 : 0 ≤ m) (hm1 : m ≤ 4294967295) (hx0 : 0 ≤ x) (hx1 : x ≤ 4294967295) (h : copyB 2 a b r d g q f o = true) (hn : okB 2 a b (bothI r (m % 8)) d (x % 65536) (x / 65536) f false = true) :
    Calls Try.prog 13 #[.agg #[.int .i64 2, .int .i64 a, .int .i64 b, .int .i64 r, .int .i64 d, .int .i64 g, .int .i64 q, .int .i64 f, .bool o], .int .u32 m, .int .u32 x] w fun e w' => e = .returned (.tuple #[.agg #[.int .i64 2, .int .i64 a, .int .i64 b, .int .i64 (bothI r (m % 8)), .int .i64 d, .int .i64 (x % 65536), .int .i64 (x / 65536), .int .i64 f, .bool false], .bool true]) ∧ Below w.heap.size w w' := by
  have hk := mask16 hx0 hx1
  have hbd : 0 ≤ (bothI r (m % 8)) ∧ (bothI r (m % 8)) ≤ 7 := by
    have h' : (okB 2 a b r d g q f o = true ∧ ((2 : Int) == 1) = false) ∧ ((2 : Int) == 7) = false := by simpa [copyB] using h
    obtain ⟨_, _, _, ⟨r0, r1⟩, _⟩ := ok_bounds h'.1.1
    have := both_bd r0 r1 (b := m % 8) (by omega) (by omega)
    omega
  go_enter Try.func13, Try.ntmps13
  go_wp2_with fail
  refine (copySpec_yes _ _ _ _ _ _ _ _ _ _ _ hm0 hm1 (by assumption)).mono ?_
  rintro e w1 ⟨rfl, hb⟩
  obtain ⟨HB, HR, fB, fR, hbase, hz⟩ := after2 hb
  clear hb
  go_upto_region 2 with fail
  have F := fresh9 (.int .i64 2) (.int .i64 a) (.int .i64 b) (.int .i64 (bothI r (m % 8))) (.int .i64 d) (.int .i64 g) (.int .i64 q) (.int .i64 f) (.bool false) 24 HB HR (by omega) hz fB fR
  have hB2 := hbase.alloc (by omega) (.cells #[.int .i64 2, .int .i64 a, .int .i64 b, .int .i64 (bothI r (m % 8)), .int .i64 d, .int .i64 g, .int .i64 q, .int .i64 f, .bool false] 24)
  clear HB HR fB fR hbase
  generalize w1.alloc (.cells #[.int .i64 2, .int .i64 a, .int .i64 b, .int .i64 (bothI r (m % 8)), .int .i64 d, .int .i64 g, .int .i64 q, .int .i64 f, .bool false] 24) = W2 at F hB2 ⊢
  generalize w1.heap.size = M at F hz ⊢
  obtain ⟨HM, HC, HR, fM, fB, fR, n1, n2, n3, n4, hs⟩ := F
  obtain ⟨m0, m1, m2, m3, m4, m5, m6, m7, m8⟩ := id HM
  obtain ⟨c0, c1, c2, c3, c4, c5, c6, c7, c8⟩ := HC
  obtain ⟨z0, z1, z2, z3, z4, z5, z6, z7, z8⟩ := id HR
  go_wp2_with fail
  refine (okSpec_any _ _ _ _ _ _ _ _ _ _).mono ?_
  rintro e w3 ⟨rfl, hb3⟩
  rw [hn]
  have HM3 := ((HM.putGuard (.int .i64 (x % 65536)) (.int .i64 (x / 65536)))).below hb3 (by simp; omega)
  have HR3 := (((HR.other (C := M) 5 (.int .i64 (x % 65536)) n4).other (C := M) 6 (.int .i64 (x / 65536)) n4)).below hb3 (by simp; omega)
  have fR3 : ∀ i, w3.frozen? ⟨w.heap.size + 1, i, none⟩ = false := fun i => by rw [(bcell hb3).2 _ _ (by simp; omega)]; go_simp
  have hB3 := ((hB2.setCell (p := ⟨M, 5, none⟩) (by simp; omega) (.int .i64 (x % 65536))).setCell (p := ⟨M, 6, none⟩) (by simp; omega) (.int .i64 (x / 65536))).trans (hb3.mono (by simp; omega))
  clear hb3 m0 m1 m2 m3 m4 m5 m6 m7 m8 c0 c1 c2 c3 c4 c5 c6 c7 c8 z0 z1 z2 z3 z4 z5 z6 z7 z8 HM HR fM fB fR hB2
  obtain ⟨m0, m1, m2, m3, m4, m5, m6, m7, m8⟩ := HM3
  obtain ⟨z0, z1, z2, z3, z4, z5, z6, z7, z8⟩ := id HR3
  go_wp2_with fail
  have HF := HR3.put (.int .i64 2) (.int .i64 a) (.int .i64 b) (.int .i64 (bothI r (m % 8))) (.int .i64 d) (.int .i64 (x % 65536)) (.int .i64 (x / 65536)) (.int .i64 f) (.bool false)
  refine bodyPost_ret (spec_CapMint_res rfl rfl HF) rfl ?_
  refine ⟨rfl, ?_⟩
  repeat (refine Below.setCell ?_ (by simp; try omega) _)
  exact hB3

end Go.Proofs.Ytaebcaajcolnfab
