/-
  What CapCopy of the program and of the specification answer, at every capability.
-/
import Derived.Test.YtaebcaajcolnfabPack
import Derived.Test.YtaebcaajcolnfabMem
namespace Go.Proofs.Ytaebcaajcolnfab
open Go.ChangeShapes Go.WideShapes Go.ChangeAt Go.RowKit
set_option linter.unusedVariables false

/-- The rights that are among both. -/
def bothI (a b : Int) : Int := ((a.toNat &&& b.toNat : Nat) : Int)

theorem upto7 {a : Int} (h0 : 0 ≤ a) (h1 : a ≤ 7) : a = 0 ∨ a = 1 ∨ a = 2 ∨ a = 3 ∨ a = 4 ∨ a = 5 ∨ a = 6 ∨ a = 7 := by omega
theorem both_sum {a b : Int} (h0 : 0 ≤ a) (h1 : a ≤ 7) (h2 : 0 ≤ b) (h3 : b ≤ 7) : a % 2 * (b % 2) + 2 * (a / 2 % 2) * (b / 2 % 2) + 4 * (a / 4 % 2) * (b / 4 % 2) = bothI a b := by
  rcases upto7 h0 h1 with e | e | e | e | e | e | e | e <;> subst e <;> rcases upto7 h2 h3 with e | e | e | e | e | e | e | e <;> subst e <;> decide
theorem both_bits {a b : Int} (h0 : 0 ≤ a) (h1 : a ≤ 7) (h2 : 0 ≤ b) (h3 : b ≤ 7) : bits BinOp.and IntKind.i64 a b = bothI a b := by
  rcases upto7 h0 h1 with e | e | e | e | e | e | e | e <;> subst e <;> rcases upto7 h2 h3 with e | e | e | e | e | e | e | e <;> subst e <;> decide
theorem both_bd {a b : Int} (h0 : 0 ≤ a) (h1 : a ≤ 7) (h2 : 0 ≤ b) (h3 : b ≤ 7) : 0 ≤ bothI a b ∧ bothI a b ≤ a := by
  rcases upto7 h0 h1 with e | e | e | e | e | e | e | e <;> subst e <;> rcases upto7 h2 h3 with e | e | e | e | e | e | e | e <;> subst e <;> decide
theorem mask7 {m : Int} (h0 : 0 ≤ m) (h1 : m ≤ 4294967295) : bits BinOp.and IntKind.u32 m 7 = m % 8 := by
  obtain ⟨M, rfl⟩ := Int.eq_ofNat_of_zero_le h0
  have e7 : (7 : Int) = ((7 : Nat) : Int) := rfl
  rw [e7, u32_and_nat _ _ (by omega) (by omega)]
  have : M &&& 7 = M % 8 := Nat.and_two_pow_sub_one_eq_mod M 3
  rw [this]; omega

set_option maxHeartbeats 1000000 in
theorem bothSpec_any (a b : Int) (w : World) (h0 : 0 ≤ a) (h1 : a ≤ 7) (h2 : 0 ≤ b) (h3 : b ≤ 7) :
    Calls Try.prog 21 #[.int .i64 a, .int .i64 b] w fun e w' => e = .returned (.int .i64 (bothI a b)) ∧ w' = w := by
  have hs : Hid _ := both_sum h0 h1 h2 h3
  rcases upto7 h0 h1 with e | e | e | e | e | e | e | e <;> subst e
  all_goals
    clear h0 h1
    go_enter Try.func21, Try.ntmps21
    go_wp2
    go_ret
    exact ⟨ret_int (by rw [← hs.out]; omega), rfl⟩

/-- What may be copied. -/
def copyB (k a b r d g q f : Int) (o : Bool) : Bool := okB k a b r d g q f o && !(k == 1) && !(k == 7)

set_option maxHeartbeats 400000 in
theorem copyImpl_no (k a b r d g q f m : Int) (o : Bool) (w : World) (h0 : -9223372036854775808 ≤ r) (h1 : r ≤ 9223372036854775807) (h : copyB k a b r d g q f o = false) :
    Calls Try.prog 12 #[.agg #[.int .i64 k, .int .i64 a, .int .i64 b, .int .i64 r, .int .i64 d, .int .i64 g, .int .i64 q, .int .i64 f, .bool o], .int .u32 m] w fun e w' => e = .returned (.tuple #[.agg #[.int .i64 0, .int .i64 0, .int .i64 0, .int .i64 0, .int .i64 0, .int .i64 0, .int .i64 0, .int .i64 0, .bool false], .bool false]) ∧ Below w.heap.size w w' := by
  cases ho : okB k a b r d g q f o
  · clear h
    go_enter Try.func12, Try.ntmps12
    go_wp2_with (first | (go_at_call 19; refine (okImpl_any _ _ _ _ _ _ _ _ _ _ h0 h1).mono ?_; rintro e w1 ⟨rfl, hb⟩; obtain ⟨hc, hf⟩ := bcell hb; obtain ⟨c0, c1, c2, c3, c4, c5, c6, c7, c8⟩ : Holds9 w1 w.heap.size (.int .i64 k) (.int .i64 a) (.int .i64 b) (.int .i64 r) (.int .i64 d) (.int .i64 g) (.int .i64 q) (.int .i64 f) (.bool o) := ((Holds9.alloc w (.int .i64 k) (.int .i64 a) (.int .i64 b) (.int .i64 r) (.int .i64 d) (.int .i64 g) (.int .i64 q) (.int .i64 f) (.bool o) 24).allocs (by simp) _).below hb (by simp; omega); clear hc; have hbase : Below w.heap.size w w1 := (((Below.refl _ _).alloc (Nat.le_refl _) _).alloc (by simp) _).trans (hb.mono (by simp; omega)); have HR : Holds9 w1 (w.heap.size + 1) (.int .i64 0) (.int .i64 0) (.int .i64 0) (.int .i64 0) (.int .i64 0) (.int .i64 0) (.int .i64 0) (.int .i64 0) (.bool false) := (by have := (Holds9.alloc (w.alloc (.cells #[.int .i64 k, .int .i64 a, .int .i64 b, .int .i64 r, .int .i64 d, .int .i64 g, .int .i64 q, .int .i64 f, .bool o] 24)) (.int .i64 0) (.int .i64 0) (.int .i64 0) (.int .i64 0) (.int .i64 0) (.int .i64 0) (.int .i64 0) (.int .i64 0) (.bool false) 24).below hb (by simp); simpa using this); obtain ⟨z0, z1, z2, z3, z4, z5, z6, z7, z8⟩ := id HR))
    have HF := HR.put (.int .i64 0) (.int .i64 0) (.int .i64 0) (.int .i64 0) (.int .i64 0) (.int .i64 0) (.int .i64 0) (.int .i64 0) (.bool false)
    refine bodyPost_ret (impl_CapCopy_res rfl rfl HF) rfl ?_
    refine ⟨rfl, ?_⟩
    repeat (refine Below.setCell ?_ (by simp) _)
    exact hbase
  · cases e1 : (k == 1)
    · have e7 : (k == 7) = true := by simpa [copyB, ho, e1] using h
      clear h
      go_enter Try.func12, Try.ntmps12
      go_wp2_with (first | (go_at_call 19; refine (okImpl_any _ _ _ _ _ _ _ _ _ _ h0 h1).mono ?_; rintro e w1 ⟨rfl, hb⟩; obtain ⟨hc, hf⟩ := bcell hb; obtain ⟨c0, c1, c2, c3, c4, c5, c6, c7, c8⟩ : Holds9 w1 w.heap.size (.int .i64 k) (.int .i64 a) (.int .i64 b) (.int .i64 r) (.int .i64 d) (.int .i64 g) (.int .i64 q) (.int .i64 f) (.bool o) := ((Holds9.alloc w (.int .i64 k) (.int .i64 a) (.int .i64 b) (.int .i64 r) (.int .i64 d) (.int .i64 g) (.int .i64 q) (.int .i64 f) (.bool o) 24).allocs (by simp) _).below hb (by simp; omega); clear hc; have hbase : Below w.heap.size w w1 := (((Below.refl _ _).alloc (Nat.le_refl _) _).alloc (by simp) _).trans (hb.mono (by simp; omega)); have HR : Holds9 w1 (w.heap.size + 1) (.int .i64 0) (.int .i64 0) (.int .i64 0) (.int .i64 0) (.int .i64 0) (.int .i64 0) (.int .i64 0) (.int .i64 0) (.bool false) := (by have := (Holds9.alloc (w.alloc (.cells #[.int .i64 k, .int .i64 a, .int .i64 b, .int .i64 r, .int .i64 d, .int .i64 g, .int .i64 q, .int .i64 f, .bool o] 24)) (.int .i64 0) (.int .i64 0) (.int .i64 0) (.int .i64 0) (.int .i64 0) (.int .i64 0) (.int .i64 0) (.int .i64 0) (.bool false) 24).below hb (by simp); simpa using this); obtain ⟨z0, z1, z2, z3, z4, z5, z6, z7, z8⟩ := id HR))
      have HF := HR.put (.int .i64 0) (.int .i64 0) (.int .i64 0) (.int .i64 0) (.int .i64 0) (.int .i64 0) (.int .i64 0) (.int .i64 0) (.bool false)
      refine bodyPost_ret (impl_CapCopy_res rfl rfl HF) rfl ?_
      refine ⟨rfl, ?_⟩
      repeat (refine Below.setCell ?_ (by simp) _)
      exact hbase
    · clear h
      go_enter Try.func12, Try.ntmps12
      go_wp2_with (first | (go_at_call 19; refine (okImpl_any _ _ _ _ _ _ _ _ _ _ h0 h1).mono ?_; rintro e w1 ⟨rfl, hb⟩; obtain ⟨hc, hf⟩ := bcell hb; obtain ⟨c0, c1, c2, c3, c4, c5, c6, c7, c8⟩ : Holds9 w1 w.heap.size (.int .i64 k) (.int .i64 a) (.int .i64 b) (.int .i64 r) (.int .i64 d) (.int .i64 g) (.int .i64 q) (.int .i64 f) (.bool o) := ((Holds9.alloc w (.int .i64 k) (.int .i64 a) (.int .i64 b) (.int .i64 r) (.int .i64 d) (.int .i64 g) (.int .i64 q) (.int .i64 f) (.bool o) 24).allocs (by simp) _).below hb (by simp; omega); clear hc; have hbase : Below w.heap.size w w1 := (((Below.refl _ _).alloc (Nat.le_refl _) _).alloc (by simp) _).trans (hb.mono (by simp; omega)); have HR : Holds9 w1 (w.heap.size + 1) (.int .i64 0) (.int .i64 0) (.int .i64 0) (.int .i64 0) (.int .i64 0) (.int .i64 0) (.int .i64 0) (.int .i64 0) (.bool false) := (by have := (Holds9.alloc (w.alloc (.cells #[.int .i64 k, .int .i64 a, .int .i64 b, .int .i64 r, .int .i64 d, .int .i64 g, .int .i64 q, .int .i64 f, .bool o] 24)) (.int .i64 0) (.int .i64 0) (.int .i64 0) (.int .i64 0) (.int .i64 0) (.int .i64 0) (.int .i64 0) (.int .i64 0) (.bool false) 24).below hb (by simp); simpa using this); obtain ⟨z0, z1, z2, z3, z4, z5, z6, z7, z8⟩ := id HR))
      have HF := HR.put (.int .i64 0) (.int .i64 0) (.int .i64 0) (.int .i64 0) (.int .i64 0) (.int .i64 0) (.int .i64 0) (.int .i64 0) (.bool false)
      refine bodyPost_ret (impl_CapCopy_res rfl rfl HF) rfl ?_
      refine ⟨rfl, ?_⟩
      repeat (refine Below.setCell ?_ (by simp) _)
      exact hbase

set_option maxHeartbeats 400000 in
theorem copyImpl_yes (k a b r d g q f m : Int) (o : Bool) (w : World) (hm0 : 0 ≤ m) (hm1 : m ≤ 4294967295) (h : copyB k a b r d g q f o = true) :
    Calls Try.prog 12 #[.agg #[.int .i64 k, .int .i64 a, .int .i64 b, .int .i64 r, .int .i64 d, .int .i64 g, .int .i64 q, .int .i64 f, .bool o], .int .u32 m] w fun e w' => e = .returned (.tuple #[.agg #[.int .i64 k, .int .i64 a, .int .i64 b, .int .i64 (bothI r (m % 8)), .int .i64 d, .int .i64 g, .int .i64 q, .int .i64 f, .bool false], .bool true]) ∧ Below w.heap.size w w' := by
  have h' : (okB k a b r d g q f o = true ∧ (k == 1) = false) ∧ (k == 7) = false := by simpa [copyB] using h
  obtain ⟨⟨ho, e1⟩, e7⟩ := h'
  obtain ⟨_, _, _, ⟨r0, r1⟩, _⟩ := ok_bounds ho
  have h0 : -9223372036854775808 ≤ r := by omega
  have h1 : r ≤ 9223372036854775807 := by omega
  have hk := mask7 hm0 hm1
  have hk0 : 0 ≤ m % 8 := by omega
  have hk1 : m % 8 ≤ 7 := by omega
  have hbb := both_bits r0 r1 hk0 hk1
  clear h
  go_enter Try.func12, Try.ntmps12
  go_wp2_with (first | (go_at_call 19; refine (okImpl_any _ _ _ _ _ _ _ _ _ _ h0 h1).mono ?_; rintro e w1 ⟨rfl, hb⟩; obtain ⟨hc, hf⟩ := bcell hb; obtain ⟨c0, c1, c2, c3, c4, c5, c6, c7, c8⟩ : Holds9 w1 w.heap.size (.int .i64 k) (.int .i64 a) (.int .i64 b) (.int .i64 r) (.int .i64 d) (.int .i64 g) (.int .i64 q) (.int .i64 f) (.bool o) := ((Holds9.alloc w (.int .i64 k) (.int .i64 a) (.int .i64 b) (.int .i64 r) (.int .i64 d) (.int .i64 g) (.int .i64 q) (.int .i64 f) (.bool o) 24).allocs (by simp) _).below hb (by simp; omega); clear hc; have hbase : Below w.heap.size w w1 := (((Below.refl _ _).alloc (Nat.le_refl _) _).alloc (by simp) _).trans (hb.mono (by simp; omega)); have HR : Holds9 w1 (w.heap.size + 1) (.int .i64 0) (.int .i64 0) (.int .i64 0) (.int .i64 0) (.int .i64 0) (.int .i64 0) (.int .i64 0) (.int .i64 0) (.bool false) := (by have := (Holds9.alloc (w.alloc (.cells #[.int .i64 k, .int .i64 a, .int .i64 b, .int .i64 r, .int .i64 d, .int .i64 g, .int .i64 q, .int .i64 f, .bool o] 24)) (.int .i64 0) (.int .i64 0) (.int .i64 0) (.int .i64 0) (.int .i64 0) (.int .i64 0) (.int .i64 0) (.int .i64 0) (.bool false) 24).below hb (by simp); simpa using this); obtain ⟨z0, z1, z2, z3, z4, z5, z6, z7, z8⟩ := id HR))
  have HF := ((HR.other (C := w.heap.size) 8 (.bool false) (by omega)).other (C := w.heap.size) 3 (.int .i64 (bothI r (m % 8))) (by omega)).put (.int .i64 k) (.int .i64 a) (.int .i64 b) (.int .i64 (bothI r (m % 8))) (.int .i64 d) (.int .i64 g) (.int .i64 q) (.int .i64 f) (.bool false)
  refine bodyPost_ret (impl_CapCopy_res rfl rfl HF) rfl ?_
  refine ⟨rfl, ?_⟩
  repeat (refine Below.setCell ?_ (by simp) _)
  exact hbase

set_option maxHeartbeats 400000 in
theorem copySpec_no (k a b r d g q f m : Int) (o : Bool) (w : World) (h0 : -9223372036854775808 ≤ r) (h1 : r ≤ 9223372036854775807) (h : copyB k a b r d g q f o = false) :
    Calls Try.prog 10 #[.agg #[.int .i64 k, .int .i64 a, .int .i64 b, .int .i64 r, .int .i64 d, .int .i64 g, .int .i64 q, .int .i64 f, .bool o], .int .u32 m] w fun e w' => e = .returned (.tuple #[.agg #[.int .i64 0, .int .i64 0, .int .i64 0, .int .i64 0, .int .i64 0, .int .i64 0, .int .i64 0, .int .i64 0, .bool false], .bool false]) ∧ Below w.heap.size w w' := by
  cases ho : okB k a b r d g q f o
  · clear h
    go_enter Try.func10, Try.ntmps10
    go_wp2_with (first | (go_at_call 20; refine (okSpec_any _ _ _ _ _ _ _ _ _ _).mono ?_; rintro e w1 ⟨rfl, hb⟩; obtain ⟨hc, hf⟩ := bcell hb; obtain ⟨c0, c1, c2, c3, c4, c5, c6, c7, c8⟩ : Holds9 w1 w.heap.size (.int .i64 k) (.int .i64 a) (.int .i64 b) (.int .i64 r) (.int .i64 d) (.int .i64 g) (.int .i64 q) (.int .i64 f) (.bool o) := ((Holds9.alloc w (.int .i64 k) (.int .i64 a) (.int .i64 b) (.int .i64 r) (.int .i64 d) (.int .i64 g) (.int .i64 q) (.int .i64 f) (.bool o) 24).allocs (by simp) _).below hb (by simp; omega); clear hc; have hbase : Below w.heap.size w w1 := (((Below.refl _ _).alloc (Nat.le_refl _) _).alloc (by simp) _).trans (hb.mono (by simp; omega)); have HR : Holds9 w1 (w.heap.size + 1) (.int .i64 0) (.int .i64 0) (.int .i64 0) (.int .i64 0) (.int .i64 0) (.int .i64 0) (.int .i64 0) (.int .i64 0) (.bool false) := (by have := (Holds9.alloc (w.alloc (.cells #[.int .i64 k, .int .i64 a, .int .i64 b, .int .i64 r, .int .i64 d, .int .i64 g, .int .i64 q, .int .i64 f, .bool o] 24)) (.int .i64 0) (.int .i64 0) (.int .i64 0) (.int .i64 0) (.int .i64 0) (.int .i64 0) (.int .i64 0) (.int .i64 0) (.bool false) 24).below hb (by simp); simpa using this); obtain ⟨z0, z1, z2, z3, z4, z5, z6, z7, z8⟩ := id HR))
    have HF := HR.put (.int .i64 0) (.int .i64 0) (.int .i64 0) (.int .i64 0) (.int .i64 0) (.int .i64 0) (.int .i64 0) (.int .i64 0) (.bool false)
    refine bodyPost_ret (spec_CapCopy_res rfl rfl HF) rfl ?_
    refine ⟨rfl, ?_⟩
    repeat (refine Below.setCell ?_ (by simp) _)
    exact hbase
  · cases e1 : (k == 1)
    · have e7 : (k == 7) = true := by simpa [copyB, ho, e1] using h
      clear h
      go_enter Try.func10, Try.ntmps10
      go_wp2_with (first | (go_at_call 20; refine (okSpec_any _ _ _ _ _ _ _ _ _ _).mono ?_; rintro e w1 ⟨rfl, hb⟩; obtain ⟨hc, hf⟩ := bcell hb; obtain ⟨c0, c1, c2, c3, c4, c5, c6, c7, c8⟩ : Holds9 w1 w.heap.size (.int .i64 k) (.int .i64 a) (.int .i64 b) (.int .i64 r) (.int .i64 d) (.int .i64 g) (.int .i64 q) (.int .i64 f) (.bool o) := ((Holds9.alloc w (.int .i64 k) (.int .i64 a) (.int .i64 b) (.int .i64 r) (.int .i64 d) (.int .i64 g) (.int .i64 q) (.int .i64 f) (.bool o) 24).allocs (by simp) _).below hb (by simp; omega); clear hc; have hbase : Below w.heap.size w w1 := (((Below.refl _ _).alloc (Nat.le_refl _) _).alloc (by simp) _).trans (hb.mono (by simp; omega)); have HR : Holds9 w1 (w.heap.size + 1) (.int .i64 0) (.int .i64 0) (.int .i64 0) (.int .i64 0) (.int .i64 0) (.int .i64 0) (.int .i64 0) (.int .i64 0) (.bool false) := (by have := (Holds9.alloc (w.alloc (.cells #[.int .i64 k, .int .i64 a, .int .i64 b, .int .i64 r, .int .i64 d, .int .i64 g, .int .i64 q, .int .i64 f, .bool o] 24)) (.int .i64 0) (.int .i64 0) (.int .i64 0) (.int .i64 0) (.int .i64 0) (.int .i64 0) (.int .i64 0) (.int .i64 0) (.bool false) 24).below hb (by simp); simpa using this); obtain ⟨z0, z1, z2, z3, z4, z5, z6, z7, z8⟩ := id HR))
      have HF := HR.put (.int .i64 0) (.int .i64 0) (.int .i64 0) (.int .i64 0) (.int .i64 0) (.int .i64 0) (.int .i64 0) (.int .i64 0) (.bool false)
      refine bodyPost_ret (spec_CapCopy_res rfl rfl HF) rfl ?_
      refine ⟨rfl, ?_⟩
      repeat (refine Below.setCell ?_ (by simp) _)
      exact hbase
    · clear h
      go_enter Try.func10, Try.ntmps10
      go_wp2_with (first | (go_at_call 20; refine (okSpec_any _ _ _ _ _ _ _ _ _ _).mono ?_; rintro e w1 ⟨rfl, hb⟩; obtain ⟨hc, hf⟩ := bcell hb; obtain ⟨c0, c1, c2, c3, c4, c5, c6, c7, c8⟩ : Holds9 w1 w.heap.size (.int .i64 k) (.int .i64 a) (.int .i64 b) (.int .i64 r) (.int .i64 d) (.int .i64 g) (.int .i64 q) (.int .i64 f) (.bool o) := ((Holds9.alloc w (.int .i64 k) (.int .i64 a) (.int .i64 b) (.int .i64 r) (.int .i64 d) (.int .i64 g) (.int .i64 q) (.int .i64 f) (.bool o) 24).allocs (by simp) _).below hb (by simp; omega); clear hc; have hbase : Below w.heap.size w w1 := (((Below.refl _ _).alloc (Nat.le_refl _) _).alloc (by simp) _).trans (hb.mono (by simp; omega)); have HR : Holds9 w1 (w.heap.size + 1) (.int .i64 0) (.int .i64 0) (.int .i64 0) (.int .i64 0) (.int .i64 0) (.int .i64 0) (.int .i64 0) (.int .i64 0) (.bool false) := (by have := (Holds9.alloc (w.alloc (.cells #[.int .i64 k, .int .i64 a, .int .i64 b, .int .i64 r, .int .i64 d, .int .i64 g, .int .i64 q, .int .i64 f, .bool o] 24)) (.int .i64 0) (.int .i64 0) (.int .i64 0) (.int .i64 0) (.int .i64 0) (.int .i64 0) (.int .i64 0) (.int .i64 0) (.bool false) 24).below hb (by simp); simpa using this); obtain ⟨z0, z1, z2, z3, z4, z5, z6, z7, z8⟩ := id HR))
      have HF := HR.put (.int .i64 0) (.int .i64 0) (.int .i64 0) (.int .i64 0) (.int .i64 0) (.int .i64 0) (.int .i64 0) (.int .i64 0) (.bool false)
      refine bodyPost_ret (spec_CapCopy_res rfl rfl HF) rfl ?_
      refine ⟨rfl, ?_⟩
      repeat (refine Below.setCell ?_ (by simp) _)
      exact hbase

set_option maxHeartbeats 400000 in
theorem copySpec_yes (k a b r d g q f m : Int) (o : Bool) (w : World) (hm0 : 0 ≤ m) (hm1 : m ≤ 4294967295) (h : copyB k a b r d g q f o = true) :
    Calls Try.prog 10 #[.agg #[.int .i64 k, .int .i64 a, .int .i64 b, .int .i64 r, .int .i64 d, .int .i64 g, .int .i64 q, .int .i64 f, .bool o], .int .u32 m] w fun e w' => e = .returned (.tuple #[.agg #[.int .i64 k, .int .i64 a, .int .i64 b, .int .i64 (bothI r (m % 8)), .int .i64 d, .int .i64 g, .int .i64 q, .int .i64 f, .bool false], .bool true]) ∧ Below w.heap.size w w' := by
  have h' : (okB k a b r d g q f o = true ∧ (k == 1) = false) ∧ (k == 7) = false := by simpa [copyB] using h
  obtain ⟨⟨ho, e1⟩, e7⟩ := h'
  obtain ⟨_, _, _, ⟨r0, r1⟩, _⟩ := ok_bounds ho
  have h0 : -9223372036854775808 ≤ r := by omega
  have h1 : r ≤ 9223372036854775807 := by omega
  have hk := mask7 hm0 hm1
  have hk0 : 0 ≤ m % 8 := by omega
  have hk1 : m % 8 ≤ 7 := by omega
  have hbb := both_bits r0 r1 hk0 hk1
  clear h
  go_enter Try.func10, Try.ntmps10
  go_wp2_with (first | (go_at_call 20; refine (okSpec_any _ _ _ _ _ _ _ _ _ _).mono ?_; rintro e w1 ⟨rfl, hb⟩; obtain ⟨hc, hf⟩ := bcell hb; obtain ⟨c0, c1, c2, c3, c4, c5, c6, c7, c8⟩ : Holds9 w1 w.heap.size (.int .i64 k) (.int .i64 a) (.int .i64 b) (.int .i64 r) (.int .i64 d) (.int .i64 g) (.int .i64 q) (.int .i64 f) (.bool o) := ((Holds9.alloc w (.int .i64 k) (.int .i64 a) (.int .i64 b) (.int .i64 r) (.int .i64 d) (.int .i64 g) (.int .i64 q) (.int .i64 f) (.bool o) 24).allocs (by simp) _).below hb (by simp; omega); clear hc; have hbase : Below w.heap.size w w1 := (((Below.refl _ _).alloc (Nat.le_refl _) _).alloc (by simp) _).trans (hb.mono (by simp; omega)); have HR : Holds9 w1 (w.heap.size + 1) (.int .i64 0) (.int .i64 0) (.int .i64 0) (.int .i64 0) (.int .i64 0) (.int .i64 0) (.int .i64 0) (.int .i64 0) (.bool false) := (by have := (Holds9.alloc (w.alloc (.cells #[.int .i64 k, .int .i64 a, .int .i64 b, .int .i64 r, .int .i64 d, .int .i64 g, .int .i64 q, .int .i64 f, .bool o] 24)) (.int .i64 0) (.int .i64 0) (.int .i64 0) (.int .i64 0) (.int .i64 0) (.int .i64 0) (.int .i64 0) (.int .i64 0) (.bool false) 24).below hb (by simp); simpa using this); obtain ⟨z0, z1, z2, z3, z4, z5, z6, z7, z8⟩ := id HR) | (go_at_call 21; refine (bothSpec_any _ _ _ (by omega) (by omega) (by omega) (by omega)).mono ?_; rintro e w' ⟨rfl, rfl⟩))
  have HF := ((HR.other (C := w.heap.size) 8 (.bool false) (by omega)).other (C := w.heap.size) 3 (.int .i64 (bothI r (m % 8))) (by omega)).put (.int .i64 k) (.int .i64 a) (.int .i64 b) (.int .i64 (bothI r (m % 8))) (.int .i64 d) (.int .i64 g) (.int .i64 q) (.int .i64 f) (.bool false)
  refine bodyPost_ret (spec_CapCopy_res rfl rfl HF) rfl ?_
  refine ⟨rfl, ?_⟩
  repeat (refine Below.setCell ?_ (by simp) _)
  exact hbase

end Go.Proofs.Ytaebcaajcolnfab
