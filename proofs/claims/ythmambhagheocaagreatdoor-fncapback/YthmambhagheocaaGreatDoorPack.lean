/-
  What CapPack of the program and of the specification answer, at every capability.
-/
import Derived.Test.YthmambhagheocaaGreatDoorOkImpl
import Derived.Test.YthmambhagheocaaGreatDoorBounds
import Derived.Laws.BitsAllLaws
namespace Go.Proofs.YthmambhagheocaaGreatDoor
open Go.ChangeShapes Go.WideShapes Go.ChangeAt Go.RowKit
set_option linter.unusedVariables false

/-- The two words. -/
def oI (o : Bool) : Int := if o then 1 else 0
def packA (k b r q f : Int) (o : Bool) : Int := k + 16 * oI o + 32 * r + 256 * b + 4096 * q + 65536 * f
def packB (a d g : Int) : Int := a + 65536 * (d + g)

theorem or_join (n : Nat) (x y c : Int) (hc : c = ((2 ^ n : Nat) : Int)) (hx0 : 0 ≤ x) (hx : x < c) (hy0 : 0 ≤ y) (hy : y * c < 4294967296) (hx2 : x < 4294967296) :
    bits BinOp.or IntKind.u32 x (y * c) = x + y * c := by
  obtain ⟨X, rfl⟩ := Int.eq_ofNat_of_zero_le hx0
  obtain ⟨Y, rfl⟩ := Int.eq_ofNat_of_zero_le hy0
  subst hc
  have hX : X < 2 ^ n := by exact_mod_cast hx
  have e : (Y : Int) * ((2 ^ n : Nat) : Int) = ((2 ^ n * Y : Nat) : Int) := by rw [Int.mul_comm]; exact (Int.natCast_mul _ _).symm
  rw [e] at hy ⊢
  rw [u32_or_nat _ _ (by omega) (by omega), Nat.or_comm, ← Nat.two_pow_add_eq_or_of_lt hX]
  omega

theorem pack_or (k b r q f : Int) (k0 : 1 ≤ k) (k1 : k ≤ 7) (b0 : 0 ≤ b) (b1 : b ≤ 11) (r0 : 0 ≤ r) (r1 : r ≤ 7) (q0 : 0 ≤ q) (q1 : q ≤ 8) (f0 : 0 ≤ f) (f1 : f ≤ 2048) :
    bits BinOp.or IntKind.u32 (bits BinOp.or IntKind.u32 (bits BinOp.or IntKind.u32 (bits BinOp.or IntKind.u32 k (r * 32)) (b * 256)) (q * 4096)) (f * 65536) = k + r * 32 + b * 256 + q * 4096 + f * 65536 := by
  rw [or_join 5 k r 32 (by decide) (by omega) (by omega) (by omega) (by omega) (by omega), or_join 8 _ b 256 (by decide) (by omega) (by omega) (by omega) (by omega) (by omega),
    or_join 12 _ q 4096 (by decide) (by omega) (by omega) (by omega) (by omega) (by omega), or_join 16 _ f 65536 (by decide) (by omega) (by omega) (by omega) (by omega) (by omega)]

theorem pack_16 (x k y : Int) (h : x = k + 32 * y) (k0 : 0 ≤ k) (k1 : k < 16) (y0 : 0 ≤ y) (y1 : y < 100000000) : bits BinOp.or IntKind.u32 x 16 = x + 16 := by
  obtain ⟨X, rfl⟩ := Int.eq_ofNat_of_zero_le k0
  obtain ⟨Y, rfl⟩ := Int.eq_ofNat_of_zero_le y0
  have hX : X < 16 := by omega
  have e : x = ((2 ^ 5 * Y + X : Nat) : Int) := by omega
  have e16 : (16 : Int) = ((16 : Nat) : Int) := rfl
  rw [e, e16, u32_or_nat _ _ (by omega) (by omega)]
  have h1 : 2 ^ 5 * Y + X = 2 ^ 5 * Y ||| X := Nat.two_pow_add_eq_or_of_lt (by omega) Y
  have h2 : 16 + X = 16 ||| X := Nat.two_pow_add_eq_or_of_lt (i := 4) (b := X) (by omega) 1
  have h3 : 2 ^ 5 * Y + (X + 16) = 2 ^ 5 * Y ||| (X + 16) := Nat.two_pow_add_eq_or_of_lt (by omega) Y
  have h4 : (2 ^ 5 * Y + X) ||| 16 = 2 ^ 5 * Y + (X + 16) := by
    rw [h1, Nat.or_assoc, h3]
    rw [show X ||| 16 = X + 16 by rw [Nat.or_comm, ← h2]; omega]
  rw [h4]; omega

theorem or_zero64 (d g : Int) (h : d = 0 ∨ g = 0) (d0 : 0 ≤ d) (d1 : d ≤ 65535) (g0 : 0 ≤ g) (g1 : g ≤ 255) : bits BinOp.or IntKind.i64 d g = d + g := by
  obtain ⟨D, rfl⟩ := Int.eq_ofNat_of_zero_le d0
  obtain ⟨G, rfl⟩ := Int.eq_ofNat_of_zero_le g0
  have h1 : (BitVec.ofInt 64 (D : Int)).toNat = D := by
    rw [BitVec.ofInt_natCast, BitVec.toNat_ofNat]; exact Nat.mod_eq_of_lt (by omega)
  have h2 : (BitVec.ofInt 64 (G : Int)).toNat = G := by
    rw [BitVec.ofInt_natCast, BitVec.toNat_ofNat]; exact Nat.mod_eq_of_lt (by omega)
  have hor : D ||| G = D + G := by
    rcases h with e | e
    · have : D = 0 := by omega
      subst this; simp
    · have : G = 0 := by omega
      subst this; simp
  show IntKind.i64.wrap ((BitVec.ofInt 64 (D : Int) ||| BitVec.ofInt 64 (G : Int)).toNat : Int) = _
  rw [BitVec.toNat_or, h1, h2, hor]
  simp [IntKind.wrap, IntKind.bits, IntKind.signed]
  omega

theorem ret_two {a b c d : Int} (h1 : a = b) (h2 : c = d) : Ending.returned (.tuple #[.int .u32 a, .int .u32 c]) = .returned (.tuple #[.int .u32 b, .int .u32 d]) := by rw [h1, h2]

set_option maxHeartbeats 400000 in
theorem packSpec_no (k a b r d g q f : Int) (o : Bool) (w : World) (h : okB k a b r d g q f o = false) :
    Calls Tryz.prog 30 #[.agg #[.int .i64 k, .int .i64 a, .int .i64 b, .int .i64 r, .int .i64 d, .int .i64 g, .int .i64 q, .int .i64 f, .bool o]] w fun e w' => e = .returned (.tuple #[.int .u32 0, .int .u32 0]) ∧ Below w.heap.size w w' := by
  go_enter Tryz.func30, Tryz.ntmps30
  go_wp2_with (first | (go_at_call 9; refine (okSpec_any _ _ _ _ _ _ _ _ _ _).mono ?_; rintro e w1 ⟨rfl, hb⟩; obtain ⟨hc, hf⟩ := bcell hb))
  go_ret2
  exact ⟨rfl, ((Below.refl _ _).alloc (Nat.le_refl _) _).trans (hb.mono (by simp))⟩

set_option maxHeartbeats 400000 in
theorem packSpec_yes (k a b r d g q f : Int) (o : Bool) (w : World) (h : okB k a b r d g q f o = true) :
    Calls Tryz.prog 30 #[.agg #[.int .i64 k, .int .i64 a, .int .i64 b, .int .i64 r, .int .i64 d, .int .i64 g, .int .i64 q, .int .i64 f, .bool o]] w fun e w' => e = .returned (.tuple #[.int .u32 (packA k b r q f o), .int .u32 (packB a d g)]) ∧ Below w.heap.size w w' := by
  obtain ⟨⟨k0, k1⟩, ⟨a0, a1⟩, ⟨b0, b1⟩, ⟨r0, r1⟩, ⟨d0, d1⟩, ⟨g0, g1⟩, ⟨q0, q1⟩, ⟨f0, f1⟩, _⟩ := ok_bounds h
  cases o
  all_goals
    go_enter Tryz.func30, Tryz.ntmps30
    go_wp2_with (first | (go_at_call 9; refine (okSpec_any _ _ _ _ _ _ _ _ _ _).mono ?_; rintro e w1 ⟨rfl, hb⟩; obtain ⟨hc, hf⟩ := bcell hb))
    go_quiet (fail)
    go_wp2
    go_ret2
    exact ⟨ret_two (by simp [packA, oI]) rfl, below_drewN (((Below.refl _ _).alloc (Nat.le_refl _) _).trans (hb.mono (by simp))) _⟩

set_option maxHeartbeats 400000 in
theorem packImpl_no (k a b r d g q f : Int) (o : Bool) (w : World) (h0 : -9223372036854775808 ≤ r) (h1 : r ≤ 9223372036854775807) (h : okB k a b r d g q f o = false) :
    Calls Tryz.prog 5 #[.agg #[.int .i64 k, .int .i64 a, .int .i64 b, .int .i64 r, .int .i64 d, .int .i64 g, .int .i64 q, .int .i64 f, .bool o]] w fun e w' => e = .returned (.tuple #[.int .u32 0, .int .u32 0]) ∧ Below w.heap.size w w' := by
  go_enter Tryz.func5, Tryz.ntmps5
  go_wp2_with (first | (go_at_call 14; refine (okImpl_any _ _ _ _ _ _ _ _ _ _ h0 h1).mono ?_; rintro e w1 ⟨rfl, hb⟩; obtain ⟨hc, hf⟩ := bcell hb))
  go_ret2
  exact ⟨rfl, ((Below.refl _ _).alloc (Nat.le_refl _) _).trans (hb.mono (by simp))⟩

set_option maxHeartbeats 400000 in
theorem packImpl_yes (k a b r d g q f : Int) (o : Bool) (w : World) (h : okB k a b r d g q f o = true) :
    Calls Tryz.prog 5 #[.agg #[.int .i64 k, .int .i64 a, .int .i64 b, .int .i64 r, .int .i64 d, .int .i64 g, .int .i64 q, .int .i64 f, .bool o]] w fun e w' => e = .returned (.tuple #[.int .u32 (packA k b r q f o), .int .u32 (packB a d g)]) ∧ Below w.heap.size w w' := by
  obtain ⟨⟨k0, k1⟩, ⟨a0, a1⟩, ⟨b0, b1⟩, ⟨r0, r1⟩, ⟨d0, d1⟩, ⟨g0, g1⟩, ⟨q0, q1⟩, ⟨f0, f1⟩, hz⟩ := ok_bounds h
  have hdg := or_zero64 d g hz d0 d1 g0 g1
  have hle : d + g ≤ 65535 := by omega
  have hp := pack_or k b r q f k0 k1 b0 b1 r0 r1 q0 q1 f0 f1
  have h16 := pack_16 (k + r * 32 + b * 256 + q * 4096 + f * 65536) k (r + b * 8 + q * 128 + f * 2048) (by omega) (by omega) (by omega) (by omega) (by omega)
  have hj := or_join 16 a (d + g) 65536 (by decide) (by omega) (by omega) (by omega) (by omega) (by omega)
  clear hz
  cases o
  all_goals
    go_enter Tryz.func5, Tryz.ntmps5
    go_wp2_with (first | (go_at_call 14; refine (okImpl_any _ _ _ _ _ _ _ _ _ _ (by omega) (by omega)).mono ?_; rintro e w1 ⟨rfl, hb⟩; obtain ⟨hc, hf⟩ := bcell hb))
    go_ret2
    exact ⟨ret_two (by simp [packA, oI]; omega) (by simp [packB]; omega), ((Below.refl _ _).alloc (Nat.le_refl _) _).trans (hb.mono (by simp))⟩

/-- The words of a capability, 0 and 0 if it is not ok. -/
def wordA (k a b r d g q f : Int) (o : Bool) : Int := if okB k a b r d g q f o = true then packA k b r q f o else 0
def wordB (k a b r d g q f : Int) (o : Bool) : Int := if okB k a b r d g q f o = true then packB a d g else 0

theorem packSpec_any (k a b r d g q f : Int) (o : Bool) (w : World) :
    Calls Tryz.prog 30 #[.agg #[.int .i64 k, .int .i64 a, .int .i64 b, .int .i64 r, .int .i64 d, .int .i64 g, .int .i64 q, .int .i64 f, .bool o]] w fun e w' => e = .returned (.tuple #[.int .u32 (wordA k a b r d g q f o), .int .u32 (wordB k a b r d g q f o)]) ∧ Below w.heap.size w w' := by
  unfold wordA wordB
  by_cases h : okB k a b r d g q f o = true
  · rw [if_pos h, if_pos h]; exact packSpec_yes k a b r d g q f o w h
  · rw [if_neg h, if_neg h]; exact packSpec_no k a b r d g q f o w (by simpa using h)
theorem packImpl_any (k a b r d g q f : Int) (o : Bool) (w : World) (h0 : -9223372036854775808 ≤ r) (h1 : r ≤ 9223372036854775807) :
    Calls Tryz.prog 5 #[.agg #[.int .i64 k, .int .i64 a, .int .i64 b, .int .i64 r, .int .i64 d, .int .i64 g, .int .i64 q, .int .i64 f, .bool o]] w fun e w' => e = .returned (.tuple #[.int .u32 (wordA k a b r d g q f o), .int .u32 (wordB k a b r d g q f o)]) ∧ Below w.heap.size w w' := by
  unfold wordA wordB
  by_cases h : okB k a b r d g q f o = true
  · rw [if_pos h, if_pos h]; exact packImpl_yes k a b r d g q f o w h
  · rw [if_neg h, if_neg h]; exact packImpl_no k a b r d g q f o w h0 h1 (by simpa using h)

end Go.Proofs.YthmambhagheocaaGreatDoor
