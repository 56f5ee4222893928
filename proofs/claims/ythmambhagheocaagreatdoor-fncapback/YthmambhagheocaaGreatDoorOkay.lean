/-
  What is ok: the plain facts. Rights are some of a mask of ones just if they are not negative and not greater.
-/
import Derived.Test.YthmambhagheocaaGreatDoorParts
namespace Go.Proofs.YthmambhagheocaaGreatDoor
open Go.ChangeShapes Go.WideShapes Go.ChangeAt Go.RowKit
set_option linter.unusedVariables false

/-- A capability is ok. -/
def okB (k a b r d g q f : Int) (o : Bool) : Bool :=
  withinB k 1 7 && withinB r 0 (maxI k) && alignB a (spanI k b) && inB a (spanI k b) 0 4096 && besideB k b d g q f && origB k o

theorem mask_nat0 (n x : Nat) (hn : n ≤ 64) (hx : x < 2 ^ 64) : x &&& (2 ^ 64 - ((2 ^ n - 1) + 1)) = 0 ↔ x < 2 ^ n := by
  have hp : 2 ^ n ≤ 2 ^ 64 := Nat.pow_le_pow_right (by omega) hn
  have h1 : 1 ≤ 2 ^ n := Nat.one_le_two_pow
  have hm : 2 ^ n - 1 < 2 ^ 64 := by omega
  constructor
  · intro h
    apply Nat.lt_pow_two_of_testBit
    intro i hi
    by_cases h64 : i < 64
    · have e := congrArg (Nat.testBit · i) h
      simp only [Nat.testBit_and, Nat.testBit_two_pow_sub_succ hm, Nat.testBit_two_pow_sub_one, Nat.zero_testBit, h64, decide_true, Bool.true_and] at e
      have : decide (i < n) = false := by simpa using hi
      rw [this] at e
      simpa using e
    · exact Nat.testBit_lt_two_pow (Nat.lt_of_lt_of_le hx (Nat.pow_le_pow_right (by omega) (by omega)))
  · intro h
    apply Nat.eq_of_testBit_eq
    intro i
    simp only [Nat.testBit_and, Nat.testBit_two_pow_sub_succ hm, Nat.testBit_two_pow_sub_one, Nat.zero_testBit]
    by_cases hi : i < n
    · simp [hi]
    · rw [Nat.testBit_lt_two_pow (Nat.lt_of_lt_of_le h (Nat.pow_le_pow_right (by omega) (by omega)))]; rfl

theorem wrap_zero (m : Nat) (h : m < 2 ^ 64) : IntKind.i64.wrap (m : Int) = 0 ↔ m = 0 := by
  have e : (m : Int) % 2 ^ 64 = m := Int.emod_eq_of_lt (by omega) (by omega)
  simp only [IntKind.wrap, IntKind.bits, IntKind.signed, e]
  constructor
  · intro h1; split at h1 <;> omega
  · intro h1; subst h1; simp

theorem andNot_mask (n : Nat) (hn : n ≤ 3) (r : Int) (h0 : -9223372036854775808 ≤ r) (h1 : r ≤ 9223372036854775807) :
    (bits BinOp.andNot IntKind.i64 r (((2 ^ n - 1 : Nat) : Int)) != 0) = !(withinB r 0 (((2 ^ n - 1 : Nat) : Int))) := by
  have hp : 2 ^ n ≤ 2 ^ 3 := Nat.pow_le_pow_right (by omega) hn
  have hp1 : 1 ≤ 2 ^ n := Nat.one_le_two_pow
  have eM : (BitVec.ofInt 64 ((2 ^ n - 1 : Nat) : Int)).toNat = 2 ^ n - 1 := by
    rw [BitVec.ofInt_natCast, BitVec.toNat_ofNat]; exact Nat.mod_eq_of_lt (by omega)
  have eR : (BitVec.ofInt 64 r).toNat = (r % 18446744073709551616).toNat := by rw [BitVec.toNat_ofInt]; rfl
  have hR : (BitVec.ofInt 64 r).toNat < 2 ^ 64 := BitVec.isLt _
  have e : bits BinOp.andNot IntKind.i64 r ((2 ^ n - 1 : Nat) : Int) = IntKind.i64.wrap (((BitVec.ofInt 64 r).toNat &&& (2 ^ 64 - ((2 ^ n - 1) + 1)) : Nat) : Int) := by
    show IntKind.i64.wrap ((BitVec.ofInt 64 r &&& ~~~BitVec.ofInt 64 ((2 ^ n - 1 : Nat) : Int)).toNat : Int) = _
    rw [BitVec.toNat_and, BitVec.toNat_not, eM]
    rw [show 2 ^ 64 - 1 - (2 ^ n - 1) = 2 ^ 64 - ((2 ^ n - 1) + 1) by omega]
  have hz := wrap_zero ((BitVec.ofInt 64 r).toNat &&& (2 ^ 64 - ((2 ^ n - 1) + 1))) (Nat.lt_of_le_of_lt Nat.and_le_left hR)
  have hm := mask_nat0 n (BitVec.ofInt 64 r).toNat (by omega) hR
  rw [Bool.eq_iff_iff]
  simp only [bne_iff_ne, ne_eq, Bool.not_eq_true', withinB, decide_eq_false_iff_not]
  rw [e, hz, hm, eR]
  constructor
  · intro h g; apply h; omega
  · intro h g; apply h; omega

theorem notRights (k r : Int) (h0 : -9223372036854775808 ≤ r) (h1 : r ≤ 9223372036854775807) : (bits BinOp.andNot IntKind.i64 r (maxI k) != 0) = !(withinB r 0 (maxI k)) := by
  have h : maxI k = ((2 ^ 0 - 1 : Nat) : Int) ∨ maxI k = ((2 ^ 2 - 1 : Nat) : Int) ∨ maxI k = ((2 ^ 3 - 1 : Nat) : Int) := by
    unfold maxI
    repeat' split
    all_goals decide
  rcases h with h | h | h <;> rw [h]
  · exact andNot_mask 0 (by omega) r h0 h1
  · exact andNot_mask 2 (by omega) r h0 h1
  · exact andNot_mask 3 (by omega) r h0 h1

end Go.Proofs.YthmambhagheocaaGreatDoor
