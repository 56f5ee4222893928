/-
  Texts of the proof, put together: Core, Ranges, Rest, Words, Kinds, Parts, Okay, Mem.
-/
import Derived.Test.YtigpbjcmmgdiaaaGreatChecked
import Derived.JoinedTies
import Derived.KernelRfl
import Derived.WalkKit
import Derived.ProofKit
import Derived.OpenShut
import Derived.Below
import Derived.Laws.ResultCell
import Derived.Deep.RegionHeld3
import Derived.WalkLawsBesides
import Derived.Laws.BitsAllLaws
import Derived.Deep.QuietTactic
import Derived.BigQuiet
import Derived.Handy
/-
 What the small functions of the ranges answer, each at every argument: l1Fine and WordSize of the specification, WordSize, none, end and rest of the program. Conditions: none, but that an argument fits its kind where that is named.
-/
namespace Go.Proofs.YtigpbjcmmgdiaaaGreat
open Go.ChangeShapes Go.WideShapes Go.ChangeAt Go.RowKit

/-- A range is one. -/
def fineB (a s : Int) : Bool := decide (0 ≤ a ∧ 0 < s ∧ a ≤ 4096 ∧ s ≤ 4096)

theorem fineB_true {a s : Int} (h : fineB a s = true) : 0 ≤ a ∧ 0 < s ∧ a ≤ 4096 ∧ s ≤ 4096 := by simpa [fineB] using h
theorem fineB_mk {a s : Int} (h : 0 ≤ a ∧ 0 < s ∧ a ≤ 4096 ∧ s ≤ 4096) : fineB a s = true := by simpa [fineB] using h
theorem fineB_no {a s : Int} (h : ¬ (0 ≤ a ∧ 0 < s ∧ a ≤ 4096 ∧ s ≤ 4096)) : fineB a s = false := by simpa [fineB] using h

theorem fine_any (a s : Int) (w : World) :
  Calls Tryz.prog 167 #[.int .i64 a, .int .i64 s] w fun e w' => e = .returned (.bool (fineB a s)) ∧ w' = w := by
 by_cases h1 : 0 ≤ a <;> by_cases h2 : 0 < s <;> by_cases h3 : a ≤ 4096 <;> by_cases h4 : s ≤ 4096
 all_goals
  go_enter Tryz.func167, Tryz.ntmps167
  go_wp2
  go_ret
  exact ⟨by simp [fineB, *], rfl⟩

/-- 2 to the bits, for 0 to 12; else 0. -/
def sizeI (b : Int) : Int := if 0 ≤ b ∧ b ≤ 12 then 2 ^ b.toNat else 0

theorem pow_le12 (k : Nat) (h : k ≤ 12) : (1 : Int) ≤ 2 ^ k ∧ (2 : Int) ^ k ≤ 4096 := by
 have : k = 0 ∨ k = 1 ∨ k = 2 ∨ k = 3 ∨ k = 4 ∨ k = 5 ∨ k = 6 ∨ k = 7 ∨ k = 8 ∨ k = 9 ∨ k = 10 ∨ k = 11 ∨ k = 12 := by omega
 rcases this with h | h | h | h | h | h | h | h | h | h | h | h | h <;> subst h <;> decide

theorem ret_int {k : IntKind} {a b : Int} (h : a = b) : Ending.returned (.int k a) = .returned (.int k b) := by rw [h]

theorem sizeImpl_any (b : Int) (w : World) :
  Calls Tryz.prog 105 #[.int .i64 b] w fun e w' => e = .returned (.int .i64 (sizeI b)) ∧ w' = w := by
 by_cases h0 : b < 0
 ·go_enter Tryz.func105, Tryz.ntmps105
  go_wp2
  go_ret
  exact ⟨ret_int (by unfold sizeI; rw [if_neg (by omega)]), rfl⟩
 ·by_cases h1 : 12 < b
  ·go_enter Tryz.func105, Tryz.ntmps105
   go_wp2
   go_ret
   exact ⟨ret_int (by unfold sizeI; rw [if_neg (by omega)]), rfl⟩
  ·have hb : b = 0 ∨ b = 1 ∨ b = 2 ∨ b = 3 ∨ b = 4 ∨ b = 5 ∨ b = 6 ∨ b = 7 ∨ b = 8 ∨ b = 9 ∨ b = 10 ∨ b = 11 ∨ b = 12 := by omega
   rcases hb with h | h | h | h | h | h | h | h | h | h | h | h | h
   all_goals
    clear h0 h1
    subst h
    go_enter Tryz.func105, Tryz.ntmps105
    go_wp2
    go_ret
    exact ⟨ret_int (by decide), rfl⟩

theorem sizeSpec_any (b : Int) (w : World) :
  Calls Tryz.prog 87 #[.int .i64 b] w fun e w' => e = .returned (.int .i64 (sizeI b)) ∧ w' = w := by
 by_cases h0 : b < 0
 ·go_enter Tryz.func87, Tryz.ntmps87
  go_wp2
  go_ret
  exact ⟨ret_int (by unfold sizeI; rw [if_neg (by omega)]), rfl⟩
 ·by_cases h1 : 12 < b
  ·go_enter Tryz.func87, Tryz.ntmps87
   go_wp2
   go_ret
   exact ⟨ret_int (by unfold sizeI; rw [if_neg (by omega)]), rfl⟩
  ·obtain ⟨m, rfl⟩ : ∃ m : Nat, b = m := ⟨b.toNat, by omega⟩
   have hm : m ≤ 12 := by omega
   go_enter Tryz.func87, Tryz.ntmps87
   go_wp2
   go_loop [3, 4] (fun n i => ∃ k : Nat, k ≤ m ∧ i = .int .i64 k ∧ n = .int .i64 (2 ^ k)) (fun _ i => m - (intOf i).toNat)
   case atStart => exact ⟨0, Nat.zero_le _, rfl, rfl⟩
   case round =>
    obtain ⟨k, hk, rfl, rfl⟩ := hrel
    have hp := pow_le12 k (by omega)
    by_cases hlt : k < m
    ·have HS : Hid ((2 : Int) ^ (k + 1) = 2 ^ k * 2) := Int.pow_succ 2 k
     generalize hq : (2 : Int) ^ k = q at *
     go_wp2
     go_round
     case rel => exact ⟨k + 1, by omega, by go_num, by rw [HS.out]⟩
     case measure => simp [intOf]; omega
    ·obtain rfl : k = m := by omega
     go_wp2
     go_ret
     exact ⟨ret_int (by unfold sizeI; rw [if_pos (by omega)]; simp), rfl⟩

end Go.Proofs.YtigpbjcmmgdiaaaGreat
/-
 What the methods of a range answer: none, end, rest and rangeOf of the program, each at every range of at most 4096 and 4096 words.
-/
namespace Go.Proofs.YtigpbjcmmgdiaaaGreat
open Go.ChangeShapes Go.WideShapes Go.ChangeAt Go.RowKit

theorem none_yes (w : World) :
  Calls Tryz.prog 115 #[.agg #[.int .u32 0, .int .u32 0]] w fun e w' => e = .returned (.bool true) ∧ w' = w.alloc (.cells #[.int .u32 0, .int .u32 0] 152) := by
 go_enter Tryz.func115, Tryz.ntmps115
 go_wp2
 go_ret
 exact ⟨rfl, rfl⟩

theorem none_no (x y : Int) (w : World) (h : 1 ≤ y) :
  Calls Tryz.prog 115 #[.agg #[.int .u32 x, .int .u32 y]] w fun e w' => e = .returned (.bool false) ∧ w' = w.alloc (.cells #[.int .u32 x, .int .u32 y] 152) := by
 have hy : (y == 0) = false := by simp; omega
 have hy' : y ≠ 0 := by omega
 go_enter Tryz.func115, Tryz.ntmps115
 go_wp2
 go_ret
 exact ⟨rfl, rfl⟩

theorem end_any (x y : Int) (w : World) (hx0 : 0 ≤ x) (hx : x ≤ 4096) (hy0 : 0 ≤ y) (hy : y ≤ 4096) :
  Calls Tryz.prog 141 #[.agg #[.int .u32 x, .int .u32 y]] w fun e w' => e = .returned (.int .u32 (x + y)) ∧ w' = w.alloc (.cells #[.int .u32 x, .int .u32 y] 152) := by
 go_enter Tryz.func141, Tryz.ntmps141
 go_wp2
 go_ret
 exact ⟨rfl, rfl⟩

theorem rangeOf_fine (a s : Int) (w : World) (h : fineB a s = true) :
  Calls Tryz.prog 104 #[.int .i64 a, .int .i64 s] w fun e w' => e = .returned (.agg #[.int .u32 a, .int .u32 s]) ∧ w' = w.alloc (.cells #[.int .u32 a, .int .u32 s] 152) := by
 obtain ⟨h1, h2, h3, h4⟩ := fineB_true h
 clear h
 go_enter Tryz.func104, Tryz.ntmps104
 go_wp2
 exact bodyPost_ret (v := .agg #[.int .u32 a, .int .u32 s]) (by simp [results, Tryz.results104, go_sem]) rfl ⟨rfl, rfl⟩

theorem rangeOf_no (a s : Int) (w : World) (h : fineB a s = false) :
  Calls Tryz.prog 104 #[.int .i64 a, .int .i64 s] w fun e w' => e = .returned (.agg #[.int .u32 0, .int .u32 0]) ∧ w' = w.alloc (.cells #[.int .u32 0, .int .u32 0] 152) := by
 have h' : ¬ (0 ≤ a ∧ 0 < s ∧ a ≤ 4096 ∧ s ≤ 4096) := by simpa [fineB] using h
 clear h
 by_cases h1 : a < 0 <;> by_cases h2 : 4096 < a <;> by_cases h3 : s < 1 <;> by_cases h4 : 4096 < s
 all_goals try (exfalso; omega)
 all_goals
  clear h'
  go_enter Tryz.func104, Tryz.ntmps104
  go_wp2
  exact bodyPost_ret (v := .agg #[.int .u32 0, .int .u32 0]) (by simp [results, Tryz.results104, go_sem]) rfl ⟨rfl, rfl⟩

/-- The words that two ranges share. -/
def comA (x y z t : Int) : Int := if min (x + y) (z + t) ≤ max x z then 0 else max x z
def comS (x y z t : Int) : Int := if min (x + y) (z + t) ≤ max x z then 0 else min (x + y) (z + t) - max x z

theorem com_is {a b p q : Int} (ha : a = p) (hb : b = q) : Ending.returned (.agg #[.int .u32 p, .int .u32 q]) = .returned (.agg #[.int .u32 a, .int .u32 b]) := by rw [ha, hb]

set_option maxHeartbeats 1000000 in
theorem common_a (x y z t : Int) (w : World) (hx0 : 0 ≤ x) (hx : x ≤ 4096) (hy0 : 0 ≤ y) (hy : y ≤ 4096) (hz0 : 0 ≤ z) (hz : z ≤ 4096) (ht0 : 0 ≤ t) (ht : t ≤ 4096)
  (h1 : x < z) :
  Calls Tryz.prog 114 #[.agg #[.int .u32 x, .int .u32 y], .agg #[.int .u32 z, .int .u32 t]] w fun e w' => e = .returned (.agg #[.int .u32 (comA x y z t), .int .u32 (comS x y z t)]) ∧ Below w.heap.size w w' := by
 go_enter Tryz.func114, Tryz.ntmps114
 go_wp2
 go_region_held3 (fun w' => w'.cell? ⟨w.heap.size, 0, none⟩ = some (.int .u32 x) ∧ w'.cell? ⟨w.heap.size, 1, none⟩ = some (.int .u32 y) ∧ w'.cell? ⟨w.heap.size + 1, 0, none⟩ = some (.int .u32 z) ∧ w'.cell? ⟨w.heap.size + 1, 1, none⟩ = some (.int .u32 t)) (go_simp) (first | (go_at_call 141; refine (end_any _ _ _ (by omega) (by omega) (by omega) (by omega)).mono ?_; rintro e w1 ⟨rfl, rfl⟩))
 all_goals go_wp2
 all_goals first | exact bodyPost_ret (v := .agg #[.int .u32 0, .int .u32 0]) (by simp [results, Tryz.results114, go_sem]) rfl ⟨com_is (by unfold comA; omega) (by unfold comS; omega), by repeat (first | exact Below.refl _ _ | apply Below.drew | (refine Below.alloc ?_ (by simp; try omega) _))⟩ | exact bodyPost_ret (v := .agg #[.int .u32 z, .int .u32 (x + y - z)]) (by simp [results, Tryz.results114, go_sem]) rfl ⟨com_is (by unfold comA; omega) (by unfold comS; omega), by repeat (first | exact Below.refl _ _ | apply Below.drew | (refine Below.alloc ?_ (by simp; try omega) _))⟩ | exact bodyPost_ret (v := .agg #[.int .u32 z, .int .u32 (z + t - z)]) (by simp [results, Tryz.results114, go_sem]) rfl ⟨com_is (by unfold comA; omega) (by unfold comS; omega), by repeat (first | exact Below.refl _ _ | apply Below.drew | (refine Below.alloc ?_ (by simp; try omega) _))⟩ | exact bodyPost_ret (v := .agg #[.int .u32 z, .int .u32 t]) (by simp [results, Tryz.results114, go_sem]) rfl ⟨com_is (by unfold comA; omega) (by unfold comS; omega), by repeat (first | exact Below.refl _ _ | apply Below.drew | (refine Below.alloc ?_ (by simp; try omega) _))⟩

set_option maxHeartbeats 1000000 in
theorem common_b (x y z t : Int) (w : World) (hx0 : 0 ≤ x) (hx : x ≤ 4096) (hy0 : 0 ≤ y) (hy : y ≤ 4096) (hz0 : 0 ≤ z) (hz : z ≤ 4096) (ht0 : 0 ≤ t) (ht : t ≤ 4096)
  (h1 : ¬ x < z) :
  Calls Tryz.prog 114 #[.agg #[.int .u32 x, .int .u32 y], .agg #[.int .u32 z, .int .u32 t]] w fun e w' => e = .returned (.agg #[.int .u32 (comA x y z t), .int .u32 (comS x y z t)]) ∧ Below w.heap.size w w' := by
 go_enter Tryz.func114, Tryz.ntmps114
 go_wp2
 go_region_held3 (fun w' => w'.cell? ⟨w.heap.size, 0, none⟩ = some (.int .u32 x) ∧ w'.cell? ⟨w.heap.size, 1, none⟩ = some (.int .u32 y) ∧ w'.cell? ⟨w.heap.size + 1, 0, none⟩ = some (.int .u32 z) ∧ w'.cell? ⟨w.heap.size + 1, 1, none⟩ = some (.int .u32 t)) (go_simp) (first | (go_at_call 141; refine (end_any _ _ _ (by omega) (by omega) (by omega) (by omega)).mono ?_; rintro e w1 ⟨rfl, rfl⟩))
 all_goals go_wp2
 all_goals first | exact bodyPost_ret (v := .agg #[.int .u32 0, .int .u32 0]) (by simp [results, Tryz.results114, go_sem]) rfl ⟨com_is (by unfold comA; omega) (by unfold comS; omega), by repeat (first | exact Below.refl _ _ | apply Below.drew | (refine Below.alloc ?_ (by simp; try omega) _))⟩ | exact bodyPost_ret (v := .agg #[.int .u32 x, .int .u32 (x + y - x)]) (by simp [results, Tryz.results114, go_sem]) rfl ⟨com_is (by unfold comA; omega) (by unfold comS; omega), by repeat (first | exact Below.refl _ _ | apply Below.drew | (refine Below.alloc ?_ (by simp; try omega) _))⟩ | exact bodyPost_ret (v := .agg #[.int .u32 x, .int .u32 y]) (by simp [results, Tryz.results114, go_sem]) rfl ⟨com_is (by unfold comA; omega) (by unfold comS; omega), by repeat (first | exact Below.refl _ _ | apply Below.drew | (refine Below.alloc ?_ (by simp; try omega) _))⟩ | exact bodyPost_ret (v := .agg #[.int .u32 x, .int .u32 (z + t - x)]) (by simp [results, Tryz.results114, go_sem]) rfl ⟨com_is (by unfold comA; omega) (by unfold comS; omega), by repeat (first | exact Below.refl _ _ | apply Below.drew | (refine Below.alloc ?_ (by simp; try omega) _))⟩

theorem common_any (x y z t : Int) (w : World) (hx0 : 0 ≤ x) (hx : x ≤ 4096) (hy0 : 0 ≤ y) (hy : y ≤ 4096) (hz0 : 0 ≤ z) (hz : z ≤ 4096) (ht0 : 0 ≤ t) (ht : t ≤ 4096) :
  Calls Tryz.prog 114 #[.agg #[.int .u32 x, .int .u32 y], .agg #[.int .u32 z, .int .u32 t]] w fun e w' => e = .returned (.agg #[.int .u32 (comA x y z t), .int .u32 (comS x y z t)]) ∧ Below w.heap.size w w' := by
 by_cases h1 : x < z
 ·exact common_a x y z t w hx0 hx hy0 hy hz0 hz ht0 ht h1
 ·exact common_b x y z t w hx0 hx hy0 hy hz0 hz ht0 ht h1

end Go.Proofs.YtigpbjcmmgdiaaaGreat
/-
 What rest of the program answers at a range: the rest of the address by the size.
-/
namespace Go.Proofs.YtigpbjcmmgdiaaaGreat
open Go.ChangeShapes Go.WideShapes Go.ChangeAt Go.RowKit

def twos : List Nat := [0, 2 ^ 0, 2 ^ 1, 2 ^ 2, 2 ^ 3, 2 ^ 4, 2 ^ 5, 2 ^ 6, 2 ^ 7, 2 ^ 8, 2 ^ 9, 2 ^ 10, 2 ^ 11, 2 ^ 12]

theorem two_of_mask0 : ∀ q, q < 65 → ∀ r, r < 64 → (64 * q + r) &&& (64 * q + r - 1) = 0 → 64 * q + r ∈ twos := by
 decide +kernel

theorem two_of_mask (n : Nat) (h : n < 4097) (h0 : n &&& (n - 1) = 0) : n ∈ twos := by
 have e : 64 * (n / 64) + n % 64 = n := by omega
 have := two_of_mask0 (n / 64) (by omega) (n % 64) (by omega)
 rw [e] at this
 exact this h0

theorem mask_nat (m n : Nat) (h1 : 1 ≤ n) (h2 : n ≤ 4096) (h : n &&& (n - 1) = 0) : m &&& (n - 1) = m % n := by
 have := two_of_mask n (by omega) h
 simp only [twos, List.mem_cons, List.not_mem_nil, or_false] at this
 rcases this with e | e | e | e | e | e | e | e | e | e | e | e | e | e
 ·omega
 all_goals (rw [e]; exact Nat.and_two_pow_sub_one_eq_mod _ _)

theorem mask_rest (x y : Int) (hx0 : 0 ≤ x) (hx : x ≤ 4096) (hy0 : 1 ≤ y) (hy : y ≤ 4096) (h : (bits BinOp.and IntKind.u32 y (y - 1) == 0) = true) :
  bits BinOp.and IntKind.u32 x (y - 1) = x % y := by
 obtain ⟨m, rfl⟩ : ∃ m : Nat, x = m := ⟨x.toNat, by omega⟩
 obtain ⟨n, rfl⟩ : ∃ n : Nat, y = n := ⟨y.toNat, by omega⟩
 have e : ((n : Int) - 1) = ((n - 1 : Nat) : Int) := by omega
 rw [e] at h ⊢
 rw [u32_and_nat _ _ (by omega) (by omega)] at h ⊢
 have h' : n &&& (n - 1) = 0 := by
  have := eq_of_beq h
  omega
 rw [mask_nat m n (by omega) (by omega) h']
 omega

theorem rest_any (x y : Int) (w : World) (hx0 : 0 ≤ x) (hx : x ≤ 4096) (hy0 : 1 ≤ y) (hy : y ≤ 4096) :
  Calls Tryz.prog 206 #[.agg #[.int .u32 x, .int .u32 y]] w fun e w' => e = .returned (.int .u32 (x % y)) ∧ w' = w.alloc (.cells #[.int .u32 x, .int .u32 y] 152) := by
 go_enter Tryz.func206, Tryz.ntmps206
 go_wp2
 ·go_ret
  exact ⟨ret_int (mask_rest x y hx0 hx hy0 hy ‹_›), rfl⟩
 ·go_ret
  exact ⟨rfl, rfl⟩

end Go.Proofs.YtigpbjcmmgdiaaaGreat
/-
 What the five functions of chapter 1 answer, those of the specification and those of the program, each at every argument.
-/
namespace Go.Proofs.YtigpbjcmmgdiaaaGreat
open Go.ChangeShapes Go.WideShapes Go.ChangeAt Go.RowKit
set_option linter.unusedVariables false

theorem ret_bool {a b : Bool} (h : a = b) : Ending.returned (.bool a) = .returned (.bool b) := by rw [h]

def alignB (a s : Int) : Bool := fineB a s && (a % s == 0)
def meetB (a s b t : Int) : Bool := fineB a s && fineB b t && decide (a < b + t) && decide (b < a + s)
def inB (a s b t : Int) : Bool := fineB a s && fineB b t && decide (b ≤ a) && decide (a + s ≤ b + t)
theorem alignSpec_any (a s : Int) (w : World) :
  Calls Tryz.prog 146 #[.int .i64 a, .int .i64 s] w fun e w' => e = .returned (.bool (alignB a s)) ∧ w' = w := by
 by_cases h : fineB a s = true
 ·obtain ⟨h1, h2, h3, h4⟩ := fineB_true h
  go_enter Tryz.func146, Tryz.ntmps146
  go_wp2_with (go_at_call 167; refine (fine_any _ _ _).mono ?_; rintro e w' ⟨rfl, rfl⟩)
  go_ret
  exact ⟨ret_bool (by simp [alignB, h]), rfl⟩
 ·have h' : fineB a s = false := by simpa using h
  clear h
  go_enter Tryz.func146, Tryz.ntmps146
  go_wp2_with (go_at_call 167; refine (fine_any _ _ _).mono ?_; rintro e w' ⟨rfl, rfl⟩)
  go_ret
  exact ⟨ret_bool (by simp [alignB, h']), rfl⟩

theorem meetSpec_any (a s b t : Int) (w : World) :
  Calls Tryz.prog 150 #[.int .i64 a, .int .i64 s, .int .i64 b, .int .i64 t] w fun e w' => e = .returned (.bool (meetB a s b t)) ∧ w' = w := by
 by_cases h : fineB a s = true
 ·by_cases k : fineB b t = true
  ·obtain ⟨h1, h2, h3, h4⟩ := fineB_true h
   obtain ⟨k1, k2, k3, k4⟩ := fineB_true k
   by_cases g : a < b + t
   all_goals
    go_enter Tryz.func150, Tryz.ntmps150
    go_wp2_with (go_at_call 167; refine (fine_any _ _ _).mono ?_; rintro e w' ⟨rfl, rfl⟩)
    go_ret
    exact ⟨ret_bool (by simp [meetB, h, k, g]; try omega), rfl⟩
  ·have k' : fineB b t = false := by simpa using k
   clear k
   go_enter Tryz.func150, Tryz.ntmps150
   go_wp2_with (go_at_call 167; refine (fine_any _ _ _).mono ?_; rintro e w' ⟨rfl, rfl⟩)
   go_ret
   exact ⟨ret_bool (by simp [meetB, k']), rfl⟩
 ·have h' : fineB a s = false := by simpa using h
  clear h
  go_enter Tryz.func150, Tryz.ntmps150
  go_wp2_with (go_at_call 167; refine (fine_any _ _ _).mono ?_; rintro e w' ⟨rfl, rfl⟩)
  go_ret
  exact ⟨ret_bool (by simp [meetB, h']), rfl⟩

theorem inSpec_any (a s b t : Int) (w : World) :
  Calls Tryz.prog 135 #[.int .i64 a, .int .i64 s, .int .i64 b, .int .i64 t] w fun e w' => e = .returned (.bool (inB a s b t)) ∧ w' = w := by
 by_cases h : fineB a s = true
 ·by_cases k : fineB b t = true
  ·obtain ⟨h1, h2, h3, h4⟩ := fineB_true h
   obtain ⟨k1, k2, k3, k4⟩ := fineB_true k
   by_cases g : b ≤ a
   all_goals
    go_enter Tryz.func135, Tryz.ntmps135
    go_wp2_with (go_at_call 167; refine (fine_any _ _ _).mono ?_; rintro e w' ⟨rfl, rfl⟩)
    go_ret
    exact ⟨ret_bool (by simp [inB, h, k, g]; try omega), rfl⟩
  ·have k' : fineB b t = false := by simpa using k
   clear k
   go_enter Tryz.func135, Tryz.ntmps135
   go_wp2_with (go_at_call 167; refine (fine_any _ _ _).mono ?_; rintro e w' ⟨rfl, rfl⟩)
   go_ret
   exact ⟨ret_bool (by simp [inB, k']), rfl⟩
 ·have h' : fineB a s = false := by simpa using h
  clear h
  go_enter Tryz.func135, Tryz.ntmps135
  go_wp2_with (go_at_call 167; refine (fine_any _ _ _).mono ?_; rintro e w' ⟨rfl, rfl⟩)
  go_ret
  exact ⟨ret_bool (by simp [inB, h']), rfl⟩

/-! The program's own. -/

theorem bcell {W w1 : World} (hb : Below W.heap.size W w1) : (∀ b o, b < W.heap.size → w1.cell? ⟨b, o, none⟩ = W.cell? ⟨b, o, none⟩) ∧ (∀ b o, b < W.heap.size → w1.frozen? ⟨b, o, none⟩ = W.frozen? ⟨b, o, none⟩) :=
 ⟨fun b o h => hb.cell (p := ⟨b, o, none⟩) h, fun b o h => hb.frozen (p := ⟨b, o, none⟩) h⟩

theorem alignImpl_any (a s : Int) (w : World) :
  Calls Tryz.prog 188 #[.int .i64 a, .int .i64 s] w fun e w' => e = .returned (.bool (alignB a s)) ∧ Below w.heap.size w w' := by
 by_cases h : fineB a s = true
 ·obtain ⟨h1, h2, h3, h4⟩ := fineB_true h
  go_enter Tryz.func188, Tryz.ntmps188
  go_wp2_with (first | (go_at_call 104; refine (rangeOf_fine _ _ _ h).mono ?_; rintro e w' ⟨rfl, rfl⟩) | (go_at_call 115; refine (none_no _ _ _ (by omega)).mono ?_; rintro e w' ⟨rfl, rfl⟩) | (go_at_call 206; refine (rest_any _ _ _ (by omega) (by omega) (by omega) (by omega)).mono ?_; rintro e w' ⟨rfl, rfl⟩))
  go_ret
  exact ⟨ret_bool (by simp [alignB, h]), by repeat (first | exact Below.refl _ _ | apply Below.drew | (refine Below.alloc ?_ (by simp; try omega) _))⟩
 ·have h' : fineB a s = false := by simpa using h
  clear h
  go_enter Tryz.func188, Tryz.ntmps188
  go_wp2_with (first | (go_at_call 104; refine (rangeOf_no _ _ _ h').mono ?_; rintro e w' ⟨rfl, rfl⟩) | (go_at_call 115; refine (none_yes _).mono ?_; rintro e w' ⟨rfl, rfl⟩))
  go_ret
  exact ⟨ret_bool (by simp [alignB, h']), by repeat (first | exact Below.refl _ _ | apply Below.drew | (refine Below.alloc ?_ (by simp; try omega) _))⟩

end Go.Proofs.YtigpbjcmmgdiaaaGreat
/-
 What the small functions of chapter 2 answer: capKindOf, the methods of each kind, CapSize, CapMax and capWithin of the program; l2Bits, CapSize and CapMax of the specification.
-/
namespace Go.Proofs.YtigpbjcmmgdiaaaGreat
open Go.ChangeShapes Go.WideShapes Go.ChangeAt Go.RowKit
set_option linter.unusedVariables false

/-- The words of an object. -/
def szI (k b : Int) : Int :=
 if k = 1 then (if 2 ≤ b ∧ b ≤ 11 then sizeI b else 0)
 else if k = 2 then (if 1 ≤ b ∧ b ≤ 5 then 4 * sizeI b else 0)
 else if k = 3 then (if b = 0 then 32 else 0)
 else if k = 4 ∨ k = 5 then (if b = 0 then 4 else 0)
 else if k = 6 then (if 0 ≤ b ∧ b ≤ 6 then sizeI b else 0)
 else 0

/-- So many words 2 to the bits times, where the bits are from l to m. -/
def wordsI (c b l m : Int) : Int := if l ≤ b ∧ b ≤ m then c * sizeI b else 0

theorem wordsI_0 (c b : Int) : wordsI c b 0 0 = if b = 0 then c else 0 := by
 unfold wordsI
 by_cases g : b = 0
 ·rw [if_pos g, if_pos (by omega), g]; show c * 1 = c; omega
 ·rw [if_neg g, if_neg (by omega)]

theorem wordsI_1 (b : Int) : wordsI 1 b 2 11 = szI 1 b := by simp [szI, wordsI]
theorem wordsI_2 (b : Int) : wordsI 4 b 1 5 = szI 2 b := by simp [szI, wordsI]
theorem wordsI_3 (b : Int) : wordsI 32 b 0 0 = szI 3 b := by rw [wordsI_0]; simp [szI]
theorem wordsI_4 (b : Int) : wordsI 4 b 0 0 = szI 4 b := by rw [wordsI_0]; simp [szI]
theorem wordsI_5 (b : Int) : wordsI 4 b 0 0 = szI 5 b := by rw [wordsI_0]; simp [szI]
theorem wordsI_6 (b : Int) : wordsI 1 b 0 6 = szI 6 b := by simp [szI, wordsI]

/-- The rights of a kind. -/
def maxI (k : Int) : Int := if k = 4 then 7 else if k = 5 ∨ k = 6 then 3 else 0

/-- The row of a kind, as a value. -/
def kindV (k : Int) : Value :=
 if k = 1 then .iface 209 (.agg #[]) else if k = 2 then .iface 210 (.agg #[]) else if k = 3 then .iface 208 (.agg #[])
 else if k = 4 then .iface 211 (.agg #[]) else if k = 5 then .iface 212 (.agg #[]) else if k = 6 then .iface 213 (.agg #[])
 else if k = 7 then .iface 207 (.agg #[]) else .nilIface

/-- A kind is one of seven, or none. -/
theorem kind_cases (k : Int) : (k = 1 ∨ k = 2 ∨ k = 3 ∨ k = 4 ∨ k = 5 ∨ k = 6 ∨ k = 7) ∨ (¬ k = 1 ∧ ¬ k = 2 ∧ ¬ k = 3 ∧ ¬ k = 4 ∧ ¬ k = 5 ∧ ¬ k = 6 ∧ ¬ k = 7) := by omega

theorem ret_val {a b : Value} (h : a = b) : Ending.returned a = .returned b := by rw [h]

theorem kindOf_any (k : Int) (w : World) :
  Calls Tryz.prog 158 #[.int .i64 k] w fun e w' => e = .returned (kindV k) ∧ w' = w := by
 rcases kind_cases k with (h | h | h | h | h | h | h) | ⟨h1, h2, h3, h4, h5, h6, h7⟩
 iterate 7
  ·subst h
   go_enter Tryz.func158, Tryz.ntmps158
   go_wp2
   go_ret
   exact ⟨ret_val (by simp [kindV]), rfl⟩
 ·go_enter Tryz.func158, Tryz.ntmps158
  go_wp2
  go_ret
  exact ⟨ret_val (by simp [kindV, *]), rfl⟩

/-- A number from l to m. -/
def withinB (n l m : Int) : Bool := decide (l ≤ n ∧ n ≤ m)

theorem within_any (n l m : Int) (w : World) :
  Calls Tryz.prog 99 #[.int .i64 n, .int .i64 l, .int .i64 m] w fun e w' => e = .returned (.bool (withinB n l m)) ∧ w' = w := by
 by_cases h : l ≤ n
 all_goals
  go_enter Tryz.func99, Tryz.ntmps99
  go_wp2
  go_ret
  exact ⟨ret_bool (by simp [withinB, h]; try omega), rfl⟩

theorem within_yes (n l m : Int) (w : World) (h : withinB n l m = true) :
  Calls Tryz.prog 99 #[.int .i64 n, .int .i64 l, .int .i64 m] w fun e w' => e = .returned (.bool true) ∧ w' = w := by
 have := within_any n l m w; rw [h] at this; exact this
theorem within_no (n l m : Int) (w : World) (h : withinB n l m = false) :
  Calls Tryz.prog 99 #[.int .i64 n, .int .i64 l, .int .i64 m] w fun e w' => e = .returned (.bool false) ∧ w' = w := by
 have := within_any n l m w; rw [h] at this; exact this

theorem words_yes (c b l m : Int) (w : World) (hc : 0 ≤ c ∧ c ≤ 32) (h1 : l ≤ b) (h2 : b ≤ m) (h3 : 0 ≤ b) (h4 : b ≤ 12) :
  Calls Tryz.prog 200 #[.int .i64 c, .int .i64 b, .int .i64 l, .int .i64 m] w fun e w' => e = .returned (.int .i64 (c * sizeI b)) ∧ w' = w := by
 have hs : 0 ≤ sizeI b ∧ sizeI b ≤ 4096 := by
  have := pow_le12 b.toNat (by omega)
  unfold sizeI; rw [if_pos ⟨h3, h4⟩]; omega
 have hm : 0 ≤ c * sizeI b ∧ c * sizeI b ≤ 32 * 4096 := ⟨Int.mul_nonneg hc.1 hs.1, Int.mul_le_mul hc.2 hs.2 hs.1 (by omega)⟩
 have hd : withinB b l m = true := by simp [withinB, h1, h2]
 go_enter Tryz.func200, Tryz.ntmps200
 go_wp2_with (first | (go_at_call 99; refine (within_any _ _ _ _).mono ?_; rintro e w' ⟨rfl, rfl⟩) | (go_at_call 105; refine (sizeImpl_any _ _).mono ?_; rintro e w' ⟨rfl, rfl⟩))
 go_ret
 exact ⟨rfl, rfl⟩

theorem words_no (c b l m : Int) (w : World) (h : ¬ (l ≤ b ∧ b ≤ m)) :
  Calls Tryz.prog 200 #[.int .i64 c, .int .i64 b, .int .i64 l, .int .i64 m] w fun e w' => e = .returned (.int .i64 0) ∧ w' = w := by
 have hd : withinB b l m = false := by simpa [withinB] using h
 clear h
 go_enter Tryz.func200, Tryz.ntmps200
 go_wp2_with (first | (go_at_call 99; refine (within_any _ _ _ _).mono ?_; rintro e w' ⟨rfl, rfl⟩))
 go_ret
 exact ⟨rfl, rfl⟩

theorem words_any (c b l m : Int) (w : World) (hc : 0 ≤ c ∧ c ≤ 32) (h0 : 0 ≤ l) (h1 : m ≤ 12) :
  Calls Tryz.prog 200 #[.int .i64 c, .int .i64 b, .int .i64 l, .int .i64 m] w fun e w' => e = .returned (.int .i64 (wordsI c b l m)) ∧ w' = w := by
 unfold wordsI
 by_cases h : l ≤ b ∧ b ≤ m
 ·rw [if_pos h]; exact words_yes c b l m w hc h.1 h.2 (by omega) (by omega)
 ·rw [if_neg h]; exact words_no c b l m w h

/-- The bits go with the kind. -/
def bitsB (k b : Int) : Bool := decide (1 ≤ k ∧ k ≤ 7 ∧ (k = 1 → 2 ≤ b ∧ b ≤ 11) ∧ (k = 2 → 1 ≤ b ∧ b ≤ 5) ∧ (k = 6 → 0 ≤ b ∧ b ≤ 6) ∧ (k = 3 ∨ k = 4 ∨ k = 5 ∨ k = 7 → b = 0))

theorem szI_no {k b : Int} (h : bitsB k b = false) : szI k b = 0 := by
 unfold bitsB at h; rw [decide_eq_false_iff_not] at h
 unfold szI
 repeat' split
 all_goals first | rfl | (exfalso; omega)

theorem size4 (b : Int) (h1 : 1 ≤ b) (h2 : b ≤ 5) : sizeI (b + 2) = szI 2 b := by
 have : b = 1 ∨ b = 2 ∨ b = 3 ∨ b = 4 ∨ b = 5 := by omega
 rcases this with e | e | e | e | e <;> subst e <;> decide

theorem bits_any (k b : Int) (w : World) :
  Calls Tryz.prog 142 #[.int .i64 k, .int .i64 b] w fun e w' => e = .returned (.bool (bitsB k b)) ∧ w' = w := by
 rcases kind_cases k with (h | h | h | h | h | h | h) | ⟨h1, h2, h3, h4, h5, h6, h7⟩
 ·subst h
  by_cases g : 2 ≤ b
  all_goals
   go_enter Tryz.func142, Tryz.ntmps142
   go_wp2
   go_ret
   exact ⟨ret_bool (by simp [bitsB, g]; try omega), rfl⟩
 ·subst h
  by_cases g : 1 ≤ b
  all_goals
   go_enter Tryz.func142, Tryz.ntmps142
   go_wp2
   go_ret
   exact ⟨ret_bool (by simp [bitsB, g]; try omega), rfl⟩
 iterate 3
  ·subst h
   go_enter Tryz.func142, Tryz.ntmps142
   go_wp2
   go_ret
   exact ⟨ret_bool (by rw [Bool.eq_iff_iff]; simp [bitsB]), rfl⟩
 ·subst h
  by_cases g : 0 ≤ b
  all_goals
   go_enter Tryz.func142, Tryz.ntmps142
   go_wp2
   go_ret
   exact ⟨ret_bool (by simp [bitsB, g]; try omega), rfl⟩
 ·subst h
  go_enter Tryz.func142, Tryz.ntmps142
  go_wp2
  go_ret
  exact ⟨ret_bool (by rw [Bool.eq_iff_iff]; simp [bitsB]), rfl⟩
 ·go_enter Tryz.func142, Tryz.ntmps142
  go_wp2
  go_ret
  exact ⟨ret_bool (by unfold bitsB; rw [eq_comm, decide_eq_false_iff_not]; omega), rfl⟩

theorem maxSpec_any (k : Int) (w : World) :
  Calls Tryz.prog 144 #[.int .i64 k] w fun e w' => e = .returned (.int .i64 (maxI k)) ∧ w' = w := by
 by_cases h4 : k = 4
 ·subst h4
  go_enter Tryz.func144, Tryz.ntmps144
  go_wp2
  go_ret
  exact ⟨rfl, rfl⟩
 ·by_cases h5 : k = 5
  ·subst h5
   go_enter Tryz.func144, Tryz.ntmps144
   go_wp2
   go_ret
   exact ⟨rfl, rfl⟩
  ·by_cases h6 : k = 6
   ·subst h6
    go_enter Tryz.func144, Tryz.ntmps144
    go_wp2
    go_ret
    exact ⟨rfl, rfl⟩
   ·go_enter Tryz.func144, Tryz.ntmps144
    go_wp2
    go_ret
    exact ⟨ret_int (by simp [maxI, *]), rfl⟩

/-! Which function a method of a kind is. -/
theorem rightsM_1 (v : Value) (w : World) : (Go.method 360 209 v "loop.example/donjon/impl.rights").run Tryz.prog w = .ok (233, v) w := by kernel_rfl
theorem wordsM_1 (v : Value) (w : World) : (Go.method 360 209 v "loop.example/donjon/impl.words").run Tryz.prog w = .ok (235, v) w := by kernel_rfl
theorem rightsM_2 (v : Value) (w : World) : (Go.method 360 210 v "loop.example/donjon/impl.rights").run Tryz.prog w = .ok (236, v) w := by kernel_rfl
theorem wordsM_2 (v : Value) (w : World) : (Go.method 360 210 v "loop.example/donjon/impl.words").run Tryz.prog w = .ok (238, v) w := by kernel_rfl
theorem rightsM_3 (v : Value) (w : World) : (Go.method 360 208 v "loop.example/donjon/impl.rights").run Tryz.prog w = .ok (231, v) w := by kernel_rfl
theorem wordsM_3 (v : Value) (w : World) : (Go.method 360 208 v "loop.example/donjon/impl.words").run Tryz.prog w = .ok (177, v) w := by kernel_rfl
theorem rightsM_4 (v : Value) (w : World) : (Go.method 360 211 v "loop.example/donjon/impl.rights").run Tryz.prog w = .ok (239, v) w := by kernel_rfl
theorem wordsM_4 (v : Value) (w : World) : (Go.method 360 211 v "loop.example/donjon/impl.words").run Tryz.prog w = .ok (241, v) w := by kernel_rfl
theorem rightsM_5 (v : Value) (w : World) : (Go.method 360 212 v "loop.example/donjon/impl.rights").run Tryz.prog w = .ok (242, v) w := by kernel_rfl
theorem wordsM_5 (v : Value) (w : World) : (Go.method 360 212 v "loop.example/donjon/impl.words").run Tryz.prog w = .ok (244, v) w := by kernel_rfl
theorem rightsM_6 (v : Value) (w : World) : (Go.method 360 213 v "loop.example/donjon/impl.rights").run Tryz.prog w = .ok (245, v) w := by kernel_rfl
theorem wordsM_6 (v : Value) (w : World) : (Go.method 360 213 v "loop.example/donjon/impl.words").run Tryz.prog w = .ok (247, v) w := by kernel_rfl
theorem rightsM_7 (v : Value) (w : World) : (Go.method 360 207 v "loop.example/donjon/impl.rights").run Tryz.prog w = .ok (228, v) w := by kernel_rfl
theorem wordsM_7 (v : Value) (w : World) : (Go.method 360 207 v "loop.example/donjon/impl.words").run Tryz.prog w = .ok (230, v) w := by kernel_rfl

/-! What an assertion of a kind to a kind answers. -/
theorem ta_1_1 (w : World) : (Instr.typeAssert (.iface 209 (.agg #[])) 196 209 true).run Tryz.prog w = .ok (.tuple #[.agg #[], .bool true]) w := by kernel_rfl
theorem ta_1_2 (w : World) : (Instr.typeAssert (.iface 209 (.agg #[])) 196 210 true).run Tryz.prog w = .ok (.tuple #[.agg #[], .bool false]) w := by kernel_rfl
theorem ta_1_4 (w : World) : (Instr.typeAssert (.iface 209 (.agg #[])) 196 211 true).run Tryz.prog w = .ok (.tuple #[.agg #[], .bool false]) w := by kernel_rfl
theorem ta_1_5 (w : World) : (Instr.typeAssert (.iface 209 (.agg #[])) 196 212 true).run Tryz.prog w = .ok (.tuple #[.agg #[], .bool false]) w := by kernel_rfl
theorem ta_1_7 (w : World) : (Instr.typeAssert (.iface 209 (.agg #[])) 196 207 true).run Tryz.prog w = .ok (.tuple #[.agg #[], .bool false]) w := by kernel_rfl
theorem ta_2_1 (w : World) : (Instr.typeAssert (.iface 210 (.agg #[])) 196 209 true).run Tryz.prog w = .ok (.tuple #[.agg #[], .bool false]) w := by kernel_rfl
theorem ta_2_2 (w : World) : (Instr.typeAssert (.iface 210 (.agg #[])) 196 210 true).run Tryz.prog w = .ok (.tuple #[.agg #[], .bool true]) w := by kernel_rfl
theorem ta_2_4 (w : World) : (Instr.typeAssert (.iface 210 (.agg #[])) 196 211 true).run Tryz.prog w = .ok (.tuple #[.agg #[], .bool false]) w := by kernel_rfl
theorem ta_2_5 (w : World) : (Instr.typeAssert (.iface 210 (.agg #[])) 196 212 true).run Tryz.prog w = .ok (.tuple #[.agg #[], .bool false]) w := by kernel_rfl
theorem ta_2_7 (w : World) : (Instr.typeAssert (.iface 210 (.agg #[])) 196 207 true).run Tryz.prog w = .ok (.tuple #[.agg #[], .bool false]) w := by kernel_rfl
theorem ta_3_1 (w : World) : (Instr.typeAssert (.iface 208 (.agg #[])) 196 209 true).run Tryz.prog w = .ok (.tuple #[.agg #[], .bool false]) w := by kernel_rfl
theorem ta_3_2 (w : World) : (Instr.typeAssert (.iface 208 (.agg #[])) 196 210 true).run Tryz.prog w = .ok (.tuple #[.agg #[], .bool false]) w := by kernel_rfl
theorem ta_3_4 (w : World) : (Instr.typeAssert (.iface 208 (.agg #[])) 196 211 true).run Tryz.prog w = .ok (.tuple #[.agg #[], .bool false]) w := by kernel_rfl
theorem ta_3_5 (w : World) : (Instr.typeAssert (.iface 208 (.agg #[])) 196 212 true).run Tryz.prog w = .ok (.tuple #[.agg #[], .bool false]) w := by kernel_rfl
theorem ta_3_7 (w : World) : (Instr.typeAssert (.iface 208 (.agg #[])) 196 207 true).run Tryz.prog w = .ok (.tuple #[.agg #[], .bool false]) w := by kernel_rfl
theorem ta_4_1 (w : World) : (Instr.typeAssert (.iface 211 (.agg #[])) 196 209 true).run Tryz.prog w = .ok (.tuple #[.agg #[], .bool false]) w := by kernel_rfl
theorem ta_4_2 (w : World) : (Instr.typeAssert (.iface 211 (.agg #[])) 196 210 true).run Tryz.prog w = .ok (.tuple #[.agg #[], .bool false]) w := by kernel_rfl
theorem ta_4_4 (w : World) : (Instr.typeAssert (.iface 211 (.agg #[])) 196 211 true).run Tryz.prog w = .ok (.tuple #[.agg #[], .bool true]) w := by kernel_rfl
theorem ta_4_5 (w : World) : (Instr.typeAssert (.iface 211 (.agg #[])) 196 212 true).run Tryz.prog w = .ok (.tuple #[.agg #[], .bool false]) w := by kernel_rfl
theorem ta_4_7 (w : World) : (Instr.typeAssert (.iface 211 (.agg #[])) 196 207 true).run Tryz.prog w = .ok (.tuple #[.agg #[], .bool false]) w := by kernel_rfl
theorem ta_5_1 (w : World) : (Instr.typeAssert (.iface 212 (.agg #[])) 196 209 true).run Tryz.prog w = .ok (.tuple #[.agg #[], .bool false]) w := by kernel_rfl
theorem ta_5_2 (w : World) : (Instr.typeAssert (.iface 212 (.agg #[])) 196 210 true).run Tryz.prog w = .ok (.tuple #[.agg #[], .bool false]) w := by kernel_rfl
theorem ta_5_4 (w : World) : (Instr.typeAssert (.iface 212 (.agg #[])) 196 211 true).run Tryz.prog w = .ok (.tuple #[.agg #[], .bool false]) w := by kernel_rfl
theorem ta_5_5 (w : World) : (Instr.typeAssert (.iface 212 (.agg #[])) 196 212 true).run Tryz.prog w = .ok (.tuple #[.agg #[], .bool true]) w := by kernel_rfl
theorem ta_5_7 (w : World) : (Instr.typeAssert (.iface 212 (.agg #[])) 196 207 true).run Tryz.prog w = .ok (.tuple #[.agg #[], .bool false]) w := by kernel_rfl
theorem ta_6_1 (w : World) : (Instr.typeAssert (.iface 213 (.agg #[])) 196 209 true).run Tryz.prog w = .ok (.tuple #[.agg #[], .bool false]) w := by kernel_rfl
theorem ta_6_2 (w : World) : (Instr.typeAssert (.iface 213 (.agg #[])) 196 210 true).run Tryz.prog w = .ok (.tuple #[.agg #[], .bool false]) w := by kernel_rfl
theorem ta_6_4 (w : World) : (Instr.typeAssert (.iface 213 (.agg #[])) 196 211 true).run Tryz.prog w = .ok (.tuple #[.agg #[], .bool false]) w := by kernel_rfl
theorem ta_6_5 (w : World) : (Instr.typeAssert (.iface 213 (.agg #[])) 196 212 true).run Tryz.prog w = .ok (.tuple #[.agg #[], .bool false]) w := by kernel_rfl
theorem ta_6_7 (w : World) : (Instr.typeAssert (.iface 213 (.agg #[])) 196 207 true).run Tryz.prog w = .ok (.tuple #[.agg #[], .bool false]) w := by kernel_rfl
theorem ta_7_1 (w : World) : (Instr.typeAssert (.iface 207 (.agg #[])) 196 209 true).run Tryz.prog w = .ok (.tuple #[.agg #[], .bool false]) w := by kernel_rfl
theorem ta_7_2 (w : World) : (Instr.typeAssert (.iface 207 (.agg #[])) 196 210 true).run Tryz.prog w = .ok (.tuple #[.agg #[], .bool false]) w := by kernel_rfl
theorem ta_7_4 (w : World) : (Instr.typeAssert (.iface 207 (.agg #[])) 196 211 true).run Tryz.prog w = .ok (.tuple #[.agg #[], .bool false]) w := by kernel_rfl
theorem ta_7_5 (w : World) : (Instr.typeAssert (.iface 207 (.agg #[])) 196 212 true).run Tryz.prog w = .ok (.tuple #[.agg #[], .bool false]) w := by kernel_rfl
theorem ta_7_7 (w : World) : (Instr.typeAssert (.iface 207 (.agg #[])) 196 207 true).run Tryz.prog w = .ok (.tuple #[.agg #[], .bool true]) w := by kernel_rfl

theorem kindV_1 : kindV 1 = .iface 209 (.agg #[]) := rfl

theorem words_1 (b : Int) (w : World) :
  Calls Tryz.prog 235 #[.agg #[], .int .i64 b] w fun e w' => e = .returned (.int .i64 (szI 1 b)) ∧ w' = w.alloc (.cells #[] 209) := by
 go_enter Tryz.func235, Tryz.ntmps235
 go_wp2_with (first | (go_at_call 200; refine (words_any _ _ _ _ _ (by omega) (by omega) (by omega)).mono ?_; rintro e w' ⟨rfl, rfl⟩))
 go_ret
 exact ⟨ret_int (wordsI_1 b), rfl⟩

theorem kindV_2 : kindV 2 = .iface 210 (.agg #[]) := rfl

theorem words_2 (b : Int) (w : World) :
  Calls Tryz.prog 238 #[.agg #[], .int .i64 b] w fun e w' => e = .returned (.int .i64 (szI 2 b)) ∧ w' = w.alloc (.cells #[] 210) := by
 go_enter Tryz.func238, Tryz.ntmps238
 go_wp2_with (first | (go_at_call 200; refine (words_any _ _ _ _ _ (by omega) (by omega) (by omega)).mono ?_; rintro e w' ⟨rfl, rfl⟩))
 go_ret
 exact ⟨ret_int (wordsI_2 b), rfl⟩

theorem kindV_3 : kindV 3 = .iface 208 (.agg #[]) := rfl

theorem words_3 (b : Int) (w : World) :
  Calls Tryz.prog 177 #[.agg #[], .int .i64 b] w fun e w' => e = .returned (.int .i64 (szI 3 b)) ∧ w' = w.alloc (.cells #[] 208) := by
 go_enter Tryz.func177, Tryz.ntmps177
 go_wp2_with (first | (go_at_call 200; refine (words_any _ _ _ _ _ (by omega) (by omega) (by omega)).mono ?_; rintro e w' ⟨rfl, rfl⟩))
 go_ret
 exact ⟨ret_int (wordsI_3 b), rfl⟩

theorem kindV_4 : kindV 4 = .iface 211 (.agg #[]) := rfl

theorem words_4 (b : Int) (w : World) :
  Calls Tryz.prog 241 #[.agg #[], .int .i64 b] w fun e w' => e = .returned (.int .i64 (szI 4 b)) ∧ w' = w.alloc (.cells #[] 211) := by
 go_enter Tryz.func241, Tryz.ntmps241
 go_wp2_with (first | (go_at_call 200; refine (words_any _ _ _ _ _ (by omega) (by omega) (by omega)).mono ?_; rintro e w' ⟨rfl, rfl⟩))
 go_ret
 exact ⟨ret_int (wordsI_4 b), rfl⟩

theorem kindV_5 : kindV 5 = .iface 212 (.agg #[]) := rfl

theorem words_5 (b : Int) (w : World) :
  Calls Tryz.prog 244 #[.agg #[], .int .i64 b] w fun e w' => e = .returned (.int .i64 (szI 5 b)) ∧ w' = w.alloc (.cells #[] 212) := by
 go_enter Tryz.func244, Tryz.ntmps244
 go_wp2_with (first | (go_at_call 200; refine (words_any _ _ _ _ _ (by omega) (by omega) (by omega)).mono ?_; rintro e w' ⟨rfl, rfl⟩))
 go_ret
 exact ⟨ret_int (wordsI_5 b), rfl⟩

theorem kindV_6 : kindV 6 = .iface 213 (.agg #[]) := rfl

theorem words_6 (b : Int) (w : World) :
  Calls Tryz.prog 247 #[.agg #[], .int .i64 b] w fun e w' => e = .returned (.int .i64 (szI 6 b)) ∧ w' = w.alloc (.cells #[] 213) := by
 go_enter Tryz.func247, Tryz.ntmps247
 go_wp2_with (first | (go_at_call 200; refine (words_any _ _ _ _ _ (by omega) (by omega) (by omega)).mono ?_; rintro e w' ⟨rfl, rfl⟩))
 go_ret
 exact ⟨ret_int (wordsI_6 b), rfl⟩

theorem kindV_7 : kindV 7 = .iface 207 (.agg #[]) := rfl

theorem words_7 (b : Int) (w : World) :
  Calls Tryz.prog 230 #[.agg #[], .int .i64 b] w fun e w' => e = .returned (.int .i64 (szI 7 b)) ∧ w' = w.alloc (.cells #[] 207) := by
 go_enter Tryz.func230, Tryz.ntmps230
 go_wp2
 go_ret
 exact ⟨rfl, rfl⟩

theorem kindV_none {k : Int} (h1 : ¬ k = 1) (h2 : ¬ k = 2) (h3 : ¬ k = 3) (h4 : ¬ k = 4) (h5 : ¬ k = 5) (h6 : ¬ k = 6) (h7 : ¬ k = 7) : kindV k = .nilIface := by simp only [kindV, h1, h2, h3, h4, h5, h6, h7, if_false]

theorem rights_1 (w : World) :
  Calls Tryz.prog 233 #[.agg #[]] w fun e w' => e = .returned (.int .i64 (maxI 1)) ∧ w' = w.alloc (.cells #[] 209) := by
 go_enter Tryz.func233, Tryz.ntmps233
 go_wp2
 go_ret
 exact ⟨rfl, rfl⟩

theorem rights_2 (w : World) :
  Calls Tryz.prog 236 #[.agg #[]] w fun e w' => e = .returned (.int .i64 (maxI 2)) ∧ w' = w.alloc (.cells #[] 210) := by
 go_enter Tryz.func236, Tryz.ntmps236
 go_wp2
 go_ret
 exact ⟨rfl, rfl⟩

theorem rights_3 (w : World) :
  Calls Tryz.prog 231 #[.agg #[]] w fun e w' => e = .returned (.int .i64 (maxI 3)) ∧ w' = w.alloc (.cells #[] 208) := by
 go_enter Tryz.func231, Tryz.ntmps231
 go_wp2
 go_ret
 exact ⟨rfl, rfl⟩

theorem rights_4 (w : World) :
  Calls Tryz.prog 239 #[.agg #[]] w fun e w' => e = .returned (.int .i64 (maxI 4)) ∧ w' = w.alloc (.cells #[] 211) := by
 go_enter Tryz.func239, Tryz.ntmps239
 go_wp2
 go_ret
 exact ⟨rfl, rfl⟩

theorem rights_5 (w : World) :
  Calls Tryz.prog 242 #[.agg #[]] w fun e w' => e = .returned (.int .i64 (maxI 5)) ∧ w' = w.alloc (.cells #[] 212) := by
 go_enter Tryz.func242, Tryz.ntmps242
 go_wp2
 go_ret
 exact ⟨rfl, rfl⟩

theorem rights_6 (w : World) :
  Calls Tryz.prog 245 #[.agg #[]] w fun e w' => e = .returned (.int .i64 (maxI 6)) ∧ w' = w.alloc (.cells #[] 213) := by
 go_enter Tryz.func245, Tryz.ntmps245
 go_wp2
 go_ret
 exact ⟨rfl, rfl⟩

theorem rights_7 (w : World) :
  Calls Tryz.prog 228 #[.agg #[]] w fun e w' => e = .returned (.int .i64 (maxI 7)) ∧ w' = w.alloc (.cells #[] 207) := by
 go_enter Tryz.func228, Tryz.ntmps228
 go_wp2
 go_ret
 exact ⟨rfl, rfl⟩

theorem sizeSpecKind_any (k b : Int) (w : World) :
  Calls Tryz.prog 136 #[.int .i64 k, .int .i64 b] w fun e w' => e = .returned (.int .i64 (szI k b)) ∧ w' = w := by
 by_cases g : bitsB k b = true
 ·have g' := g
  simp only [bitsB, decide_eq_true_eq] at g'
  obtain ⟨g1, g2, g3, g4, g5, g6⟩ := g'
  have hk : k = 1 ∨ k = 2 ∨ k = 3 ∨ k = 4 ∨ k = 5 ∨ k = 6 ∨ k = 7 := by omega
  clear g1 g2
  rcases hk with h | h | h | h | h | h | h
  ·subst h
   obtain ⟨g31, g32⟩ := g3 rfl
   clear g3 g4 g5 g6
   go_enter Tryz.func136, Tryz.ntmps136
   go_wp2_with (first | (go_at_call 142; refine (bits_any _ _ _).mono ?_; rintro e w' ⟨rfl, rfl⟩) | (go_at_call 87; refine (sizeSpec_any _ _).mono ?_; rintro e w' ⟨rfl, rfl⟩))
   go_ret
   exact ⟨ret_int (by unfold szI; rw [if_pos rfl, if_pos ⟨g31, g32⟩]), rfl⟩
  ·subst h
   obtain ⟨g41, g42⟩ := g4 rfl
   clear g3 g4 g5 g6
   go_enter Tryz.func136, Tryz.ntmps136
   go_wp2_with (first | (go_at_call 142; refine (bits_any _ _ _).mono ?_; rintro e w' ⟨rfl, rfl⟩) | (go_at_call 87; refine (sizeSpec_any _ _).mono ?_; rintro e w' ⟨rfl, rfl⟩))
   go_ret
   exact ⟨ret_int (size4 b g41 g42), rfl⟩
  iterate 3
   ·subst h
    have hb : b = 0 := g6 (by omega)
    subst hb
    clear g3 g4 g5 g6
    go_enter Tryz.func136, Tryz.ntmps136
    go_wp2_with (first | (go_at_call 142; refine (bits_any _ _ _).mono ?_; rintro e w' ⟨rfl, rfl⟩))
    go_ret
    exact ⟨rfl, rfl⟩
  ·subst h
   obtain ⟨g51, g52⟩ := g5 rfl
   clear g3 g4 g5 g6
   go_enter Tryz.func136, Tryz.ntmps136
   go_wp2_with (first | (go_at_call 142; refine (bits_any _ _ _).mono ?_; rintro e w' ⟨rfl, rfl⟩) | (go_at_call 87; refine (sizeSpec_any _ _).mono ?_; rintro e w' ⟨rfl, rfl⟩))
   go_ret
   exact ⟨ret_int (by unfold szI; simp [g51, g52]), rfl⟩
  ·subst h
   clear g3 g4 g5 g6
   go_enter Tryz.func136, Tryz.ntmps136
   go_wp2_with (first | (go_at_call 142; refine (bits_any _ _ _).mono ?_; rintro e w' ⟨rfl, rfl⟩))
   go_ret
   exact ⟨rfl, rfl⟩
 ·have g' : bitsB k b = false := by simpa using g
  have hz : Hid (szI k b = 0) := szI_no g'
  clear g
  go_enter Tryz.func136, Tryz.ntmps136
  go_wp2_with (first | (go_at_call 142; refine (bits_any _ _ _).mono ?_; rintro e w' ⟨rfl, rfl⟩))
  go_ret
  exact ⟨ret_int hz.out.symm, rfl⟩

end Go.Proofs.YtigpbjcmmgdiaaaGreat
/-
 What the parts of CapOk of the program answer: capSpan, capBesideOk, capOrigOk.
-/
namespace Go.Proofs.YtigpbjcmmgdiaaaGreat
open Go.ChangeShapes Go.WideShapes Go.ChangeAt Go.RowKit
set_option linter.unusedVariables false

/-- How many words a capability names. -/
def spanI (k b : Int) : Int := if k = 7 then (if b = 0 then 32 else 0) else szI k b

/-- What only some kinds have. -/
def bmaxI (k : Int) : Int := if k = 4 ∨ k = 5 then 65535 else 0
def gmaxI (k : Int) : Int := if k = 2 then 8 else 0
def fmaxI (k b : Int) : Int := if k = 1 then szI 1 b else 0
def besideB (k b d g q f : Int) : Bool := withinB d 0 (bmaxI k) && withinB q 0 (gmaxI k) && withinB g 0 (sizeI q - 1) && withinB f 0 (fmaxI k b)
def origB (k : Int) (o : Bool) : Bool := if k = 1 then o else if k = 7 then !o else true

theorem sizeI_bd (b : Int) : 0 ≤ sizeI b ∧ sizeI b ≤ 4096 := by
 unfold sizeI
 by_cases h : 0 ≤ b ∧ b ≤ 12
 ·have := pow_le12 b.toNat (by omega)
  rw [if_pos h]; omega
 ·rw [if_neg h]; omega

theorem seven {k : Int} (h1 : 1 ≤ k) (h7 : k ≤ 7) : k = 1 ∨ k = 2 ∨ k = 3 ∨ k = 4 ∨ k = 5 ∨ k = 6 ∨ k = 7 := by omega

set_option maxHeartbeats 2000000 in
theorem span_any (k b : Int) (w : World) (hk1 : 1 ≤ k) (hk7 : k ≤ 7) :
  Calls Tryz.prog 157 #[kindV k, .int .i64 b] w fun e w' => e = .returned (.int .i64 (spanI k b)) ∧ Below w.heap.size w w' := by
 rcases seven hk1 hk7 with h | h | h | h | h | h | h
 ·subst h
  clear hk1 hk7
  rw [kindV_1]
  have mM := wordsM_1
  have t7 := ta_1_7
  go_enter Tryz.func157, Tryz.ntmps157
  go_wp2_with (first | (go_at_call 235; refine (words_1 _ _).mono ?_; rintro e w' ⟨rfl, rfl⟩))
  go_ret
  exact ⟨rfl, by repeat (first | exact Below.refl _ _ | apply Below.drew | (refine Below.alloc ?_ (by simp; try omega) _))⟩
 ·subst h
  clear hk1 hk7
  rw [kindV_2]
  have mM := wordsM_2
  have t7 := ta_2_7
  go_enter Tryz.func157, Tryz.ntmps157
  go_wp2_with (first | (go_at_call 238; refine (words_2 _ _).mono ?_; rintro e w' ⟨rfl, rfl⟩))
  go_ret
  exact ⟨rfl, by repeat (first | exact Below.refl _ _ | apply Below.drew | (refine Below.alloc ?_ (by simp; try omega) _))⟩
 ·subst h
  clear hk1 hk7
  rw [kindV_3]
  have mM := wordsM_3
  have t7 := ta_3_7
  go_enter Tryz.func157, Tryz.ntmps157
  go_wp2_with (first | (go_at_call 177; refine (words_3 _ _).mono ?_; rintro e w' ⟨rfl, rfl⟩))
  go_ret
  exact ⟨rfl, by repeat (first | exact Below.refl _ _ | apply Below.drew | (refine Below.alloc ?_ (by simp; try omega) _))⟩
 ·subst h
  clear hk1 hk7
  rw [kindV_4]
  have mM := wordsM_4
  have t7 := ta_4_7
  go_enter Tryz.func157, Tryz.ntmps157
  go_wp2_with (first | (go_at_call 241; refine (words_4 _ _).mono ?_; rintro e w' ⟨rfl, rfl⟩))
  go_ret
  exact ⟨rfl, by repeat (first | exact Below.refl _ _ | apply Below.drew | (refine Below.alloc ?_ (by simp; try omega) _))⟩
 ·subst h
  clear hk1 hk7
  rw [kindV_5]
  have mM := wordsM_5
  have t7 := ta_5_7
  go_enter Tryz.func157, Tryz.ntmps157
  go_wp2_with (first | (go_at_call 244; refine (words_5 _ _).mono ?_; rintro e w' ⟨rfl, rfl⟩))
  go_ret
  exact ⟨rfl, by repeat (first | exact Below.refl _ _ | apply Below.drew | (refine Below.alloc ?_ (by simp; try omega) _))⟩
 ·subst h
  clear hk1 hk7
  rw [kindV_6]
  have mM := wordsM_6
  have t7 := ta_6_7
  go_enter Tryz.func157, Tryz.ntmps157
  go_wp2_with (first | (go_at_call 247; refine (words_6 _ _).mono ?_; rintro e w' ⟨rfl, rfl⟩))
  go_ret
  exact ⟨rfl, by repeat (first | exact Below.refl _ _ | apply Below.drew | (refine Below.alloc ?_ (by simp; try omega) _))⟩
 ·subst h
  clear hk1 hk7
  rw [kindV_7]
  have mM := wordsM_7
  have t7 := ta_7_7
  go_enter Tryz.func157, Tryz.ntmps157
  go_wp2_with (first | (go_at_call 177; refine (words_3 _ _).mono ?_; rintro e w' ⟨rfl, rfl⟩))
  go_ret
  exact ⟨rfl, by repeat (first | exact Below.refl _ _ | apply Below.drew | (refine Below.alloc ?_ (by simp; try omega) _))⟩

set_option maxHeartbeats 2000000 in
theorem orig_any (k : Int) (o : Bool) (w : World) (hk1 : 1 ≤ k) (hk7 : k ≤ 7) :
  Calls Tryz.prog 191 #[kindV k, .bool o] w fun e w' => e = .returned (.bool (origB k o)) ∧ w' = w := by
 rcases seven hk1 hk7 with h | h | h | h | h | h | h
 ·subst h
  clear hk1 hk7
  rw [kindV_1]
  have t1 := ta_1_1
  have t7 := ta_1_7
  go_enter Tryz.func191, Tryz.ntmps191
  go_wp2
  go_ret
  exact ⟨rfl, rfl⟩
 ·subst h
  clear hk1 hk7
  rw [kindV_2]
  have t1 := ta_2_1
  have t7 := ta_2_7
  go_enter Tryz.func191, Tryz.ntmps191
  go_wp2
  go_ret
  exact ⟨rfl, rfl⟩
 ·subst h
  clear hk1 hk7
  rw [kindV_3]
  have t1 := ta_3_1
  have t7 := ta_3_7
  go_enter Tryz.func191, Tryz.ntmps191
  go_wp2
  go_ret
  exact ⟨rfl, rfl⟩
 ·subst h
  clear hk1 hk7
  rw [kindV_4]
  have t1 := ta_4_1
  have t7 := ta_4_7
  go_enter Tryz.func191, Tryz.ntmps191
  go_wp2
  go_ret
  exact ⟨rfl, rfl⟩
 ·subst h
  clear hk1 hk7
  rw [kindV_5]
  have t1 := ta_5_1
  have t7 := ta_5_7
  go_enter Tryz.func191, Tryz.ntmps191
  go_wp2
  go_ret
  exact ⟨rfl, rfl⟩
 ·subst h
  clear hk1 hk7
  rw [kindV_6]
  have t1 := ta_6_1
  have t7 := ta_6_7
  go_enter Tryz.func191, Tryz.ntmps191
  go_wp2
  go_ret
  exact ⟨rfl, rfl⟩
 ·subst h
  clear hk1 hk7
  rw [kindV_7]
  have t1 := ta_7_1
  have t7 := ta_7_7
  go_enter Tryz.func191, Tryz.ntmps191
  go_wp2
  go_ret
  exact ⟨rfl, rfl⟩

end Go.Proofs.YtigpbjcmmgdiaaaGreat
/-
 What is ok: the plain facts. Rights are some of a mask of ones just if they are not negative and not greater.
-/
namespace Go.Proofs.YtigpbjcmmgdiaaaGreat
open Go.ChangeShapes Go.WideShapes Go.ChangeAt Go.RowKit
set_option linter.unusedVariables false

/-- A capability is ok. -/
def okB (k a b r d g q f : Int) (o : Bool) : Bool :=
 withinB k 1 7 && withinB r 0 (maxI k) && alignB a (spanI k b) && inB a (spanI k b) 0 4096 && besideB k b d g q f && origB k o

theorem mask_nat0 (n x : Nat) (hn : n ≤ 64) (hx : x < 2 ^ 64) : x &&& (2 ^ 64 - ((2 ^ n - 1) + 1)) = 0 ↔ x < 2 ^ n := by
 have hp : 2 ^ n ≤ 2 ^ 64 := Nat.pow_le_pow_right (by omega) hn
 have h1 : 1 ≤ 2 ^ n := Nat.one_le_two_pow
 have hm : 2 ^ n - 1 < 2 ^ 64 := by omega
 constructor
 ·intro h
  apply Nat.lt_pow_two_of_testBit
  intro i hi
  by_cases h64 : i < 64
  ·have e := congrArg (Nat.testBit · i) h
   simp only [Nat.testBit_and, Nat.testBit_two_pow_sub_succ hm, Nat.testBit_two_pow_sub_one, Nat.zero_testBit, h64, decide_true, Bool.true_and] at e
   have : decide (i < n) = false := by simpa using hi
   rw [this] at e
   simpa using e
  ·exact Nat.testBit_lt_two_pow (Nat.lt_of_lt_of_le hx (Nat.pow_le_pow_right (by omega) (by omega)))
 ·intro h
  apply Nat.eq_of_testBit_eq
  intro i
  simp only [Nat.testBit_and, Nat.testBit_two_pow_sub_succ hm, Nat.testBit_two_pow_sub_one, Nat.zero_testBit]
  by_cases hi : i < n
  ·simp [hi]
  ·rw [Nat.testBit_lt_two_pow (Nat.lt_of_lt_of_le h (Nat.pow_le_pow_right (by omega) (by omega)))]; rfl

theorem wrap_zero (m : Nat) (h : m < 2 ^ 64) : IntKind.i64.wrap (m : Int) = 0 ↔ m = 0 := by
 have e : (m : Int) % 2 ^ 64 = m := Int.emod_eq_of_lt (by omega) (by omega)
 simp only [IntKind.wrap, IntKind.bits, IntKind.signed, e]
 constructor
 ·intro h1; split at h1 <;> omega
 ·intro h1; subst h1; simp

theorem andNot_mask (n : Nat) (hn : n ≤ 3) (r : Int) (h0 : -9223372036854775808 ≤ r) (h1 : r ≤ 9223372036854775807) :
  (bits BinOp.andNot IntKind.i64 r (((2 ^ n - 1 : Nat) : Int)) != 0) = !(withinB r 0 (((2 ^ n - 1 : Nat) : Int))) := by
 have hp : 2 ^ n ≤ 2 ^ 3 := Nat.pow_le_pow_right (by omega) hn
 have hp1 : 1 ≤ 2 ^ n := Nat.one_le_two_pow
 have eM : (BitVec.ofInt 64 ((2 ^ n - 1 : Nat) : Int)).toNat = 2 ^ n - 1 := by
  rw [BitVec.ofInt_natCast, BitVec.toNat_ofNat]; exact Nat.mod_eq_of_lt (by omega)
 have eR : (BitVec.ofInt 64 r).toNat = (r % 18446744073709551616).toNat := by rw [BitVec.toNat_ofInt]; rfl
 have hR : (BitVec.ofInt 64 r).toNat < 2 ^ 64 := BitVec.isLt _
 have e : bits BinOp.andNot IntKind.i64 r ((2 ^ n - 1 : Nat) : Int) = IntKind.i64.wrap (((BitVec.ofInt 64 r).toNat &&& (2 ^ 64 - ((2 ^ n - 1) + 1)) : Nat) : Int) := by
  show IntKind.i64.wrap ((BitVec.ofInt 64 r &&& ~~~BitVec.ofInt 64 ((2 ^ n - 1 : Nat) : Int)).toNat : Int) = _
  rw [BitVec.toNat_and, BitVec.toNat_not, eM]
  rw [show 2 ^ 64 - 1 - (2 ^ n - 1) = 2 ^ 64 - ((2 ^ n - 1) + 1) by omega]
 have hz := wrap_zero ((BitVec.ofInt 64 r).toNat &&& (2 ^ 64 - ((2 ^ n - 1) + 1))) (Nat.lt_of_le_of_lt Nat.and_le_left hR)
 have hm := mask_nat0 n (BitVec.ofInt 64 r).toNat (by omega) hR
 rw [Bool.eq_iff_iff]
 simp only [bne_iff_ne, ne_eq, Bool.not_eq_true', withinB, decide_eq_false_iff_not]
 rw [e, hz, hm, eR]
 constructor
 ·intro h g; apply h; omega
 ·intro h g; apply h; omega

theorem notRights (k r : Int) (h0 : -9223372036854775808 ≤ r) (h1 : r ≤ 9223372036854775807) : (bits BinOp.andNot IntKind.i64 r (maxI k) != 0) = !(withinB r 0 (maxI k)) := by
 have h : maxI k = ((2 ^ 0 - 1 : Nat) : Int) ∨ maxI k = ((2 ^ 2 - 1 : Nat) : Int) ∨ maxI k = ((2 ^ 3 - 1 : Nat) : Int) := by
  unfold maxI
  repeat' split
  all_goals decide
 rcases h with h | h | h <;> rw [h]
 ·exact andNot_mask 0 (by omega) r h0 h1
 ·exact andNot_mask 2 (by omega) r h0 h1
 ·exact andNot_mask 3 (by omega) r h0 h1

end Go.Proofs.YtigpbjcmmgdiaaaGreat
/-
 A capability in memory: nine cells in a row; what stays of them, what a store of nine writes, and how it is read as a function's result.
-/
namespace Go.Proofs.YtigpbjcmmgdiaaaGreat
open Go.ChangeShapes Go.WideShapes Go.ChangeAt Go.RowKit
set_option linter.unusedVariables false

/-- Nine cells of a block. -/
structure Holds9 (W : World) (B : Nat) (v0 v1 v2 v3 v4 v5 v6 v7 v8 : Value) : Prop where
 c0 : W.cell? ⟨B, 0, none⟩ = some v0
 c1 : W.cell? ⟨B, 1, none⟩ = some v1
 c2 : W.cell? ⟨B, 2, none⟩ = some v2
 c3 : W.cell? ⟨B, 3, none⟩ = some v3
 c4 : W.cell? ⟨B, 4, none⟩ = some v4
 c5 : W.cell? ⟨B, 5, none⟩ = some v5
 c6 : W.cell? ⟨B, 6, none⟩ = some v6
 c7 : W.cell? ⟨B, 7, none⟩ = some v7
 c8 : W.cell? ⟨B, 8, none⟩ = some v8

theorem Holds9.alloc (w : World) (v0 v1 v2 v3 v4 v5 v6 v7 v8 : Value) (T : Nat) : Holds9 (w.alloc (.cells #[v0, v1, v2, v3, v4, v5, v6, v7, v8] T)) w.heap.size v0 v1 v2 v3 v4 v5 v6 v7 v8 := by
 constructor <;> go_simp

theorem Holds9.below {W w1 : World} {B : Nat} {v0 v1 v2 v3 v4 v5 v6 v7 v8 : Value} (h : Holds9 W B v0 v1 v2 v3 v4 v5 v6 v7 v8) (hb : Below W.heap.size W w1) (hB : B < W.heap.size) : Holds9 w1 B v0 v1 v2 v3 v4 v5 v6 v7 v8 :=
 ⟨((bcell hb).1 _ _ hB).trans h.c0, ((bcell hb).1 _ _ hB).trans h.c1, ((bcell hb).1 _ _ hB).trans h.c2, ((bcell hb).1 _ _ hB).trans h.c3, ((bcell hb).1 _ _ hB).trans h.c4, ((bcell hb).1 _ _ hB).trans h.c5, ((bcell hb).1 _ _ hB).trans h.c6, ((bcell hb).1 _ _ hB).trans h.c7, ((bcell hb).1 _ _ hB).trans h.c8⟩

theorem Holds9.other {W : World} {B C : Nat} {v0 v1 v2 v3 v4 v5 v6 v7 v8 : Value} (h : Holds9 W B v0 v1 v2 v3 v4 v5 v6 v7 v8) (o : Nat) (v : Value) (hC : C ≠ B) : Holds9 (W.setCell ⟨C, o, none⟩ v) B v0 v1 v2 v3 v4 v5 v6 v7 v8 := by
 have hne : B ≠ C := fun e => hC e.symm
 obtain ⟨h0, h1, h2, h3, h4, h5, h6, h7, h8⟩ := h
 constructor <;> go_simp

theorem Holds9.put {W : World} {B : Nat} {u0 u1 u2 u3 u4 u5 u6 u7 u8 : Value} (h : Holds9 W B u0 u1 u2 u3 u4 u5 u6 u7 u8) (v0 v1 v2 v3 v4 v5 v6 v7 v8 : Value) : Holds9 (((((((((W.setCell ⟨B, 0, none⟩ v0).setCell ⟨B, 1, none⟩ v1).setCell ⟨B, 2, none⟩ v2).setCell ⟨B, 3, none⟩ v3).setCell ⟨B, 4, none⟩ v4).setCell ⟨B, 5, none⟩ v5).setCell ⟨B, 6, none⟩ v6).setCell ⟨B, 7, none⟩ v7).setCell ⟨B, 8, none⟩ v8) B v0 v1 v2 v3 v4 v5 v6 v7 v8 := by
 obtain ⟨h0, h1, h2, h3, h4, h5, h6, h7, h8⟩ := h
 constructor <;> go_simp

theorem Holds9.allocs {W : World} {B : Nat} {v0 v1 v2 v3 v4 v5 v6 v7 v8 : Value} (h : Holds9 W B v0 v1 v2 v3 v4 v5 v6 v7 v8) (hB : B < W.heap.size) (O : Obj) : Holds9 (W.alloc O) B v0 v1 v2 v3 v4 v5 v6 v7 v8 :=
 h.below ((Below.refl _ _).alloc (Nat.le_refl _) O) hB

/-- Behind a call: two blocks that were made ahead of it, a capability and a result, are as they were. -/
theorem after2 {w w1 : World} {c0 c1 c2 c3 c4 c5 c6 c7 c8 z0 z1 z2 z3 z4 z5 z6 z7 z8 : Value} {T : Nat} (hb : Below ((w.alloc (.cells #[c0, c1, c2, c3, c4, c5, c6, c7, c8] T)).alloc (.cells #[z0, z1, z2, z3, z4, z5, z6, z7, z8] T)).heap.size ((w.alloc (.cells #[c0, c1, c2, c3, c4, c5, c6, c7, c8] T)).alloc (.cells #[z0, z1, z2, z3, z4, z5, z6, z7, z8] T)) w1) :
  Holds9 w1 w.heap.size c0 c1 c2 c3 c4 c5 c6 c7 c8 ∧ Holds9 w1 (w.heap.size + 1) z0 z1 z2 z3 z4 z5 z6 z7 z8 ∧ (∀ i, w1.frozen? ⟨w.heap.size, i, none⟩ = false) ∧ (∀ i, w1.frozen? ⟨w.heap.size + 1, i, none⟩ = false) ∧ Below w.heap.size w w1 ∧ w.heap.size + 1 < w1.heap.size := by
 have hf := (bcell hb).2
 refine ⟨((Holds9.alloc w c0 c1 c2 c3 c4 c5 c6 c7 c8 T).allocs (by simp) _).below hb (by simp; omega), ?_, ?_, ?_, ?_, ?_⟩
 ·have := (Holds9.alloc (w.alloc (.cells #[c0, c1, c2, c3, c4, c5, c6, c7, c8] T)) z0 z1 z2 z3 z4 z5 z6 z7 z8 T).below hb (by simp)
  simpa using this
 ·intro i; rw [hf _ _ (by simp; omega)]; go_simp
 ·intro i; rw [hf _ _ (by simp)]; go_simp
 ·exact (((Below.refl _ _).alloc (Nat.le_refl _) _).alloc (by simp) _).trans (hb.mono (by simp; omega))
 ·have := hb.size; simp at this; omega

theorem Holds9.drewN {W : World} {B : Nat} {v0 v1 v2 v3 v4 v5 v6 v7 v8 : Value} (h : Holds9 W B v0 v1 v2 v3 v4 v5 v6 v7 v8) (n : Nat) : Holds9 (W.drewN n) B v0 v1 v2 v3 v4 v5 v6 v7 v8 := by
 obtain ⟨h0, h1, h2, h3, h4, h5, h6, h7, h8⟩ := h
 constructor <;> go_simp

end Go.Proofs.YtigpbjcmmgdiaaaGreat
