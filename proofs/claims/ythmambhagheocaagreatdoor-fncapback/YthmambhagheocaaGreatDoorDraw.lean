/-
  What the drawing of numbers answers: pick, at a reader whose bytes lie elsewhere than itself and that has read at most 100 of them: a number from 0 on, below the one that it was given; the reader has read one more, and nothing else is written.
-/
import Derived.Test.YthmambhagheocaaGreatDoorCore
import Derived.Below
import Derived.Deep.RegionHeld3
import Derived.WalkLawsBesides
import Derived.Deep.QuietTactic
import Derived.BigQuiet
namespace Go.Proofs.YthmambhagheocaaGreatDoor
open Go.ChangeShapes Go.WideShapes Go.ChangeAt Go.RowKit
set_option linter.unusedVariables false

theorem xor_i64_nat (a b : Nat) (ha : a < 4611686018427387904) (hb : b < 4611686018427387904) : bits .xor .i64 (a : Int) (b : Int) = ((a ^^^ b : Nat) : Int) := by
  have hx : a ^^^ b < 2 ^ 62 := Nat.xor_lt_two_pow (by omega) (by omega)
  have h1 : (BitVec.ofInt 64 (a : Int)).toNat = a := by
    rw [BitVec.ofInt_natCast, BitVec.toNat_ofNat]; exact Nat.mod_eq_of_lt (by omega)
  have h2 : (BitVec.ofInt 64 (b : Int)).toNat = b := by
    rw [BitVec.ofInt_natCast, BitVec.toNat_ofNat]; exact Nat.mod_eq_of_lt (by omega)
  show IntKind.i64.wrap ((BitVec.ofInt 64 (a : Int) ^^^ BitVec.ofInt 64 (b : Int)).toNat : Int) = _
  rw [BitVec.toNat_xor, h1, h2]
  simp [IntKind.wrap, IntKind.bits, IntKind.signed]
  omega

theorem xor_i64_pos (a b : Int) (h1 : 0 ≤ a) (h2 : a ≤ 1000000) (h3 : 0 ≤ b) (h4 : b ≤ 1000000) : 0 ≤ bits BinOp.xor IntKind.i64 a b := by
  obtain ⟨A, rfl⟩ := Int.eq_ofNat_of_zero_le h1
  obtain ⟨B, rfl⟩ := Int.eq_ofNat_of_zero_le h3
  have := xor_i64_nat A B (by omega) (by omega)
  rw [this]; omega

theorem pick_fits (x N : Int) (h : 0 ≤ x) (hN : 1 ≤ N) : 0 ≤ x.tmod N ∧ x.tmod N < N := by
  rw [Int.tmod_eq_emod_of_nonneg h]
  exact ⟨Int.emod_nonneg _ (by omega), Int.emod_lt_of_pos _ (by omega)⟩

theorem pick_none (p c : Nat) (a : Option Addr) (k N : Int) (w : World) (hk0 : 0 ≤ k) (hk : k ≤ 3000) (hN : 1 ≤ N) (hN1 : N ≤ 1000)
    (hp0 : w.cell? ⟨p, 0, none⟩ = some (.slice a 0 c)) (hp1 : w.cell? ⟨p, 1, none⟩ = some (.int .i64 k)) (hf : w.frozen? ⟨p, 1, none⟩ = false) :
    Calls Tryz.prog 32 #[.pointer (some ⟨p, 0, none⟩), .int .i64 N] w fun e w' => e = .returned (.int .i64 0) ∧ w' = w.setCell ⟨p, 1, none⟩ (.int .i64 (k + 1)) := by
  go_enter Tryz.func32, Tryz.ntmps32
  go_wp2
  go_ret
  exact ⟨rfl, rfl⟩

theorem pick_in (p c n b o : Nat) (k : Nat) (N z : Int) (w : World) (hk : k ≤ 3000) (hN : 1 ≤ N) (hN1 : N ≤ 1000) (hn : n ≤ 2000) (hkn : k < n)
    (hp0 : w.cell? ⟨p, 0, none⟩ = some (.slice (some ⟨b, o, none⟩) n c)) (hp1 : w.cell? ⟨p, 1, none⟩ = some (.int .i64 k)) (hf : w.frozen? ⟨p, 1, none⟩ = false)
    (hne : b ≠ p) (hz : w.cell? ⟨b, o + k, none⟩ = some (.int .u8 z)) (hz0 : 0 ≤ z) (hz1 : z ≤ 255) :
    Calls Tryz.prog 32 #[.pointer (some ⟨p, 0, none⟩), .int .i64 N] w fun e w' => e = .returned (.int .i64 (z % N)) ∧ w' = w.setCell ⟨p, 1, none⟩ (.int .i64 (k + 1)) := by
  have hn0 : ((n : Int) == 0) = false := by simp; omega
  go_enter Tryz.func32, Tryz.ntmps32
  go_wp2
  go_ret
  exact ⟨rfl, rfl⟩

set_option maxHeartbeats 1000000 in
theorem pick_out (p c n b o : Nat) (k : Nat) (N z y : Int) (w : World) (hk : k ≤ 3000) (hN : 1 ≤ N) (hN1 : N ≤ 1000) (hn : n ≤ 2000) (hn1 : 1 ≤ n) (hkn : n ≤ k)
    (hp0 : w.cell? ⟨p, 0, none⟩ = some (.slice (some ⟨b, o, none⟩) n c)) (hp1 : w.cell? ⟨p, 1, none⟩ = some (.int .i64 k)) (hf : w.frozen? ⟨p, 1, none⟩ = false)
    (hne : b ≠ p) (hz : w.cell? ⟨b, o + k % n, none⟩ = some (.int .u8 z)) (hz0 : 0 ≤ z) (hz1 : z ≤ 255) (hy : w.cell? ⟨b, o + (k * 7 + 3) % n, none⟩ = some (.int .u8 y)) (hy0 : 0 ≤ y) (hy1 : y ≤ 255) :
    Calls Tryz.prog 32 #[.pointer (some ⟨p, 0, none⟩), .int .i64 N] w fun e w' => ∃ x : Int, e = .returned (.int .i64 x) ∧ 0 ≤ x ∧ x < N ∧ ∃ m, w' = (w.setCell ⟨p, 1, none⟩ (.int .i64 (k + 1))).drewN m := by
  have hn0 : ((n : Int) == 0) = false := by simp; omega
  have hn2 : (1 : Int) ≤ (n : Int) := by omega
  have c1 : (0 : Int) ≤ (k : Int) % (n : Int) := Int.emod_nonneg _ (by omega)
  have c2 : (k : Int) % (n : Int) < (n : Int) := Int.emod_lt_of_pos _ (by omega)
  have c3 : (0 : Int) ≤ ((k : Int) * 7 + 3) % (n : Int) := Int.emod_nonneg _ (by omega)
  have c4 : ((k : Int) * 7 + 3) % (n : Int) < (n : Int) := Int.emod_lt_of_pos _ (by omega)
  have c5 : (0 : Int) ≤ (k : Int) / (n : Int) := Int.ediv_nonneg (by omega) (by omega)
  have c6 : (k : Int) / (n : Int) ≤ (k : Int) := Int.ediv_le_self _ (by omega)
  go_enter Tryz.func32, Tryz.ntmps32
  go_wp2
  go_quiet (fail)
  go_wp2
  go_ret
  have hx := xor_i64_pos (z * 131 + y * 1117 + ↑k * 29 + ↑k / ↑n * 53) ((z * 131 + y * 1117 + ↑k * 29 + ↑k / ↑n * 53) / 64) (by omega) (by omega) (by omega) (by omega)
  exact ⟨_, rfl, (pick_fits _ N hx hN).1, (pick_fits _ N hx hN).2, _, rfl⟩

end Go.Proofs.YthmambhagheocaaGreatDoor
