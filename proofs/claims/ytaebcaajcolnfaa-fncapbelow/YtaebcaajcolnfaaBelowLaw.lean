/-
  The walk of the law FnCapBelow, told by what each call answers.
-/
import Derived.Test.YtaebcaajcolnfaaPairDrawn
import Derived.Test.YtaebcaajcolnfaaGivesLess
import Derived.Test.YtaebcaajcolnfaaCapIn
namespace Go.Proofs.Ytaebcaajcolnfaa
open Go.ChangeShapes Go.WideShapes Go.ChangeAt Go.RowKit
set_option linter.unusedVariables false
theorem Bytes.below {w w' : World} {a : Option Addr} {n c : Nat} (h : Bytes w a n c) (hb : Below w.heap.size w w') : Bytes w' a n c := by
  rcases h with e | ⟨b, x, e, hbl, hnc, hz⟩
  · exact .inl e
  · exact .inr ⟨b, x, e, Nat.lt_of_lt_of_le hbl hb.size, hnc, fun j hj => by rw [hb.cell (p := ⟨b, x + j, none⟩) hbl]; exact hz j hj⟩
set_option maxRecDepth 100000 in
set_option maxHeartbeats 4000000 in
theorem below_law (a0 a1 : Option Addr) (n0 n1 l0 l1 : Nat) (w : World) (h0 : Bytes w a0 n0 l0) (h1 : Bytes w a1 n1 l1) (hn0 : n0 ≤ 1048576) (hn1 : n1 ≤ 1048576)
    (HH : ∀ (c0 c1 c2 c3 c4 c5 c6 c7 m n x : Int) (c8 : Bool), (-10 ≤ c3 ∧ c3 ≤ 10) → (0 ≤ m ∧ m ≤ 4294967295) → (0 ≤ n ∧ n ≤ 4294967295) → (0 ≤ x ∧ x ≤ 4294967295) → ∃ (a0 a1 a2 a3 a4 a5 a6 a7 b0 b1 b2 b3 b4 b5 b6 b7 d0 d1 d2 d3 d4 d5 d6 d7 e0 e1 e2 e3 e4 e5 e6 e7 : Int) (a8 b8 d8 e8 ok fine can may : Bool),
      (∀ w : World, Calls Try.prog 18 #[.agg #[.int .i64 c0, .int .i64 c1, .int .i64 c2, .int .i64 c3, .int .i64 c4, .int .i64 c5, .int .i64 c6, .int .i64 c7, .bool c8], .int .u32 m] w fun e w' => e = .returned (.tuple #[.agg #[.int .i64 a0, .int .i64 a1, .int .i64 a2, .int .i64 a3, .int .i64 a4, .int .i64 a5, .int .i64 a6, .int .i64 a7, .bool a8], .bool ok]) ∧ Below w.heap.size w w') ∧
      (∀ w : World, Calls Try.prog 19 #[.agg #[.int .i64 c0, .int .i64 c1, .int .i64 c2, .int .i64 c3, .int .i64 c4, .int .i64 c5, .int .i64 c6, .int .i64 c7, .bool c8], .int .u32 m] w fun e w' => e = .returned (.tuple #[.agg #[.int .i64 a0, .int .i64 a1, .int .i64 a2, .int .i64 a3, .int .i64 a4, .int .i64 a5, .int .i64 a6, .int .i64 a7, .bool a8], .bool ok]) ∧ Below w.heap.size w w') ∧
      (∀ w : World, Calls Try.prog 20 #[.agg #[.int .i64 a0, .int .i64 a1, .int .i64 a2, .int .i64 a3, .int .i64 a4, .int .i64 a5, .int .i64 a6, .int .i64 a7, .bool a8], .int .u32 n, .int .u32 x] w fun e w' => e = .returned (.tuple #[.agg #[.int .i64 b0, .int .i64 b1, .int .i64 b2, .int .i64 b3, .int .i64 b4, .int .i64 b5, .int .i64 b6, .int .i64 b7, .bool b8], .bool fine]) ∧ Below w.heap.size w w') ∧
      (∀ w : World, Calls Try.prog 20 #[.agg #[.int .i64 c0, .int .i64 c1, .int .i64 c2, .int .i64 c3, .int .i64 c4, .int .i64 c5, .int .i64 c6, .int .i64 c7, .bool c8], .int .u32 m, .int .u32 x] w fun e w' => e = .returned (.tuple #[.agg #[.int .i64 d0, .int .i64 d1, .int .i64 d2, .int .i64 d3, .int .i64 d4, .int .i64 d5, .int .i64 d6, .int .i64 d7, .bool d8], .bool can]) ∧ Below w.heap.size w w') ∧
      (∀ w : World, Calls Try.prog 18 #[.agg #[.int .i64 d0, .int .i64 d1, .int .i64 d2, .int .i64 d3, .int .i64 d4, .int .i64 d5, .int .i64 d6, .int .i64 d7, .bool d8], .int .u32 n] w fun e w' => e = .returned (.tuple #[.agg #[.int .i64 e0, .int .i64 e1, .int .i64 e2, .int .i64 e3, .int .i64 e4, .int .i64 e5, .int .i64 e6, .int .i64 e7, .bool e8], .bool may]) ∧ Below w.heap.size w w') ∧
      (∀ w : World, Calls Try.prog 18 #[.agg #[.int .i64 a0, .int .i64 a1, .int .i64 a2, .int .i64 a3, .int .i64 a4, .int .i64 a5, .int .i64 a6, .int .i64 a7, .bool a8], .int .u32 7] w fun e w' => e = .returned (.tuple #[.agg #[.int .i64 a0, .int .i64 a1, .int .i64 a2, .int .i64 a3, .int .i64 a4, .int .i64 a5, .int .i64 a6, .int .i64 a7, .bool a8], .bool ok]) ∧ Below w.heap.size w w') ∧
      (ok = true → ∀ w : World, Calls Try.prog 21 #[.agg #[.int .i64 a0, .int .i64 a1, .int .i64 a2, .int .i64 a3, .int .i64 a4, .int .i64 a5, .int .i64 a6, .int .i64 a7, .bool a8]] w fun e w' => e = .returned (.bool true) ∧ Below w.heap.size w w') ∧
      (ok = true → ∀ w : World, Calls Try.prog 22 #[.agg #[.int .i64 a0, .int .i64 a1, .int .i64 a2, .int .i64 a3, .int .i64 a4, .int .i64 a5, .int .i64 a6, .int .i64 a7, .bool a8], .agg #[.int .i64 c0, .int .i64 c1, .int .i64 c2, .int .i64 c3, .int .i64 c4, .int .i64 c5, .int .i64 c6, .int .i64 c7, .bool c8]] w fun e w' => e = .returned (.bool true) ∧ Below w.heap.size w w') ∧
      (fine = true → ∀ w : World, Calls Try.prog 21 #[.agg #[.int .i64 b0, .int .i64 b1, .int .i64 b2, .int .i64 b3, .int .i64 b4, .int .i64 b5, .int .i64 b6, .int .i64 b7, .bool b8]] w fun e w' => e = .returned (.bool true) ∧ Below w.heap.size w w') ∧
      (fine = true → ∀ w : World, Calls Try.prog 22 #[.agg #[.int .i64 b0, .int .i64 b1, .int .i64 b2, .int .i64 b3, .int .i64 b4, .int .i64 b5, .int .i64 b6, .int .i64 b7, .bool b8], .agg #[.int .i64 a0, .int .i64 a1, .int .i64 a2, .int .i64 a3, .int .i64 a4, .int .i64 a5, .int .i64 a6, .int .i64 a7, .bool a8]] w fun e w' => e = .returned (.bool true) ∧ Below w.heap.size w w') ∧
      (fine = true → ∀ w : World, Calls Try.prog 22 #[.agg #[.int .i64 b0, .int .i64 b1, .int .i64 b2, .int .i64 b3, .int .i64 b4, .int .i64 b5, .int .i64 b6, .int .i64 b7, .bool b8], .agg #[.int .i64 c0, .int .i64 c1, .int .i64 c2, .int .i64 c3, .int .i64 c4, .int .i64 c5, .int .i64 c6, .int .i64 c7, .bool c8]] w fun e w' => e = .returned (.bool true) ∧ Below w.heap.size w w') ∧
      (can = true → ∀ w : World, Calls Try.prog 22 #[.agg #[.int .i64 d0, .int .i64 d1, .int .i64 d2, .int .i64 d3, .int .i64 d4, .int .i64 d5, .int .i64 d6, .int .i64 d7, .bool d8], .agg #[.int .i64 c0, .int .i64 c1, .int .i64 c2, .int .i64 c3, .int .i64 c4, .int .i64 c5, .int .i64 c6, .int .i64 c7, .bool c8]] w fun e w' => e = .returned (.bool true) ∧ Below w.heap.size w w') ∧
      (can = true → ∀ w : World, Calls Try.prog 22 #[.agg #[.int .i64 e0, .int .i64 e1, .int .i64 e2, .int .i64 e3, .int .i64 e4, .int .i64 e5, .int .i64 e6, .int .i64 e7, .bool e8], .agg #[.int .i64 c0, .int .i64 c1, .int .i64 c2, .int .i64 c3, .int .i64 c4, .int .i64 c5, .int .i64 c6, .int .i64 c7, .bool c8]] w fun e w' => e = .returned (.bool true) ∧ Below w.heap.size w w') ∧
      (ok = false → fine = false ∧ can = false ∧ may = false) ∧ (can = true → may = true) ∧ a8 = false ∧ b8 = false ∧ d8 = false) :
    Calls Try.prog 4 #[.slice a0 n0 l0, .slice a1 n1 l1] w fun e w' => e = .returned (.bool true) ∧ Below w.heap.size w w' := by
  have hi0 : ¬ (1048576 : Int) < (n0 : Int) := by omega
  have hi1 : ¬ (1048576 : Int) < (n1 : Int) := by omega
  have HH' : Hid _ := HH
  clear HH
  go_enter Try.func4, Try.ntmps4
  go_wp2_with fail
  refine (drawCopy_any a0 n0 l0 w h0 hn0).mono ?_
  rintro e W ⟨c0, c1, c2, c3, c4, c5, c6, c7, m, c8, rfl, hr, hm, hb⟩
  go_wp2_with fail
  refine (drawMint_any a1 n1 l1 _ ((h1.below hb).alloc _) hn1).mono ?_
  rintro e W1 ⟨z0, z1, z2, z3, z4, z5, z6, z7, n, x, z8, rfl, _, hn, hx, hb1⟩
  have HC := (Holds9.alloc W (.int .i64 c0) (.int .i64 c1) (.int .i64 c2) (.int .i64 c3) (.int .i64 c4) (.int .i64 c5) (.int .i64 c6) (.int .i64 c7) (.bool c8) 31).below hb1 (by simp)
  have hB : Below w.heap.size w W1 := (hb.alloc hb.size _).trans (hb1.mono (by have := hb.size; simp; omega))
  have hC : W.heap.size < W1.heap.size := by have := hb1.size; simp at this; omega
  have hw : w.heap.size ≤ W1.heap.size := hB.size
  clear hb hb1
  generalize W.heap.size = C at HC hC ⊢
  obtain ⟨a0, a1, a2, a3, a4, a5, a6, a7, b0, b1, b2, b3, b4, b5, b6, b7, d0, d1, d2, d3, d4, d5, d6, d7, e0, e1, e2, e3, e4, e5, e6, e7, a8, b8, d8, e8, ok, fine, can, may, hCI, hCS, hMA, hMC, hCD, hCA, hOA, hAC, hOB, hBA, hBC, hDC, hEC, hno, hcm, rfl, rfl, rfl⟩ := HH'.out c0 c1 c2 c3 c4 c5 c6 c7 m n x c8 hr hm hn hx
  clear HH' h0 h1 hn0 hn1
  have hCI' : Hid _ := hCI
  have hCS' : Hid _ := hCS
  have hMA' : Hid _ := hMA
  have hMC' : Hid _ := hMC
  have hCD' : Hid _ := hCD
  have hCA' : Hid _ := hCA
  have hOA' : Hid _ := hOA
  have hAC' : Hid _ := hAC
  have hOB' : Hid _ := hOB
  have hBA' : Hid _ := hBA
  have hBC' : Hid _ := hBC
  have hDC' : Hid _ := hDC
  have hEC' : Hid _ := hEC
  clear hCI hCS hMA hMC hCD hCA hOA hAC hOB hBA hBC hDC hEC
  obtain ⟨Cc0, Cc1, Cc2, Cc3, Cc4, Cc5, Cc6, Cc7, Cc8⟩ := id HC
  go_wp2_with fail
  refine (hCI'.out _).mono ?_
  rintro e W2 ⟨rfl, hb⟩
  have hsz : W1.heap.size < W2.heap.size := by have := hb.size; simp at this; omega
  have hB' : Below w.heap.size w W2 := (hB.alloc (by omega) _).trans (hb.mono (by simp; omega))
  have HC' := (HC.allocs (by omega) _).below hb (by simp; omega)
  clear Cc0 Cc1 Cc2 Cc3 Cc4 Cc5 Cc6 Cc7 Cc8 HC
  clear hB hb
  have HC := HC'; clear HC'
  have hB := hB'; clear hB'
  have hw2 : w.heap.size ≤ W2.heap.size := by omega
  have hC2 : C < W2.heap.size := by omega
  clear hsz
  obtain ⟨Cc0, Cc1, Cc2, Cc3, Cc4, Cc5, Cc6, Cc7, Cc8⟩ := id HC
  go_wp2_with fail
  refine (hCS'.out _).mono ?_
  rintro e W3 ⟨rfl, hb⟩
  have hsz : W2.heap.size < W3.heap.size := by have := hb.size; simp at this; omega
  have hB' : Below w.heap.size w W3 := (hB.alloc (by omega) _).trans (hb.mono (by simp; omega))
  have HC' := (HC.allocs (by omega) _).below hb (by simp; omega)
  have HA := (Holds9.alloc W2 (.int .i64 a0) (.int .i64 a1) (.int .i64 a2) (.int .i64 a3) (.int .i64 a4) (.int .i64 a5) (.int .i64 a6) (.int .i64 a7) (.bool false) 31).below hb (by simp)
  clear Cc0 Cc1 Cc2 Cc3 Cc4 Cc5 Cc6 Cc7 Cc8 HC
  clear hB hb
  have HC := HC'; clear HC'
  have hB := hB'; clear hB'
  have hw3 : w.heap.size ≤ W3.heap.size := by omega
  have hC3 : C < W3.heap.size := by omega
  obtain ⟨A, eA⟩ : ∃ X, X = W2.heap.size := ⟨_, rfl⟩
  rw [← eA] at HA hsz ⊢
  have hA3 : A < W3.heap.size := hsz
  clear eA
  clear hsz
  obtain ⟨Cc0, Cc1, Cc2, Cc3, Cc4, Cc5, Cc6, Cc7, Cc8⟩ := id HC
  obtain ⟨Ac0, Ac1, Ac2, Ac3, Ac4, Ac5, Ac6, Ac7, Ac8⟩ := id HA
  go_wp2_with fail
  refine (hMA'.out _).mono ?_
  rintro e W4 ⟨rfl, hb⟩
  have hsz : W3.heap.size < W4.heap.size := by have := hb.size; simp at this; omega
  have hB' : Below w.heap.size w W4 := (hB.alloc (by omega) _).trans (hb.mono (by simp; omega))
  have HC' := (HC.allocs (by omega) _).below hb (by simp; omega)
  have HA' := (HA.allocs (by omega) _).below hb (by simp; omega)
  clear Cc0 Cc1 Cc2 Cc3 Cc4 Cc5 Cc6 Cc7 Cc8 HC
  clear Ac0 Ac1 Ac2 Ac3 Ac4 Ac5 Ac6 Ac7 Ac8 HA
  clear hB hb
  have HC := HC'; clear HC'
  have HA := HA'; clear HA'
  have hB := hB'; clear hB'
  have hw4 : w.heap.size ≤ W4.heap.size := by omega
  have hC4 : C < W4.heap.size := by omega
  have hA4 : A < W4.heap.size := by omega
  clear hsz
  obtain ⟨Cc0, Cc1, Cc2, Cc3, Cc4, Cc5, Cc6, Cc7, Cc8⟩ := id HC
  obtain ⟨Ac0, Ac1, Ac2, Ac3, Ac4, Ac5, Ac6, Ac7, Ac8⟩ := id HA
  go_wp2_with fail
  refine (hMC'.out _).mono ?_
  rintro e W5 ⟨rfl, hb⟩
  have hsz : W4.heap.size < W5.heap.size := by have := hb.size; simp at this; omega
  have hB' : Below w.heap.size w W5 := (hB.alloc (by omega) _).trans (hb.mono (by simp; omega))
  have HC' := (HC.allocs (by omega) _).below hb (by simp; omega)
  have HA' := (HA.allocs (by omega) _).below hb (by simp; omega)
  have HB := (Holds9.alloc W4 (.int .i64 b0) (.int .i64 b1) (.int .i64 b2) (.int .i64 b3) (.int .i64 b4) (.int .i64 b5) (.int .i64 b6) (.int .i64 b7) (.bool false) 31).below hb (by simp)
  clear Cc0 Cc1 Cc2 Cc3 Cc4 Cc5 Cc6 Cc7 Cc8 HC
  clear Ac0 Ac1 Ac2 Ac3 Ac4 Ac5 Ac6 Ac7 Ac8 HA
  clear hB hb
  have HC := HC'; clear HC'
  have HA := HA'; clear HA'
  have hB := hB'; clear hB'
  have hw5 : w.heap.size ≤ W5.heap.size := by omega
  have hC5 : C < W5.heap.size := by omega
  have hA5 : A < W5.heap.size := by omega
  obtain ⟨B, eB⟩ : ∃ X, X = W4.heap.size := ⟨_, rfl⟩
  rw [← eB] at HB hsz ⊢
  have hB5 : B < W5.heap.size := hsz
  clear eB
  clear hsz
  obtain ⟨Cc0, Cc1, Cc2, Cc3, Cc4, Cc5, Cc6, Cc7, Cc8⟩ := id HC
  obtain ⟨Ac0, Ac1, Ac2, Ac3, Ac4, Ac5, Ac6, Ac7, Ac8⟩ := id HA
  obtain ⟨Bc0, Bc1, Bc2, Bc3, Bc4, Bc5, Bc6, Bc7, Bc8⟩ := id HB
  go_wp2_with fail
  refine (hCD'.out _).mono ?_
  rintro e W6 ⟨rfl, hb⟩
  have hsz : W5.heap.size < W6.heap.size := by have := hb.size; simp at this; omega
  have hB' : Below w.heap.size w W6 := (hB.alloc (by omega) _).trans (hb.mono (by simp; omega))
  have HC' := (HC.allocs (by omega) _).below hb (by simp; omega)
  have HA' := (HA.allocs (by omega) _).below hb (by simp; omega)
  have HB' := (HB.allocs (by omega) _).below hb (by simp; omega)
  have HD := (Holds9.alloc W5 (.int .i64 d0) (.int .i64 d1) (.int .i64 d2) (.int .i64 d3) (.int .i64 d4) (.int .i64 d5) (.int .i64 d6) (.int .i64 d7) (.bool false) 31).below hb (by simp)
  clear Cc0 Cc1 Cc2 Cc3 Cc4 Cc5 Cc6 Cc7 Cc8 HC
  clear Ac0 Ac1 Ac2 Ac3 Ac4 Ac5 Ac6 Ac7 Ac8 HA
  clear Bc0 Bc1 Bc2 Bc3 Bc4 Bc5 Bc6 Bc7 Bc8 HB
  clear hB hb
  have HC := HC'; clear HC'
  have HA := HA'; clear HA'
  have HB := HB'; clear HB'
  have hB := hB'; clear hB'
  have hw6 : w.heap.size ≤ W6.heap.size := by omega
  have hC6 : C < W6.heap.size := by omega
  have hA6 : A < W6.heap.size := by omega
  have hB6 : B < W6.heap.size := by omega
  obtain ⟨D, eD⟩ : ∃ X, X = W5.heap.size := ⟨_, rfl⟩
  rw [← eD] at HD hsz ⊢
  have hD6 : D < W6.heap.size := hsz
  clear eD
  clear hsz
  cases ok
  · obtain ⟨rfl, rfl, rfl⟩ := hno rfl
    obtain ⟨Cc0, Cc1, Cc2, Cc3, Cc4, Cc5, Cc6, Cc7, Cc8⟩ := id HC
    obtain ⟨Ac0, Ac1, Ac2, Ac3, Ac4, Ac5, Ac6, Ac7, Ac8⟩ := id HA
    obtain ⟨Bc0, Bc1, Bc2, Bc3, Bc4, Bc5, Bc6, Bc7, Bc8⟩ := id HB
    obtain ⟨Dc0, Dc1, Dc2, Dc3, Dc4, Dc5, Dc6, Dc7, Dc8⟩ := id HD
    go_wp2_with fail
    refine (hCA'.out _).mono ?_
    rintro e W7 ⟨rfl, hb⟩
    have hsz : W6.heap.size < W7.heap.size := by have := hb.size; simp at this; omega
    have hB' : Below w.heap.size w W7 := (hB.alloc (by omega) _).trans (hb.mono (by simp; omega))
    have HC' := (HC.allocs (by omega) _).below hb (by simp; omega)
    have HA' := (HA.allocs (by omega) _).below hb (by simp; omega)
    have HB' := (HB.allocs (by omega) _).below hb (by simp; omega)
    have HD' := (HD.allocs (by omega) _).below hb (by simp; omega)
    have HE := (Holds9.alloc W6 (.int .i64 e0) (.int .i64 e1) (.int .i64 e2) (.int .i64 e3) (.int .i64 e4) (.int .i64 e5) (.int .i64 e6) (.int .i64 e7) (.bool e8) 31).below hb (by simp)
    clear Cc0 Cc1 Cc2 Cc3 Cc4 Cc5 Cc6 Cc7 Cc8 HC
    clear Ac0 Ac1 Ac2 Ac3 Ac4 Ac5 Ac6 Ac7 Ac8 HA
    clear Bc0 Bc1 Bc2 Bc3 Bc4 Bc5 Bc6 Bc7 Bc8 HB
    clear Dc0 Dc1 Dc2 Dc3 Dc4 Dc5 Dc6 Dc7 Dc8 HD
    clear hB hb
    have HC := HC'; clear HC'
    have HA := HA'; clear HA'
    have HB := HB'; clear HB'
    have HD := HD'; clear HD'
    have hB := hB'; clear hB'
    have hw7 : w.heap.size ≤ W7.heap.size := by omega
    have hC7 : C < W7.heap.size := by omega
    have hA7 : A < W7.heap.size := by omega
    have hB7 : B < W7.heap.size := by omega
    have hD7 : D < W7.heap.size := by omega
    obtain ⟨E, eE⟩ : ∃ X, X = W6.heap.size := ⟨_, rfl⟩
    rw [← eE] at HE hsz ⊢
    have hE7 : E < W7.heap.size := hsz
    clear eE
    clear hsz
    obtain ⟨Cc0, Cc1, Cc2, Cc3, Cc4, Cc5, Cc6, Cc7, Cc8⟩ := id HC
    obtain ⟨Ac0, Ac1, Ac2, Ac3, Ac4, Ac5, Ac6, Ac7, Ac8⟩ := id HA
    obtain ⟨Bc0, Bc1, Bc2, Bc3, Bc4, Bc5, Bc6, Bc7, Bc8⟩ := id HB
    obtain ⟨Dc0, Dc1, Dc2, Dc3, Dc4, Dc5, Dc6, Dc7, Dc8⟩ := id HD
    obtain ⟨Ec0, Ec1, Ec2, Ec3, Ec4, Ec5, Ec6, Ec7, Ec8⟩ := id HE
    go_wp2_with fail
    go_ret
    exact ⟨rfl, by first | exact hB | exact hB.alloc (by omega) _⟩
  · cases fine
    · cases can
      · cases may
        all_goals
          obtain ⟨Cc0, Cc1, Cc2, Cc3, Cc4, Cc5, Cc6, Cc7, Cc8⟩ := id HC
          obtain ⟨Ac0, Ac1, Ac2, Ac3, Ac4, Ac5, Ac6, Ac7, Ac8⟩ := id HA
          obtain ⟨Bc0, Bc1, Bc2, Bc3, Bc4, Bc5, Bc6, Bc7, Bc8⟩ := id HB
          obtain ⟨Dc0, Dc1, Dc2, Dc3, Dc4, Dc5, Dc6, Dc7, Dc8⟩ := id HD
          go_wp2_with fail
          refine (hOA'.out (by simp) _).mono ?_
          rintro e W7 ⟨rfl, hb⟩
          have hsz : W6.heap.size < W7.heap.size := by have := hb.size; simp at this; omega
          have hB' : Below w.heap.size w W7 := (hB.alloc (by omega) _).trans (hb.mono (by simp; omega))
          have HC' := (HC.allocs (by omega) _).below hb (by simp; omega)
          have HA' := (HA.allocs (by omega) _).below hb (by simp; omega)
          have HB' := (HB.allocs (by omega) _).below hb (by simp; omega)
          have HD' := (HD.allocs (by omega) _).below hb (by simp; omega)
          have HE := (Holds9.alloc W6 (.int .i64 e0) (.int .i64 e1) (.int .i64 e2) (.int .i64 e3) (.int .i64 e4) (.int .i64 e5) (.int .i64 e6) (.int .i64 e7) (.bool e8) 31).below hb (by simp)
          clear Cc0 Cc1 Cc2 Cc3 Cc4 Cc5 Cc6 Cc7 Cc8 HC
          clear Ac0 Ac1 Ac2 Ac3 Ac4 Ac5 Ac6 Ac7 Ac8 HA
          clear Bc0 Bc1 Bc2 Bc3 Bc4 Bc5 Bc6 Bc7 Bc8 HB
          clear Dc0 Dc1 Dc2 Dc3 Dc4 Dc5 Dc6 Dc7 Dc8 HD
          clear hB hb
          have HC := HC'; clear HC'
          have HA := HA'; clear HA'
          have HB := HB'; clear HB'
          have HD := HD'; clear HD'
          have hB := hB'; clear hB'
          have hw7 : w.heap.size ≤ W7.heap.size := by omega
          have hC7 : C < W7.heap.size := by omega
          have hA7 : A < W7.heap.size := by omega
          have hB7 : B < W7.heap.size := by omega
          have hD7 : D < W7.heap.size := by omega
          obtain ⟨E, eE⟩ : ∃ X, X = W6.heap.size := ⟨_, rfl⟩
          rw [← eE] at HE hsz ⊢
          have hE7 : E < W7.heap.size := hsz
          clear eE
          clear hsz
          obtain ⟨Cc0, Cc1, Cc2, Cc3, Cc4, Cc5, Cc6, Cc7, Cc8⟩ := id HC
          obtain ⟨Ac0, Ac1, Ac2, Ac3, Ac4, Ac5, Ac6, Ac7, Ac8⟩ := id HA
          obtain ⟨Bc0, Bc1, Bc2, Bc3, Bc4, Bc5, Bc6, Bc7, Bc8⟩ := id HB
          obtain ⟨Dc0, Dc1, Dc2, Dc3, Dc4, Dc5, Dc6, Dc7, Dc8⟩ := id HD
          obtain ⟨Ec0, Ec1, Ec2, Ec3, Ec4, Ec5, Ec6, Ec7, Ec8⟩ := id HE
          go_wp2_with fail
          refine (hAC'.out (by simp) _).mono ?_
          rintro e W8 ⟨rfl, hb⟩
          have hsz : W7.heap.size ≤ W8.heap.size := hb.size
          have hB' : Below w.heap.size w W8 := hB.trans (hb.mono (by omega))
          have HC' := HC.below hb (by omega)
          have HA' := HA.below hb (by omega)
          have HB' := HB.below hb (by omega)
          have HD' := HD.below hb (by omega)
          have HE' := HE.below hb (by omega)
          clear Cc0 Cc1 Cc2 Cc3 Cc4 Cc5 Cc6 Cc7 Cc8 HC
          clear Ac0 Ac1 Ac2 Ac3 Ac4 Ac5 Ac6 Ac7 Ac8 HA
          clear Bc0 Bc1 Bc2 Bc3 Bc4 Bc5 Bc6 Bc7 Bc8 HB
          clear Dc0 Dc1 Dc2 Dc3 Dc4 Dc5 Dc6 Dc7 Dc8 HD
          clear Ec0 Ec1 Ec2 Ec3 Ec4 Ec5 Ec6 Ec7 Ec8 HE
          clear hB hb
          have HC := HC'; clear HC'
          have HA := HA'; clear HA'
          have HB := HB'; clear HB'
          have HD := HD'; clear HD'
          have HE := HE'; clear HE'
          have hB := hB'; clear hB'
          have hw8 : w.heap.size ≤ W8.heap.size := by omega
          have hC8 : C < W8.heap.size := by omega
          have hA8 : A < W8.heap.size := by omega
          have hB8 : B < W8.heap.size := by omega
          have hD8 : D < W8.heap.size := by omega
          have hE8 : E < W8.heap.size := by omega
          clear hsz
          obtain ⟨Cc0, Cc1, Cc2, Cc3, Cc4, Cc5, Cc6, Cc7, Cc8⟩ := id HC
          obtain ⟨Ac0, Ac1, Ac2, Ac3, Ac4, Ac5, Ac6, Ac7, Ac8⟩ := id HA
          obtain ⟨Bc0, Bc1, Bc2, Bc3, Bc4, Bc5, Bc6, Bc7, Bc8⟩ := id HB
          obtain ⟨Dc0, Dc1, Dc2, Dc3, Dc4, Dc5, Dc6, Dc7, Dc8⟩ := id HD
          obtain ⟨Ec0, Ec1, Ec2, Ec3, Ec4, Ec5, Ec6, Ec7, Ec8⟩ := id HE
          go_wp2_with fail
          refine (hCA'.out _).mono ?_
          rintro e W9 ⟨rfl, hb⟩
          have hsz : W8.heap.size ≤ W9.heap.size := hb.size
          have hB' : Below w.heap.size w W9 := hB.trans (hb.mono (by omega))
          have HC' := HC.below hb (by omega)
          have HA' := HA.below hb (by omega)
          have HB' := HB.below hb (by omega)
          have HD' := HD.below hb (by omega)
          have HE' := HE.below hb (by omega)
          clear Cc0 Cc1 Cc2 Cc3 Cc4 Cc5 Cc6 Cc7 Cc8 HC
          clear Ac0 Ac1 Ac2 Ac3 Ac4 Ac5 Ac6 Ac7 Ac8 HA
          clear Bc0 Bc1 Bc2 Bc3 Bc4 Bc5 Bc6 Bc7 Bc8 HB
          clear Dc0 Dc1 Dc2 Dc3 Dc4 Dc5 Dc6 Dc7 Dc8 HD
          clear Ec0 Ec1 Ec2 Ec3 Ec4 Ec5 Ec6 Ec7 Ec8 HE
          clear hB hb
          have HC := HC'; clear HC'
          have HA := HA'; clear HA'
          have HB := HB'; clear HB'
          have HD := HD'; clear HD'
          have HE := HE'; clear HE'
          have hB := hB'; clear hB'
          have hw9 : w.heap.size ≤ W9.heap.size := by omega
          have hC9 : C < W9.heap.size := by omega
          have hA9 : A < W9.heap.size := by omega
          have hB9 : B < W9.heap.size := by omega
          have hD9 : D < W9.heap.size := by omega
          have hE9 : E < W9.heap.size := by omega
          clear hsz
          obtain ⟨Cc0, Cc1, Cc2, Cc3, Cc4, Cc5, Cc6, Cc7, Cc8⟩ := id HC
          obtain ⟨Ac0, Ac1, Ac2, Ac3, Ac4, Ac5, Ac6, Ac7, Ac8⟩ := id HA
          obtain ⟨Bc0, Bc1, Bc2, Bc3, Bc4, Bc5, Bc6, Bc7, Bc8⟩ := id HB
          obtain ⟨Dc0, Dc1, Dc2, Dc3, Dc4, Dc5, Dc6, Dc7, Dc8⟩ := id HD
          obtain ⟨Ec0, Ec1, Ec2, Ec3, Ec4, Ec5, Ec6, Ec7, Ec8⟩ := id HE
          go_wp2_with fail
          go_ret
          exact ⟨rfl, by first | exact hB | exact hB.alloc (by omega) _⟩
      · obtain rfl := hcm rfl
        obtain ⟨Cc0, Cc1, Cc2, Cc3, Cc4, Cc5, Cc6, Cc7, Cc8⟩ := id HC
        obtain ⟨Ac0, Ac1, Ac2, Ac3, Ac4, Ac5, Ac6, Ac7, Ac8⟩ := id HA
        obtain ⟨Bc0, Bc1, Bc2, Bc3, Bc4, Bc5, Bc6, Bc7, Bc8⟩ := id HB
        obtain ⟨Dc0, Dc1, Dc2, Dc3, Dc4, Dc5, Dc6, Dc7, Dc8⟩ := id HD
        go_wp2_with fail
        refine (hOA'.out (by simp) _).mono ?_
        rintro e W7 ⟨rfl, hb⟩
        have hsz : W6.heap.size < W7.heap.size := by have := hb.size; simp at this; omega
        have hB' : Below w.heap.size w W7 := (hB.alloc (by omega) _).trans (hb.mono (by simp; omega))
        have HC' := (HC.allocs (by omega) _).below hb (by simp; omega)
        have HA' := (HA.allocs (by omega) _).below hb (by simp; omega)
        have HB' := (HB.allocs (by omega) _).below hb (by simp; omega)
        have HD' := (HD.allocs (by omega) _).below hb (by simp; omega)
        have HE := (Holds9.alloc W6 (.int .i64 e0) (.int .i64 e1) (.int .i64 e2) (.int .i64 e3) (.int .i64 e4) (.int .i64 e5) (.int .i64 e6) (.int .i64 e7) (.bool e8) 31).below hb (by simp)
        clear Cc0 Cc1 Cc2 Cc3 Cc4 Cc5 Cc6 Cc7 Cc8 HC
        clear Ac0 Ac1 Ac2 Ac3 Ac4 Ac5 Ac6 Ac7 Ac8 HA
        clear Bc0 Bc1 Bc2 Bc3 Bc4 Bc5 Bc6 Bc7 Bc8 HB
        clear Dc0 Dc1 Dc2 Dc3 Dc4 Dc5 Dc6 Dc7 Dc8 HD
        clear hB hb
        have HC := HC'; clear HC'
        have HA := HA'; clear HA'
        have HB := HB'; clear HB'
        have HD := HD'; clear HD'
        have hB := hB'; clear hB'
        have hw7 : w.heap.size ≤ W7.heap.size := by omega
        have hC7 : C < W7.heap.size := by omega
        have hA7 : A < W7.heap.size := by omega
        have hB7 : B < W7.heap.size := by omega
        have hD7 : D < W7.heap.size := by omega
        obtain ⟨E, eE⟩ : ∃ X, X = W6.heap.size := ⟨_, rfl⟩
        rw [← eE] at HE hsz ⊢
        have hE7 : E < W7.heap.size := hsz
        clear eE
        clear hsz
        obtain ⟨Cc0, Cc1, Cc2, Cc3, Cc4, Cc5, Cc6, Cc7, Cc8⟩ := id HC
        obtain ⟨Ac0, Ac1, Ac2, Ac3, Ac4, Ac5, Ac6, Ac7, Ac8⟩ := id HA
        obtain ⟨Bc0, Bc1, Bc2, Bc3, Bc4, Bc5, Bc6, Bc7, Bc8⟩ := id HB
        obtain ⟨Dc0, Dc1, Dc2, Dc3, Dc4, Dc5, Dc6, Dc7, Dc8⟩ := id HD
        obtain ⟨Ec0, Ec1, Ec2, Ec3, Ec4, Ec5, Ec6, Ec7, Ec8⟩ := id HE
        go_wp2_with fail
        refine (hAC'.out (by simp) _).mono ?_
        rintro e W8 ⟨rfl, hb⟩
        have hsz : W7.heap.size ≤ W8.heap.size := hb.size
        have hB' : Below w.heap.size w W8 := hB.trans (hb.mono (by omega))
        have HC' := HC.below hb (by omega)
        have HA' := HA.below hb (by omega)
        have HB' := HB.below hb (by omega)
        have HD' := HD.below hb (by omega)
        have HE' := HE.below hb (by omega)
        clear Cc0 Cc1 Cc2 Cc3 Cc4 Cc5 Cc6 Cc7 Cc8 HC
        clear Ac0 Ac1 Ac2 Ac3 Ac4 Ac5 Ac6 Ac7 Ac8 HA
        clear Bc0 Bc1 Bc2 Bc3 Bc4 Bc5 Bc6 Bc7 Bc8 HB
        clear Dc0 Dc1 Dc2 Dc3 Dc4 Dc5 Dc6 Dc7 Dc8 HD
        clear Ec0 Ec1 Ec2 Ec3 Ec4 Ec5 Ec6 Ec7 Ec8 HE
        clear hB hb
        have HC := HC'; clear HC'
        have HA := HA'; clear HA'
        have HB := HB'; clear HB'
        have HD := HD'; clear HD'
        have HE := HE'; clear HE'
        have hB := hB'; clear hB'
        have hw8 : w.heap.size ≤ W8.heap.size := by omega
        have hC8 : C < W8.heap.size := by omega
        have hA8 : A < W8.heap.size := by omega
        have hB8 : B < W8.heap.size := by omega
        have hD8 : D < W8.heap.size := by omega
        have hE8 : E < W8.heap.size := by omega
        clear hsz
        obtain ⟨Cc0, Cc1, Cc2, Cc3, Cc4, Cc5, Cc6, Cc7, Cc8⟩ := id HC
        obtain ⟨Ac0, Ac1, Ac2, Ac3, Ac4, Ac5, Ac6, Ac7, Ac8⟩ := id HA
        obtain ⟨Bc0, Bc1, Bc2, Bc3, Bc4, Bc5, Bc6, Bc7, Bc8⟩ := id HB
        obtain ⟨Dc0, Dc1, Dc2, Dc3, Dc4, Dc5, Dc6, Dc7, Dc8⟩ := id HD
        obtain ⟨Ec0, Ec1, Ec2, Ec3, Ec4, Ec5, Ec6, Ec7, Ec8⟩ := id HE
        go_wp2_with fail
        refine (hCA'.out _).mono ?_
        rintro e W9 ⟨rfl, hb⟩
        have hsz : W8.heap.size ≤ W9.heap.size := hb.size
        have hB' : Below w.heap.size w W9 := hB.trans (hb.mono (by omega))
        have HC' := HC.below hb (by omega)
        have HA' := HA.below hb (by omega)
        have HB' := HB.below hb (by omega)
        have HD' := HD.below hb (by omega)
        have HE' := HE.below hb (by omega)
        clear Cc0 Cc1 Cc2 Cc3 Cc4 Cc5 Cc6 Cc7 Cc8 HC
        clear Ac0 Ac1 Ac2 Ac3 Ac4 Ac5 Ac6 Ac7 Ac8 HA
        clear Bc0 Bc1 Bc2 Bc3 Bc4 Bc5 Bc6 Bc7 Bc8 HB
        clear Dc0 Dc1 Dc2 Dc3 Dc4 Dc5 Dc6 Dc7 Dc8 HD
        clear Ec0 Ec1 Ec2 Ec3 Ec4 Ec5 Ec6 Ec7 Ec8 HE
        clear hB hb
        have HC := HC'; clear HC'
        have HA := HA'; clear HA'
        have HB := HB'; clear HB'
        have HD := HD'; clear HD'
        have HE := HE'; clear HE'
        have hB := hB'; clear hB'
        have hw9 : w.heap.size ≤ W9.heap.size := by omega
        have hC9 : C < W9.heap.size := by omega
        have hA9 : A < W9.heap.size := by omega
        have hB9 : B < W9.heap.size := by omega
        have hD9 : D < W9.heap.size := by omega
        have hE9 : E < W9.heap.size := by omega
        clear hsz
        obtain ⟨Cc0, Cc1, Cc2, Cc3, Cc4, Cc5, Cc6, Cc7, Cc8⟩ := id HC
        obtain ⟨Ac0, Ac1, Ac2, Ac3, Ac4, Ac5, Ac6, Ac7, Ac8⟩ := id HA
        obtain ⟨Bc0, Bc1, Bc2, Bc3, Bc4, Bc5, Bc6, Bc7, Bc8⟩ := id HB
        obtain ⟨Dc0, Dc1, Dc2, Dc3, Dc4, Dc5, Dc6, Dc7, Dc8⟩ := id HD
        obtain ⟨Ec0, Ec1, Ec2, Ec3, Ec4, Ec5, Ec6, Ec7, Ec8⟩ := id HE
        go_wp2_with fail
        refine (hDC'.out (by simp) _).mono ?_
        rintro e W10 ⟨rfl, hb⟩
        have hsz : W9.heap.size < W10.heap.size := by have := hb.size; simp at this; omega
        have hB' : Below w.heap.size w W10 := (hB.alloc (by omega) _).trans (hb.mono (by simp; omega))
        have HC' := (HC.allocs (by omega) _).below hb (by simp; omega)
        have HA' := (HA.allocs (by omega) _).below hb (by simp; omega)
        have HB' := (HB.allocs (by omega) _).below hb (by simp; omega)
        have HD' := (HD.allocs (by omega) _).below hb (by simp; omega)
        have HE' := (HE.allocs (by omega) _).below hb (by simp; omega)
        have HK := (Holds9.alloc W9 (.int .i64 a0) (.int .i64 a1) (.int .i64 a2) (.int .i64 a3) (.int .i64 a4) (.int .i64 a5) (.int .i64 a6) (.int .i64 a7) (.bool false) 31).below hb (by simp)
        clear Cc0 Cc1 Cc2 Cc3 Cc4 Cc5 Cc6 Cc7 Cc8 HC
        clear Ac0 Ac1 Ac2 Ac3 Ac4 Ac5 Ac6 Ac7 Ac8 HA
        clear Bc0 Bc1 Bc2 Bc3 Bc4 Bc5 Bc6 Bc7 Bc8 HB
        clear Dc0 Dc1 Dc2 Dc3 Dc4 Dc5 Dc6 Dc7 Dc8 HD
        clear Ec0 Ec1 Ec2 Ec3 Ec4 Ec5 Ec6 Ec7 Ec8 HE
        clear hB hb
        have HC := HC'; clear HC'
        have HA := HA'; clear HA'
        have HB := HB'; clear HB'
        have HD := HD'; clear HD'
        have HE := HE'; clear HE'
        have hB := hB'; clear hB'
        have hw10 : w.heap.size ≤ W10.heap.size := by omega
        have hC10 : C < W10.heap.size := by omega
        have hA10 : A < W10.heap.size := by omega
        have hB10 : B < W10.heap.size := by omega
        have hD10 : D < W10.heap.size := by omega
        have hE10 : E < W10.heap.size := by omega
        obtain ⟨K, eK⟩ : ∃ X, X = W9.heap.size := ⟨_, rfl⟩
        rw [← eK] at HK hsz ⊢
        have hK10 : K < W10.heap.size := hsz
        clear eK
        clear hsz
        obtain ⟨Cc0, Cc1, Cc2, Cc3, Cc4, Cc5, Cc6, Cc7, Cc8⟩ := id HC
        obtain ⟨Ac0, Ac1, Ac2, Ac3, Ac4, Ac5, Ac6, Ac7, Ac8⟩ := id HA
        obtain ⟨Bc0, Bc1, Bc2, Bc3, Bc4, Bc5, Bc6, Bc7, Bc8⟩ := id HB
        obtain ⟨Dc0, Dc1, Dc2, Dc3, Dc4, Dc5, Dc6, Dc7, Dc8⟩ := id HD
        obtain ⟨Ec0, Ec1, Ec2, Ec3, Ec4, Ec5, Ec6, Ec7, Ec8⟩ := id HE
        obtain ⟨Kc0, Kc1, Kc2, Kc3, Kc4, Kc5, Kc6, Kc7, Kc8⟩ := id HK
        go_wp2_with fail
        refine (hEC'.out (by simp) _).mono ?_
        rintro e W11 ⟨rfl, hb⟩
        have hsz : W10.heap.size ≤ W11.heap.size := hb.size
        have hB' : Below w.heap.size w W11 := hB.trans (hb.mono (by omega))
        have HC' := HC.below hb (by omega)
        have HA' := HA.below hb (by omega)
        have HB' := HB.below hb (by omega)
        have HD' := HD.below hb (by omega)
        have HE' := HE.below hb (by omega)
        have HK' := HK.below hb (by omega)
        clear Cc0 Cc1 Cc2 Cc3 Cc4 Cc5 Cc6 Cc7 Cc8 HC
        clear Ac0 Ac1 Ac2 Ac3 Ac4 Ac5 Ac6 Ac7 Ac8 HA
        clear Bc0 Bc1 Bc2 Bc3 Bc4 Bc5 Bc6 Bc7 Bc8 HB
        clear Dc0 Dc1 Dc2 Dc3 Dc4 Dc5 Dc6 Dc7 Dc8 HD
        clear Ec0 Ec1 Ec2 Ec3 Ec4 Ec5 Ec6 Ec7 Ec8 HE
        clear Kc0 Kc1 Kc2 Kc3 Kc4 Kc5 Kc6 Kc7 Kc8 HK
        clear hB hb
        have HC := HC'; clear HC'
        have HA := HA'; clear HA'
        have HB := HB'; clear HB'
        have HD := HD'; clear HD'
        have HE := HE'; clear HE'
        have HK := HK'; clear HK'
        have hB := hB'; clear hB'
        have hw11 : w.heap.size ≤ W11.heap.size := by omega
        have hC11 : C < W11.heap.size := by omega
        have hA11 : A < W11.heap.size := by omega
        have hB11 : B < W11.heap.size := by omega
        have hD11 : D < W11.heap.size := by omega
        have hE11 : E < W11.heap.size := by omega
        have hK11 : K < W11.heap.size := by omega
        clear hsz
        obtain ⟨Cc0, Cc1, Cc2, Cc3, Cc4, Cc5, Cc6, Cc7, Cc8⟩ := id HC
        obtain ⟨Ac0, Ac1, Ac2, Ac3, Ac4, Ac5, Ac6, Ac7, Ac8⟩ := id HA
        obtain ⟨Bc0, Bc1, Bc2, Bc3, Bc4, Bc5, Bc6, Bc7, Bc8⟩ := id HB
        obtain ⟨Dc0, Dc1, Dc2, Dc3, Dc4, Dc5, Dc6, Dc7, Dc8⟩ := id HD
        obtain ⟨Ec0, Ec1, Ec2, Ec3, Ec4, Ec5, Ec6, Ec7, Ec8⟩ := id HE
        obtain ⟨Kc0, Kc1, Kc2, Kc3, Kc4, Kc5, Kc6, Kc7, Kc8⟩ := id HK
        go_wp2_with fail
        go_ret
        exact ⟨rfl, by first | exact hB | exact hB.alloc (by omega) _⟩
    · cases can
      · cases may
        all_goals
          obtain ⟨Cc0, Cc1, Cc2, Cc3, Cc4, Cc5, Cc6, Cc7, Cc8⟩ := id HC
          obtain ⟨Ac0, Ac1, Ac2, Ac3, Ac4, Ac5, Ac6, Ac7, Ac8⟩ := id HA
          obtain ⟨Bc0, Bc1, Bc2, Bc3, Bc4, Bc5, Bc6, Bc7, Bc8⟩ := id HB
          obtain ⟨Dc0, Dc1, Dc2, Dc3, Dc4, Dc5, Dc6, Dc7, Dc8⟩ := id HD
          go_wp2_with fail
          refine (hOA'.out (by simp) _).mono ?_
          rintro e W7 ⟨rfl, hb⟩
          have hsz : W6.heap.size < W7.heap.size := by have := hb.size; simp at this; omega
          have hB' : Below w.heap.size w W7 := (hB.alloc (by omega) _).trans (hb.mono (by simp; omega))
          have HC' := (HC.allocs (by omega) _).below hb (by simp; omega)
          have HA' := (HA.allocs (by omega) _).below hb (by simp; omega)
          have HB' := (HB.allocs (by omega) _).below hb (by simp; omega)
          have HD' := (HD.allocs (by omega) _).below hb (by simp; omega)
          have HE := (Holds9.alloc W6 (.int .i64 e0) (.int .i64 e1) (.int .i64 e2) (.int .i64 e3) (.int .i64 e4) (.int .i64 e5) (.int .i64 e6) (.int .i64 e7) (.bool e8) 31).below hb (by simp)
          clear Cc0 Cc1 Cc2 Cc3 Cc4 Cc5 Cc6 Cc7 Cc8 HC
          clear Ac0 Ac1 Ac2 Ac3 Ac4 Ac5 Ac6 Ac7 Ac8 HA
          clear Bc0 Bc1 Bc2 Bc3 Bc4 Bc5 Bc6 Bc7 Bc8 HB
          clear Dc0 Dc1 Dc2 Dc3 Dc4 Dc5 Dc6 Dc7 Dc8 HD
          clear hB hb
          have HC := HC'; clear HC'
          have HA := HA'; clear HA'
          have HB := HB'; clear HB'
          have HD := HD'; clear HD'
          have hB := hB'; clear hB'
          have hw7 : w.heap.size ≤ W7.heap.size := by omega
          have hC7 : C < W7.heap.size := by omega
          have hA7 : A < W7.heap.size := by omega
          have hB7 : B < W7.heap.size := by omega
          have hD7 : D < W7.heap.size := by omega
          obtain ⟨E, eE⟩ : ∃ X, X = W6.heap.size := ⟨_, rfl⟩
          rw [← eE] at HE hsz ⊢
          have hE7 : E < W7.heap.size := hsz
          clear eE
          clear hsz
          obtain ⟨Cc0, Cc1, Cc2, Cc3, Cc4, Cc5, Cc6, Cc7, Cc8⟩ := id HC
          obtain ⟨Ac0, Ac1, Ac2, Ac3, Ac4, Ac5, Ac6, Ac7, Ac8⟩ := id HA
          obtain ⟨Bc0, Bc1, Bc2, Bc3, Bc4, Bc5, Bc6, Bc7, Bc8⟩ := id HB
          obtain ⟨Dc0, Dc1, Dc2, Dc3, Dc4, Dc5, Dc6, Dc7, Dc8⟩ := id HD
          obtain ⟨Ec0, Ec1, Ec2, Ec3, Ec4, Ec5, Ec6, Ec7, Ec8⟩ := id HE
          go_wp2_with fail
          refine (hAC'.out (by simp) _).mono ?_
          rintro e W8 ⟨rfl, hb⟩
          have hsz : W7.heap.size ≤ W8.heap.size := hb.size
          have hB' : Below w.heap.size w W8 := hB.trans (hb.mono (by omega))
          have HC' := HC.below hb (by omega)
          have HA' := HA.below hb (by omega)
          have HB' := HB.below hb (by omega)
          have HD' := HD.below hb (by omega)
          have HE' := HE.below hb (by omega)
          clear Cc0 Cc1 Cc2 Cc3 Cc4 Cc5 Cc6 Cc7 Cc8 HC
          clear Ac0 Ac1 Ac2 Ac3 Ac4 Ac5 Ac6 Ac7 Ac8 HA
          clear Bc0 Bc1 Bc2 Bc3 Bc4 Bc5 Bc6 Bc7 Bc8 HB
          clear Dc0 Dc1 Dc2 Dc3 Dc4 Dc5 Dc6 Dc7 Dc8 HD
          clear Ec0 Ec1 Ec2 Ec3 Ec4 Ec5 Ec6 Ec7 Ec8 HE
          clear hB hb
          have HC := HC'; clear HC'
          have HA := HA'; clear HA'
          have HB := HB'; clear HB'
          have HD := HD'; clear HD'
          have HE := HE'; clear HE'
          have hB := hB'; clear hB'
          have hw8 : w.heap.size ≤ W8.heap.size := by omega
          have hC8 : C < W8.heap.size := by omega
          have hA8 : A < W8.heap.size := by omega
          have hB8 : B < W8.heap.size := by omega
          have hD8 : D < W8.heap.size := by omega
          have hE8 : E < W8.heap.size := by omega
          clear hsz
          obtain ⟨Cc0, Cc1, Cc2, Cc3, Cc4, Cc5, Cc6, Cc7, Cc8⟩ := id HC
          obtain ⟨Ac0, Ac1, Ac2, Ac3, Ac4, Ac5, Ac6, Ac7, Ac8⟩ := id HA
          obtain ⟨Bc0, Bc1, Bc2, Bc3, Bc4, Bc5, Bc6, Bc7, Bc8⟩ := id HB
          obtain ⟨Dc0, Dc1, Dc2, Dc3, Dc4, Dc5, Dc6, Dc7, Dc8⟩ := id HD
          obtain ⟨Ec0, Ec1, Ec2, Ec3, Ec4, Ec5, Ec6, Ec7, Ec8⟩ := id HE
          go_wp2_with fail
          refine (hOB'.out (by simp) _).mono ?_
          rintro e W9 ⟨rfl, hb⟩
          have hsz : W8.heap.size ≤ W9.heap.size := hb.size
          have hB' : Below w.heap.size w W9 := hB.trans (hb.mono (by omega))
          have HC' := HC.below hb (by omega)
          have HA' := HA.below hb (by omega)
          have HB' := HB.below hb (by omega)
          have HD' := HD.below hb (by omega)
          have HE' := HE.below hb (by omega)
          clear Cc0 Cc1 Cc2 Cc3 Cc4 Cc5 Cc6 Cc7 Cc8 HC
          clear Ac0 Ac1 Ac2 Ac3 Ac4 Ac5 Ac6 Ac7 Ac8 HA
          clear Bc0 Bc1 Bc2 Bc3 Bc4 Bc5 Bc6 Bc7 Bc8 HB
          clear Dc0 Dc1 Dc2 Dc3 Dc4 Dc5 Dc6 Dc7 Dc8 HD
          clear Ec0 Ec1 Ec2 Ec3 Ec4 Ec5 Ec6 Ec7 Ec8 HE
          clear hB hb
          have HC := HC'; clear HC'
          have HA := HA'; clear HA'
          have HB := HB'; clear HB'
          have HD := HD'; clear HD'
          have HE := HE'; clear HE'
          have hB := hB'; clear hB'
          have hw9 : w.heap.size ≤ W9.heap.size := by omega
          have hC9 : C < W9.heap.size := by omega
          have hA9 : A < W9.heap.size := by omega
          have hB9 : B < W9.heap.size := by omega
          have hD9 : D < W9.heap.size := by omega
          have hE9 : E < W9.heap.size := by omega
          clear hsz
          obtain ⟨Cc0, Cc1, Cc2, Cc3, Cc4, Cc5, Cc6, Cc7, Cc8⟩ := id HC
          obtain ⟨Ac0, Ac1, Ac2, Ac3, Ac4, Ac5, Ac6, Ac7, Ac8⟩ := id HA
          obtain ⟨Bc0, Bc1, Bc2, Bc3, Bc4, Bc5, Bc6, Bc7, Bc8⟩ := id HB
          obtain ⟨Dc0, Dc1, Dc2, Dc3, Dc4, Dc5, Dc6, Dc7, Dc8⟩ := id HD
          obtain ⟨Ec0, Ec1, Ec2, Ec3, Ec4, Ec5, Ec6, Ec7, Ec8⟩ := id HE
          go_wp2_with fail
          refine (hBA'.out (by simp) _).mono ?_
          rintro e W10 ⟨rfl, hb⟩
          have hsz : W9.heap.size ≤ W10.heap.size := hb.size
          have hB' : Below w.heap.size w W10 := hB.trans (hb.mono (by omega))
          have HC' := HC.below hb (by omega)
          have HA' := HA.below hb (by omega)
          have HB' := HB.below hb (by omega)
          have HD' := HD.below hb (by omega)
          have HE' := HE.below hb (by omega)
          clear Cc0 Cc1 Cc2 Cc3 Cc4 Cc5 Cc6 Cc7 Cc8 HC
          clear Ac0 Ac1 Ac2 Ac3 Ac4 Ac5 Ac6 Ac7 Ac8 HA
          clear Bc0 Bc1 Bc2 Bc3 Bc4 Bc5 Bc6 Bc7 Bc8 HB
          clear Dc0 Dc1 Dc2 Dc3 Dc4 Dc5 Dc6 Dc7 Dc8 HD
          clear Ec0 Ec1 Ec2 Ec3 Ec4 Ec5 Ec6 Ec7 Ec8 HE
          clear hB hb
          have HC := HC'; clear HC'
          have HA := HA'; clear HA'
          have HB := HB'; clear HB'
          have HD := HD'; clear HD'
          have HE := HE'; clear HE'
          have hB := hB'; clear hB'
          have hw10 : w.heap.size ≤ W10.heap.size := by omega
          have hC10 : C < W10.heap.size := by omega
          have hA10 : A < W10.heap.size := by omega
          have hB10 : B < W10.heap.size := by omega
          have hD10 : D < W10.heap.size := by omega
          have hE10 : E < W10.heap.size := by omega
          clear hsz
          obtain ⟨Cc0, Cc1, Cc2, Cc3, Cc4, Cc5, Cc6, Cc7, Cc8⟩ := id HC
          obtain ⟨Ac0, Ac1, Ac2, Ac3, Ac4, Ac5, Ac6, Ac7, Ac8⟩ := id HA
          obtain ⟨Bc0, Bc1, Bc2, Bc3, Bc4, Bc5, Bc6, Bc7, Bc8⟩ := id HB
          obtain ⟨Dc0, Dc1, Dc2, Dc3, Dc4, Dc5, Dc6, Dc7, Dc8⟩ := id HD
          obtain ⟨Ec0, Ec1, Ec2, Ec3, Ec4, Ec5, Ec6, Ec7, Ec8⟩ := id HE
          go_wp2_with fail
          refine (hBC'.out (by simp) _).mono ?_
          rintro e W11 ⟨rfl, hb⟩
          have hsz : W10.heap.size ≤ W11.heap.size := hb.size
          have hB' : Below w.heap.size w W11 := hB.trans (hb.mono (by omega))
          have HC' := HC.below hb (by omega)
          have HA' := HA.below hb (by omega)
          have HB' := HB.below hb (by omega)
          have HD' := HD.below hb (by omega)
          have HE' := HE.below hb (by omega)
          clear Cc0 Cc1 Cc2 Cc3 Cc4 Cc5 Cc6 Cc7 Cc8 HC
          clear Ac0 Ac1 Ac2 Ac3 Ac4 Ac5 Ac6 Ac7 Ac8 HA
          clear Bc0 Bc1 Bc2 Bc3 Bc4 Bc5 Bc6 Bc7 Bc8 HB
          clear Dc0 Dc1 Dc2 Dc3 Dc4 Dc5 Dc6 Dc7 Dc8 HD
          clear Ec0 Ec1 Ec2 Ec3 Ec4 Ec5 Ec6 Ec7 Ec8 HE
          clear hB hb
          have HC := HC'; clear HC'
          have HA := HA'; clear HA'
          have HB := HB'; clear HB'
          have HD := HD'; clear HD'
          have HE := HE'; clear HE'
          have hB := hB'; clear hB'
          have hw11 : w.heap.size ≤ W11.heap.size := by omega
          have hC11 : C < W11.heap.size := by omega
          have hA11 : A < W11.heap.size := by omega
          have hB11 : B < W11.heap.size := by omega
          have hD11 : D < W11.heap.size := by omega
          have hE11 : E < W11.heap.size := by omega
          clear hsz
          obtain ⟨Cc0, Cc1, Cc2, Cc3, Cc4, Cc5, Cc6, Cc7, Cc8⟩ := id HC
          obtain ⟨Ac0, Ac1, Ac2, Ac3, Ac4, Ac5, Ac6, Ac7, Ac8⟩ := id HA
          obtain ⟨Bc0, Bc1, Bc2, Bc3, Bc4, Bc5, Bc6, Bc7, Bc8⟩ := id HB
          obtain ⟨Dc0, Dc1, Dc2, Dc3, Dc4, Dc5, Dc6, Dc7, Dc8⟩ := id HD
          obtain ⟨Ec0, Ec1, Ec2, Ec3, Ec4, Ec5, Ec6, Ec7, Ec8⟩ := id HE
          go_wp2_with fail
          refine (hCA'.out _).mono ?_
          rintro e W12 ⟨rfl, hb⟩
          have hsz : W11.heap.size ≤ W12.heap.size := hb.size
          have hB' : Below w.heap.size w W12 := hB.trans (hb.mono (by omega))
          have HC' := HC.below hb (by omega)
          have HA' := HA.below hb (by omega)
          have HB' := HB.below hb (by omega)
          have HD' := HD.below hb (by omega)
          have HE' := HE.below hb (by omega)
          clear Cc0 Cc1 Cc2 Cc3 Cc4 Cc5 Cc6 Cc7 Cc8 HC
          clear Ac0 Ac1 Ac2 Ac3 Ac4 Ac5 Ac6 Ac7 Ac8 HA
          clear Bc0 Bc1 Bc2 Bc3 Bc4 Bc5 Bc6 Bc7 Bc8 HB
          clear Dc0 Dc1 Dc2 Dc3 Dc4 Dc5 Dc6 Dc7 Dc8 HD
          clear Ec0 Ec1 Ec2 Ec3 Ec4 Ec5 Ec6 Ec7 Ec8 HE
          clear hB hb
          have HC := HC'; clear HC'
          have HA := HA'; clear HA'
          have HB := HB'; clear HB'
          have HD := HD'; clear HD'
          have HE := HE'; clear HE'
          have hB := hB'; clear hB'
          have hw12 : w.heap.size ≤ W12.heap.size := by omega
          have hC12 : C < W12.heap.size := by omega
          have hA12 : A < W12.heap.size := by omega
          have hB12 : B < W12.heap.size := by omega
          have hD12 : D < W12.heap.size := by omega
          have hE12 : E < W12.heap.size := by omega
          clear hsz
          obtain ⟨Cc0, Cc1, Cc2, Cc3, Cc4, Cc5, Cc6, Cc7, Cc8⟩ := id HC
          obtain ⟨Ac0, Ac1, Ac2, Ac3, Ac4, Ac5, Ac6, Ac7, Ac8⟩ := id HA
          obtain ⟨Bc0, Bc1, Bc2, Bc3, Bc4, Bc5, Bc6, Bc7, Bc8⟩ := id HB
          obtain ⟨Dc0, Dc1, Dc2, Dc3, Dc4, Dc5, Dc6, Dc7, Dc8⟩ := id HD
          obtain ⟨Ec0, Ec1, Ec2, Ec3, Ec4, Ec5, Ec6, Ec7, Ec8⟩ := id HE
          go_wp2_with fail
          go_ret
          exact ⟨rfl, by first | exact hB | exact hB.alloc (by omega) _⟩
      · obtain rfl := hcm rfl
        obtain ⟨Cc0, Cc1, Cc2, Cc3, Cc4, Cc5, Cc6, Cc7, Cc8⟩ := id HC
        obtain ⟨Ac0, Ac1, Ac2, Ac3, Ac4, Ac5, Ac6, Ac7, Ac8⟩ := id HA
        obtain ⟨Bc0, Bc1, Bc2, Bc3, Bc4, Bc5, Bc6, Bc7, Bc8⟩ := id HB
        obtain ⟨Dc0, Dc1, Dc2, Dc3, Dc4, Dc5, Dc6, Dc7, Dc8⟩ := id HD
        go_wp2_with fail
        refine (hOA'.out (by simp) _).mono ?_
        rintro e W7 ⟨rfl, hb⟩
        have hsz : W6.heap.size < W7.heap.size := by have := hb.size; simp at this; omega
        have hB' : Below w.heap.size w W7 := (hB.alloc (by omega) _).trans (hb.mono (by simp; omega))
        have HC' := (HC.allocs (by omega) _).below hb (by simp; omega)
        have HA' := (HA.allocs (by omega) _).below hb (by simp; omega)
        have HB' := (HB.allocs (by omega) _).below hb (by simp; omega)
        have HD' := (HD.allocs (by omega) _).below hb (by simp; omega)
        have HE := (Holds9.alloc W6 (.int .i64 e0) (.int .i64 e1) (.int .i64 e2) (.int .i64 e3) (.int .i64 e4) (.int .i64 e5) (.int .i64 e6) (.int .i64 e7) (.bool e8) 31).below hb (by simp)
        clear Cc0 Cc1 Cc2 Cc3 Cc4 Cc5 Cc6 Cc7 Cc8 HC
        clear Ac0 Ac1 Ac2 Ac3 Ac4 Ac5 Ac6 Ac7 Ac8 HA
        clear Bc0 Bc1 Bc2 Bc3 Bc4 Bc5 Bc6 Bc7 Bc8 HB
        clear Dc0 Dc1 Dc2 Dc3 Dc4 Dc5 Dc6 Dc7 Dc8 HD
        clear hB hb
        have HC := HC'; clear HC'
        have HA := HA'; clear HA'
        have HB := HB'; clear HB'
        have HD := HD'; clear HD'
        have hB := hB'; clear hB'
        have hw7 : w.heap.size ≤ W7.heap.size := by omega
        have hC7 : C < W7.heap.size := by omega
        have hA7 : A < W7.heap.size := by omega
        have hB7 : B < W7.heap.size := by omega
        have hD7 : D < W7.heap.size := by omega
        obtain ⟨E, eE⟩ : ∃ X, X = W6.heap.size := ⟨_, rfl⟩
        rw [← eE] at HE hsz ⊢
        have hE7 : E < W7.heap.size := hsz
        clear eE
        clear hsz
        obtain ⟨Cc0, Cc1, Cc2, Cc3, Cc4, Cc5, Cc6, Cc7, Cc8⟩ := id HC
        obtain ⟨Ac0, Ac1, Ac2, Ac3, Ac4, Ac5, Ac6, Ac7, Ac8⟩ := id HA
        obtain ⟨Bc0, Bc1, Bc2, Bc3, Bc4, Bc5, Bc6, Bc7, Bc8⟩ := id HB
        obtain ⟨Dc0, Dc1, Dc2, Dc3, Dc4, Dc5, Dc6, Dc7, Dc8⟩ := id HD
        obtain ⟨Ec0, Ec1, Ec2, Ec3, Ec4, Ec5, Ec6, Ec7, Ec8⟩ := id HE
        go_wp2_with fail
        refine (hAC'.out (by simp) _).mono ?_
        rintro e W8 ⟨rfl, hb⟩
        have hsz : W7.heap.size ≤ W8.heap.size := hb.size
        have hB' : Below w.heap.size w W8 := hB.trans (hb.mono (by omega))
        have HC' := HC.below hb (by omega)
        have HA' := HA.below hb (by omega)
        have HB' := HB.below hb (by omega)
        have HD' := HD.below hb (by omega)
        have HE' := HE.below hb (by omega)
        clear Cc0 Cc1 Cc2 Cc3 Cc4 Cc5 Cc6 Cc7 Cc8 HC
        clear Ac0 Ac1 Ac2 Ac3 Ac4 Ac5 Ac6 Ac7 Ac8 HA
        clear Bc0 Bc1 Bc2 Bc3 Bc4 Bc5 Bc6 Bc7 Bc8 HB
        clear Dc0 Dc1 Dc2 Dc3 Dc4 Dc5 Dc6 Dc7 Dc8 HD
        clear Ec0 Ec1 Ec2 Ec3 Ec4 Ec5 Ec6 Ec7 Ec8 HE
        clear hB hb
        have HC := HC'; clear HC'
        have HA := HA'; clear HA'
        have HB := HB'; clear HB'
        have HD := HD'; clear HD'
        have HE := HE'; clear HE'
        have hB := hB'; clear hB'
        have hw8 : w.heap.size ≤ W8.heap.size := by omega
        have hC8 : C < W8.heap.size := by omega
        have hA8 : A < W8.heap.size := by omega
        have hB8 : B < W8.heap.size := by omega
        have hD8 : D < W8.heap.size := by omega
        have hE8 : E < W8.heap.size := by omega
        clear hsz
        obtain ⟨Cc0, Cc1, Cc2, Cc3, Cc4, Cc5, Cc6, Cc7, Cc8⟩ := id HC
        obtain ⟨Ac0, Ac1, Ac2, Ac3, Ac4, Ac5, Ac6, Ac7, Ac8⟩ := id HA
        obtain ⟨Bc0, Bc1, Bc2, Bc3, Bc4, Bc5, Bc6, Bc7, Bc8⟩ := id HB
        obtain ⟨Dc0, Dc1, Dc2, Dc3, Dc4, Dc5, Dc6, Dc7, Dc8⟩ := id HD
        obtain ⟨Ec0, Ec1, Ec2, Ec3, Ec4, Ec5, Ec6, Ec7, Ec8⟩ := id HE
        go_wp2_with fail
        refine (hOB'.out (by simp) _).mono ?_
        rintro e W9 ⟨rfl, hb⟩
        have hsz : W8.heap.size ≤ W9.heap.size := hb.size
        have hB' : Below w.heap.size w W9 := hB.trans (hb.mono (by omega))
        have HC' := HC.below hb (by omega)
        have HA' := HA.below hb (by omega)
        have HB' := HB.below hb (by omega)
        have HD' := HD.below hb (by omega)
        have HE' := HE.below hb (by omega)
        clear Cc0 Cc1 Cc2 Cc3 Cc4 Cc5 Cc6 Cc7 Cc8 HC
        clear Ac0 Ac1 Ac2 Ac3 Ac4 Ac5 Ac6 Ac7 Ac8 HA
        clear Bc0 Bc1 Bc2 Bc3 Bc4 Bc5 Bc6 Bc7 Bc8 HB
        clear Dc0 Dc1 Dc2 Dc3 Dc4 Dc5 Dc6 Dc7 Dc8 HD
        clear Ec0 Ec1 Ec2 Ec3 Ec4 Ec5 Ec6 Ec7 Ec8 HE
        clear hB hb
        have HC := HC'; clear HC'
        have HA := HA'; clear HA'
        have HB := HB'; clear HB'
        have HD := HD'; clear HD'
        have HE := HE'; clear HE'
        have hB := hB'; clear hB'
        have hw9 : w.heap.size ≤ W9.heap.size := by omega
        have hC9 : C < W9.heap.size := by omega
        have hA9 : A < W9.heap.size := by omega
        have hB9 : B < W9.heap.size := by omega
        have hD9 : D < W9.heap.size := by omega
        have hE9 : E < W9.heap.size := by omega
        clear hsz
        obtain ⟨Cc0, Cc1, Cc2, Cc3, Cc4, Cc5, Cc6, Cc7, Cc8⟩ := id HC
        obtain ⟨Ac0, Ac1, Ac2, Ac3, Ac4, Ac5, Ac6, Ac7, Ac8⟩ := id HA
        obtain ⟨Bc0, Bc1, Bc2, Bc3, Bc4, Bc5, Bc6, Bc7, Bc8⟩ := id HB
        obtain ⟨Dc0, Dc1, Dc2, Dc3, Dc4, Dc5, Dc6, Dc7, Dc8⟩ := id HD
        obtain ⟨Ec0, Ec1, Ec2, Ec3, Ec4, Ec5, Ec6, Ec7, Ec8⟩ := id HE
        go_wp2_with fail
        refine (hBA'.out (by simp) _).mono ?_
        rintro e W10 ⟨rfl, hb⟩
        have hsz : W9.heap.size ≤ W10.heap.size := hb.size
        have hB' : Below w.heap.size w W10 := hB.trans (hb.mono (by omega))
        have HC' := HC.below hb (by omega)
        have HA' := HA.below hb (by omega)
        have HB' := HB.below hb (by omega)
        have HD' := HD.below hb (by omega)
        have HE' := HE.below hb (by omega)
        clear Cc0 Cc1 Cc2 Cc3 Cc4 Cc5 Cc6 Cc7 Cc8 HC
        clear Ac0 Ac1 Ac2 Ac3 Ac4 Ac5 Ac6 Ac7 Ac8 HA
        clear Bc0 Bc1 Bc2 Bc3 Bc4 Bc5 Bc6 Bc7 Bc8 HB
        clear Dc0 Dc1 Dc2 Dc3 Dc4 Dc5 Dc6 Dc7 Dc8 HD
        clear Ec0 Ec1 Ec2 Ec3 Ec4 Ec5 Ec6 Ec7 Ec8 HE
        clear hB hb
        have HC := HC'; clear HC'
        have HA := HA'; clear HA'
        have HB := HB'; clear HB'
        have HD := HD'; clear HD'
        have HE := HE'; clear HE'
        have hB := hB'; clear hB'
        have hw10 : w.heap.size ≤ W10.heap.size := by omega
        have hC10 : C < W10.heap.size := by omega
        have hA10 : A < W10.heap.size := by omega
        have hB10 : B < W10.heap.size := by omega
        have hD10 : D < W10.heap.size := by omega
        have hE10 : E < W10.heap.size := by omega
        clear hsz
        obtain ⟨Cc0, Cc1, Cc2, Cc3, Cc4, Cc5, Cc6, Cc7, Cc8⟩ := id HC
        obtain ⟨Ac0, Ac1, Ac2, Ac3, Ac4, Ac5, Ac6, Ac7, Ac8⟩ := id HA
        obtain ⟨Bc0, Bc1, Bc2, Bc3, Bc4, Bc5, Bc6, Bc7, Bc8⟩ := id HB
        obtain ⟨Dc0, Dc1, Dc2, Dc3, Dc4, Dc5, Dc6, Dc7, Dc8⟩ := id HD
        obtain ⟨Ec0, Ec1, Ec2, Ec3, Ec4, Ec5, Ec6, Ec7, Ec8⟩ := id HE
        go_wp2_with fail
        refine (hBC'.out (by simp) _).mono ?_
        rintro e W11 ⟨rfl, hb⟩
        have hsz : W10.heap.size ≤ W11.heap.size := hb.size
        have hB' : Below w.heap.size w W11 := hB.trans (hb.mono (by omega))
        have HC' := HC.below hb (by omega)
        have HA' := HA.below hb (by omega)
        have HB' := HB.below hb (by omega)
        have HD' := HD.below hb (by omega)
        have HE' := HE.below hb (by omega)
        clear Cc0 Cc1 Cc2 Cc3 Cc4 Cc5 Cc6 Cc7 Cc8 HC
        clear Ac0 Ac1 Ac2 Ac3 Ac4 Ac5 Ac6 Ac7 Ac8 HA
        clear Bc0 Bc1 Bc2 Bc3 Bc4 Bc5 Bc6 Bc7 Bc8 HB
        clear Dc0 Dc1 Dc2 Dc3 Dc4 Dc5 Dc6 Dc7 Dc8 HD
        clear Ec0 Ec1 Ec2 Ec3 Ec4 Ec5 Ec6 Ec7 Ec8 HE
        clear hB hb
        have HC := HC'; clear HC'
        have HA := HA'; clear HA'
        have HB := HB'; clear HB'
        have HD := HD'; clear HD'
        have HE := HE'; clear HE'
        have hB := hB'; clear hB'
        have hw11 : w.heap.size ≤ W11.heap.size := by omega
        have hC11 : C < W11.heap.size := by omega
        have hA11 : A < W11.heap.size := by omega
        have hB11 : B < W11.heap.size := by omega
        have hD11 : D < W11.heap.size := by omega
        have hE11 : E < W11.heap.size := by omega
        clear hsz
        obtain ⟨Cc0, Cc1, Cc2, Cc3, Cc4, Cc5, Cc6, Cc7, Cc8⟩ := id HC
        obtain ⟨Ac0, Ac1, Ac2, Ac3, Ac4, Ac5, Ac6, Ac7, Ac8⟩ := id HA
        obtain ⟨Bc0, Bc1, Bc2, Bc3, Bc4, Bc5, Bc6, Bc7, Bc8⟩ := id HB
        obtain ⟨Dc0, Dc1, Dc2, Dc3, Dc4, Dc5, Dc6, Dc7, Dc8⟩ := id HD
        obtain ⟨Ec0, Ec1, Ec2, Ec3, Ec4, Ec5, Ec6, Ec7, Ec8⟩ := id HE
        go_wp2_with fail
        refine (hCA'.out _).mono ?_
        rintro e W12 ⟨rfl, hb⟩
        have hsz : W11.heap.size ≤ W12.heap.size := hb.size
        have hB' : Below w.heap.size w W12 := hB.trans (hb.mono (by omega))
        have HC' := HC.below hb (by omega)
        have HA' := HA.below hb (by omega)
        have HB' := HB.below hb (by omega)
        have HD' := HD.below hb (by omega)
        have HE' := HE.below hb (by omega)
        clear Cc0 Cc1 Cc2 Cc3 Cc4 Cc5 Cc6 Cc7 Cc8 HC
        clear Ac0 Ac1 Ac2 Ac3 Ac4 Ac5 Ac6 Ac7 Ac8 HA
        clear Bc0 Bc1 Bc2 Bc3 Bc4 Bc5 Bc6 Bc7 Bc8 HB
        clear Dc0 Dc1 Dc2 Dc3 Dc4 Dc5 Dc6 Dc7 Dc8 HD
        clear Ec0 Ec1 Ec2 Ec3 Ec4 Ec5 Ec6 Ec7 Ec8 HE
        clear hB hb
        have HC := HC'; clear HC'
        have HA := HA'; clear HA'
        have HB := HB'; clear HB'
        have HD := HD'; clear HD'
        have HE := HE'; clear HE'
        have hB := hB'; clear hB'
        have hw12 : w.heap.size ≤ W12.heap.size := by omega
        have hC12 : C < W12.heap.size := by omega
        have hA12 : A < W12.heap.size := by omega
        have hB12 : B < W12.heap.size := by omega
        have hD12 : D < W12.heap.size := by omega
        have hE12 : E < W12.heap.size := by omega
        clear hsz
        obtain ⟨Cc0, Cc1, Cc2, Cc3, Cc4, Cc5, Cc6, Cc7, Cc8⟩ := id HC
        obtain ⟨Ac0, Ac1, Ac2, Ac3, Ac4, Ac5, Ac6, Ac7, Ac8⟩ := id HA
        obtain ⟨Bc0, Bc1, Bc2, Bc3, Bc4, Bc5, Bc6, Bc7, Bc8⟩ := id HB
        obtain ⟨Dc0, Dc1, Dc2, Dc3, Dc4, Dc5, Dc6, Dc7, Dc8⟩ := id HD
        obtain ⟨Ec0, Ec1, Ec2, Ec3, Ec4, Ec5, Ec6, Ec7, Ec8⟩ := id HE
        go_wp2_with fail
        refine (hDC'.out (by simp) _).mono ?_
        rintro e W13 ⟨rfl, hb⟩
        have hsz : W12.heap.size < W13.heap.size := by have := hb.size; simp at this; omega
        have hB' : Below w.heap.size w W13 := (hB.alloc (by omega) _).trans (hb.mono (by simp; omega))
        have HC' := (HC.allocs (by omega) _).below hb (by simp; omega)
        have HA' := (HA.allocs (by omega) _).below hb (by simp; omega)
        have HB' := (HB.allocs (by omega) _).below hb (by simp; omega)
        have HD' := (HD.allocs (by omega) _).below hb (by simp; omega)
        have HE' := (HE.allocs (by omega) _).below hb (by simp; omega)
        have HK := (Holds9.alloc W12 (.int .i64 a0) (.int .i64 a1) (.int .i64 a2) (.int .i64 a3) (.int .i64 a4) (.int .i64 a5) (.int .i64 a6) (.int .i64 a7) (.bool false) 31).below hb (by simp)
        clear Cc0 Cc1 Cc2 Cc3 Cc4 Cc5 Cc6 Cc7 Cc8 HC
        clear Ac0 Ac1 Ac2 Ac3 Ac4 Ac5 Ac6 Ac7 Ac8 HA
        clear Bc0 Bc1 Bc2 Bc3 Bc4 Bc5 Bc6 Bc7 Bc8 HB
        clear Dc0 Dc1 Dc2 Dc3 Dc4 Dc5 Dc6 Dc7 Dc8 HD
        clear Ec0 Ec1 Ec2 Ec3 Ec4 Ec5 Ec6 Ec7 Ec8 HE
        clear hB hb
        have HC := HC'; clear HC'
        have HA := HA'; clear HA'
        have HB := HB'; clear HB'
        have HD := HD'; clear HD'
        have HE := HE'; clear HE'
        have hB := hB'; clear hB'
        have hw13 : w.heap.size ≤ W13.heap.size := by omega
        have hC13 : C < W13.heap.size := by omega
        have hA13 : A < W13.heap.size := by omega
        have hB13 : B < W13.heap.size := by omega
        have hD13 : D < W13.heap.size := by omega
        have hE13 : E < W13.heap.size := by omega
        obtain ⟨K, eK⟩ : ∃ X, X = W12.heap.size := ⟨_, rfl⟩
        rw [← eK] at HK hsz ⊢
        have hK13 : K < W13.heap.size := hsz
        clear eK
        clear hsz
        obtain ⟨Cc0, Cc1, Cc2, Cc3, Cc4, Cc5, Cc6, Cc7, Cc8⟩ := id HC
        obtain ⟨Ac0, Ac1, Ac2, Ac3, Ac4, Ac5, Ac6, Ac7, Ac8⟩ := id HA
        obtain ⟨Bc0, Bc1, Bc2, Bc3, Bc4, Bc5, Bc6, Bc7, Bc8⟩ := id HB
        obtain ⟨Dc0, Dc1, Dc2, Dc3, Dc4, Dc5, Dc6, Dc7, Dc8⟩ := id HD
        obtain ⟨Ec0, Ec1, Ec2, Ec3, Ec4, Ec5, Ec6, Ec7, Ec8⟩ := id HE
        obtain ⟨Kc0, Kc1, Kc2, Kc3, Kc4, Kc5, Kc6, Kc7, Kc8⟩ := id HK
        go_wp2_with fail
        refine (hEC'.out (by simp) _).mono ?_
        rintro e W14 ⟨rfl, hb⟩
        have hsz : W13.heap.size ≤ W14.heap.size := hb.size
        have hB' : Below w.heap.size w W14 := hB.trans (hb.mono (by omega))
        have HC' := HC.below hb (by omega)
        have HA' := HA.below hb (by omega)
        have HB' := HB.below hb (by omega)
        have HD' := HD.below hb (by omega)
        have HE' := HE.below hb (by omega)
        have HK' := HK.below hb (by omega)
        clear Cc0 Cc1 Cc2 Cc3 Cc4 Cc5 Cc6 Cc7 Cc8 HC
        clear Ac0 Ac1 Ac2 Ac3 Ac4 Ac5 Ac6 Ac7 Ac8 HA
        clear Bc0 Bc1 Bc2 Bc3 Bc4 Bc5 Bc6 Bc7 Bc8 HB
        clear Dc0 Dc1 Dc2 Dc3 Dc4 Dc5 Dc6 Dc7 Dc8 HD
        clear Ec0 Ec1 Ec2 Ec3 Ec4 Ec5 Ec6 Ec7 Ec8 HE
        clear Kc0 Kc1 Kc2 Kc3 Kc4 Kc5 Kc6 Kc7 Kc8 HK
        clear hB hb
        have HC := HC'; clear HC'
        have HA := HA'; clear HA'
        have HB := HB'; clear HB'
        have HD := HD'; clear HD'
        have HE := HE'; clear HE'
        have HK := HK'; clear HK'
        have hB := hB'; clear hB'
        have hw14 : w.heap.size ≤ W14.heap.size := by omega
        have hC14 : C < W14.heap.size := by omega
        have hA14 : A < W14.heap.size := by omega
        have hB14 : B < W14.heap.size := by omega
        have hD14 : D < W14.heap.size := by omega
        have hE14 : E < W14.heap.size := by omega
        have hK14 : K < W14.heap.size := by omega
        clear hsz
        obtain ⟨Cc0, Cc1, Cc2, Cc3, Cc4, Cc5, Cc6, Cc7, Cc8⟩ := id HC
        obtain ⟨Ac0, Ac1, Ac2, Ac3, Ac4, Ac5, Ac6, Ac7, Ac8⟩ := id HA
        obtain ⟨Bc0, Bc1, Bc2, Bc3, Bc4, Bc5, Bc6, Bc7, Bc8⟩ := id HB
        obtain ⟨Dc0, Dc1, Dc2, Dc3, Dc4, Dc5, Dc6, Dc7, Dc8⟩ := id HD
        obtain ⟨Ec0, Ec1, Ec2, Ec3, Ec4, Ec5, Ec6, Ec7, Ec8⟩ := id HE
        obtain ⟨Kc0, Kc1, Kc2, Kc3, Kc4, Kc5, Kc6, Kc7, Kc8⟩ := id HK
        go_wp2_with fail
        go_ret
        exact ⟨rfl, by first | exact hB | exact hB.alloc (by omega) _⟩

end Go.Proofs.Ytaebcaajcolnfaa
