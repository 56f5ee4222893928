/-
  What TreeFind of the specification and of the program answer.
-/
import Derived.Test.YtalncgmncafhjaaTreeOkImpl
import Derived.Test.YtalncgmncafhjaaTreeOkSpec
namespace Go.Proofs.Ytalncgmncafhjaa
open Go.ChangeShapes Go.WideShapes Go.ChangeAt Go.RowKit
set_option linter.unusedVariables false

/-- The place of an At in a tree. -/
def findT (L : List Sl) (x : Int) : Int := if treeB L = true then findI L x else -1

theorem treeOkSpec_to (P : Option Addr) (n c : Nat) (L : List Sl) (x : Bool) (w : World) (hn : n = L.length) (hl : n ≤ 1048576) (hcap : n ≤ c) (hcm : c ≤ 9223372036854775807) (h : Lies w P L) (ht : treeB L = x) :
    Calls Try.prog 18 #[.slice P n c] w fun e w' => e = .returned (.bool x) ∧ Below w.heap.size w w' := by
  have := treeOkSpec_any P n c L w hn hl hcap hcm h; rw [ht] at this; exact this
theorem treeOkImpl_to (P : Option Addr) (n c : Nat) (L : List Sl) (x : Bool) (w : World) (hn : n = L.length) (hl : n ≤ 1048576) (hcap : n ≤ c) (hcm : c ≤ 9223372036854775807) (h : Lies w P L) (hfit : ∀ s ∈ L, s.Fit) (ht : treeB L = x) :
    Calls Try.prog 11 #[.slice P n c] w fun e w' => e = .returned (.bool x) ∧ Below w.heap.size w w' := by
  have := treeOkImpl_any P n c L w hn hl hcap hcm h hfit; rw [ht] at this; exact this


set_option maxRecDepth 100000 in
set_option maxHeartbeats 400000 in
theorem find1_any (s : Sl) (x : Int) (A : Nat) (y : Bool) (w : World) (hA : w.cell? ⟨A, 0, none⟩ = some (.int .i64 x)) (hy : (s.t == x) = y) :
    Calls Try.prog 26 #[.agg #[.int .i64 s.t, .int .i64 s.k, .int .i64 s.e, .int .i64 s.b, .int .i64 s.r, .int .i64 s.d, .int .i64 s.g, .int .i64 s.q, .int .i64 s.f, .bool s.o, .int .i64 s.p], .pointer (some ⟨A, 0, none⟩)] w fun e w' => e = .returned (.bool y) ∧ Below w.heap.size w w' := by
  have hlt : A < w.heap.size := block_lt_of_cell hA
  go_enter Try.func26, Try.ntmps26
  go_wp2
  go_ret
  exact ⟨rfl, by go_grown⟩

/-- What stands between two rounds. -/
def findInv (w : World) (P : Option Addr) (L : List Sl) (x : Int) (i : Value) (w' : World) : Prop :=
  ∃ k : Nat, k ≤ L.length ∧ i = .int .i64 k ∧ (∀ j (hj : j < k) (hk : k ≤ L.length), L[j].t ≠ x) ∧ Below w.heap.size w w'

set_option maxRecDepth 100000 in
set_option maxHeartbeats 1000000 in
theorem indexFunc_any (P : Option Addr) (n c : Nat) (x : Int) (A : Nat) (L : List Sl) (w : World) (hn : n = L.length) (hl : n ≤ 1048576) (h : Lies w P L) (hA : w.cell? ⟨A, 0, none⟩ = some (.int .i64 x)) :
    Calls Try.prog 25 #[.slice P n c, .func (.func 26) #[] #[.pointer (some ⟨A, 0, none⟩)]] w fun e w' => e = .returned (.int .i64 (findI L x)) ∧ Below w.heap.size w w' := by
  subst hn
  have hlt0 : A < w.heap.size := block_lt_of_cell hA
  go_enter Try.func25, Try.ntmps25
  go_wp2
  go_loopw [8] (fun i w' => findInv w P L x i w') (fun i w' => L.length - (intOf i).toNat)
  case atStart => exact ⟨0, Nat.zero_le _, rfl, fun j hj => absurd hj (Nat.not_lt_zero _), Below.refl _ _⟩
  case round =>
    obtain ⟨k, hk, rfl, hne, hB⟩ := hrel
    have hL := h.below hB
    have hA1 : wr.cell? ⟨A, 0, none⟩ = some (.int .i64 x) := ((bcell hB).1 _ _ hlt0).trans hA
    by_cases hlt : k < L.length
    · obtain ⟨B, O, rfl⟩ := hL.some hlt
      obtain ⟨s, hs⟩ : ∃ s, L[k] = s := ⟨_, rfl⟩
      have hc := hL.cells B O rfl k hlt
      rw [hs] at hc
      have HS : Hid (L[k] = s) := hs
      clear hs
      obtain ⟨c0, c1, c2, c3, c4, c5, c6, c7, c8, c9, c10⟩ := hc
      cases he : (s.t == x)
      · go_wp2_with (first
          | (go_at_call 26; refine (find1_any _ x A _ _ hA1 he).mono ?_; rintro e w1 ⟨rfl, hb1⟩))
        go_roundw
        case rel =>
          refine ⟨k + 1, by omega, by go_num, fun j hj hk1 => ?_, hB.trans (hb1.mono hB.size)⟩
          rcases Nat.lt_succ_iff_lt_or_eq.1 hj with h1 | h1
          · exact hne j h1 (by omega)
          · subst h1; rw [HS.out]; simpa using he
        case measure => simp [intOf]; omega
      · go_wp2_with (first
          | (go_at_call 26; refine (find1_any _ x A _ _ hA1 he).mono ?_; rintro e w1 ⟨rfl, hb1⟩))
        go_ret
        exact ⟨ret_int (findI_at L x k hlt (by rw [HS.out]; simpa using he) (fun i hi => hne i hi (by omega))).symm, hB.trans (hb1.mono hB.size)⟩
    · go_wp2
      go_ret
      exact ⟨ret_int (findI_no L x (fun i hi => hne i (by omega) hk)).symm, hB⟩

set_option maxRecDepth 100000 in
set_option maxHeartbeats 400000 in
theorem treeFindImpl_any (P : Option Addr) (n c : Nat) (x : Int) (L : List Sl) (w : World) (hn : n = L.length) (hl : n ≤ 1048576) (hcap : n ≤ c) (hcm : c ≤ 9223372036854775807) (h : Lies w P L) (hfit : ∀ s ∈ L, s.Fit) :
    Calls Try.prog 9 #[.slice P n c, .int .i64 x] w fun e w' => e = .returned (.int .i64 (findT L x)) ∧ Below w.heap.size w w' := by
  subst hn
  have hb0 : Below w.heap.size w (w.alloc (.cells #[.int .i64 x] 3)) := (Below.refl _ _).alloc (Nat.le_refl _) _
  have h0 := h.below hb0
  have hA0 : (w.alloc (.cells #[.int .i64 x] 3)).cell? ⟨w.heap.size, 0, none⟩ = some (.int .i64 x) := by go_simp
  cases ht : treeB L
  · go_enter Try.func9, Try.ntmps9
    go_wp2_with (first
      | (go_at_call 11; refine (treeOkImpl_to _ _ _ L _ _ rfl hl hcap hcm h0 hfit ht).mono ?_; rintro e w1 ⟨rfl, hb1⟩))
    go_ret
    exact ⟨ret_int (by simp [findT, ht]), hb0.trans (hb1.mono (by simp))⟩
  · go_enter Try.func9, Try.ntmps9
    go_wp2_with (first
      | (go_at_call 11; refine (treeOkImpl_to _ _ _ L _ _ rfl hl hcap hcm h0 hfit ht).mono ?_; rintro e w1 ⟨rfl, hb1⟩; have hA1 := ((bcell hb1).1 _ _ (block_lt_of_cell hA0)).trans hA0)
      | (go_at_call 25; refine (indexFunc_any _ _ _ _ _ L _ rfl hl (h0.below hb1) hA1).mono ?_; rintro e w2 ⟨rfl, hb2⟩))
    go_ret
    exact ⟨ret_int (by simp [findT, ht]), hb0.trans ((hb1.trans (hb2.mono hb1.size)).mono (by simp))⟩

end Go.Proofs.Ytalncgmncafhjaa
