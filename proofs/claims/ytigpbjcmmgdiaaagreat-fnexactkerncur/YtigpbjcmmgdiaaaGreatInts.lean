/-
 Rows of numbers: what the laws' copy, size and compare of them answer, and the compares of the program and of the specification.
-/
import Derived.Test.YtigpbjcmmgdiaaaGreatBb
namespace Go.Proofs.YtigpbjcmmgdiaaaGreat
open Go.ChangeShapes Go.WideShapes Go.ChangeAt Go.RowKit
set_option linter.unusedVariables false

/-- How far two rows are the same. -/
def sameTo {α : Type} (L M : List α) (k : Nat) : Prop := L.take k = M.take k
theorem sameTo_next {α : Type} {L M : List α} {k : Nat} (h : sameTo L M k) (h1 : k < L.length) (h2 : k < M.length) (e : L[k] = M[k]) : sameTo L M (k + 1) := by
 unfold sameTo at *
 rw [List.take_succ_eq_append_getElem h1, List.take_succ_eq_append_getElem h2, h, e]
theorem sameTo_end {α : Type} {L M : List α} {k : Nat} (h : sameTo L M k) (h1 : L.length ≤ k) (h2 : L.length = M.length) : L = M := by
 unfold sameTo at h
 rwa [List.take_of_length_le h1, List.take_of_length_le (by omega)] at h
theorem ne_at {α : Type} {L M : List α} {k : Nat} (h1 : k < L.length) (h2 : k < M.length) (e : L[k] ≠ M[k]) : L ≠ M := fun h => e (by subst h; rfl)

/-- What is left of a number, or -1. -/
def szR (t a : Int) : Int := if t ≤ a then a - t else -1
theorem szR_pos {t a : Int} (h : t ≤ a) : szR t a = a - t := if_pos h
theorem szR_neg {t a : Int} (h : ¬ t ≤ a) : szR t a = -1 := if_neg h

/-- Numbers, one cell each. -/
def fI : Form Int := ⟨1, fun a => [.int .i64 a], fun _ => rfl, by decide⟩
theorem atI {W : World} {B O : Nat} {L : List Int} (h : LiesG fI W (some ⟨B, O, none⟩) L) {k : Nat} (hk : k < L.length) : W.cell? ⟨B, O + k, none⟩ = some (.int .i64 L[k]) := by
 have := h.at hk 0 _ rfl
 simpa [fI] using this
theorem infoI : (Tryz.prog.info? 3).map (fun i => (i.zero, i.size, i.bytes)) = some (some (.int .i64 0), 1, 8) := by kernel_rfl
theorem makeI (n : Nat) (hn : n ≤ 1048577) (w : World) :
  (Instr.makeSlice 27 (.int .i64 (n : Int)) (.int .i64 (n : Int))).run Tryz.prog w = .ok (.slice (some ⟨w.heap.size, 0, none⟩) n n) (w.alloc (.cells (madeCells #[.int .i64 0] (n * fI.n)) 3)) := by
 obtain ⟨i, hi, hzz⟩ := Option.map_eq_some_iff.1 infoI
 simp only [Prod.mk.injEq] at hzz
 obtain ⟨hz, hs, hb⟩ := hzz
 have := run_make (P := Tryz.prog) w 27 3 i _ Tryz.underlying27 hi hz .i64 .i64 n n (by omega) (Int.le_refl _) (by rw [hb]; omega) (by omega)
 rw [hs] at this
 exact this

/-- What stands between two rounds: the first k are copied. -/
def toIInv (w : World) (L : List Int) (i : Value) (w' : World) : Prop :=
 ∃ k : Nat, k ≤ L.length ∧ i = .int .i64 k ∧ LiesG fI w' (some ⟨w.heap.size, 0, none⟩) (L.take k) ∧ RoomG fI w' w.heap.size L.length ∧ Below w.heap.size w w'

set_option maxRecDepth 100000 in
set_option maxHeartbeats 1000000 in
theorem toI_any (P : Option Addr) (c : Nat) (L : List Int) (w : World) (hl : L.length ≤ 1048576) (h : LiesG fI w P L) :
  Calls Tryz.prog 61 #[.slice P L.length c] w fun e w' => e = .returned (.slice (some ⟨w.heap.size, 0, none⟩) L.length L.length) ∧ LiesG fI w' (some ⟨w.heap.size, 0, none⟩) L ∧ w.heap.size < w'.heap.size ∧ Below w.heap.size w w' := by
 have hmk := makeI L.length (by omega)
 go_enter Tryz.func61, Tryz.ntmps61
 go_wp2
 go_loopw [4] (fun i w' => toIInv w L i w') (fun i w' => L.length - (intOf i).toNat)
 case atStart =>
  exact ⟨0, Nat.zero_le _, rfl, LiesG.nil _ _ _, RoomG.new _ _ _ _ _, (Below.refl _ _).alloc (Nat.le_refl _) _⟩
 case round =>
  clear hmk
  obtain ⟨k, hk, rfl, hT, hR, hB⟩ := hrel
  have hL := h.below hB
  by_cases hlt : k < L.length
  ·obtain ⟨B, O, rfl⟩ := hL.has hlt
   have c0 := atI hL hlt
   generalize hs : L[k] = s at c0
   have HS : Hid _ := hs
   clear hs
   have zz := hR.z
   obtain ⟨v0, e0⟩ := Option.isSome_iff_exists.1 (hR.c k (by simp [fI]; omega))
   have hk1 : (k : Int) < (L.length : Int) := by omega
   go_wp2
   go_roundw
   case measure => simp [intOf]; omega
   case rel =>
    have ht : (L.take k).length = k := by simp; omega
    have e1 := hT.snoc hR s (by omega)
    rw [ht, ← HS.out, ← List.take_succ_eq_append_getElem hlt, HS.out] at e1
    have e2 : k * fI.n = k := Nat.mul_one k
    have e3 := hR.set (fI.cel s) (O := k) (by simp [fI]; omega)
    rw [e2] at e1
    exact ⟨k + 1, by omega, by go_num, e1, e3, hB.setCell (Nat.le_refl _) _⟩
  ·go_wp2
   go_ret
   rw [List.take_of_length_le (by omega)] at hT
   exact ⟨rfl, hT, hR.lt, hB⟩

set_option maxHeartbeats 1000000 in
theorem szI_any (P : Option Addr) (c n : Nat) (a : Int) (w : World) (ha : 0 ≤ a) (ha2 : a ≤ 1048576) (hm : n ≤ 9223372036854775807) :
  Calls Tryz.prog 51 #[.slice P n c, .int .i64 a] w fun e w' => e = .returned (.int .i64 (szR (n : Int) a)) ∧ w = w' := by
 by_cases h : (n : Int) ≤ a
 ·have h1 : ¬ a - (n : Int) < 0 := by omega
  have h2 : 0 ≤ a - (n : Int) := by omega
  rw [szR_pos h]
  go_enter Tryz.func51, Tryz.ntmps51
  go_wp2
  go_ret
  exact ⟨rfl, rfl⟩
 ·have h1 : a - (n : Int) < 0 := by omega
  rw [szR_neg h]
  go_enter Tryz.func51, Tryz.ntmps51
  go_wp2
  go_ret
  exact ⟨rfl, rfl⟩

def eqIlawInv (w : World) (L M : List Int) (i : Value) (w' : World) : Prop :=
 ∃ k : Nat, k ≤ L.length ∧ i = .int .i64 k ∧ sameTo L M k ∧ Below w.heap.size w w'

set_option maxRecDepth 100000 in
set_option maxHeartbeats 1000000 in
theorem eqI_law (P Q : Option Addr) (c d : Nat) (L M : List Int) (w : World) (hl : L.length ≤ 1048576) (hm : M.length ≤ 1048576) (hP : LiesG fI w P L) (hQ : LiesG fI w Q M) :
  Calls Tryz.prog 78 #[.slice P L.length c, .slice Q M.length d] w fun e w' => e = .returned (.bool (decide (L = M))) ∧ Below w.heap.size w w' := by
 by_cases hn : (L.length : Int) = (M.length : Int)
 ·have hn1 : L.length = M.length := by omega
  have HN : Hid _ := hn1
  clear hn1
  go_enter Tryz.func78, Tryz.ntmps78
  go_wp2
  go_loopw [5] (fun i w' => eqIlawInv w L M i w') (fun i w' => L.length - (intOf i).toNat)
  case atStart => exact ⟨0, Nat.zero_le _, rfl, rfl, Below.refl _ _⟩
  case round =>
   obtain ⟨k, hk, rfl, hsm, hB⟩ := hrel
   have hP1 := hP.below hB
   have hQ1 := hQ.below hB
   by_cases hlt : k < L.length
   ·have hlt2 : k < M.length := by have := HN.out; omega
    obtain ⟨B, O, rfl⟩ := hP1.has hlt
    obtain ⟨B2, O2, rfl⟩ := hQ1.has hlt2
    have c0 := atI hP1 hlt
    have d0 := atI hQ1 hlt2
    have hk1 : (k : Int) < (L.length : Int) := by omega
    have hk2 : (k : Int) < (M.length : Int) := by omega
    obtain ⟨x, hx⟩ : ∃ x, L[k] = x := ⟨_, rfl⟩
    obtain ⟨y, hy⟩ : ∃ y, M[k] = y := ⟨_, rfl⟩
    rw [hx] at c0
    rw [hy] at d0
    have HX : Hid _ := hx
    have HY : Hid _ := hy
    clear hx hy
    cases he : (x == y)
    ·go_wp2
     go_quiet (fail)
     all_goals go_wp2
     all_goals go_ret
     all_goals exact ⟨ret_bool (decide_eq_false (ne_at hlt hlt2 (by rw [HX.out, HY.out]; simpa using he))).symm, by first | exact belowG_drewN hB _ | exact hB.drew | exact hB⟩
    ·go_wp2
     go_quiet (fail)
     all_goals go_wp2
     all_goals go_roundw
     case rel => exact ⟨k + 1, by omega, by go_num, sameTo_next hsm hlt hlt2 (by rw [HX.out, HY.out]; simpa using he), by first | exact belowG_drewN hB _ | exact hB.drew | exact hB⟩
     case measure => simp [intOf]; omega
   ·have hk1 : ¬ (k : Int) < (L.length : Int) := by omega
    go_wp2
    go_ret
    exact ⟨ret_bool (decide_eq_true (sameTo_end hsm (by omega) HN.out)).symm, hB⟩
 ·go_enter Tryz.func78, Tryz.ntmps78
  go_wp2
  go_ret
  exact ⟨ret_bool (decide_eq_false (fun e => hn (by rw [e]))).symm, Below.refl _ _⟩

/-- Numbers, one cell each. -/
def fU : Form Int := ⟨1, fun a => [.int .u32 a], fun _ => rfl, by decide⟩
theorem atU {W : World} {B O : Nat} {L : List Int} (h : LiesG fU W (some ⟨B, O, none⟩) L) {k : Nat} (hk : k < L.length) : W.cell? ⟨B, O + k, none⟩ = some (.int .u32 L[k]) := by
 have := h.at hk 0 _ rfl
 simpa [fU] using this
theorem infoU : (Tryz.prog.info? 47).map (fun i => (i.zero, i.size, i.bytes)) = some (some (.int .u32 0), 1, 4) := by kernel_rfl
theorem makeU (n : Nat) (hn : n ≤ 1048577) (w : World) :
  (Instr.makeSlice 103 (.int .i64 (n : Int)) (.int .i64 (n : Int))).run Tryz.prog w = .ok (.slice (some ⟨w.heap.size, 0, none⟩) n n) (w.alloc (.cells (madeCells #[.int .u32 0] (n * fU.n)) 47)) := by
 obtain ⟨i, hi, hzz⟩ := Option.map_eq_some_iff.1 infoU
 simp only [Prod.mk.injEq] at hzz
 obtain ⟨hz, hs, hb⟩ := hzz
 have := run_make (P := Tryz.prog) w 103 47 i _ Tryz.underlying103 hi hz .i64 .i64 n n (by omega) (Int.le_refl _) (by rw [hb]; omega) (by omega)
 rw [hs] at this
 exact this

/-- What stands between two rounds: the first k are copied. -/
def toUInv (w : World) (L : List Int) (i : Value) (w' : World) : Prop :=
 ∃ k : Nat, k ≤ L.length ∧ i = .int .i64 k ∧ LiesG fU w' (some ⟨w.heap.size, 0, none⟩) (L.take k) ∧ RoomG fU w' w.heap.size L.length ∧ Below w.heap.size w w'

set_option maxRecDepth 100000 in
set_option maxHeartbeats 1000000 in
theorem toU_any (P : Option Addr) (c : Nat) (L : List Int) (w : World) (hl : L.length ≤ 1048576) (h : LiesG fU w P L) :
  Calls Tryz.prog 98 #[.slice P L.length c] w fun e w' => e = .returned (.slice (some ⟨w.heap.size, 0, none⟩) L.length L.length) ∧ LiesG fU w' (some ⟨w.heap.size, 0, none⟩) L ∧ w.heap.size < w'.heap.size ∧ Below w.heap.size w w' := by
 have hmk := makeU L.length (by omega)
 go_enter Tryz.func98, Tryz.ntmps98
 go_wp2
 go_loopw [4] (fun i w' => toUInv w L i w') (fun i w' => L.length - (intOf i).toNat)
 case atStart =>
  exact ⟨0, Nat.zero_le _, rfl, LiesG.nil _ _ _, RoomG.new _ _ _ _ _, (Below.refl _ _).alloc (Nat.le_refl _) _⟩
 case round =>
  clear hmk
  obtain ⟨k, hk, rfl, hT, hR, hB⟩ := hrel
  have hL := h.below hB
  by_cases hlt : k < L.length
  ·obtain ⟨B, O, rfl⟩ := hL.has hlt
   have c0 := atU hL hlt
   generalize hs : L[k] = s at c0
   have HS : Hid _ := hs
   clear hs
   have zz := hR.z
   obtain ⟨v0, e0⟩ := Option.isSome_iff_exists.1 (hR.c k (by simp [fU]; omega))
   have hk1 : (k : Int) < (L.length : Int) := by omega
   go_wp2
   go_roundw
   case measure => simp [intOf]; omega
   case rel =>
    have ht : (L.take k).length = k := by simp; omega
    have e1 := hT.snoc hR s (by omega)
    rw [ht, ← HS.out, ← List.take_succ_eq_append_getElem hlt, HS.out] at e1
    have e2 : k * fU.n = k := Nat.mul_one k
    have e3 := hR.set (fU.cel s) (O := k) (by simp [fU]; omega)
    rw [e2] at e1
    exact ⟨k + 1, by omega, by go_num, e1, e3, hB.setCell (Nat.le_refl _) _⟩
  ·go_wp2
   go_ret
   rw [List.take_of_length_le (by omega)] at hT
   exact ⟨rfl, hT, hR.lt, hB⟩

set_option maxHeartbeats 1000000 in
theorem szU_any (P : Option Addr) (c n : Nat) (a : Int) (w : World) (ha : 0 ≤ a) (ha2 : a ≤ 1048576) (hm : n ≤ 9223372036854775807) :
  Calls Tryz.prog 83 #[.slice P n c, .int .i64 a] w fun e w' => e = .returned (.int .i64 (szR (n : Int) a)) ∧ w = w' := by
 by_cases h : (n : Int) ≤ a
 ·have h1 : ¬ a - (n : Int) < 0 := by omega
  have h2 : 0 ≤ a - (n : Int) := by omega
  rw [szR_pos h]
  go_enter Tryz.func83, Tryz.ntmps83
  go_wp2
  go_ret
  exact ⟨rfl, rfl⟩
 ·have h1 : a - (n : Int) < 0 := by omega
  rw [szR_neg h]
  go_enter Tryz.func83, Tryz.ntmps83
  go_wp2
  go_ret
  exact ⟨rfl, rfl⟩

def eqUlawInv (w : World) (L M : List Int) (i : Value) (w' : World) : Prop :=
 ∃ k : Nat, k ≤ L.length ∧ i = .int .i64 k ∧ sameTo L M k ∧ Below w.heap.size w w'

set_option maxRecDepth 100000 in
set_option maxHeartbeats 1000000 in
theorem eqU_law (P Q : Option Addr) (c d : Nat) (L M : List Int) (w : World) (hl : L.length ≤ 1048576) (hm : M.length ≤ 1048576) (hP : LiesG fU w P L) (hQ : LiesG fU w Q M) :
  Calls Tryz.prog 134 #[.slice P L.length c, .slice Q M.length d] w fun e w' => e = .returned (.bool (decide (L = M))) ∧ Below w.heap.size w w' := by
 by_cases hn : (L.length : Int) = (M.length : Int)
 ·have hn1 : L.length = M.length := by omega
  have HN : Hid _ := hn1
  clear hn1
  go_enter Tryz.func134, Tryz.ntmps134
  go_wp2
  go_loopw [5] (fun i w' => eqUlawInv w L M i w') (fun i w' => L.length - (intOf i).toNat)
  case atStart => exact ⟨0, Nat.zero_le _, rfl, rfl, Below.refl _ _⟩
  case round =>
   obtain ⟨k, hk, rfl, hsm, hB⟩ := hrel
   have hP1 := hP.below hB
   have hQ1 := hQ.below hB
   by_cases hlt : k < L.length
   ·have hlt2 : k < M.length := by have := HN.out; omega
    obtain ⟨B, O, rfl⟩ := hP1.has hlt
    obtain ⟨B2, O2, rfl⟩ := hQ1.has hlt2
    have c0 := atU hP1 hlt
    have d0 := atU hQ1 hlt2
    have hk1 : (k : Int) < (L.length : Int) := by omega
    have hk2 : (k : Int) < (M.length : Int) := by omega
    obtain ⟨x, hx⟩ : ∃ x, L[k] = x := ⟨_, rfl⟩
    obtain ⟨y, hy⟩ : ∃ y, M[k] = y := ⟨_, rfl⟩
    rw [hx] at c0
    rw [hy] at d0
    have HX : Hid _ := hx
    have HY : Hid _ := hy
    clear hx hy
    cases he : (x == y)
    ·go_wp2
     go_quiet (fail)
     all_goals go_wp2
     all_goals go_ret
     all_goals exact ⟨ret_bool (decide_eq_false (ne_at hlt hlt2 (by rw [HX.out, HY.out]; simpa using he))).symm, by first | exact belowG_drewN hB _ | exact hB.drew | exact hB⟩
    ·go_wp2
     go_quiet (fail)
     all_goals go_wp2
     all_goals go_roundw
     case rel => exact ⟨k + 1, by omega, by go_num, sameTo_next hsm hlt hlt2 (by rw [HX.out, HY.out]; simpa using he), by first | exact belowG_drewN hB _ | exact hB.drew | exact hB⟩
     case measure => simp [intOf]; omega
   ·have hk1 : ¬ (k : Int) < (L.length : Int) := by omega
    go_wp2
    go_ret
    exact ⟨ret_bool (decide_eq_true (sameTo_end hsm (by omega) HN.out)).symm, hB⟩
 ·go_enter Tryz.func134, Tryz.ntmps134
  go_wp2
  go_ret
  exact ⟨ret_bool (decide_eq_false (fun e => hn (by rw [e]))).symm, Below.refl _ _⟩

end Go.Proofs.YtigpbjcmmgdiaaaGreat
