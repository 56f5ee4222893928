/-
  Texts of the proof, put together: ThreadEq, Threads3.
-/
import Derived.Test.YtigpbjcmmgdiaaaGreatBd
import Derived.Test.YtigpbjcmmgdiaaaGreatThreadTo
/-
 Two threads, compared by the laws.
-/
namespace Go.Proofs.YtigpbjcmmgdiaaaGreat
open Go.ChangeShapes Go.WideShapes Go.ChangeAt Go.RowKit
set_option linter.unusedVariables false

set_option maxRecDepth 100000 in
set_option maxHeartbeats 4000000 in
theorem eqT1_same (e : QT) (w : World) :
  Calls Tryz.prog 15 #[.agg #[.int .i64 e.a0, .int .i64 e.a1, .int .i64 e.a2, .int .i64 e.a3, .int .i64 e.a4, .int .i64 e.a5, .int .i64 e.a6, .int .u32 e.a7, .int .i64 e.a8, .int .u32 e.a9, .int .u32 e.a10, .int .u32 e.a11, .int .u32 e.a12, .int .i64 e.a13, .int .u32 e.a14], .agg #[.int .i64 e.a0, .int .i64 e.a1, .int .i64 e.a2, .int .i64 e.a3, .int .i64 e.a4, .int .i64 e.a5, .int .i64 e.a6, .int .u32 e.a7, .int .i64 e.a8, .int .u32 e.a9, .int .u32 e.a10, .int .u32 e.a11, .int .u32 e.a12, .int .i64 e.a13, .int .u32 e.a14]] w fun r w' => r = .returned (.bool true) ∧ Below w.heap.size w w' := by
 go_enter Tryz.func15, Tryz.ntmps15
 go_wp2_with ((go_at_call 43; refine (eqA3_same _ _ _ _).mono ?_; rintro r w1 ⟨rfl, hb⟩; obtain ⟨hc, hf⟩ := bcell hb; have hz1 : w.heap.size + 2 ≤ w1.heap.size := (by have := hb.size; simp at this; omega)))
 go_ret
 exact ⟨rfl, Below.trans (by repeat (first | exact Below.refl _ _ | (refine Below.setCell ?_ (by simp; try omega) _) | (refine Below.alloc ?_ (by simp; try omega) _))) (hb.mono (by simp; try omega))⟩

end Go.Proofs.YtigpbjcmmgdiaaaGreat
/-
 Rows of threads: copies, sizes and compares of the laws.
-/
namespace Go.Proofs.YtigpbjcmmgdiaaaGreat
open Go.ChangeShapes Go.WideShapes Go.ChangeAt Go.RowKit
set_option linter.unusedVariables false

theorem infoT : (Tryz.prog.info? 50).map (fun i => (i.zero, i.size, i.bytes)) = some (some (.agg #[.int .i64 0, .int .i64 0, .int .i64 0, .int .i64 0, .int .i64 0, .int .i64 0, .int .i64 0, .int .u32 0, .int .i64 0, .int .u32 0, .int .u32 0, .int .u32 0, .int .u32 0, .int .i64 0, .int .u32 0]), 15, 104) := by kernel_rfl
theorem makeT (n : Nat) (hn : n ≤ 1048577) (w : World) :
  (Instr.makeSlice 37 (.int .i64 (n : Int)) (.int .i64 (n : Int))).run Tryz.prog w = .ok (.slice (some ⟨w.heap.size, 0, none⟩) n n) (w.alloc (.cells (madeCells #[.int .i64 0, .int .i64 0, .int .i64 0, .int .i64 0, .int .i64 0, .int .i64 0, .int .i64 0, .int .u32 0, .int .i64 0, .int .u32 0, .int .u32 0, .int .u32 0, .int .u32 0, .int .i64 0, .int .u32 0] (n * fT.n)) 50)) := by
 obtain ⟨i, hi, hzz⟩ := Option.map_eq_some_iff.1 infoT
 simp only [Prod.mk.injEq] at hzz
 obtain ⟨hz, hs, hb⟩ := hzz
 have := run_make (P := Tryz.prog) w 37 50 i _ Tryz.underlying37 hi hz .i64 .i64 n n (by omega) (Int.le_refl _) (by rw [hb]; omega) (by omega)
 rw [hs] at this
 exact this

def toTInv (w : World) (L : List QT) (i : Value) (w' : World) : Prop :=
 ∃ k : Nat, k ≤ L.length ∧ i = .int .i64 k ∧ LiesG fT w' (some ⟨w.heap.size, 0, none⟩) (L.take k) ∧ RoomG fT w' w.heap.size L.length ∧ Below w.heap.size w w'

set_option maxRecDepth 100000 in
set_option maxHeartbeats 2000000 in
theorem toT_any (P : Option Addr) (c : Nat) (L : List QT) (w : World) (hl : L.length ≤ 1048576) (h : LiesG fT w P L) :
  Calls Tryz.prog 29 #[.slice P L.length c] w fun r w' => r = .returned (.slice (some ⟨w.heap.size, 0, none⟩) L.length L.length) ∧ LiesG fT w' (some ⟨w.heap.size, 0, none⟩) L ∧ w.heap.size < w'.heap.size ∧ Below w.heap.size w w' := by
 have hmk := makeT L.length (by omega)
 go_enter Tryz.func29, Tryz.ntmps29
 go_wp2
 go_loopw [4] (fun i w' => toTInv w L i w') (fun i w' => L.length - (intOf i).toNat)
 case atStart =>
  exact ⟨0, Nat.zero_le _, rfl, LiesG.nil _ _ _, RoomG.new _ _ _ _ _, (Below.refl _ _).alloc (Nat.le_refl _) _⟩
 case round =>
  clear hmk
  obtain ⟨k, hk, rfl, hT, hR, hB⟩ := hrel
  have hL := h.below hB
  by_cases hlt : k < L.length
  ·obtain ⟨B, O, rfl⟩ := hL.has hlt
   have cc := atT hL hlt
   generalize hs : L[k] = s at cc
   have HS : Hid _ := hs
   clear hs
   obtain ⟨c0, c1, c2, c3, c4, c5, c6, c7, c8, c9, c10, c11, c12, c13, c14⟩ := cc
   have hk1 : (k : Int) < (L.length : Int) := by omega
   go_wp2_with ((go_at_call 57; refine (toT1_any s _).mono ?_; rintro r w1 ⟨rfl, hb1⟩; have hR1 := hR.below hb1; have zz := hR1.z; obtain ⟨v0, e0⟩ := Option.isSome_iff_exists.1 (hR1.c (k * 15) (by simp [fT]; omega)); obtain ⟨v1, e1⟩ := Option.isSome_iff_exists.1 (hR1.c (k * 15 + 1) (by simp [fT]; omega)); obtain ⟨v2, e2⟩ := Option.isSome_iff_exists.1 (hR1.c (k * 15 + 2) (by simp [fT]; omega)); obtain ⟨v3, e3⟩ := Option.isSome_iff_exists.1 (hR1.c (k * 15 + 3) (by simp [fT]; omega)); obtain ⟨v4, e4⟩ := Option.isSome_iff_exists.1 (hR1.c (k * 15 + 4) (by simp [fT]; omega)); obtain ⟨v5, e5⟩ := Option.isSome_iff_exists.1 (hR1.c (k * 15 + 5) (by simp [fT]; omega)); obtain ⟨v6, e6⟩ := Option.isSome_iff_exists.1 (hR1.c (k * 15 + 6) (by simp [fT]; omega)); obtain ⟨v7, e7⟩ := Option.isSome_iff_exists.1 (hR1.c (k * 15 + 7) (by simp [fT]; omega)); obtain ⟨v8, e8⟩ := Option.isSome_iff_exists.1 (hR1.c (k * 15 + 8) (by simp [fT]; omega)); obtain ⟨v9, e9⟩ := Option.isSome_iff_exists.1 (hR1.c (k * 15 + 9) (by simp [fT]; omega)); obtain ⟨v10, e10⟩ := Option.isSome_iff_exists.1 (hR1.c (k * 15 + 10) (by simp [fT]; omega)); obtain ⟨v11, e11⟩ := Option.isSome_iff_exists.1 (hR1.c (k * 15 + 11) (by simp [fT]; omega)); obtain ⟨v12, e12⟩ := Option.isSome_iff_exists.1 (hR1.c (k * 15 + 12) (by simp [fT]; omega)); obtain ⟨v13, e13⟩ := Option.isSome_iff_exists.1 (hR1.c (k * 15 + 13) (by simp [fT]; omega)); obtain ⟨v14, e14⟩ := Option.isSome_iff_exists.1 (hR1.c (k * 15 + 14) (by simp [fT]; omega))))
   go_roundw
   case measure => simp [intOf]; omega
   case rel =>
    have ht : (L.take k).length = k := by simp; omega
    have e1 := (hT.below hb1).snoc hR1 s (by omega)
    rw [ht, ← HS.out, ← List.take_succ_eq_append_getElem hlt, HS.out] at e1
    have e3 := hR1.set (fT.cel s) (O := k * 15) (by simp [fT]; omega)
    refine ⟨k + 1, by omega, by go_num, e1, e3, ?_⟩
    repeat (refine Below.setCell ?_ (by simp) _)
    exact hB.trans (hb1.mono hB.size)
  ·go_wp2
   go_ret
   rw [List.take_of_length_le (by omega)] at hT
   exact ⟨rfl, hT, hR.lt, hB⟩

set_option maxHeartbeats 1000000 in
theorem szT_any (P : Option Addr) (c n : Nat) (a : Int) (w : World) (ha : 0 ≤ a) (ha2 : a ≤ 1048576) (hm : n ≤ 9223372036854775807) :
  Calls Tryz.prog 21 #[.slice P n c, .int .i64 a] w fun e w' => e = .returned (.int .i64 (szR (n : Int) a)) ∧ w = w' := by
 by_cases h : (n : Int) ≤ a
 ·have h1 : ¬ a - (n : Int) < 0 := by omega
  have h2 : 0 ≤ a - (n : Int) := by omega
  rw [szR_pos h]
  go_enter Tryz.func21, Tryz.ntmps21
  go_wp2
  go_ret
  exact ⟨rfl, rfl⟩
 ·have h1 : a - (n : Int) < 0 := by omega
  rw [szR_neg h]
  go_enter Tryz.func21, Tryz.ntmps21
  go_wp2
  go_ret
  exact ⟨rfl, rfl⟩

def eqTSInv (w : World) (L : List QT) (i : Value) (w' : World) : Prop :=
 ∃ k : Nat, k ≤ L.length ∧ i = .int .i64 k ∧ Below w.heap.size w w'

set_option maxRecDepth 100000 in
set_option maxHeartbeats 2000000 in
theorem eqT_same (P Q : Option Addr) (c d : Nat) (L : List QT) (w : World) (hl : L.length ≤ 1048576) (hP : LiesG fT w P L) (hQ : LiesG fT w Q L) :
  Calls Tryz.prog 37 #[.slice P L.length c, .slice Q L.length d] w fun r w' => r = .returned (.bool true) ∧ Below w.heap.size w w' := by
 go_enter Tryz.func37, Tryz.ntmps37
 go_wp2
 go_loopw [5] (fun i w' => eqTSInv w L i w') (fun i w' => L.length - (intOf i).toNat)
 case atStart => exact ⟨0, Nat.zero_le _, rfl, Below.refl _ _⟩
 case round =>
  obtain ⟨k, hk, rfl, hB⟩ := hrel
  have hP1 := hP.below hB
  have hQ1 := hQ.below hB
  by_cases hlt : k < L.length
  ·obtain ⟨B, O, rfl⟩ := hP1.has hlt
   obtain ⟨B2, O2, rfl⟩ := hQ1.has hlt
   have cc := atT hP1 hlt
   have dd := atT hQ1 hlt
   have hk1 : (k : Int) < (L.length : Int) := by omega
   have hb1 := hP1.lt hlt
   have hb2 := hQ1.lt hlt
   generalize hx : L[k] = x at cc dd
   clear hx
   have cc' := cc
   have dd' := dd
   obtain ⟨c0, c1, c2, c3, c4, c5, c6, c7, c8, c9, c10, c11, c12, c13, c14⟩ := cc
   obtain ⟨d0, d1, d2, d3, d4, d5, d6, d7, d8, d9, d10, d11, d12, d13, d14⟩ := dd
   go_wp2
   go_region_held3 (fun w' => (w'.cell? ⟨B, O + k * 15, none⟩ = some (.int .i64 x.a0) ∧ w'.cell? ⟨B, O + k * 15 + 1, none⟩ = some (.int .i64 x.a1) ∧ w'.cell? ⟨B, O + k * 15 + 2, none⟩ = some (.int .i64 x.a2) ∧ w'.cell? ⟨B, O + k * 15 + 3, none⟩ = some (.int .i64 x.a3) ∧ w'.cell? ⟨B, O + k * 15 + 4, none⟩ = some (.int .i64 x.a4) ∧ w'.cell? ⟨B, O + k * 15 + 5, none⟩ = some (.int .i64 x.a5) ∧ w'.cell? ⟨B, O + k * 15 + 6, none⟩ = some (.int .i64 x.a6) ∧ w'.cell? ⟨B, O + k * 15 + 7, none⟩ = some (.int .u32 x.a7) ∧ w'.cell? ⟨B, O + k * 15 + 8, none⟩ = some (.int .i64 x.a8) ∧ w'.cell? ⟨B, O + k * 15 + 9, none⟩ = some (.int .u32 x.a9) ∧ w'.cell? ⟨B, O + k * 15 + 10, none⟩ = some (.int .u32 x.a10) ∧ w'.cell? ⟨B, O + k * 15 + 11, none⟩ = some (.int .u32 x.a11) ∧ w'.cell? ⟨B, O + k * 15 + 12, none⟩ = some (.int .u32 x.a12) ∧ w'.cell? ⟨B, O + k * 15 + 13, none⟩ = some (.int .i64 x.a13) ∧ w'.cell? ⟨B, O + k * 15 + 14, none⟩ = some (.int .u32 x.a14)) ∧ (w'.cell? ⟨B2, O2 + k * 15, none⟩ = some (.int .i64 x.a0) ∧ w'.cell? ⟨B2, O2 + k * 15 + 1, none⟩ = some (.int .i64 x.a1) ∧ w'.cell? ⟨B2, O2 + k * 15 + 2, none⟩ = some (.int .i64 x.a2) ∧ w'.cell? ⟨B2, O2 + k * 15 + 3, none⟩ = some (.int .i64 x.a3) ∧ w'.cell? ⟨B2, O2 + k * 15 + 4, none⟩ = some (.int .i64 x.a4) ∧ w'.cell? ⟨B2, O2 + k * 15 + 5, none⟩ = some (.int .i64 x.a5) ∧ w'.cell? ⟨B2, O2 + k * 15 + 6, none⟩ = some (.int .i64 x.a6) ∧ w'.cell? ⟨B2, O2 + k * 15 + 7, none⟩ = some (.int .u32 x.a7) ∧ w'.cell? ⟨B2, O2 + k * 15 + 8, none⟩ = some (.int .i64 x.a8) ∧ w'.cell? ⟨B2, O2 + k * 15 + 9, none⟩ = some (.int .u32 x.a9) ∧ w'.cell? ⟨B2, O2 + k * 15 + 10, none⟩ = some (.int .u32 x.a10) ∧ w'.cell? ⟨B2, O2 + k * 15 + 11, none⟩ = some (.int .u32 x.a11) ∧ w'.cell? ⟨B2, O2 + k * 15 + 12, none⟩ = some (.int .u32 x.a12) ∧ w'.cell? ⟨B2, O2 + k * 15 + 13, none⟩ = some (.int .i64 x.a13) ∧ w'.cell? ⟨B2, O2 + k * 15 + 14, none⟩ = some (.int .u32 x.a14))) (first | assumption | exact ⟨cc', dd'⟩ | go_keep)
    ((go_at_call 15; refine (eqT1_same x _).mono ?_; rintro r w1 ⟨rfl, hb3⟩; have s1 : (w1.cell? ⟨B, O + k * 15, none⟩ = some (.int .i64 x.a0) ∧ w1.cell? ⟨B, O + k * 15 + 1, none⟩ = some (.int .i64 x.a1) ∧ w1.cell? ⟨B, O + k * 15 + 2, none⟩ = some (.int .i64 x.a2) ∧ w1.cell? ⟨B, O + k * 15 + 3, none⟩ = some (.int .i64 x.a3) ∧ w1.cell? ⟨B, O + k * 15 + 4, none⟩ = some (.int .i64 x.a4) ∧ w1.cell? ⟨B, O + k * 15 + 5, none⟩ = some (.int .i64 x.a5) ∧ w1.cell? ⟨B, O + k * 15 + 6, none⟩ = some (.int .i64 x.a6) ∧ w1.cell? ⟨B, O + k * 15 + 7, none⟩ = some (.int .u32 x.a7) ∧ w1.cell? ⟨B, O + k * 15 + 8, none⟩ = some (.int .i64 x.a8) ∧ w1.cell? ⟨B, O + k * 15 + 9, none⟩ = some (.int .u32 x.a9) ∧ w1.cell? ⟨B, O + k * 15 + 10, none⟩ = some (.int .u32 x.a10) ∧ w1.cell? ⟨B, O + k * 15 + 11, none⟩ = some (.int .u32 x.a11) ∧ w1.cell? ⟨B, O + k * 15 + 12, none⟩ = some (.int .u32 x.a12) ∧ w1.cell? ⟨B, O + k * 15 + 13, none⟩ = some (.int .i64 x.a13) ∧ w1.cell? ⟨B, O + k * 15 + 14, none⟩ = some (.int .u32 x.a14)) ∧ (w1.cell? ⟨B2, O2 + k * 15, none⟩ = some (.int .i64 x.a0) ∧ w1.cell? ⟨B2, O2 + k * 15 + 1, none⟩ = some (.int .i64 x.a1) ∧ w1.cell? ⟨B2, O2 + k * 15 + 2, none⟩ = some (.int .i64 x.a2) ∧ w1.cell? ⟨B2, O2 + k * 15 + 3, none⟩ = some (.int .i64 x.a3) ∧ w1.cell? ⟨B2, O2 + k * 15 + 4, none⟩ = some (.int .i64 x.a4) ∧ w1.cell? ⟨B2, O2 + k * 15 + 5, none⟩ = some (.int .i64 x.a5) ∧ w1.cell? ⟨B2, O2 + k * 15 + 6, none⟩ = some (.int .i64 x.a6) ∧ w1.cell? ⟨B2, O2 + k * 15 + 7, none⟩ = some (.int .u32 x.a7) ∧ w1.cell? ⟨B2, O2 + k * 15 + 8, none⟩ = some (.int .i64 x.a8) ∧ w1.cell? ⟨B2, O2 + k * 15 + 9, none⟩ = some (.int .u32 x.a9) ∧ w1.cell? ⟨B2, O2 + k * 15 + 10, none⟩ = some (.int .u32 x.a10) ∧ w1.cell? ⟨B2, O2 + k * 15 + 11, none⟩ = some (.int .u32 x.a11) ∧ w1.cell? ⟨B2, O2 + k * 15 + 12, none⟩ = some (.int .u32 x.a12) ∧ w1.cell? ⟨B2, O2 + k * 15 + 13, none⟩ = some (.int .i64 x.a13) ∧ w1.cell? ⟨B2, O2 + k * 15 + 14, none⟩ = some (.int .u32 x.a14)) := ⟨⟨((bcell hb3).1 _ _ hb1).trans c0, ((bcell hb3).1 _ _ hb1).trans c1, ((bcell hb3).1 _ _ hb1).trans c2, ((bcell hb3).1 _ _ hb1).trans c3, ((bcell hb3).1 _ _ hb1).trans c4, ((bcell hb3).1 _ _ hb1).trans c5, ((bcell hb3).1 _ _ hb1).trans c6, ((bcell hb3).1 _ _ hb1).trans c7, ((bcell hb3).1 _ _ hb1).trans c8, ((bcell hb3).1 _ _ hb1).trans c9, ((bcell hb3).1 _ _ hb1).trans c10, ((bcell hb3).1 _ _ hb1).trans c11, ((bcell hb3).1 _ _ hb1).trans c12, ((bcell hb3).1 _ _ hb1).trans c13, ((bcell hb3).1 _ _ hb1).trans c14⟩, ⟨((bcell hb3).1 _ _ hb2).trans d0, ((bcell hb3).1 _ _ hb2).trans d1, ((bcell hb3).1 _ _ hb2).trans d2, ((bcell hb3).1 _ _ hb2).trans d3, ((bcell hb3).1 _ _ hb2).trans d4, ((bcell hb3).1 _ _ hb2).trans d5, ((bcell hb3).1 _ _ hb2).trans d6, ((bcell hb3).1 _ _ hb2).trans d7, ((bcell hb3).1 _ _ hb2).trans d8, ((bcell hb3).1 _ _ hb2).trans d9, ((bcell hb3).1 _ _ hb2).trans d10, ((bcell hb3).1 _ _ hb2).trans d11, ((bcell hb3).1 _ _ hb2).trans d12, ((bcell hb3).1 _ _ hb2).trans d13, ((bcell hb3).1 _ _ hb2).trans d14⟩⟩))
   all_goals go_wp2
   all_goals go_roundw
   case rel => exact ⟨k + 1, by omega, by go_num, hB.trans ((Below.trans ((Below.refl _ wr).drew) hb3).mono hB.size)⟩
   case measure => simp [intOf]; omega
  ·have hk1 : ¬ (k : Int) < (L.length : Int) := by omega
   go_wp2
   go_ret
   exact ⟨rfl, hB⟩

end Go.Proofs.YtigpbjcmmgdiaaaGreat
