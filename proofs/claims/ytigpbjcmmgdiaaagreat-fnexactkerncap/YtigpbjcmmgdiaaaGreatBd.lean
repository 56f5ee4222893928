/-
  Texts of the proof, put together: Threads, Threads2.
-/
import Derived.Test.YtigpbjcmmgdiaaaGreatInts
import Derived.Laws.ResultCell
import Derived.Deep.RegionHeld3
/-
 Threads: copies, sizes and compares of one and of a row of them.
-/
namespace Go.Proofs.YtigpbjcmmgdiaaaGreat
open Go.ChangeShapes Go.WideShapes Go.ChangeAt Go.RowKit
set_option linter.unusedVariables false

/-- A thread: its fifteen numbers, in their order. -/
structure QT where
 a0 : Int
 a1 : Int
 a2 : Int
 a3 : Int
 a4 : Int
 a5 : Int
 a6 : Int
 a7 : Int
 a8 : Int
 a9 : Int
 a10 : Int
 a11 : Int
 a12 : Int
 a13 : Int
 a14 : Int
 deriving DecidableEq
def fT : Form QT := ⟨15, fun e => [.int .i64 e.a0, .int .i64 e.a1, .int .i64 e.a2, .int .i64 e.a3, .int .i64 e.a4, .int .i64 e.a5, .int .i64 e.a6, .int .u32 e.a7, .int .i64 e.a8, .int .u32 e.a9, .int .u32 e.a10, .int .u32 e.a11, .int .u32 e.a12, .int .i64 e.a13, .int .u32 e.a14], fun _ => rfl, by decide⟩

theorem atT {W : World} {B O : Nat} {L : List QT} (h : LiesG fT W (some ⟨B, O, none⟩) L) {k : Nat} (hk : k < L.length) : W.cell? ⟨B, O + k * 15, none⟩ = some (.int .i64 L[k].a0) ∧ W.cell? ⟨B, O + k * 15 + 1, none⟩ = some (.int .i64 L[k].a1) ∧ W.cell? ⟨B, O + k * 15 + 2, none⟩ = some (.int .i64 L[k].a2) ∧ W.cell? ⟨B, O + k * 15 + 3, none⟩ = some (.int .i64 L[k].a3) ∧ W.cell? ⟨B, O + k * 15 + 4, none⟩ = some (.int .i64 L[k].a4) ∧ W.cell? ⟨B, O + k * 15 + 5, none⟩ = some (.int .i64 L[k].a5) ∧ W.cell? ⟨B, O + k * 15 + 6, none⟩ = some (.int .i64 L[k].a6) ∧ W.cell? ⟨B, O + k * 15 + 7, none⟩ = some (.int .u32 L[k].a7) ∧ W.cell? ⟨B, O + k * 15 + 8, none⟩ = some (.int .i64 L[k].a8) ∧ W.cell? ⟨B, O + k * 15 + 9, none⟩ = some (.int .u32 L[k].a9) ∧ W.cell? ⟨B, O + k * 15 + 10, none⟩ = some (.int .u32 L[k].a10) ∧ W.cell? ⟨B, O + k * 15 + 11, none⟩ = some (.int .u32 L[k].a11) ∧ W.cell? ⟨B, O + k * 15 + 12, none⟩ = some (.int .u32 L[k].a12) ∧ W.cell? ⟨B, O + k * 15 + 13, none⟩ = some (.int .i64 L[k].a13) ∧ W.cell? ⟨B, O + k * 15 + 14, none⟩ = some (.int .u32 L[k].a14) :=
 ⟨by have := h.at hk 0 _ rfl; simpa [fT] using this, by have := h.at hk 1 _ rfl; simpa [fT] using this, by have := h.at hk 2 _ rfl; simpa [fT] using this, by have := h.at hk 3 _ rfl; simpa [fT] using this, by have := h.at hk 4 _ rfl; simpa [fT] using this, by have := h.at hk 5 _ rfl; simpa [fT] using this, by have := h.at hk 6 _ rfl; simpa [fT] using this, by have := h.at hk 7 _ rfl; simpa [fT] using this, by have := h.at hk 8 _ rfl; simpa [fT] using this, by have := h.at hk 9 _ rfl; simpa [fT] using this, by have := h.at hk 10 _ rfl; simpa [fT] using this, by have := h.at hk 11 _ rfl; simpa [fT] using this, by have := h.at hk 12 _ rfl; simpa [fT] using this, by have := h.at hk 13 _ rfl; simpa [fT] using this, by have := h.at hk 14 _ rfl; simpa [fT] using this⟩

end Go.Proofs.YtigpbjcmmgdiaaaGreat
/-
 Threads: copies, sizes and compares of the laws.
-/
namespace Go.Proofs.YtigpbjcmmgdiaaaGreat
open Go.ChangeShapes Go.WideShapes Go.ChangeAt Go.RowKit
set_option linter.unusedVariables false

theorem box3 (w : World) (a b c : Int) : LiesG fU (w.alloc (.cells #[.int .u32 a, .int .u32 b, .int .u32 c] 48)) (some ⟨w.heap.size, 0, none⟩) [a, b, c] := by
 refine ⟨.inr ⟨_, _, rfl⟩, fun B' O' e i hi j hj => ?_⟩
 injection e with e
 injection e with e1 e2
 subst e1
 subst e2
 have hj0 : j = 0 := by simp [fU] at hj; omega
 subst hj0
 have hi8 : i < 3 := hi
 have hn : 0 + i * fU.n + 0 = i := by simp [fU]
 rw [hn]
 match i, hi8 with
 | 0, _ => simp [fU]
 | 1, _ => simp [fU]
 | 2, _ => simp [fU]
theorem atU0 {W : World} {B : Nat} {L : List Int} (h : LiesG fU W (some ⟨B, 0, none⟩) L) {k : Nat} (hk : k < L.length) : W.cell? ⟨B, k, none⟩ = some (.int .u32 L[k]) := by
 have := atU h hk
 rwa [Nat.zero_add] at this

def toA3Inv (w : World) (L : List Int) (i : Value) (w' : World) : Prop :=
 ∃ k : Nat, k ≤ 3 ∧ i = .int .i64 k ∧ LiesG fU w' (some ⟨w.heap.size, 0, none⟩) L ∧ LiesG fU w' (some ⟨w.heap.size + 2, 0, none⟩) (L.take k) ∧ RoomG fU w' (w.heap.size + 2) 3 ∧ RoomG fU w' (w.heap.size + 1) 3 ∧ Below w.heap.size w w'

set_option maxRecDepth 100000 in
set_option maxHeartbeats 2000000 in
theorem toA3_any (a b c : Int) (w : World) :
  Calls Tryz.prog 97 #[.agg #[.int .u32 a, .int .u32 b, .int .u32 c]] w fun r w' => r = .returned (.agg #[.int .u32 a, .int .u32 b, .int .u32 c]) ∧ Below w.heap.size w w' := by
 have hbx := (box3 w a b c).out (((Below.refl (w.heap.size + 1) _).alloc (by simp) (.cells #[.int .u32 0, .int .u32 0, .int .u32 0] 48)).alloc (by simp) (.cells #[.int .u32 0, .int .u32 0, .int .u32 0] 48)) (fun B O e => by injection e with e; injection e with e; omega)
 have hroom : ∀ (W : World), RoomG fU (W.alloc (.cells #[.int .u32 0, .int .u32 0, .int .u32 0] 48)) W.heap.size 3 := fun W => by
  refine ⟨fun j hj => ?_, fun j => by go_simp, by simp⟩
  have hj8 : j < 3 := hj
  match j, hj8 with
  | 0, _ => go_simp
  | 1, _ => go_simp
  | 2, _ => go_simp
 have hr1 := (hroom (w.alloc (.cells #[.int .u32 a, .int .u32 b, .int .u32 c] 48))).below ((Below.refl _ _).alloc (Nat.le_refl _) (.cells #[.int .u32 0, .int .u32 0, .int .u32 0] 48))
 have hr2 := hroom ((w.alloc (.cells #[.int .u32 a, .int .u32 b, .int .u32 c] 48)).alloc (.cells #[.int .u32 0, .int .u32 0, .int .u32 0] 48))
 simp only [World.size_alloc] at hr1 hr2
 generalize hL : [a, b, c] = L at hbx
 have hLl : L.length = 3 := by rw [← hL]; rfl
 have HL : Hid _ := hL
 clear hroom hL
 go_enter Tryz.func97, Tryz.ntmps97
 go_wp2
 go_loopw [4] (fun i w' => toA3Inv w L i w') (fun i w' => 3 - (intOf i).toNat)
 case atStart => exact ⟨0, by omega, rfl, hbx, LiesG.nil _ _ _, hr2, hr1, (by repeat (first | exact Below.refl _ _ | (refine Below.setCell ?_ (by simp; try omega) _) | (refine Below.alloc ?_ (by simp; try omega) _)))⟩
 case round =>
  clear hbx hr1 hr2
  obtain ⟨k, hk, rfl, hT, hM, hR2, hR1, hB⟩ := hrel
  by_cases hlt : k < 3
  ·have hltR : k < L.length := by omega
   have c0 := atU0 hT hltR
   generalize hs : L[k] = s at c0
   have HS : Hid _ := hs
   clear hs
   have hk1 : (k : Int) < 3 := by omega
   have zz := hR2.z
   obtain ⟨v0, e0⟩ := Option.isSome_iff_exists.1 (hR2.c k (by simp [fU]; omega))
   go_wp2
   go_roundw
   case measure => simp [intOf]; omega
   case rel =>
    have ht : (L.take k).length = k := by simp; omega
    have e1 := hM.snoc hR2 s (by omega)
    rw [ht, ← HS.out, ← List.take_succ_eq_append_getElem hltR, HS.out] at e1
    have e2 : k * fU.n = k := Nat.mul_one k
    rw [e2] at e1
    have e3 := hR2.set (fU.cel s) (O := k) (by simp [fU]; omega)
    refine ⟨k + 1, by omega, by go_num, hT.far (fun b o e => by injection e with e; injection e with e; omega), e1, e3, ⟨fun j hj => by rw [World.cell?_setCell_far _ _ _ _ (by simp)]; exact hR1.c j hj, fun j => by rw [World.frozen?_setCell]; exact hR1.z j, by simpa using hR1.lt⟩, ?_⟩
    refine Below.setCell ?_ (by simp; omega) _
    exact hB
  ·have hk1 : ¬ (k : Int) < 3 := by omega
   rw [List.take_of_length_le (by omega), ← HL.out] at hM
   have zz := hR1.z
   have hGw := hR2.lt
   have c0 : wr.cell? ⟨w.heap.size + 2, 0, none⟩ = some (.int .u32 a) := atU0 hM (k := 0) (by simp)
   have c1 : wr.cell? ⟨w.heap.size + 2, 1, none⟩ = some (.int .u32 b) := atU0 hM (k := 1) (by simp)
   have c2 : wr.cell? ⟨w.heap.size + 2, 2, none⟩ = some (.int .u32 c) := atU0 hM (k := 2) (by simp)
   obtain ⟨v0, e0⟩ := Option.isSome_iff_exists.1 (hR1.c 0 (by simp [fU]))
   obtain ⟨v1, e1⟩ := Option.isSome_iff_exists.1 (hR1.c 1 (by simp [fU]))
   obtain ⟨v2, e2⟩ := Option.isSome_iff_exists.1 (hR1.c 2 (by simp [fU]))
   have hn1 : ¬ w.heap.size + 1 = w.heap.size + 2 := by omega
   have hn2 : ¬ w.heap.size + 2 = w.heap.size + 1 := by omega
   go_wp2
   refine bodyPost_ret (show (results Tryz.f97 _).run Tryz.prog _ = .ok (.agg #[.int .u32 a, .int .u32 b, .int .u32 c]) _ from by simp [results, Tryz.results97, go_sem, *]) rfl ⟨rfl, ?_⟩
   repeat (refine Below.setCell ?_ (by simp) _)
   exact hB

def eqA3Inv (w : World) (L : List Int) (i : Value) (w' : World) : Prop :=
 ∃ k : Nat, k ≤ 3 ∧ i = .int .i64 k ∧ LiesG fU w' (some ⟨w.heap.size, 0, none⟩) L ∧ LiesG fU w' (some ⟨w.heap.size + 1, 0, none⟩) L ∧ Below w.heap.size w w'

set_option maxRecDepth 100000 in
set_option maxHeartbeats 2000000 in
theorem eqA3_same (a b c : Int) (w : World) :
  Calls Tryz.prog 43 #[.agg #[.int .u32 a, .int .u32 b, .int .u32 c], .agg #[.int .u32 a, .int .u32 b, .int .u32 c]] w fun r w' => r = .returned (.bool true) ∧ Below w.heap.size w w' := by
 have hbx := (box3 w a b c).below ((Below.refl _ _).alloc (Nat.le_refl _) (.cells #[.int .u32 a, .int .u32 b, .int .u32 c] 48))
 have hby := box3 (w.alloc (.cells #[.int .u32 a, .int .u32 b, .int .u32 c] 48)) a b c
 rw [World.size_alloc] at hby
 generalize hL : [a, b, c] = L at hbx hby
 have hLl : L.length = 3 := by rw [← hL]; rfl
 clear hL
 go_enter Tryz.func43, Tryz.ntmps43
 go_wp2
 go_loopw [5] (fun i w' => eqA3Inv w L i w') (fun i w' => 3 - (intOf i).toNat)
 case atStart => exact ⟨0, by omega, rfl, hbx, hby, (by repeat (first | exact Below.refl _ _ | (refine Below.setCell ?_ (by simp; try omega) _) | (refine Below.alloc ?_ (by simp; try omega) _)))⟩
 case round =>
  clear hbx hby
  obtain ⟨k, hk, rfl, hT, hU, hB⟩ := hrel
  by_cases hlt : k < 3
  ·have hltR : k < L.length := by omega
   have c0 := atU0 hT hltR
   have d0 := atU0 hU hltR
   generalize hs : L[k] = s at c0 d0
   clear hs
   have hk1 : (k : Int) < 3 := by omega
   go_wp2
   go_quiet (fail)
   all_goals go_wp2
   all_goals go_roundw
   case rel =>
    first
     | exact ⟨k + 1, by omega, by go_num, hT.below (belowG_drewN (Below.refl _ _) _), hU.below (belowG_drewN (Below.refl _ _) _), belowG_drewN hB _⟩
     | exact ⟨k + 1, by omega, by go_num, hT, hU, hB⟩
   case measure => simp [intOf]; omega
  ·have hk1 : ¬ (k : Int) < 3 := by omega
   go_wp2
   go_ret
   exact ⟨rfl, hB⟩

end Go.Proofs.YtigpbjcmmgdiaaaGreat
