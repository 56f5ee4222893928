/-
  Rows of domains, and of those who get something of what is shared: what the laws' copy, size and compare of them answer.
-/
import Derived.Test.YtjiignkappabpaaDoorInts
import Derived.Laws.ResultCell
import Derived.Deep.RegionHeld3
namespace Go.Proofs.YtjiignkappabpaaDoor
open Go.ChangeShapes Go.WideShapes Go.ChangeAt Go.RowKit
set_option linter.unusedVariables false

structure QD where
  pr : Int
  mx : Int
  bt : Int
deriving DecidableEq
def fD : Form QD := ⟨3, fun e => [.int .i64 e.pr, .int .i64 e.mx, .int .i64 e.bt], fun _ => rfl, by decide⟩
theorem atD {W : World} {B O : Nat} {L : List QD} (h : LiesG fD W (some ⟨B, O, none⟩) L) {k : Nat} (hk : k < L.length) : W.cell? ⟨B, O + k * 3, none⟩ = some (.int .i64 L[k].pr) ∧ W.cell? ⟨B, O + k * 3 + 1, none⟩ = some (.int .i64 L[k].mx) ∧ W.cell? ⟨B, O + k * 3 + 2, none⟩ = some (.int .i64 L[k].bt) :=
  ⟨by have := h.at hk 0 _ rfl; simpa [fD] using this, by have := h.at hk 1 _ rfl; simpa [fD] using this, by have := h.at hk 2 _ rfl; simpa [fD] using this⟩
theorem infoD : (Tryd.prog.info? 38).map (fun i => (i.zero, i.size, i.bytes)) = some (some (.agg #[.int .i64 0, .int .i64 0, .int .i64 0]), 3, 24) := by kernel_rfl
theorem makeD (n : Nat) (hn : n ≤ 1048577) (w : World) :
    (Instr.makeSlice 28 (.int .i64 (n : Int)) (.int .i64 (n : Int))).run Tryd.prog w = .ok (.slice (some ⟨w.heap.size, 0, none⟩) n n) (w.alloc (.cells (madeCells #[.int .i64 0, .int .i64 0, .int .i64 0] (n * fD.n)) 38)) := by
  obtain ⟨i, hi, hzz⟩ := Option.map_eq_some_iff.1 infoD
  simp only [Prod.mk.injEq] at hzz
  obtain ⟨hz, hs, hb⟩ := hzz
  have := run_make (P := Tryd.prog) w 28 38 i _ Tryd.underlying28 hi hz .i64 .i64 n n (by omega) (Int.le_refl _) (by rw [hb]; omega) (by omega)
  rw [hs] at this
  exact this

set_option maxRecDepth 100000 in
set_option maxHeartbeats 2000000 in
theorem toD1_any (e : QD) (w : World) :
    Calls Tryd.prog 26 #[.agg #[.int .i64 e.pr, .int .i64 e.mx, .int .i64 e.bt]] w fun r w' => r = .returned (.agg #[.int .i64 e.pr, .int .i64 e.mx, .int .i64 e.bt]) ∧ Below w.heap.size w w' := by
  go_enter Tryd.func26, Tryd.ntmps26
  go_wp2
  refine bodyPost_ret (show (results Tryd.f26 _).run Tryd.prog _ = .ok (.agg #[.int .i64 e.pr, .int .i64 e.mx, .int .i64 e.bt]) _ from by simp [results, Tryd.results26, go_sem, *]) rfl ⟨rfl, ?_⟩
  exact (by repeat (first | exact Below.refl _ _ | (refine Below.setCell ?_ (by simp; try omega) _) | (refine Below.alloc ?_ (by simp; try omega) _)))

/-- What stands between two rounds: the first k are copied. -/
def toDInv (w : World) (L : List QD) (i : Value) (w' : World) : Prop :=
  ∃ k : Nat, k ≤ L.length ∧ i = .int .i64 k ∧ LiesG fD w' (some ⟨w.heap.size, 0, none⟩) (L.take k) ∧ RoomG fD w' w.heap.size L.length ∧ Below w.heap.size w w'

set_option maxRecDepth 100000 in
set_option maxHeartbeats 2000000 in
theorem toD_any (P : Option Addr) (c : Nat) (L : List QD) (w : World) (hl : L.length ≤ 1048576) (h : LiesG fD w P L) :
    Calls Tryd.prog 15 #[.slice P L.length c] w fun r w' => r = .returned (.slice (some ⟨w.heap.size, 0, none⟩) L.length L.length) ∧ LiesG fD w' (some ⟨w.heap.size, 0, none⟩) L ∧ w.heap.size < w'.heap.size ∧ Below w.heap.size w w' := by
  have hmk := makeD L.length (by omega)
  go_enter Tryd.func15, Tryd.ntmps15
  go_wp2
  go_loopw [4] (fun i w' => toDInv w L i w') (fun i w' => L.length - (intOf i).toNat)
  case atStart =>
    exact ⟨0, Nat.zero_le _, rfl, LiesG.nil _ _ _, RoomG.new _ _ _ _ _, (Below.refl _ _).alloc (Nat.le_refl _) _⟩
  case round =>
    clear hmk
    obtain ⟨k, hk, rfl, hT, hR, hB⟩ := hrel
    have hL := h.below hB
    by_cases hlt : k < L.length
    · obtain ⟨B, O, rfl⟩ := hL.has hlt
      have cc := atD hL hlt
      generalize hs : L[k] = s at cc
      have HS : Hid _ := hs
      clear hs
      obtain ⟨c0, c1, c2⟩ := cc
      have hk1 : (k : Int) < (L.length : Int) := by omega
      go_wp2_with (first
        | (go_at_call 26; refine (toD1_any s _).mono ?_; rintro r w1 ⟨rfl, hb1⟩; have hR1 := hR.below hb1; have zz := hR1.z; obtain ⟨v0, e0⟩ := Option.isSome_iff_exists.1 (hR1.c (k * 3) (by simp [fD]; omega)); obtain ⟨v1, e1⟩ := Option.isSome_iff_exists.1 (hR1.c (k * 3 + 1) (by simp [fD]; omega)); obtain ⟨v2, e2⟩ := Option.isSome_iff_exists.1 (hR1.c (k * 3 + 2) (by simp [fD]; omega))))
      go_roundw
      case measure => simp [intOf]; omega
      case rel =>
        have ht : (L.take k).length = k := by simp; omega
        have e1 := (hT.below hb1).snoc hR1 s (by omega)
        rw [ht, ← HS.out, ← List.take_succ_eq_append_getElem hlt, HS.out] at e1
        have e3 := hR1.set (fD.cel s) (O := k * 3) (by simp [fD]; omega)
        refine ⟨k + 1, by omega, by go_num, e1, e3, ?_⟩
        repeat (refine Below.setCell ?_ (by simp) _)
        exact hB.trans (hb1.mono hB.size)
    · go_wp2
      go_ret
      rw [List.take_of_length_le (by omega)] at hT
      exact ⟨rfl, hT, hR.lt, hB⟩

set_option maxHeartbeats 1000000 in
theorem szD_any (P : Option Addr) (c n : Nat) (a : Int) (w : World) (ha : 0 ≤ a) (ha2 : a ≤ 1048576) (hm : n ≤ 9223372036854775807) :
    Calls Tryd.prog 9 #[.slice P n c, .int .i64 a] w fun e w' => e = .returned (.int .i64 (szR (n : Int) a)) ∧ w = w' := by
  by_cases h : (n : Int) ≤ a
  · have h1 : ¬ a - (n : Int) < 0 := by omega
    have h2 : 0 ≤ a - (n : Int) := by omega
    rw [szR_pos h]
    go_enter Tryd.func9, Tryd.ntmps9
    go_wp2
    go_ret
    exact ⟨rfl, rfl⟩
  · have h1 : a - (n : Int) < 0 := by omega
    rw [szR_neg h]
    go_enter Tryd.func9, Tryd.ntmps9
    go_wp2
    go_ret
    exact ⟨rfl, rfl⟩

set_option maxRecDepth 100000 in
set_option maxHeartbeats 1000000 in
theorem eqD1_same (e : QD) (w : World) :
    Calls Tryd.prog 36 #[.agg #[.int .i64 e.pr, .int .i64 e.mx, .int .i64 e.bt], .agg #[.int .i64 e.pr, .int .i64 e.mx, .int .i64 e.bt]] w fun r w' => r = .returned (.bool true) ∧ Below w.heap.size w w' := by
  go_enter Tryd.func36, Tryd.ntmps36
  go_wp2
  go_ret
  exact ⟨rfl, (by repeat (first | exact Below.refl _ _ | (refine Below.setCell ?_ (by simp; try omega) _) | (refine Below.alloc ?_ (by simp; try omega) _)))⟩

def eqDInv (w : World) (L : List QD) (i : Value) (w' : World) : Prop :=
  ∃ k : Nat, k ≤ L.length ∧ i = .int .i64 k ∧ Below w.heap.size w w'

set_option maxRecDepth 100000 in
set_option maxHeartbeats 2000000 in
theorem eqD_same (P Q : Option Addr) (c d : Nat) (L : List QD) (w : World) (hl : L.length ≤ 1048576) (hP : LiesG fD w P L) (hQ : LiesG fD w Q L) :
    Calls Tryd.prog 18 #[.slice P L.length c, .slice Q L.length d] w fun r w' => r = .returned (.bool true) ∧ Below w.heap.size w w' := by
  go_enter Tryd.func18, Tryd.ntmps18
  go_wp2
  go_loopw [5] (fun i w' => eqDInv w L i w') (fun i w' => L.length - (intOf i).toNat)
  case atStart => exact ⟨0, Nat.zero_le _, rfl, Below.refl _ _⟩
  case round =>
    obtain ⟨k, hk, rfl, hB⟩ := hrel
    have hP1 := hP.below hB
    have hQ1 := hQ.below hB
    by_cases hlt : k < L.length
    · obtain ⟨B, O, rfl⟩ := hP1.has hlt
      obtain ⟨B2, O2, rfl⟩ := hQ1.has hlt
      have cc := atD hP1 hlt
      have dd := atD hQ1 hlt
      have hk1 : (k : Int) < (L.length : Int) := by omega
      generalize hx : L[k] = x at cc dd
      clear hx
      obtain ⟨c0, c1, c2⟩ := cc
      obtain ⟨d0, d1, d2⟩ := dd
      have hb1 := hP1.lt hlt
      have hb2 := hQ1.lt hlt
      go_wp2
      go_region_held3 (fun w' => (w'.cell? ⟨B, O + k * 3, none⟩ = some (.int .i64 x.pr) ∧ w'.cell? ⟨B, O + k * 3 + 1, none⟩ = some (.int .i64 x.mx) ∧ w'.cell? ⟨B, O + k * 3 + 2, none⟩ = some (.int .i64 x.bt)) ∧ (w'.cell? ⟨B2, O2 + k * 3, none⟩ = some (.int .i64 x.pr) ∧ w'.cell? ⟨B2, O2 + k * 3 + 1, none⟩ = some (.int .i64 x.mx) ∧ w'.cell? ⟨B2, O2 + k * 3 + 2, none⟩ = some (.int .i64 x.bt))) (first | assumption | go_keep)
        ((go_at_call 36; refine (eqD1_same x _).mono ?_; rintro r w1 ⟨rfl, hb3⟩; have s1 : (w1.cell? ⟨B, O + k * 3, none⟩ = some (.int .i64 x.pr) ∧ w1.cell? ⟨B, O + k * 3 + 1, none⟩ = some (.int .i64 x.mx) ∧ w1.cell? ⟨B, O + k * 3 + 2, none⟩ = some (.int .i64 x.bt)) ∧ (w1.cell? ⟨B2, O2 + k * 3, none⟩ = some (.int .i64 x.pr) ∧ w1.cell? ⟨B2, O2 + k * 3 + 1, none⟩ = some (.int .i64 x.mx) ∧ w1.cell? ⟨B2, O2 + k * 3 + 2, none⟩ = some (.int .i64 x.bt)) := ⟨⟨((bcell hb3).1 _ _ hb1).trans c0, ((bcell hb3).1 _ _ hb1).trans c1, ((bcell hb3).1 _ _ hb1).trans c2⟩, ⟨((bcell hb3).1 _ _ hb2).trans d0, ((bcell hb3).1 _ _ hb2).trans d1, ((bcell hb3).1 _ _ hb2).trans d2⟩⟩))
      all_goals go_wp2
      all_goals go_roundw
      case rel => exact ⟨k + 1, by omega, by go_num, hB.trans ((Below.trans ((Below.refl _ wr).drew) hb3).mono hB.size)⟩
      case measure => simp [intOf]; omega
    · have hk1 : ¬ (k : Int) < (L.length : Int) := by omega
      go_wp2
      go_ret
      exact ⟨rfl, hB⟩

structure QO where
  dm : Int
  rt : Int
  bd : Int
deriving DecidableEq
def fO : Form QO := ⟨3, fun e => [.int .i64 e.dm, .int .i64 e.rt, .int .i64 e.bd], fun _ => rfl, by decide⟩
theorem atO {W : World} {B O : Nat} {L : List QO} (h : LiesG fO W (some ⟨B, O, none⟩) L) {k : Nat} (hk : k < L.length) : W.cell? ⟨B, O + k * 3, none⟩ = some (.int .i64 L[k].dm) ∧ W.cell? ⟨B, O + k * 3 + 1, none⟩ = some (.int .i64 L[k].rt) ∧ W.cell? ⟨B, O + k * 3 + 2, none⟩ = some (.int .i64 L[k].bd) :=
  ⟨by have := h.at hk 0 _ rfl; simpa [fO] using this, by have := h.at hk 1 _ rfl; simpa [fO] using this, by have := h.at hk 2 _ rfl; simpa [fO] using this⟩
theorem infoO : (Tryd.prog.info? 61).map (fun i => (i.zero, i.size, i.bytes)) = some (some (.agg #[.int .i64 0, .int .i64 0, .int .i64 0]), 3, 24) := by kernel_rfl
theorem makeO (n : Nat) (hn : n ≤ 1048577) (w : World) :
    (Instr.makeSlice 41 (.int .i64 (n : Int)) (.int .i64 (n : Int))).run Tryd.prog w = .ok (.slice (some ⟨w.heap.size, 0, none⟩) n n) (w.alloc (.cells (madeCells #[.int .i64 0, .int .i64 0, .int .i64 0] (n * fO.n)) 61)) := by
  obtain ⟨i, hi, hzz⟩ := Option.map_eq_some_iff.1 infoO
  simp only [Prod.mk.injEq] at hzz
  obtain ⟨hz, hs, hb⟩ := hzz
  have := run_make (P := Tryd.prog) w 41 61 i _ Tryd.underlying41 hi hz .i64 .i64 n n (by omega) (Int.le_refl _) (by rw [hb]; omega) (by omega)
  rw [hs] at this
  exact this

set_option maxRecDepth 100000 in
set_option maxHeartbeats 2000000 in
theorem toO1_any (e : QO) (w : World) :
    Calls Tryd.prog 50 #[.agg #[.int .i64 e.dm, .int .i64 e.rt, .int .i64 e.bd]] w fun r w' => r = .returned (.agg #[.int .i64 e.dm, .int .i64 e.rt, .int .i64 e.bd]) ∧ Below w.heap.size w w' := by
  go_enter Tryd.func50, Tryd.ntmps50
  go_wp2
  refine bodyPost_ret (show (results Tryd.f50 _).run Tryd.prog _ = .ok (.agg #[.int .i64 e.dm, .int .i64 e.rt, .int .i64 e.bd]) _ from by simp [results, Tryd.results50, go_sem, *]) rfl ⟨rfl, ?_⟩
  exact (by repeat (first | exact Below.refl _ _ | (refine Below.setCell ?_ (by simp; try omega) _) | (refine Below.alloc ?_ (by simp; try omega) _)))

/-- What stands between two rounds: the first k are copied. -/
def toOInv (w : World) (L : List QO) (i : Value) (w' : World) : Prop :=
  ∃ k : Nat, k ≤ L.length ∧ i = .int .i64 k ∧ LiesG fO w' (some ⟨w.heap.size, 0, none⟩) (L.take k) ∧ RoomG fO w' w.heap.size L.length ∧ Below w.heap.size w w'

set_option maxRecDepth 100000 in
set_option maxHeartbeats 2000000 in
theorem toO_any (P : Option Addr) (c : Nat) (L : List QO) (w : World) (hl : L.length ≤ 1048576) (h : LiesG fO w P L) :
    Calls Tryd.prog 40 #[.slice P L.length c] w fun r w' => r = .returned (.slice (some ⟨w.heap.size, 0, none⟩) L.length L.length) ∧ LiesG fO w' (some ⟨w.heap.size, 0, none⟩) L ∧ w.heap.size < w'.heap.size ∧ Below w.heap.size w w' := by
  have hmk := makeO L.length (by omega)
  go_enter Tryd.func40, Tryd.ntmps40
  go_wp2
  go_loopw [4] (fun i w' => toOInv w L i w') (fun i w' => L.length - (intOf i).toNat)
  case atStart =>
    exact ⟨0, Nat.zero_le _, rfl, LiesG.nil _ _ _, RoomG.new _ _ _ _ _, (Below.refl _ _).alloc (Nat.le_refl _) _⟩
  case round =>
    clear hmk
    obtain ⟨k, hk, rfl, hT, hR, hB⟩ := hrel
    have hL := h.below hB
    by_cases hlt : k < L.length
    · obtain ⟨B, O, rfl⟩ := hL.has hlt
      have cc := atO hL hlt
      generalize hs : L[k] = s at cc
      have HS : Hid _ := hs
      clear hs
      obtain ⟨c0, c1, c2⟩ := cc
      have hk1 : (k : Int) < (L.length : Int) := by omega
      go_wp2_with (first
        | (go_at_call 50; refine (toO1_any s _).mono ?_; rintro r w1 ⟨rfl, hb1⟩; have hR1 := hR.below hb1; have zz := hR1.z; obtain ⟨v0, e0⟩ := Option.isSome_iff_exists.1 (hR1.c (k * 3) (by simp [fO]; omega)); obtain ⟨v1, e1⟩ := Option.isSome_iff_exists.1 (hR1.c (k * 3 + 1) (by simp [fO]; omega)); obtain ⟨v2, e2⟩ := Option.isSome_iff_exists.1 (hR1.c (k * 3 + 2) (by simp [fO]; omega))))
      go_roundw
      case measure => simp [intOf]; omega
      case rel =>
        have ht : (L.take k).length = k := by simp; omega
        have e1 := (hT.below hb1).snoc hR1 s (by omega)
        rw [ht, ← HS.out, ← List.take_succ_eq_append_getElem hlt, HS.out] at e1
        have e3 := hR1.set (fO.cel s) (O := k * 3) (by simp [fO]; omega)
        refine ⟨k + 1, by omega, by go_num, e1, e3, ?_⟩
        repeat (refine Below.setCell ?_ (by simp) _)
        exact hB.trans (hb1.mono hB.size)
    · go_wp2
      go_ret
      rw [List.take_of_length_le (by omega)] at hT
      exact ⟨rfl, hT, hR.lt, hB⟩

set_option maxHeartbeats 1000000 in
theorem szO_any (P : Option Addr) (c n : Nat) (a : Int) (w : World) (ha : 0 ≤ a) (ha2 : a ≤ 1048576) (hm : n ≤ 9223372036854775807) :
    Calls Tryd.prog 38 #[.slice P n c, .int .i64 a] w fun e w' => e = .returned (.int .i64 (szR (n : Int) a)) ∧ w = w' := by
  by_cases h : (n : Int) ≤ a
  · have h1 : ¬ a - (n : Int) < 0 := by omega
    have h2 : 0 ≤ a - (n : Int) := by omega
    rw [szR_pos h]
    go_enter Tryd.func38, Tryd.ntmps38
    go_wp2
    go_ret
    exact ⟨rfl, rfl⟩
  · have h1 : a - (n : Int) < 0 := by omega
    rw [szR_neg h]
    go_enter Tryd.func38, Tryd.ntmps38
    go_wp2
    go_ret
    exact ⟨rfl, rfl⟩

set_option maxRecDepth 100000 in
set_option maxHeartbeats 1000000 in
theorem eqO1_same (e : QO) (w : World) :
    Calls Tryd.prog 56 #[.agg #[.int .i64 e.dm, .int .i64 e.rt, .int .i64 e.bd], .agg #[.int .i64 e.dm, .int .i64 e.rt, .int .i64 e.bd]] w fun r w' => r = .returned (.bool true) ∧ Below w.heap.size w w' := by
  go_enter Tryd.func56, Tryd.ntmps56
  go_wp2
  go_ret
  exact ⟨rfl, (by repeat (first | exact Below.refl _ _ | (refine Below.setCell ?_ (by simp; try omega) _) | (refine Below.alloc ?_ (by simp; try omega) _)))⟩

def eqOInv (w : World) (L : List QO) (i : Value) (w' : World) : Prop :=
  ∃ k : Nat, k ≤ L.length ∧ i = .int .i64 k ∧ Below w.heap.size w w'

set_option maxRecDepth 100000 in
set_option maxHeartbeats 2000000 in
theorem eqO_same (P Q : Option Addr) (c d : Nat) (L : List QO) (w : World) (hl : L.length ≤ 1048576) (hP : LiesG fO w P L) (hQ : LiesG fO w Q L) :
    Calls Tryd.prog 48 #[.slice P L.length c, .slice Q L.length d] w fun r w' => r = .returned (.bool true) ∧ Below w.heap.size w w' := by
  go_enter Tryd.func48, Tryd.ntmps48
  go_wp2
  go_loopw [5] (fun i w' => eqOInv w L i w') (fun i w' => L.length - (intOf i).toNat)
  case atStart => exact ⟨0, Nat.zero_le _, rfl, Below.refl _ _⟩
  case round =>
    obtain ⟨k, hk, rfl, hB⟩ := hrel
    have hP1 := hP.below hB
    have hQ1 := hQ.below hB
    by_cases hlt : k < L.length
    · obtain ⟨B, O, rfl⟩ := hP1.has hlt
      obtain ⟨B2, O2, rfl⟩ := hQ1.has hlt
      have cc := atO hP1 hlt
      have dd := atO hQ1 hlt
      have hk1 : (k : Int) < (L.length : Int) := by omega
      generalize hx : L[k] = x at cc dd
      clear hx
      obtain ⟨c0, c1, c2⟩ := cc
      obtain ⟨d0, d1, d2⟩ := dd
      have hb1 := hP1.lt hlt
      have hb2 := hQ1.lt hlt
      go_wp2
      go_region_held3 (fun w' => (w'.cell? ⟨B, O + k * 3, none⟩ = some (.int .i64 x.dm) ∧ w'.cell? ⟨B, O + k * 3 + 1, none⟩ = some (.int .i64 x.rt) ∧ w'.cell? ⟨B, O + k * 3 + 2, none⟩ = some (.int .i64 x.bd)) ∧ (w'.cell? ⟨B2, O2 + k * 3, none⟩ = some (.int .i64 x.dm) ∧ w'.cell? ⟨B2, O2 + k * 3 + 1, none⟩ = some (.int .i64 x.rt) ∧ w'.cell? ⟨B2, O2 + k * 3 + 2, none⟩ = some (.int .i64 x.bd))) (first | assumption | go_keep)
        ((go_at_call 56; refine (eqO1_same x _).mono ?_; rintro r w1 ⟨rfl, hb3⟩; have s1 : (w1.cell? ⟨B, O + k * 3, none⟩ = some (.int .i64 x.dm) ∧ w1.cell? ⟨B, O + k * 3 + 1, none⟩ = some (.int .i64 x.rt) ∧ w1.cell? ⟨B, O + k * 3 + 2, none⟩ = some (.int .i64 x.bd)) ∧ (w1.cell? ⟨B2, O2 + k * 3, none⟩ = some (.int .i64 x.dm) ∧ w1.cell? ⟨B2, O2 + k * 3 + 1, none⟩ = some (.int .i64 x.rt) ∧ w1.cell? ⟨B2, O2 + k * 3 + 2, none⟩ = some (.int .i64 x.bd)) := ⟨⟨((bcell hb3).1 _ _ hb1).trans c0, ((bcell hb3).1 _ _ hb1).trans c1, ((bcell hb3).1 _ _ hb1).trans c2⟩, ⟨((bcell hb3).1 _ _ hb2).trans d0, ((bcell hb3).1 _ _ hb2).trans d1, ((bcell hb3).1 _ _ hb2).trans d2⟩⟩))
      all_goals go_wp2
      all_goals go_roundw
      case rel => exact ⟨k + 1, by omega, by go_num, hB.trans ((Below.trans ((Below.refl _ wr).drew) hb3).mono hB.size)⟩
      case measure => simp [intOf]; omega
    · have hk1 : ¬ (k : Int) < (L.length : Int) := by omega
      go_wp2
      go_ret
      exact ⟨rfl, hB⟩

end Go.Proofs.YtjiignkappabpaaDoor
