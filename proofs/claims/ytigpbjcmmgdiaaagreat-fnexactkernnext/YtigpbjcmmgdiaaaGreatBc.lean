/-
  Texts of the proof, put together: LawSlots, SlotsEq, EqSlots.
-/
import Derived.Test.YtigpbjcmmgdiaaaGreatBb
import Derived.Test.YtigpbjcmmgdiaaaGreatInts
import Derived.Deep.DeepCutAuto
/-
 What toTreeSlotS of the laws answers: a list of slots anew.
-/
namespace Go.Proofs.YtigpbjcmmgdiaaaGreat
open Go.ChangeShapes Go.WideShapes Go.ChangeAt Go.RowKit
set_option linter.unusedVariables false

/-- The cells of new slots. -/
def roomCells (n : Nat) : Array Value := madeCells #[.int .i64 0, .int .i64 0, .int .i64 0, .int .i64 0, .int .i64 0, .int .i64 0, .int .i64 0, .int .i64 0, .int .i64 0, .bool false, .int .i64 0] (n * 11)

theorem slotInfo : (Tryz.prog.info? 66).map (fun i => (i.zero, i.size, i.bytes)) = some (some (.agg #[.int .i64 0, .int .i64 0, .int .i64 0, .int .i64 0, .int .i64 0, .int .i64 0, .int .i64 0, .int .i64 0, .int .i64 0, .bool false, .int .i64 0]), 11, 88) := by kernel_rfl

theorem makeSlots (n : Nat) (hn : n ≤ 1048577) (w : World) :
  (Instr.makeSlice 36 (.int .i64 (n : Int)) (.int .i64 (n : Int))).run Tryz.prog w = .ok (.slice (some ⟨w.heap.size, 0, none⟩) n n) (w.alloc (.cells (roomCells n) 66)) := by
 obtain ⟨i, hi, hzz⟩ := Option.map_eq_some_iff.1 slotInfo
 simp only [Prod.mk.injEq] at hzz
 obtain ⟨hz, hs, hb⟩ := hzz
 have := run_make (P := Tryz.prog) w 36 66 i _ Tryz.underlying36 hi hz .i64 .i64 n n (by omega) (Int.le_refl _) (by rw [hb]; omega) (by omega)
 rw [hs] at this
 exact this

/-- A block with room for this many slots. -/
structure Room (W : World) (B n : Nat) : Prop where
 c : ∀ j, j < n * 11 → (W.cell? ⟨B, j, none⟩).isSome = true
 z : ∀ j, W.frozen? ⟨B, j, none⟩ = false
 lt : B < W.heap.size

theorem Room.new (w : World) (n T : Nat) : Room (w.alloc (.cells (roomCells n) T)) w.heap.size n := by
 refine ⟨fun j hj => ?_, fun j => by go_simp, by simp⟩
 rw [World.cell?_alloc_at _ _ _ _ rfl]
 have : (roomCells n).size = n * 11 := size_madeCells _ _
 simp [this, hj]

theorem Room.below {W W' : World} {B n : Nat} (h : Room W B n) (hb : Below W.heap.size W W') : Room W' B n :=
 ⟨fun j hj => by rw [(bcell hb).1 _ _ h.lt]; exact h.c j hj, fun j => by rw [(bcell hb).2 _ _ h.lt]; exact h.z j, Nat.lt_of_lt_of_le h.lt hb.size⟩

/-- The eleven values of a slot. -/
def cellsOf (s : Sl) : List Value := [.int .i64 s.t, .int .i64 s.k, .int .i64 s.e, .int .i64 s.b, .int .i64 s.r, .int .i64 s.d, .int .i64 s.g, .int .i64 s.q, .int .i64 s.f, .bool s.o, .int .i64 s.p]

theorem Room.set {W : World} {B n O : Nat} (h : Room W B n) (s : Sl) (hO : O + 11 ≤ n * 11) : Room (W.setCells B O (cellsOf s)) B n := by
 refine ⟨fun j hj => ?_, fun j => by rw [World.frozen?_setCells]; exact h.z j, ?_⟩
 ·by_cases e : O ≤ j ∧ j < O + 11
  ·obtain ⟨i, rfl⟩ : ∃ i, j = O + i := ⟨j - O, by omega⟩
   have hi : i < (cellsOf s).length := by simp [cellsOf]; omega
   rw [World.cell?_setCells_in B (cellsOf s) O W (fun i hi => h.c _ (by simp [cellsOf] at hi; omega)) i hi]
   rfl
  ·rw [World.cell?_setCells_out B (cellsOf s) O W ⟨B, j, none⟩ (fun _ _ => by simp [cellsOf]; omega)]
   exact h.c j hj
 ·simp [cellsOf, World.setCells]; exact h.lt

theorem At11.set {W : World} {B n O : Nat} (h : Room W B n) (s : Sl) (hO : O + 11 ≤ n * 11) : At11 (W.setCells B O (cellsOf s)) B O s := by
 have hc : ∀ i (hi : i < (cellsOf s).length), (W.setCells B O (cellsOf s)).cell? ⟨B, O + i, none⟩ = some (cellsOf s)[i] := fun i hi =>
  World.cell?_setCells_in B (cellsOf s) O W (fun i hi => h.c _ (by simp [cellsOf] at hi; omega)) i hi
 exact ⟨hc 0 (by simp [cellsOf]), hc 1 (by simp [cellsOf]), hc 2 (by simp [cellsOf]), hc 3 (by simp [cellsOf]), hc 4 (by simp [cellsOf]), hc 5 (by simp [cellsOf]), hc 6 (by simp [cellsOf]), hc 7 (by simp [cellsOf]), hc 8 (by simp [cellsOf]), hc 9 (by simp [cellsOf]), hc 10 (by simp [cellsOf])⟩

theorem At11.apart {W : World} {B B' O O' : Nat} {s s' : Sl} (h : At11 W B O s) (hO : B = B' → O + 11 ≤ O' ∨ O' + 11 ≤ O) : At11 (W.setCells B' O' (cellsOf s')) B O s := by
 have hc : ∀ j, j < 11 → (W.setCells B' O' (cellsOf s')).cell? ⟨B, O + j, none⟩ = W.cell? ⟨B, O + j, none⟩ := fun j hj =>
  World.cell?_setCells_out B' (cellsOf s') O' W ⟨B, O + j, none⟩ (fun e _ => by have := hO e; simp [cellsOf]; omega)
 exact ⟨(hc 0 (by omega)).trans h.c0, (hc 1 (by omega)).trans h.c1, (hc 2 (by omega)).trans h.c2, (hc 3 (by omega)).trans h.c3, (hc 4 (by omega)).trans h.c4, (hc 5 (by omega)).trans h.c5, (hc 6 (by omega)).trans h.c6, (hc 7 (by omega)).trans h.c7, (hc 8 (by omega)).trans h.c8, (hc 9 (by omega)).trans h.c9, (hc 10 (by omega)).trans h.c10⟩

theorem Lies.apart {W : World} {P : Option Addr} {L : List Sl} {B O : Nat} (h : Lies W P L) (s : Sl) (hB : ∀ b o, P = Option.some ⟨b, o, none⟩ → b ≠ B) : Lies (W.setCells B O (cellsOf s)) P L :=
 ⟨h.place, fun b o e i hi => (h.cells b o e i hi).apart fun eb => absurd eb (hB b o e)⟩

theorem below_setCells {w W : World} {B O : Nat} (h : Below w.heap.size w W) (hB : w.heap.size ≤ B) (s : Sl) : Below w.heap.size w (W.setCells B O (cellsOf s)) := by
 simp only [cellsOf, World.setCells]
 repeat (refine Below.setCell ?_ hB _)
 exact h

/-- What stands between two rounds: the first k are copied. -/
def toInv (w : World) (P : Option Addr) (L : List Sl) (i : Value) (w' : World) : Prop :=
 ∃ k : Nat, k ≤ L.length ∧ i = .int .i64 k ∧ Lies w' P L ∧ Lies w' (some ⟨w.heap.size, 0, none⟩) (L.take k) ∧ Room w' w.heap.size L.length ∧ Below w.heap.size w w'

set_option maxRecDepth 100000 in
set_option maxHeartbeats 1000000 in
theorem toSlots_any (P : Option Addr) (n c : Nat) (L : List Sl) (w : World) (hn : n = L.length) (hl : n ≤ 1048576) (h : Lies w P L) :
  Calls Tryz.prog 28 #[.slice P n c] w fun e w' => e = .returned (.slice (some ⟨w.heap.size, 0, none⟩) n n) ∧ Lies w' (some ⟨w.heap.size, 0, none⟩) L ∧ Room w' w.heap.size n ∧ Below w.heap.size w w' := by
 subst hn
 have hmk := makeSlots L.length (by omega)
 go_enter Tryz.func28, Tryz.ntmps28
 go_wp2
 go_loopw [4] (fun i w' => toInv w P L i w') (fun i w' => L.length - (intOf i).toNat)
 case atStart =>
  exact ⟨0, Nat.zero_le _, rfl, h.below ((Below.refl _ _).alloc (Nat.le_refl _) _), Lies.nil _ _, Room.new _ _ _, (Below.refl _ _).alloc (Nat.le_refl _) _⟩
 case round =>
  clear hmk
  obtain ⟨k, hk, rfl, hL, hT, hR, hB⟩ := hrel
  by_cases hlt : k < L.length
  ·obtain ⟨B, O, rfl⟩ := hL.some hlt
   obtain ⟨s, hs⟩ : ∃ s, L[k] = s := ⟨_, rfl⟩
   have hc := hL.cells B O rfl k hlt
   rw [hs] at hc
   have hne : B ≠ w.heap.size := by
    have := (h.cells B O rfl k hlt).lt
    omega
   obtain ⟨c0, c1, c2, c3, c4, c5, c6, c7, c8, c9, c10⟩ := hc
   go_wp2_with (first
    | (go_at_call 56; refine (toSlot_any _ _).mono ?_; rintro e w1 ⟨rfl, hb1⟩; have hR1 := hR.below hb1; have zz := hR1.z; obtain ⟨v0, e0⟩ := Option.isSome_iff_exists.1 (hR1.c (k * 11) (by omega)); obtain ⟨v1, e1⟩ := Option.isSome_iff_exists.1 (hR1.c (k * 11 + 1) (by omega)); obtain ⟨v2, e2⟩ := Option.isSome_iff_exists.1 (hR1.c (k * 11 + 2) (by omega)); obtain ⟨v3, e3⟩ := Option.isSome_iff_exists.1 (hR1.c (k * 11 + 3) (by omega)); obtain ⟨v4, e4⟩ := Option.isSome_iff_exists.1 (hR1.c (k * 11 + 4) (by omega)); obtain ⟨v5, e5⟩ := Option.isSome_iff_exists.1 (hR1.c (k * 11 + 5) (by omega)); obtain ⟨v6, e6⟩ := Option.isSome_iff_exists.1 (hR1.c (k * 11 + 6) (by omega)); obtain ⟨v7, e7⟩ := Option.isSome_iff_exists.1 (hR1.c (k * 11 + 7) (by omega)); obtain ⟨v8, e8⟩ := Option.isSome_iff_exists.1 (hR1.c (k * 11 + 8) (by omega)); obtain ⟨v9, e9⟩ := Option.isSome_iff_exists.1 (hR1.c (k * 11 + 9) (by omega)); obtain ⟨v10, e10⟩ := Option.isSome_iff_exists.1 (hR1.c (k * 11 + 10) (by omega))))
   go_roundw
   case measure => simp [intOf]; omega
   case rel =>
    have hB1 := hB.trans (hb1.mono hB.size)
    refine ⟨k + 1, by omega, by go_num, (hL.below hb1).apart s (fun b o e => by cases e; exact hne) (O := k * 11), ?_, hR1.set s (by omega) (O := k * 11), below_setCells hB1 (Nat.le_refl _) s⟩
    refine ⟨.inr ⟨_, _, rfl⟩, fun B' O' e i hi => ?_⟩
    cases e
    rw [List.length_take] at hi
    have hT1 := hT.below hb1
    by_cases hik : i < k
    ·have := (hT1.cells _ _ rfl i (by simp; omega)).apart (B' := w.heap.size) (O' := k * 11) (s' := s) (fun _ => by omega)
     rw [List.getElem_take] at this ⊢
     exact this
    ·obtain rfl : i = k := by omega
     have := At11.set hR1 s (O := i * 11) (by omega)
     rw [List.getElem_take, hs, Nat.zero_add]
     exact this
  ·go_wp2
   go_ret
   rw [List.take_of_length_le (by omega)] at hT
   exact ⟨rfl, hT, hR, hB⟩

end Go.Proofs.YtigpbjcmmgdiaaaGreat
/-
 Rows of slots compared by the program.
-/
namespace Go.Proofs.YtigpbjcmmgdiaaaGreat
open Go.ChangeShapes Go.WideShapes Go.ChangeAt Go.RowKit
set_option linter.unusedVariables false

instance : DecidableEq Sl := fun x y => decidable_of_iff (x.t = y.t ∧ x.k = y.k ∧ x.e = y.e ∧ x.b = y.b ∧ x.r = y.r ∧ x.d = y.d ∧ x.g = y.g ∧ x.q = y.q ∧ x.f = y.f ∧ x.o = y.o ∧ x.p = y.p) ⟨fun h => by cases x; cases y; simp_all, fun h => by subst h; simp⟩

set_option maxHeartbeats 1000000 in
theorem szS_any (P : Option Addr) (c n : Nat) (a : Int) (w : World) (ha : 0 ≤ a) (ha2 : a ≤ 1048576) (hm : n ≤ 9223372036854775807) :
  Calls Tryz.prog 20 #[.slice P n c, .int .i64 a] w fun e w' => e = .returned (.int .i64 (szR (n : Int) a)) ∧ w = w' := by
 by_cases h : (n : Int) ≤ a
 ·have h1 : ¬ a - (n : Int) < 0 := by omega
  have h2 : 0 ≤ a - (n : Int) := by omega
  rw [szR_pos h]
  go_enter Tryz.func20, Tryz.ntmps20
  go_wp2
  go_ret
  exact ⟨rfl, rfl⟩
 ·have h1 : a - (n : Int) < 0 := by omega
  rw [szR_neg h]
  go_enter Tryz.func20, Tryz.ntmps20
  go_wp2
  go_ret
  exact ⟨rfl, rfl⟩

end Go.Proofs.YtigpbjcmmgdiaaaGreat
/-
 What eqCap, eqTreeSlot and eqTreeSlotS of the laws answer where both sides are the same.
-/
namespace Go.Proofs.YtigpbjcmmgdiaaaGreat
open Go.ChangeShapes Go.WideShapes Go.ChangeAt Go.RowKit
set_option linter.unusedVariables false

set_option maxHeartbeats 1000000 in
theorem eqCap_same (k a b r d g q f : Int) (o : Bool) (w : World) :
  Calls Tryz.prog 11 #[.agg #[.int .i64 k, .int .i64 a, .int .i64 b, .int .i64 r, .int .i64 d, .int .i64 g, .int .i64 q, .int .i64 f, .bool o], .agg #[.int .i64 k, .int .i64 a, .int .i64 b, .int .i64 r, .int .i64 d, .int .i64 g, .int .i64 q, .int .i64 f, .bool o]] w fun e w' => e = .returned (.bool true) ∧ Below w.heap.size w w' := by
 go_enter Tryz.func11, Tryz.ntmps11
 go_wp2
 go_ret
 exact ⟨rfl, by go_grown⟩

/-- Two blocks of eleven, and a call behind them. -/
theorem two11 {w w1 : World} {a0 a1 a2 a3 a4 a5 a6 a7 a8 a9 a10 b0 b1 b2 b3 b4 b5 b6 b7 b8 b9 b10 : Value} {S T : Nat}
  (hb : Below ((w.alloc (.cells #[a0, a1, a2, a3, a4, a5, a6, a7, a8, a9, a10] S)).alloc (.cells #[b0, b1, b2, b3, b4, b5, b6, b7, b8, b9, b10] T)).heap.size ((w.alloc (.cells #[a0, a1, a2, a3, a4, a5, a6, a7, a8, a9, a10] S)).alloc (.cells #[b0, b1, b2, b3, b4, b5, b6, b7, b8, b9, b10] T)) w1) :
  Holds11 w1 w.heap.size a0 a1 a2 a3 a4 a5 a6 a7 a8 a9 a10 ∧ Holds11 w1 (w.heap.size + 1) b0 b1 b2 b3 b4 b5 b6 b7 b8 b9 b10 ∧ Below w.heap.size w w1 := by
 refine ⟨((Holds11.alloc w a0 a1 a2 a3 a4 a5 a6 a7 a8 a9 a10 S).allocs (by simp) _).below hb (by simp; omega), ?_, ?_⟩
 ·have := (Holds11.alloc (w.alloc (.cells #[a0, a1, a2, a3, a4, a5, a6, a7, a8, a9, a10] S)) b0 b1 b2 b3 b4 b5 b6 b7 b8 b9 b10 T).below hb (by simp)
  rw [World.size_alloc] at this
  exact this
 ·exact (((Below.refl _ _).alloc (Nat.le_refl _) _).alloc (by simp) _).trans (hb.mono (by simp; omega))

set_option maxHeartbeats 1000000 in
theorem eqSlot_same (s : Sl) (w : World) :
  Calls Tryz.prog 74 #[.agg #[.int .i64 s.t, .int .i64 s.k, .int .i64 s.e, .int .i64 s.b, .int .i64 s.r, .int .i64 s.d, .int .i64 s.g, .int .i64 s.q, .int .i64 s.f, .bool s.o, .int .i64 s.p], .agg #[.int .i64 s.t, .int .i64 s.k, .int .i64 s.e, .int .i64 s.b, .int .i64 s.r, .int .i64 s.d, .int .i64 s.g, .int .i64 s.q, .int .i64 s.f, .bool s.o, .int .i64 s.p]] w fun e w' => e = .returned (.bool true) ∧ Below w.heap.size w w' := by
 go_enter Tryz.func74, Tryz.ntmps74
 go_wp2_with (first
  | (go_at_call 11; refine (eqCap_same _ _ _ _ _ _ _ _ _ _).mono ?_; rintro e w1 ⟨rfl, hb1⟩; obtain ⟨H0, H1, hB⟩ := two11 hb1; clear hb1; have x := H0.c10; have y := H1.c10))
 go_ret
 exact ⟨rfl, hB⟩

/-- What stands between two rounds. -/
def eqInv (w : World) (P Q : Option Addr) (L : List Sl) (i : Value) (w' : World) : Prop :=
 ∃ k : Nat, k ≤ L.length ∧ i = .int .i64 k ∧ Lies w' P L ∧ Lies w' Q L ∧ Below w.heap.size w w'

set_option maxRecDepth 100000 in
set_option maxHeartbeats 2000000 in
theorem eqSlots_same (P Q : Option Addr) (n m c d : Nat) (L : List Sl) (w : World) (hn : n = L.length) (hm : m = L.length) (hl : n ≤ 1048577) (hP : Lies w P L) (hQ : Lies w Q L) :
  Calls Tryz.prog 36 #[.slice P n c, .slice Q m d] w fun e w' => e = .returned (.bool true) ∧ Below w.heap.size w w' := by
 subst hn
 subst hm
 go_enter Tryz.func36, Tryz.ntmps36
 go_wp2
 go_loopw [5] (fun i w' => eqInv w P Q L i w') (fun i w' => L.length - (intOf i).toNat)
 case atStart => exact ⟨0, Nat.zero_le _, rfl, hP, hQ, Below.refl _ _⟩
 case round =>
  obtain ⟨k, hk, rfl, hP1, hQ1, hB⟩ := hrel
  by_cases hlt : k < L.length
  ·obtain ⟨B, O, rfl⟩ := hP1.some hlt
   obtain ⟨B2, O2, rfl⟩ := hQ1.some hlt
   obtain ⟨s, hs⟩ : ∃ s, L[k] = s := ⟨_, rfl⟩
   have hc := hP1.cells B O rfl k hlt
   have hd := hQ1.cells B2 O2 rfl k hlt
   rw [hs] at hc hd
   obtain ⟨c0, c1, c2, c3, c4, c5, c6, c7, c8, c9, c10⟩ := hc
   obtain ⟨d0, d1, d2, d3, d4, d5, d6, d7, d8, d9, d10⟩ := hd
   have x0 := cell_regrown c0
   have x1 := cell_regrown c1
   have x2 := cell_regrown c2
   have x3 := cell_regrown c3
   have x4 := cell_regrown c4
   have x5 := cell_regrown c5
   have x6 := cell_regrown c6
   have x7 := cell_regrown c7
   have x8 := cell_regrown c8
   have x9 := cell_regrown c9
   have x10 := cell_regrown c10
   have y0 := cell_regrown d0
   have y1 := cell_regrown d1
   have y2 := cell_regrown d2
   have y3 := cell_regrown d3
   have y4 := cell_regrown d4
   have y5 := cell_regrown d5
   have y6 := cell_regrown d6
   have y7 := cell_regrown d7
   have y8 := cell_regrown d8
   have y9 := cell_regrown d9
   have y10 := cell_regrown d10
   have hk1 : (k : Int) < (L.length : Int) := by omega
   go_upto_region 6 with fail
   refine wq_region (by kernel_rfl) (by kernel_rfl) ?_
   repeat (first | (refine wq_step (fun K hK => ?_); go_simp; first | (refine hK _ ?_; clear hK K) | (apply Exists.intro; refine ⟨fun _ => ?_, hK _ ?_⟩; (go_at_call 74; exact Calls.regrown_of (eqSlot_same _ _)); clear hK K)))
   refine wq_nil ?_
   intro _ hw'
   obtain ⟨⟨dq, osq⟩, hw''⟩ := hw'
   subst hw''
   go_wp2
   go_roundw
   case rel => exact ⟨k + 1, by omega, by go_num, hP1.below (below_regrown wr dq osq), hQ1.below (below_regrown wr dq osq), hB.trans ((below_regrown wr dq osq).mono hB.size)⟩
   case measure => simp [intOf]; omega
  ·go_wp2
   go_ret
   exact ⟨rfl, hB⟩

end Go.Proofs.YtigpbjcmmgdiaaaGreat
