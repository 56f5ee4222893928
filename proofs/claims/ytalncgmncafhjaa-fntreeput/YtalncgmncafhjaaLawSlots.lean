/-
  What toTreeSlotS of the laws answers: a list of slots anew.
-/
import Derived.Test.YtalncgmncafhjaaToSlots
namespace Go.Proofs.Ytalncgmncafhjaa
open Go.ChangeShapes Go.WideShapes Go.ChangeAt Go.RowKit
set_option linter.unusedVariables false

/-- The cells of new slots. -/
def roomCells (n : Nat) : Array Value := madeCells #[.int .i64 0, .int .i64 0, .int .i64 0, .int .i64 0, .int .i64 0, .int .i64 0, .int .i64 0, .int .i64 0, .int .i64 0, .bool false, .int .i64 0] (n * 11)

theorem slotInfo : (Try.prog.info? 27).map (fun i => (i.zero, i.size, i.bytes)) = some (some (.agg #[.int .i64 0, .int .i64 0, .int .i64 0, .int .i64 0, .int .i64 0, .int .i64 0, .int .i64 0, .int .i64 0, .int .i64 0, .bool false, .int .i64 0]), 11, 88) := by kernel_rfl

theorem makeSlots (n : Nat) (hn : n ≤ 1048577) (w : World) :
    (Instr.makeSlice 23 (.int .i64 (n : Int)) (.int .i64 (n : Int))).run Try.prog w = .ok (.slice (some ⟨w.heap.size, 0, none⟩) n n) (w.alloc (.cells (roomCells n) 27)) := by
  obtain ⟨i, hi, hzz⟩ := Option.map_eq_some_iff.1 slotInfo
  simp only [Prod.mk.injEq] at hzz
  obtain ⟨hz, hs, hb⟩ := hzz
  have := run_make (P := Try.prog) w 23 27 i _ Try.underlying23 hi hz .i64 .i64 n n (by omega) (Int.le_refl _) (by rw [hb]; omega) (by omega)
  rw [hs] at this
  exact this

/-- A block with room for this many slots. -/
structure Room (W : World) (B n : Nat) : Prop where
  c : ∀ j, j < n * 11 → (W.cell? ⟨B, j, none⟩).isSome = true
  z : ∀ j, W.frozen? ⟨B, j, none⟩ = false
  lt : B < W.heap.size

theorem Room.new (w : World) (n T : Nat) : Room (w.alloc (.cells (roomCells n) T)) w.heap.size n := by
  refine ⟨fun j hj => ?_, fun j => by go_simp, by simp⟩
  rw [World.cell?_alloc_at _ _ _ _ rfl]
  have : (roomCells n).size = n * 11 := size_madeCells _ _
  simp [this, hj]

theorem Room.below {W W' : World} {B n : Nat} (h : Room W B n) (hb : Below W.heap.size W W') : Room W' B n :=
  ⟨fun j hj => by rw [(bcell hb).1 _ _ h.lt]; exact h.c j hj, fun j => by rw [(bcell hb).2 _ _ h.lt]; exact h.z j, Nat.lt_of_lt_of_le h.lt hb.size⟩

/-- The eleven values of a slot. -/
def cellsOf (s : Sl) : List Value := [.int .i64 s.t, .int .i64 s.k, .int .i64 s.e, .int .i64 s.b, .int .i64 s.r, .int .i64 s.d, .int .i64 s.g, .int .i64 s.q, .int .i64 s.f, .bool s.o, .int .i64 s.p]

theorem Room.set {W : World} {B n O : Nat} (h : Room W B n) (s : Sl) (hO : O + 11 ≤ n * 11) : Room (W.setCells B O (cellsOf s)) B n := by
  refine ⟨fun j hj => ?_, fun j => by rw [World.frozen?_setCells]; exact h.z j, ?_⟩
  · by_cases e : O ≤ j ∧ j < O + 11
    · obtain ⟨i, rfl⟩ : ∃ i, j = O + i := ⟨j - O, by omega⟩
      have hi : i < (cellsOf s).length := by simp [cellsOf]; omega
      rw [World.cell?_setCells_in B (cellsOf s) O W (fun i hi => h.c _ (by simp [cellsOf] at hi; omega)) i hi]
      rfl
    · rw [World.cell?_setCells_out B (cellsOf s) O W ⟨B, j, none⟩ (fun _ _ => by simp [cellsOf]; omega)]
      exact h.c j hj
  · simp [cellsOf, World.setCells]; exact h.lt

theorem At11.set {W : World} {B n O : Nat} (h : Room W B n) (s : Sl) (hO : O + 11 ≤ n * 11) : At11 (W.setCells B O (cellsOf s)) B O s := by
  have hc : ∀ i (hi : i < (cellsOf s).length), (W.setCells B O (cellsOf s)).cell? ⟨B, O + i, none⟩ = some (cellsOf s)[i] := fun i hi =>
    World.cell?_setCells_in B (cellsOf s) O W (fun i hi => h.c _ (by simp [cellsOf] at hi; omega)) i hi
  exact ⟨hc 0 (by simp [cellsOf]), hc 1 (by simp [cellsOf]), hc 2 (by simp [cellsOf]), hc 3 (by simp [cellsOf]), hc 4 (by simp [cellsOf]), hc 5 (by simp [cellsOf]), hc 6 (by simp [cellsOf]), hc 7 (by simp [cellsOf]), hc 8 (by simp [cellsOf]), hc 9 (by simp [cellsOf]), hc 10 (by simp [cellsOf])⟩

theorem At11.apart {W : World} {B B' O O' : Nat} {s s' : Sl} (h : At11 W B O s) (hO : B = B' → O + 11 ≤ O' ∨ O' + 11 ≤ O) : At11 (W.setCells B' O' (cellsOf s')) B O s := by
  have hc : ∀ j, j < 11 → (W.setCells B' O' (cellsOf s')).cell? ⟨B, O + j, none⟩ = W.cell? ⟨B, O + j, none⟩ := fun j hj =>
    World.cell?_setCells_out B' (cellsOf s') O' W ⟨B, O + j, none⟩ (fun e _ => by have := hO e; simp [cellsOf]; omega)
  exact ⟨(hc 0 (by omega)).trans h.c0, (hc 1 (by omega)).trans h.c1, (hc 2 (by omega)).trans h.c2, (hc 3 (by omega)).trans h.c3, (hc 4 (by omega)).trans h.c4, (hc 5 (by omega)).trans h.c5, (hc 6 (by omega)).trans h.c6, (hc 7 (by omega)).trans h.c7, (hc 8 (by omega)).trans h.c8, (hc 9 (by omega)).trans h.c9, (hc 10 (by omega)).trans h.c10⟩

theorem Lies.apart {W : World} {P : Option Addr} {L : List Sl} {B O : Nat} (h : Lies W P L) (s : Sl) (hB : ∀ b o, P = Option.some ⟨b, o, none⟩ → b ≠ B) : Lies (W.setCells B O (cellsOf s)) P L :=
  ⟨h.place, fun b o e i hi => (h.cells b o e i hi).apart fun eb => absurd eb (hB b o e)⟩

theorem below_setCells {w W : World} {B O : Nat} (h : Below w.heap.size w W) (hB : w.heap.size ≤ B) (s : Sl) : Below w.heap.size w (W.setCells B O (cellsOf s)) := by
  simp only [cellsOf, World.setCells]
  repeat (refine Below.setCell ?_ hB _)
  exact h

/-- What stands between two rounds: the first k are copied. -/
def toInv (w : World) (P : Option Addr) (L : List Sl) (i : Value) (w' : World) : Prop :=
  ∃ k : Nat, k ≤ L.length ∧ i = .int .i64 k ∧ Lies w' P L ∧ Lies w' (some ⟨w.heap.size, 0, none⟩) (L.take k) ∧ Room w' w.heap.size L.length ∧ Below w.heap.size w w'

end Go.Proofs.Ytalncgmncafhjaa
