/-
  Rows of elements of n cells each, of any type: where they lie, and what writing one leaves.
-/
import Derived.Test.YthmambhagheocaaGreatDoorWords
import Derived.Deep.QuietTactic
import Derived.BigQuiet
namespace Go.Proofs.YthmambhagheocaaGreatDoor
open Go.ChangeShapes Go.WideShapes Go.ChangeAt Go.RowKit
set_option linter.unusedVariables false

/-- How an element is laid: so many cells, which ones. -/
structure Form (α : Type) where
  n : Nat
  cel : α → List Value
  len : ∀ x, (cel x).length = n
  pos : 0 < n

/-- Elements one behind the other. -/
structure LiesG {α : Type} (F : Form α) (W : World) (P : Option Addr) (L : List α) : Prop where
  place : L = [] ∨ ∃ B O, P = some ⟨B, O, none⟩
  cells : ∀ B O, P = some ⟨B, O, none⟩ → ∀ i (hi : i < L.length) j, j < F.n → W.cell? ⟨B, O + i * F.n + j, none⟩ = (F.cel L[i])[j]?

section
variable {α : Type} {F : Form α} {W W' : World} {P : Option Addr} {L : List α}

theorem LiesG.has (h : LiesG F W P L) {i : Nat} (hi : i < L.length) : ∃ B O, P = some ⟨B, O, none⟩ := by
  rcases h.place with e | e
  · subst e; exact absurd hi (by simp)
  · exact e
theorem LiesG.lt {B O : Nat} (h : LiesG F W (some ⟨B, O, none⟩) L) {i : Nat} (hi : i < L.length) : B < W.heap.size := by
  have h1 := h.cells B O rfl i hi 0 F.pos
  have h2 : 0 < (F.cel L[i]).length := by rw [F.len]; exact F.pos
  rw [List.getElem?_eq_getElem h2] at h1
  exact block_lt_of_cell h1
theorem LiesG.nil (F : Form α) (W : World) (P : Option Addr) : LiesG F W P [] := ⟨.inl rfl, fun _ _ _ i hi => absurd hi (Nat.not_lt_zero _)⟩
theorem LiesG.below (h : LiesG F W P L) (hb : Below W.heap.size W W') : LiesG F W' P L :=
  ⟨h.place, fun B O e i hi j hj => by
    subst e
    rw [(bcell hb).1 _ _ (h.lt hi)]; exact h.cells B O rfl i hi j hj⟩
theorem LiesG.out {n : Nat} (h : LiesG F W P L) (hb : Below n W W') (hn : ∀ B O, P = some ⟨B, O, none⟩ → B < n) : LiesG F W' P L :=
  ⟨h.place, fun B O e i hi j hj => (hb.cell (p := ⟨B, _, none⟩) (hn B O e)).trans (h.cells B O e i hi j hj)⟩
theorem LiesG.drew (h : LiesG F W P L) : LiesG F W.drew P L := ⟨h.place, fun B O e i hi j hj => h.cells B O e i hi j hj⟩
/-- The j-th cell of the i-th element. -/
theorem LiesG.at {B O : Nat} (h : LiesG F W (some ⟨B, O, none⟩) L) {i : Nat} (hi : i < L.length) (j : Nat) (v : Value) (hj : (F.cel L[i])[j]? = some v) : W.cell? ⟨B, O + i * F.n + j, none⟩ = some v := by
  have hlt : j < F.n := by rw [← F.len L[i]]; exact (List.getElem?_eq_some_iff.1 hj).1
  rw [h.cells B O rfl i hi j hlt]; exact hj

/-- Room for m elements. -/
structure RoomG (F : Form α) (W : World) (B m : Nat) : Prop where
  c : ∀ j, j < m * F.n → (W.cell? ⟨B, j, none⟩).isSome = true
  z : ∀ j, W.frozen? ⟨B, j, none⟩ = false
  lt : B < W.heap.size
theorem RoomG.below {B m : Nat} (h : RoomG F W B m) (hb : Below W.heap.size W W') : RoomG F W' B m :=
  ⟨fun j hj => by rw [(bcell hb).1 _ _ h.lt]; exact h.c j hj, fun j => by rw [(bcell hb).2 _ _ h.lt]; exact h.z j, Nat.lt_of_lt_of_le h.lt hb.size⟩
theorem RoomG.new (F : Form α) (w : World) (m T : Nat) (z : Array Value) : RoomG F (w.alloc (.cells (madeCells z (m * F.n)) T)) w.heap.size m := by
  refine ⟨fun j hj => ?_, fun j => by go_simp, by simp⟩
  rw [World.cell?_alloc_at _ _ _ _ rfl]
  have : (madeCells z (m * F.n)).size = m * F.n := size_madeCells _ _
  simp [this, hj]

theorem sizeG_setCells (W : World) (B O : Nat) (vs : List Value) : (W.setCells B O vs).heap.size = W.heap.size := by
  induction vs generalizing O W with
  | nil => rfl
  | cons v vs ih => simp [World.setCells, ih]

theorem RoomG.set {B m O : Nat} (h : RoomG F W B m) (vs : List Value) (hO : O + vs.length ≤ m * F.n) : RoomG F (W.setCells B O vs) B m := by
  refine ⟨fun j hj => ?_, fun j => by rw [World.frozen?_setCells]; exact h.z j, by rw [sizeG_setCells]; exact h.lt⟩
  by_cases e : O ≤ j ∧ j < O + vs.length
  · obtain ⟨i, rfl⟩ : ∃ i, j = O + i := ⟨j - O, by omega⟩
    rw [World.cell?_setCells_in B vs O W (fun i hi => h.c _ (by omega)) i (by omega)]
    rfl
  · rw [World.cell?_setCells_out B vs O W ⟨B, j, none⟩ (fun _ _ => by simp; omega)]
    exact h.c j hj

/-- One more element behind those that lie there. -/
theorem LiesG.snoc {G m : Nat} (hL : LiesG F W (some ⟨G, 0, none⟩) L) (hR : RoomG F W G m) (x : α) (hm : L.length < m) :
    LiesG F (W.setCells G (L.length * F.n) (F.cel x)) (some ⟨G, 0, none⟩) (L ++ [x]) := by
  have hmul : (L.length + 1) * F.n ≤ m * F.n := Nat.mul_le_mul_right _ hm
  rw [Nat.add_mul, Nat.one_mul] at hmul
  refine ⟨.inr ⟨G, 0, rfl⟩, fun B O e i hi j hj => ?_⟩
  cases e
  by_cases e : i < L.length
  · have h1 : (i + 1) * F.n ≤ L.length * F.n := Nat.mul_le_mul_right _ e
    rw [Nat.add_mul, Nat.one_mul] at h1
    rw [World.cell?_setCells_out G (F.cel x) (L.length * F.n) W ⟨G, 0 + i * F.n + j, none⟩ (fun _ _ => by simp; omega), List.getElem_append_left e]
    exact hL.cells G 0 rfl i e j hj
  · obtain rfl : i = L.length := by simp at hi; omega
    have hlt : j < (F.cel x).length := by rw [F.len]; exact hj
    have hx := World.cell?_setCells_in G (F.cel x) (L.length * F.n) W (fun t ht => hR.c _ (by rw [F.len] at ht; omega)) j hlt
    rw [Nat.zero_add, hx]
    simp [List.getElem?_eq_getElem hlt]

theorem LiesG.apart {G O : Nat} (h : LiesG F W P L) (vs : List Value) (hB : ∀ b o, P = some ⟨b, o, none⟩ → b ≠ G) : LiesG F (W.setCells G O vs) P L :=
  ⟨h.place, fun b o e i hi j hj => by
    rw [World.cell?_setCells_out G vs O W ⟨b, o + i * F.n + j, none⟩ (fun e' => absurd e' (hB b o e))]
    exact h.cells b o e i hi j hj⟩
theorem LiesG.far {G O : Nat} {v : Value} (h : LiesG F W P L) (hB : ∀ b o, P = some ⟨b, o, none⟩ → b ≠ G) : LiesG F (W.setCell ⟨G, O, none⟩ v) P L := h.apart [v] hB
end

theorem belowG_set {w W : World} {B O : Nat} (h : Below w.heap.size w W) (hB : w.heap.size ≤ B) : ∀ (vs : List Value) (O : Nat) (W : World), Below w.heap.size w W → Below w.heap.size w (W.setCells B O vs)
  | [], _, _, h => h
  | v :: vs, O, W, h => by
    simp only [World.setCells]
    exact belowG_set (O := O) h hB vs _ _ (h.setCell hB _)

theorem belowG_drewN {B : Nat} {a w : World} (h : Below B a w) (n : Nat) : Below B a (w.drewN n) := h.trans ⟨rfl, rfl, rfl, Nat.le_refl _, fun _ _ => rfl⟩

end Go.Proofs.YthmambhagheocaaGreatDoor
