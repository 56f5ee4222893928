/-
  Slots as one row of cells: what an append reads and leaves.
-/
import Derived.Test.YtalncgmncafhjaaLawSlots
import Derived.Test.YtalncgmncafhjaaFindImpl
import Derived.Laws.AppendOwn
namespace Go.Proofs.Ytalncgmncafhjaa
open Go.ChangeShapes Go.WideShapes Go.ChangeAt Go.RowKit
set_option linter.unusedVariables false

/-- All cells of a list. -/
def cellsAll (L : List Sl) : List Value := L.flatMap cellsOf
theorem cellsOf_length (s : Sl) : (cellsOf s).length = 11 := rfl
theorem cellsAll_length : ∀ L : List Sl, (cellsAll L).length = L.length * 11
  | [] => rfl
  | s :: L => by
    have := cellsAll_length L
    simp only [cellsAll, List.flatMap_cons, List.length_append, cellsOf_length, List.length_cons] at *
    omega
theorem cellsAll_append (A B : List Sl) : cellsAll (A ++ B) = cellsAll A ++ cellsAll B := by simp [cellsAll]
theorem cellsAll_one (s : Sl) : cellsAll [s] = cellsOf s := by simp [cellsAll]
theorem cellsAll_get : ∀ (L : List Sl) (i j : Nat) (hi : i < L.length), j < 11 → (cellsAll L)[i * 11 + j]? = (cellsOf L[i])[j]?
  | [], _, _, hi, _ => absurd hi (by simp)
  | s :: L, 0, j, _, hj => by
    rw [cellsAll, List.flatMap_cons, Nat.zero_mul, Nat.zero_add, List.getElem?_append_left (by rw [cellsOf_length]; exact hj)]; rfl
  | s :: L, i + 1, j, hi, hj => by
    have ih := cellsAll_get L i j (by simpa using hi) hj
    rw [cellsAll, List.flatMap_cons, List.getElem?_append_right (by rw [cellsOf_length]; omega), cellsOf_length, show (i + 1) * 11 + j - 11 = i * 11 + j by omega]
    exact ih
theorem cellsAll_one' : ∀ (L : List Sl), ∀ u ∈ cellsAll L, u.oneCell' = true := by
  intro L u hu
  obtain ⟨s, _, h⟩ := List.mem_flatMap.1 hu
  simp only [cellsOf, List.mem_cons, List.not_mem_nil, or_false] at h
  rcases h with rfl | rfl | rfl | rfl | rfl | rfl | rfl | rfl | rfl | rfl | rfl <;> rfl

theorem At11.get {W : World} {B O : Nat} {s : Sl} (h : At11 W B O s) : ∀ j, j < 11 → W.cell? ⟨B, O + j, none⟩ = (cellsOf s)[j]?
  | 0, _ => h.c0
  | 1, _ => h.c1
  | 2, _ => h.c2
  | 3, _ => h.c3
  | 4, _ => h.c4
  | 5, _ => h.c5
  | 6, _ => h.c6
  | 7, _ => h.c7
  | 8, _ => h.c8
  | 9, _ => h.c9
  | 10, _ => h.c10
  | n + 11, h => absurd h (by omega)
theorem At11.mk' {W : World} {B O : Nat} {s : Sl} (h : ∀ j, j < 11 → W.cell? ⟨B, O + j, none⟩ = (cellsOf s)[j]?) : At11 W B O s :=
  ⟨h 0 (by omega), h 1 (by omega), h 2 (by omega), h 3 (by omega), h 4 (by omega), h 5 (by omega), h 6 (by omega), h 7 (by omega), h 8 (by omega), h 9 (by omega), h 10 (by omega)⟩

/-- What a list in memory reads as, cell by cell. -/
theorem lies_news {W : World} {B O : Nat} {L : List Sl} (h : Lies W (some ⟨B, O, none⟩) L) : ∀ j u, (cellsAll L)[j]? = some u → W.cell? ((⟨B, O, none⟩ : Addr).add j) = some u := by
  intro j u hu
  have hlt : j < L.length * 11 := by
    have := (List.getElem?_eq_some_iff.1 hu).1
    rwa [cellsAll_length] at this
  have hi : j / 11 < L.length := by omega
  have e : j / 11 * 11 + j % 11 = j := by omega
  have hg := cellsAll_get L (j / 11) (j % 11) hi (by omega)
  rw [e, hu] at hg
  have hc := (h.cells B O rfl (j / 11) hi).get (j % 11) (by omega)
  rw [← hg, Nat.add_assoc, e] at hc
  unfold Addr.add
  by_cases hz : j = 0
  · subst hz; simpa using hc
  · rw [if_neg hz]; exact hc

/-- A row that is owned lies as a list. -/
theorem owns_lies {W : World} {base e g n cap : Nat} {L : List Sl} (h : W.ownsRow base e 11 (.slice (some ⟨g, 0, none⟩) n cap) n (cellsAll L)) : Lies W (some ⟨g, 0, none⟩) L ∧ base ≤ g ∧ n = L.length ∧ n ≤ cap ∧ g < W.heap.size := by
  obtain ⟨hlen, h2⟩ := h
  rw [cellsAll_length] at hlen
  have hn : n = L.length := by omega
  rcases h2 with ⟨h3, _⟩ | ⟨g', cap', cur, h3, hb, hg, hc, _, hs, ht⟩
  · cases h3
  · cases h3
    refine ⟨⟨.inr ⟨g, 0, rfl⟩, fun B O e i hi => ?_⟩, hb, hn, hc, (Array.getElem?_eq_some_iff.1 hg).1⟩
    cases e
    apply At11.mk'
    intro j hj
    have hget := cellsAll_get L i j hi hj
    rw [← ht, List.getElem?_take, if_pos (by omega)] at hget
    rw [World.cell?]
    simp only [hg, Nat.zero_add]
    simpa using hget

theorem lies_drop {W : World} {B O : Nat} {L : List Sl} (h : Lies W (some ⟨B, O, none⟩) L) (k : Nat) : Lies W (some ⟨B, O + k * 11, none⟩) (L.drop k) := by
  refine ⟨.inr ⟨_, _, rfl⟩, fun B' O' e i hi => ?_⟩
  cases e
  rw [List.length_drop] at hi
  rw [List.getElem_drop]
  have := h.cells B O rfl (k + i) (by omega)
  rw [show O + k * 11 + i * 11 = O + (k + i) * 11 by omega]
  exact this

theorem lies_grown {W W' : World} {row : Option Nat} {B O : Nat} {L : List Sl} (h : Lies W (some ⟨B, O, none⟩) L) (hg : W.grownBy W' row) (hne : some B ≠ row) (hB : B < W.heap.size) : Lies W' (some ⟨B, O, none⟩) L :=
  ⟨h.place, fun B' O' e i hi => by cases e; exact (h.cells B O rfl i hi).of fun j => World.cell?_of_block (hg.block B hB hne)⟩

/-- The capacity of an owned row. -/
theorem owns_cap {W : World} {base e g n cap : Nat} {xs : List Value} (h : W.ownsRow base e 11 (.slice (some ⟨g, 0, none⟩) n cap) n xs) : n ≤ cap ∧ cap ≤ 9223372036854775807 := by
  rcases h.2 with ⟨h3, _⟩ | ⟨g', cap', cur, h3, hb, hg, hc, hm, _⟩
  · cases h3
  · cases h3; exact ⟨hc, hm⟩

theorem own_base {W : World} {base base' e n : Nat} {v : Value} {xs : List Value} (h : W.ownsRow base e 11 v n xs) (hb : base' ≤ base) : W.ownsRow base' e 11 v n xs := by
  refine ⟨h.1, ?_⟩
  rcases h.2 with h2 | ⟨g, cap, cur, h3, h4, h5⟩
  · exact .inl h2
  · exact .inr ⟨g, cap, cur, h3, Nat.le_trans hb h4, h5⟩
theorem own_same {W W' : World} {base e n g cap : Nat} {xs : List Value} (h : W.ownsRow base e 11 (.slice (some ⟨g, 0, none⟩) n cap) n xs) (hs : W'.heap[g]? = W.heap[g]?) : W'.ownsRow base e 11 (.slice (some ⟨g, 0, none⟩) n cap) n xs := by
  refine ⟨h.1, ?_⟩
  rcases h.2 with ⟨h2, _⟩ | ⟨g', cap', cur, h3, h4, h5, h6⟩
  · cases h2
  · cases h3; exact .inr ⟨g, cap, cur, rfl, h4, hs.trans h5, h6⟩
theorem own_frozen {W : World} {base e n g cap : Nat} {xs : List Value} (h : W.ownsRow base e 11 (.slice (some ⟨g, 0, none⟩) n cap) n xs) (j : Nat) : W.frozen? ⟨g, j, none⟩ = false := by
  rcases h.2 with ⟨h2, _⟩ | ⟨g', cap', cur, h3, h4, h5, h6⟩
  · cases h2
  · cases h3; simp [World.frozen?, h5]

end Go.Proofs.Ytalncgmncafhjaa
