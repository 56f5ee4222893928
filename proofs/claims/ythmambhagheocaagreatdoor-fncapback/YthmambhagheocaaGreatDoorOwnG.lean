/-
  Rows of elements of any form that their function owns: what an append leaves.
-/
import Derived.Test.YthmambhagheocaaGreatDoorRowG
import Derived.Laws.AppendOwn
namespace Go.Proofs.YthmambhagheocaaGreatDoor
open Go.ChangeShapes Go.WideShapes Go.ChangeAt Go.RowKit
set_option linter.unusedVariables false

/-- The cells of all elements, one behind the other. -/
def cellsG {α : Type} (F : Form α) : List α → List Value
  | [] => []
  | x :: L => F.cel x ++ cellsG F L
section
variable {α : Type} {F : Form α}
theorem cellsG_length : ∀ L : List α, (cellsG F L).length = L.length * F.n
  | [] => by simp [cellsG]
  | x :: L => by simp [cellsG, F.len, cellsG_length L, Nat.add_mul]; omega
theorem cellsG_append : ∀ (L M : List α), cellsG F (L ++ M) = cellsG F L ++ cellsG F M
  | [], _ => rfl
  | x :: L, M => by simp [cellsG, cellsG_append L M]
theorem cellsG_one (x : α) : cellsG F [x] = F.cel x := by simp [cellsG]
theorem cellsG_get : ∀ (L : List α) (i j : Nat) (hi : i < L.length), j < F.n → (cellsG F L)[i * F.n + j]? = (F.cel L[i])[j]?
  | x :: L, 0, j, hi, hj => by
    simp only [cellsG, Nat.zero_mul, Nat.zero_add, List.getElem_cons_zero]
    rw [List.getElem?_append_left (by rw [F.len]; exact hj)]
  | x :: L, i + 1, j, hi, hj => by
    simp only [cellsG, List.getElem_cons_succ]
    rw [List.getElem?_append_right (by rw [F.len, Nat.add_mul]; omega), F.len]
    have e : (i + 1) * F.n + j - F.n = i * F.n + j := by rw [Nat.add_mul]; omega
    rw [e]
    exact cellsG_get L i j (by simpa using hi) hj

/-- A row that is owned. -/
def OwnG (F : Form α) (e : TypeId) (W : World) (base : Nat) (v : Value) (L : List α) : Prop := W.ownsRow base e F.n v L.length (cellsG F L)

variable {e : TypeId} {W W' : World} {base : Nat} {v : Value} {L : List α}
/-- It is a slice of that length: nil, or from a block's beginning on. -/
theorem OwnG.form (h : OwnG F e W base v L) : ∃ P cap, v = .slice P L.length cap ∧ LiesG F W P L ∧ L.length ≤ cap ∧ cap ≤ 9223372036854775807 ∧ (∀ B O, P = some ⟨B, O, none⟩ → base ≤ B ∧ B < W.heap.size ∧ O = 0 ∧ ∀ j, W.frozen? ⟨B, j, none⟩ = false) ∧ (P = none → L = []) ∧ v.ownBlock = P.map (·.block) := by
  obtain ⟨h1, h2 | ⟨g, cap, cur, rfl, hb, hg, hc, hm, hs, ht⟩⟩ := h
  · obtain ⟨rfl, hn⟩ := h2
    have : L = [] := List.eq_nil_of_length_eq_zero hn
    subst this
    exact ⟨none, 0, rfl, LiesG.nil _ _ _, Nat.le_refl _, Nat.zero_le _, fun B O e => (by cases e), fun _ => rfl, rfl⟩
  · refine ⟨some ⟨g, 0, none⟩, cap, rfl, ⟨.inr ⟨g, 0, rfl⟩, ?_⟩, hc, hm, ?_, fun e => (by cases e), rfl⟩
    · intro B O e i hi j hj
      cases e
      have hget := cellsG_get (F := F) L i j hi hj
      have hlt : i * F.n + j < L.length * F.n := by
        have := Nat.mul_le_mul_right F.n (Nat.succ_le_of_lt hi)
        rw [Nat.succ_mul] at this; omega
      rw [← ht, List.getElem?_take, if_pos hlt] at hget
      rw [World.cell?]
      simp only [hg, Nat.zero_add]
      simpa using hget
    · intro B O e
      cases e
      exact ⟨hb, (Array.getElem?_eq_some_iff.1 hg).1, rfl, fun j => by simp [World.frozen?, hg]⟩
theorem OwnG.same (h : OwnG F e W base v L) (hs : ∀ g, v.ownBlock = some g → W'.heap[g]? = W.heap[g]?) : OwnG F e W' base v L := by
  refine ⟨h.1, ?_⟩
  rcases h.2 with h2 | ⟨g, cap, cur, rfl, h4, h5, h6⟩
  · exact .inl h2
  · exact .inr ⟨g, cap, cur, rfl, h4, (hs g rfl).trans h5, h6⟩
theorem own_some {s n : Nat} {xs : List Value} (h : W.ownsRow base e s v n xs) (hn : 0 < n) : ∃ g cap, v = .slice (some ⟨g, 0, none⟩) n cap := by
  rcases h.2 with ⟨_, h0⟩ | ⟨g, cap, cur, h3, _⟩
  · omega
  · exact ⟨g, cap, h3⟩
theorem OwnG.lt (h : OwnG F e W base v L) : ∀ g, v.ownBlock = some g → base ≤ g ∧ g < W.heap.size := World.ownsRow.lt h
theorem OwnG.below (h : OwnG F e W base v L) (hb : Below W.heap.size W W') : OwnG F e W' base v L := h.same fun g hg => hb.block g (h.lt g hg).2
theorem OwnG.out {n : Nat} (h : OwnG F e W base v L) (hb : Below n W W') (hn : ∀ g, v.ownBlock = some g → g < n) : OwnG F e W' base v L := h.same fun g hg => hb.block g (hn g hg)
theorem OwnG.rebase (h : OwnG F e W base v L) {base' : Nat} (hb : base' ≤ base) : OwnG F e W base' v L := by
  refine ⟨h.1, ?_⟩
  rcases h.2 with h2 | ⟨g, cap, cur, h3, h4, h5⟩
  · exact .inl h2
  · exact .inr ⟨g, cap, cur, h3, Nat.le_trans hb h4, h5⟩
theorem OwnG.ne (h : OwnG F e W base v L) {b : Nat} {c : Array Value} {T : TypeId} {z : Nat × Nat} (hb : W.heap[b]? = some (.cells c T z)) (hT : T ≠ e) : v.ownBlock ≠ some b := by
  intro hv
  rcases h.2 with ⟨rfl, _⟩ | ⟨g, cap, cur, rfl, h4, h5, h6⟩
  · cases hv
  · simp [Value.ownBlock] at hv
    subst hv
    rw [hb] at h5
    injection h5 with h5
    injection h5 with _ h5
    exact hT h5
theorem OwnG.beside {e' : TypeId} {base' s n : Nat} {u : Value} {xs : List Value} (h : OwnG F e W base v L) (hu : W.ownsRow base' e' s u n xs) (hg : W.grownBy W' u.ownBlock) (he : e ≠ e') : OwnG F e W' base v L := by
  refine h.same fun g hv => ?_
  refine hg.block g (h.lt g hv).2 (fun hug => ?_)
  rcases h.2 with ⟨rfl, _⟩ | ⟨g1, cap, cur, rfl, _, h5, _⟩
  · cases hv
  · rcases hu.2 with ⟨rfl, _⟩ | ⟨g2, cap2, cur2, rfl, _, h7, _⟩
    · cases hug
    · simp [Value.ownBlock] at hv hug
      subst hv
      subst hug
      rw [h5] at h7
      injection h7 with h7
      injection h7 with _ h7
      exact he h7
theorem OwnG.drew (h : OwnG F e W base v L) : OwnG F e W.drew base v L := h.same fun g _ => rfl
theorem OwnG.nil (F : Form α) (e : TypeId) (W : World) (base : Nat) : OwnG F e W base (.slice none 0 0) [] := World.ownsRow_nil W base e F.n
theorem OwnG.made (F : Form α) (e : TypeId) (w : World) (base : Nat) (cur : Array Value) (cap : Nat) (hb : base ≤ w.heap.size) (hm : cap ≤ maxLen) (hs : cur.size = cap * F.n) : OwnG F e (w.alloc (.cells cur e)) base (.slice (some ⟨w.heap.size, 0, none⟩) 0 cap) [] :=
  World.ownsRow_made w cur cap hb hm hs
theorem OwnG.snoc (x : α) {n : Nat} (hn : n = L.length + 1) (h : W.ownsRow base e F.n v n (cellsG F L ++ F.cel x)) : OwnG F e W base v (L ++ [x]) := by
  subst hn
  unfold OwnG
  rw [cellsG_append, cellsG_one, List.length_append]
  exact h
/-- The cells of an element that lies in a block of its own. -/
theorem newsG {w : World} (x : α) (T : TypeId) : ∀ j u, (F.cel x)[j]? = some u → (w.alloc (.cells (F.cel x).toArray T)).cell? ((⟨w.heap.size, 0, none⟩ : Addr).add j) = some u := by
  intro j u hu
  have hj := (List.getElem?_eq_some_iff.1 hu).1
  have e : (⟨w.heap.size, 0, none⟩ : Addr).add j = ⟨w.heap.size, j, none⟩ := by
    unfold Addr.add; by_cases h : j = 0
    · subst h; rfl
    · rw [if_neg h]; simp
  rw [e, World.cell?_alloc_at _ _ _ _ rfl]
  simpa using hu
end

theorem box_set {W : World} {b : Nat} {u v : Value} {T : TypeId} {z : Nat × Nat} (h : W.heap[b]? = some (.cells #[u] T z)) : (W.setCell ⟨b, 0, none⟩ v).heap[b]? = some (.cells #[v] T z) := by
  obtain ⟨hlt, he⟩ := Array.getElem?_eq_some_iff.1 h
  simp [World.setCell, Array.getElem?_modify, h]

end Go.Proofs.YthmambhagheocaaGreatDoor
