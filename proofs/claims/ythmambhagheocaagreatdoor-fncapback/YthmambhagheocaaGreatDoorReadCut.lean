/-
  A text cut at its spaces: as the library's Split does, as words one behind the other; put together again.
-/
import Derived.Test.YthmambhagheocaaGreatDoorCore
import Derived.Lib.SplitLaws
import Derived.Lib.IndexLaws
import Derived.Lib.IndexBytes
namespace Go.Proofs.YthmambhagheocaaGreatDoor
set_option linter.unusedVariables false

/-- The pieces of a text between its spaces. -/
def cutL : List UInt8 → List (List UInt8)
  | [] => [[]]
  | x :: l => if x = 32 then [] :: cutL l else
    match cutL l with
    | [] => [[x]]
    | h :: t => (x :: h) :: t

/-- Words with a space between any two. -/
def joinL : List (List UInt8) → List UInt8
  | [] => []
  | [w] => w
  | w :: v :: t => w ++ 32 :: joinL (v :: t)

theorem cutL_ne : ∀ l : List UInt8, cutL l ≠ []
  | [] => by simp [cutL]
  | x :: l => by
    rw [cutL]; split
    · simp
    · split <;> simp
theorem cutL_space (l : List UInt8) : cutL (32 :: l) = [] :: cutL l := by rw [cutL, if_pos rfl]
theorem cutL_other {x : UInt8} (h : x ≠ 32) {l h0 : List UInt8} {t : List (List UInt8)} (e : cutL l = h0 :: t) : cutL (x :: l) = (x :: h0) :: t := by rw [cutL, if_neg h, e]
theorem cutL_word : ∀ (p : List UInt8), (∀ x ∈ p, x ≠ 32) → ∀ (l h0 : List UInt8) (t : List (List UInt8)), cutL l = h0 :: t → cutL (p ++ l) = (p ++ h0) :: t
  | [], _, l, h0, t, e => e
  | x :: p, hp, l, h0, t, e => cutL_other (hp x (List.mem_cons_self ..)) (cutL_word p (fun y hy => hp y (List.mem_cons_of_mem _ hy)) l h0 t e)
theorem cutL_first (p r : List UInt8) (hp : ∀ x ∈ p, x ≠ 32) : cutL (p ++ 32 :: r) = p :: cutL r := by
  have := cutL_word p hp (32 :: r) [] (cutL r) (cutL_space r)
  simpa using this
theorem cutL_last (p : List UInt8) (hp : ∀ x ∈ p, x ≠ 32) : cutL p = [p] := by
  have := cutL_word p hp [] [] [] rfl
  simpa using this
theorem cut_join : ∀ (ws : List (List UInt8)), ws ≠ [] → (∀ w ∈ ws, ∀ x ∈ w, x ≠ 32) → cutL (joinL ws) = ws
  | [], h, _ => absurd rfl h
  | [w], _, hw => cutL_last w (hw w (List.mem_cons_self ..))
  | w :: v :: t, _, hw => by
    rw [joinL, cutL_first w _ (hw w (List.mem_cons_self ..)), cut_join (v :: t) (by simp) (fun u hu => hw u (List.mem_cons_of_mem _ hu))]
theorem join_cons (x : UInt8) (h : List UInt8) (t : List (List UInt8)) : joinL ((x :: h) :: t) = x :: joinL (h :: t) := by
  cases t with
  | nil => rfl
  | cons v t => simp [joinL]
theorem join_nil {t : List (List UInt8)} (h : t ≠ []) : joinL ([] :: t) = 32 :: joinL t := by
  cases t with
  | nil => exact absurd rfl h
  | cons v t => simp [joinL]
theorem join_cut : ∀ l : List UInt8, joinL (cutL l) = l
  | [] => rfl
  | x :: l => by
    have ih := join_cut l
    by_cases h : x = 32
    · subst h
      rw [cutL_space, join_nil (cutL_ne l), ih]
    · obtain ⟨h0, t, e⟩ : ∃ h0 t, cutL l = h0 :: t := by
        cases e : cutL l with
        | nil => exact absurd e (cutL_ne l)
        | cons h0 t => exact ⟨h0, t, rfl⟩
      rw [cutL_other h e, join_cons, ← e, ih]
theorem cutL_free : ∀ (l : List UInt8), ∀ w ∈ cutL l, ∀ x ∈ w, x ≠ 32
  | [], w, hw, x, hx => by simp [cutL] at hw; subst hw; simp at hx
  | y :: l, w, hw, x, hx => by
    have ih := cutL_free l
    by_cases h : y = 32
    · subst h
      rw [cutL_space] at hw
      rcases List.mem_cons.1 hw with e | e
      · subst e; simp at hx
      · exact ih w e x hx
    · obtain ⟨h0, t, e⟩ : ∃ h0 t, cutL l = h0 :: t := by
        cases e : cutL l with
        | nil => exact absurd e (cutL_ne l)
        | cons h0 t => exact ⟨h0, t, rfl⟩
      rw [cutL_other h e] at hw
      rcases List.mem_cons.1 hw with e2 | e2
      · subst e2
        rcases List.mem_cons.1 hx with e3 | e3
        · subst e3; exact h
        · exact ih h0 (by rw [e]; exact List.mem_cons_self ..) x e3
      · exact ih w (by rw [e]; exact List.mem_cons_of_mem _ e2) x hx

/-- A text has no space, or a first one. -/
theorem first_space : ∀ l : List UInt8, (∀ x ∈ l, x ≠ 32) ∨ ∃ p r, l = p ++ 32 :: r ∧ ∀ x ∈ p, x ≠ 32
  | [] => .inl (fun x hx => by simp at hx)
  | y :: l => by
    by_cases h : y = 32
    · subst h; exact .inr ⟨[], l, rfl, fun x hx => by simp at hx⟩
    · rcases first_space l with ih | ⟨p, r, e, hp⟩
      · exact .inl fun x hx => (List.mem_cons.1 hx).elim (fun e => by rw [e]; exact h) (ih x)
      · exact .inr ⟨y :: p, r, by rw [e]; rfl, fun x hx => (List.mem_cons.1 hx).elim (fun e => by rw [e]; exact h) (hp x)⟩

theorem indexByte_at : ∀ (p r : List UInt8), (∀ x ∈ p, x ≠ 32) → Lib.index (p ++ 32 :: r) [32] = (p.length : Int) := by
  intro p r hp
  refine Lib.index_first (i := p.length) (by simp) ?_ ?_
  · simp [Lib.occAt]
  · intro j hj
    have h2 := hp p[j] (List.getElem_mem hj)
    have hlt : j < (p ++ 32 :: r).length := by simp; omega
    have e : (p ++ 32 :: r)[j] = p[j] := List.getElem_append_left hj
    rw [Lib.occAt, List.drop_eq_getElem_cons hlt, e]
    simp [List.isPrefixOf]
    exact fun h => h2 h.symm

theorem split_cut : ∀ (n : Nat) (l : List UInt8), l.length ≤ n → Lib.split l [32] = cutL l := by
  intro n
  induction n with
  | zero => 
    intro l hl
    have : l = [] := List.eq_nil_of_length_eq_zero (by omega)
    subst this
    rfl
  | succ n ih =>
    intro l hl
    rcases first_space l with h | ⟨p, r, rfl, hp⟩
    · have hc : Lib.count l [32] = 0 := by rw [Lib.count_one]; exact List.count_eq_zero.2 (fun hm => h 32 hm rfl)
      rw [Lib.split, hc, Lib.splitK, cutL_last l h]
    · have hc : Lib.count (p ++ 32 :: r) [32] = Lib.count r [32] + 1 := by
        rw [Lib.count_one, Lib.count_one, List.count_append, List.count_cons_self, List.count_eq_zero.2 (fun hm => hp 32 hm rfl)]; omega
      have ihr := ih r (by simp at hl; omega)
      rw [Lib.split] at ihr
      rw [Lib.split, hc, Lib.splitK, indexByte_at p r hp, cutL_first p r hp, ← ihr]
      simp

end Go.Proofs.YthmambhagheocaaGreatDoor
