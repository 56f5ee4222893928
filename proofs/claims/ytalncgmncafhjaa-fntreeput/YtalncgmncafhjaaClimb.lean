/-
  The first slot from which nothing came: the plain facts.
-/
import Derived.Test.YtalncgmncafhjaaEndImpl
namespace Go.Proofs.Ytalncgmncafhjaa
set_option linter.unusedVariables false

/-- The depth at a place. -/
def depN (L : List Sl) (j : Nat) : Int := ((L[j]?).map Sl.p).getD 0
theorem depN_at {L : List Sl} {j : Nat} (h : j < L.length) : depN L j = L[j].p := by simp [depN, List.getElem?_eq_getElem h]

/-- Each is deeper than the one ahead of it. -/
def climbs (f : Nat → Int) : Nat → List Nat → Prop
  | _, [] => True
  | a, x :: xs => f a < f x ∧ climbs f x xs
theorem climbs_snoc (f : Nat → Int) : ∀ (xs : List Nat) (a x : Nat), climbs f a (xs ++ [x]) ↔ climbs f a xs ∧ f (lastN a xs) < f x
  | [], a, x => by simp [climbs, lastN]
  | y :: ys, a, x => by
    have ih := climbs_snoc f ys y x
    have e : lastN a (y :: ys) = lastN y ys := by
      cases ys with
      | nil => rfl
      | cons z zs => simp [lastN, List.getLast?_cons]
    simp only [List.cons_append, climbs, ih, e, and_assoc]
theorem climbs_range (f : Nat → Int) (i : Nat) : ∀ k, climbs f i (List.range' (i + 1) k) ↔ ∀ t, t < k → f (i + t) < f (i + t + 1)
  | 0 => by simp [climbs]
  | k + 1 => by
    rw [List.range'_concat, climbs_snoc, climbs_range f i k, lastN_range]
    constructor
    · rintro ⟨h1, h2⟩ t ht
      rcases Nat.lt_succ_iff_lt_or_eq.1 ht with h | h
      · exact h1 t h
      · subst h
        have e : i + 1 + 1 * t = i + t + 1 := by omega
        rw [e] at h2
        exact h2
    · intro h
      refine ⟨fun t ht => h t (by omega), ?_⟩
      have e : i + 1 + 1 * k = i + k + 1 := by omega
      rw [e]
      exact h k (by omega)

/-- The first leaf is this many places on. -/
structure IsLeaf (L : List Sl) (i k : Nat) : Prop where
  up : ∀ t, t < k → depN L (i + t) < depN L (i + t + 1)
  inn : i + k < L.length
  top : i + k + 1 < L.length → depN L (i + k + 1) ≤ depN L (i + k)

theorem isLeaf_ex (L : List Sl) (i : Nat) (hi : i < L.length) : ∃ k, IsLeaf L i k := by
  suffices H : ∀ n k, i + k + n = L.length → 0 < n → (∀ t, t < k → depN L (i + t) < depN L (i + t + 1)) → ∃ k, IsLeaf L i k from H (L.length - i) 0 (by omega) (by omega) (fun t ht => absurd ht (by omega))
  intro n
  induction n with
  | zero => intro k _ h _; omega
  | succ n ih =>
    intro k hk _ hup
    by_cases h1 : i + k + 1 < L.length
    · by_cases h2 : depN L (i + k) < depN L (i + k + 1)
      · refine ih (k + 1) (by omega) (by omega) (fun t ht => ?_)
        rcases Nat.lt_succ_iff_lt_or_eq.1 ht with h | h
        · exact hup t h
        · subst h; exact h2
      · exact ⟨k, hup, by omega, fun _ => by omega⟩
    · exact ⟨k, hup, by omega, fun h => absurd h h1⟩

theorem climb_trans {f : Nat → Int} {i : Nat} : ∀ {k : Nat}, (∀ t, t < k → f (i + t) < f (i + t + 1)) → 0 < k → f i < f (i + k)
  | 0, _, h => absurd h (by omega)
  | 1, h, _ => h 0 (by omega)
  | k + 2, h, _ => by
    have h1 := climb_trans (k := k + 1) (fun t ht => h t (by omega)) (by omega)
    have h2 := h (k + 1) (by omega)
    exact Int.lt_trans h1 h2

/-- Where the walk ran out. -/
theorem leaf_done {L : List Sl} {i k r : Nat} (h : IsLeaf L i k) (hi : i < L.length) (hr : runN L[i].p (L.drop (i + 1)) = r) (hc : climbs (depN L) i (List.range' (i + 1) r)) : k = r := by
  rw [climbs_range] at hc
  have hle := runN_le L[i].p (L.drop (i + 1))
  rw [List.length_drop, hr] at hle
  rcases Nat.lt_trichotomy k r with hlt | heq | hgt
  · have h1 := hc k hlt
    have h2 := h.top (by omega)
    omega
  · exact heq
  · have hlen : r < (L.drop (i + 1)).length := by rw [List.length_drop]; have := h.inn; omega
    have hs := runN_stop L[i].p (L.drop (i + 1)) (by rw [hr]; exact hlen)
    simp only [hr, List.getElem_drop] at hs
    have h1 := climb_trans (f := depN L) (i := i) (k := r + 1) (fun t ht => h.up t (by omega)) (by omega)
    have hj : i + 1 + r < L.length := by rw [List.length_drop] at hlen; omega
    rw [show i + (r + 1) = i + 1 + r by omega, depN_at hi, depN_at hj] at h1
    omega

/-- Where the walk was left. -/
theorem leaf_stop {L : List Sl} {i k m : Nat} (h : IsLeaf L i k) (hc : climbs (depN L) i (List.range' (i + 1) m)) (hn : ¬ depN L (i + m) < depN L (i + m + 1)) (hm : i + m + 1 < L.length) : k = m := by
  rw [climbs_range] at hc
  rcases Nat.lt_trichotomy k m with hlt | heq | hgt
  · have h1 := hc k hlt
    have h2 := h.top (by omega)
    omega
  · exact heq
  · exact absurd (h.up m hgt) hn

theorem prefix_range' : ∀ (l : List Nat) (i r : Nat), l <+: List.range' i r → l = List.range' i l.length
  | [], _, _, _ => rfl
  | a :: t, i, 0, h => by simp at h
  | a :: t, i, r + 1, h => by
    rw [List.range'_succ] at h
    obtain ⟨h1, h2⟩ := List.cons_prefix_cons.1 h
    have := prefix_range' t (i + 1) r h2
    rw [List.length_cons, List.range'_succ, ← this, h1]
theorem prefix_snoc {i r : Nat} {ps : List Nat} {x : Nat} (h : ps ++ [x] <+: List.range' (i + 1) r) : ps = List.range' (i + 1) ps.length ∧ x = i + ps.length + 1 := by
  have e := prefix_range' _ _ _ h
  rw [List.length_append, List.length_singleton, List.range'_concat] at e
  obtain ⟨e1, e2⟩ := List.append_inj' e rfl
  refine ⟨e1, ?_⟩
  have := List.singleton_inj.1 e2
  omega

end Go.Proofs.Ytalncgmncafhjaa
