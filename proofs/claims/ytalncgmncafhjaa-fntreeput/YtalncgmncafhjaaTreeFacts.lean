/-
  Plain facts on trees: what a slot came of is what stands ahead of it; what is put changes nothing of what the others came of. No conditions.
-/
import Derived.Test.YtalncgmncafhjaaAboveSpec
import Derived.Test.YtalncgmncafhjaaPutImpl
namespace Go.Proofs.Ytalncgmncafhjaa
set_option linter.unusedVariables false

/-- What is found is the first, if the addresses are told apart. -/
theorem findI_lt {pre : List Sl} {x : Int} (h : findI pre x < 0) : ∀ s ∈ pre, s.t ≠ x := by
  induction pre with
  | nil => intro s hs; simp at hs
  | cons a L ih =>
    intro s hs
    have hg := findI_ge L x
    by_cases e : a.t = x
    · simp [findI, e] at h
    · by_cases e2 : findI L x < 0
      · rcases List.mem_cons.1 hs with rfl | h1
        · exact e
        · exact ih e2 s h1
      · simp [findI, e, e2] at h; omega

theorem findI_place : ∀ (L : List Sl) (k : Nat) (h : k < L.length), (∀ j (hj : j < k), L[j].t ≠ L[k].t) → findI L L[k].t = (k : Int)
  | [], k, h, _ => absurd h (Nat.not_lt_zero _)
  | a :: L, 0, h, _ => by simp [findI]
  | a :: L, k + 1, h, hd => by
    have hk : k < L.length := by simpa using h
    have h0 := hd 0 (by omega)
    have ih := findI_place L k hk (fun j hj => by simpa using hd (j + 1) (by omega))
    simp only [List.getElem_cons_succ, List.getElem_cons_zero] at h0 ⊢
    rw [findI, if_neg h0, ih, if_neg (by omega)]; push_cast; rfl

theorem goB_drop : ∀ (rest pre : List Sl) (was : Int), goB was pre rest = true → ∀ k (hk : k < rest.length), slotB (if h : k = 0 then was else (rest[k - 1]).p) (pre ++ rest.take k) rest[k] = true
  | [], _, _, _, k, hk => absurd hk (Nat.not_lt_zero _)
  | s :: rest, pre, was, h, 0, hk => by
    simp only [goB, Bool.and_eq_true] at h
    simpa using h.1
  | s :: rest, pre, was, h, k + 1, hk => by
    simp only [goB, Bool.and_eq_true] at h
    have hk' : k < rest.length := by simpa using hk
    have ih := goB_drop rest (pre ++ [s]) s.p h.2 k hk'
    simp only [List.append_assoc, List.singleton_append] at ih
    have e : (if h : k + 1 = 0 then was else ((s :: rest)[k + 1 - 1]).p) = (if h : k = 0 then s.p else (rest[k - 1]).p) := by
      cases k with
      | zero => simp
      | succ m => simp
    rw [e]
    simpa using ih

/-- A slot of a tree. -/
theorem tree_slot {L : List Sl} (hT : treeB L = true) (k : Nat) (hk : k < L.length) : 0 ≤ depN L k ∧ (k = 0 → depN L k ≤ 0) ∧ (∀ j, j + 1 = k → depN L k ≤ depN L j + 1) ∧ depN L k ≤ 12 ∧ ∀ j (hj : j < k), (L[j]'(by omega)).t ≠ L[k].t := by
  have h := hT
  simp only [treeB, Bool.and_eq_true] at h
  have hs := goB_drop L [] (-1) h.2 k hk
  have := slotB_parts.1 hs
  obtain ⟨h1, h2, h3, _, _, _, _, h4⟩ := this
  rw [depN_at hk]
  refine ⟨h1, ?_, ?_, h3, ?_⟩
  · intro e; subst e; simpa using h2
  · intro j hj; subst hj
    rw [depN_at (by omega)]
    simpa using h2
  · intro j hj
    refine findI_lt h4 _ ?_
    simp only [List.nil_append]
    exact List.mem_take_iff_getElem.2 ⟨j, by omega, rfl⟩

theorem find_tree {L : List Sl} (hT : treeB L = true) (k : Nat) (hk : k < L.length) : findT L L[k].t = (k : Int) := by
  rw [findT, if_pos hT]
  exact findI_place L k hk (tree_slot hT k hk).2.2.2.2

/-- What is told first of those above. -/
theorem ups_first (f : Nat → Int) (d : Int) : ∀ k, (ups f d k = [] ∧ ∀ j, j < k → ¬ f j < d) ∨ ∃ u, u < k ∧ f u < d ∧ (∀ j, u < j → j < k → ¬ f j < d) ∧ ups f d k = u :: ups f (f u) u
  | 0 => .inl ⟨rfl, fun j hj => absurd hj (Nat.not_lt_zero _)⟩
  | k + 1 => by
    by_cases h : f k < d
    · exact .inr ⟨k, by omega, h, fun j h1 h2 => by omega, ups_yes h⟩
    · rw [ups_no h]
      rcases ups_first f d k with ⟨e, hj⟩ | ⟨u, hu, hf, hj, e⟩
      · refine .inl ⟨e, fun j hlt => ?_⟩
        by_cases hjk : j = k
        · subst hjk; exact h
        · exact hj j (by omega)
      · refine .inr ⟨u, by omega, hf, fun j h1 h2 => ?_, e⟩
        by_cases hjk : j = k
        · subst hjk; exact h
        · exact hj j h1 (by omega)

/-- A slot came of another one just if all from behind that one up to it are deeper than that one. -/
theorem mem_ups (f : Nat → Int) (i : Nat) : ∀ k, i < k → (i ∈ ups f (f k) k ↔ ∀ j, i < j → j ≤ k → f i < f j) := by
  intro k
  induction k using Nat.strongRecOn with
  | _ k ih =>
    intro hik
    rcases ups_first f (f k) k with ⟨e, hj⟩ | ⟨u, hu, hf, hj, e⟩
    · rw [e]
      constructor
      · intro h; simp at h
      · intro h; exact absurd (h k hik (Nat.le_refl _)) (hj i hik)
    · rw [e, List.mem_cons]
      constructor
      · rintro (h1 | h1)
        · subst h1
          intro j h2 h3
          by_cases hjk : j = k
          · subst hjk; exact hf
          · have := hj j h2 (by omega); omega
        · have hlt := ups_lt f u _ i h1
          have := (ih u hu hlt).1 h1
          intro j h2 h3
          by_cases hju : j ≤ u
          · exact this j h2 hju
          · have hu' := this u hlt (Nat.le_refl _)
            by_cases hjk : j = k
            · subst hjk; omega
            · have := hj j (by omega) (by omega); omega
      · intro h
        by_cases hiu : i = u
        · exact .inl hiu
        · have hlt : i < u := by
            rcases Nat.lt_or_ge u i with h1 | h1
            · exact absurd (h k hik (Nat.le_refl _)) (hj i h1 hik)
            · omega
          exact .inr ((ih u hu hlt).2 fun j h2 h3 => h j h2 (by omega))

/-- How many behind a place are deeper. -/
theorem run_iff {L : List Sl} {i r : Nat} (hi : i < L.length) (hr : runN L[i].p (L.drop (i + 1)) = r) (k : Nat) (hk : k < L.length) (hik : i < k) : (k < i + r + 1 ↔ ∀ j, i < j → j ≤ k → depN L i < depN L j) := by
  subst hr
  constructor
  · intro h j h1 h2
    obtain ⟨hl, hp⟩ := runN_in L[i].p (L.drop (i + 1)) (j - (i + 1)) (by omega)
    rw [depN_at hi, depN_at (by omega)]
    simp only [List.getElem_drop] at hp
    have e : i + 1 + (j - (i + 1)) = j := by omega
    simpa [e] using hp
  · intro h
    rcases Nat.lt_or_ge (runN L[i].p (L.drop (i + 1))) (k - i) with h1 | h1
    · have hl : runN L[i].p (L.drop (i + 1)) < (L.drop (i + 1)).length := by simp; omega
      have hs := runN_stop L[i].p (L.drop (i + 1)) hl
      simp only [List.getElem_drop] at hs
      have := h (i + 1 + runN L[i].p (L.drop (i + 1))) (by omega) (by omega)
      rw [depN_at hi, depN_at (by omega)] at this
      omega
    · omega

/-- The law's own words: above just if within the run. -/
theorem above_run {L : List Sl} {i k r : Nat} (hi : i < L.length) (hk : k < L.length) (hr : runN L[i].p (L.drop (i + 1)) = r) : inUps L i k = (decide (i ≤ k) && decide (k < i + r + 1)) := by
  rcases Nat.lt_trichotomy i k with h | h | h
  · have h1 := mem_ups (depN L) i k h
    have h2 := run_iff hi hr k hk h
    rw [Bool.eq_iff_iff]
    simp only [inUps, Bool.or_eq_true, Bool.and_eq_true, decide_eq_true_eq]
    rw [h1, ← h2]
    constructor
    · rintro (e | e)
      · omega
      · exact ⟨by omega, e⟩
    · rintro ⟨_, e⟩; exact .inr e
  · subst h; simp [inUps]; omega
  · rw [Bool.eq_iff_iff]
    simp only [inUps, Bool.or_eq_true, Bool.and_eq_true, decide_eq_true_eq]
    constructor
    · rintro (e | e)
      · omega
      · have := ups_lt _ _ _ _ e; omega
    · rintro ⟨e, _⟩; omega

theorem leaf_above {L : List Sl} {i k : Nat} (h : IsLeaf L i k) : inUps L i (i + k) = true := by
  by_cases hk : k = 0
  · subst hk; simp [inUps]
  · simp only [inUps, Bool.or_eq_true, decide_eq_true_eq]
    refine .inr ((mem_ups (depN L) i (i + k) (by omega)).2 fun j h1 h2 => ?_)
    have := climb_trans (f := depN L) (i := i) (k := j - i) (fun t ht => h.up t (by omega)) (by omega)
    have e : i + (j - i) = j := by omega
    rw [e] at this; exact this

theorem leaf_run {L : List Sl} {i k : Nat} (h : IsLeaf L i k) : runN (L[i + k]'h.inn).p (L.drop (i + k + 1)) = 0 := by
  by_cases hl : i + k + 1 < L.length
  · have := h.top hl
    rw [depN_at h.inn, depN_at hl] at this
    rw [List.drop_eq_getElem_cons hl, runN, if_neg (by omega)]
  · rw [List.drop_eq_nil_of_le (by omega)]; rfl

/-- A slot with nothing behind it that is deeper is its own leaf. -/
theorem leaf_self {L : List Sl} {i : Nat} (hi : i < L.length) (h : runN L[i].p (L.drop (i + 1)) = 0) : IsLeaf L i 0 := by
  refine ⟨fun t ht => absurd ht (Nat.not_lt_zero _), hi, fun hl => ?_⟩
  have hl' : i + 1 < L.length := hl
  rw [List.drop_eq_getElem_cons hl', runN] at h
  show depN L (i + 1) ≤ depN L i
  rw [depN_at hl', depN_at hi]
  by_cases e : L[i].p < L[i + 1].p
  · rw [if_pos e] at h; omega
  · omega

theorem up_above {L : List Sl} {i u : Nat} (h : headI (ups (depN L) (depN L i) i) = (u : Int)) : u < i ∧ inUps L u i = true ∧ inUps L i u = false := by
  rcases ups_first (depN L) (depN L i) i with ⟨e, _⟩ | ⟨v, hv, _, _, e⟩
  · rw [e] at h; simp [headI] at h
  · rw [e] at h
    have : v = u := by have h' : (v : Int) = (u : Int) := h; omega
    subst this
    refine ⟨hv, by simp [inUps, e], ?_⟩
    simp only [inUps, Bool.or_eq_false_iff, decide_eq_false_iff_not]
    exact ⟨by omega, fun h => by have := ups_lt _ _ _ _ h; omega⟩
theorem headI_ge (l : List Nat) : -1 ≤ headI l := by cases l <;> simp [headI] <;> omega

/- A slot more. -/
theorem putJ_len (L : List Sl) (J : Nat) (x : Sl) (hJ : J ≤ L.length) : (putJ L J x).length = L.length + 1 := by
  simp [putJ]; omega
theorem putJ_lt {L : List Sl} {J j : Nat} {x : Sl} (hJ : J ≤ L.length) (hj : j < J) : (putJ L J x)[j]? = L[j]? := by
  rw [putJ, List.getElem?_append_left (by simp; omega), List.getElem?_take_of_lt hj]
theorem putJ_at {L : List Sl} {J : Nat} {x : Sl} (hJ : J ≤ L.length) : (putJ L J x)[J]? = some x := by
  rw [putJ, List.getElem?_append_right (by simp; omega)]; simp [Nat.min_eq_left hJ]
theorem putJ_gt {L : List Sl} {J j : Nat} {x : Sl} (hJ : J ≤ L.length) (hj : J ≤ j) : (putJ L J x)[j + 1]? = L[j]? := by
  rw [putJ, List.getElem?_append_right (by simp; omega)]
  simp only [List.length_take, Nat.min_eq_left hJ]
  rw [show j + 1 - J = (j - J) + 1 by omega, List.singleton_append, List.getElem?_cons_succ, List.getElem?_drop]
  congr 1; omega
theorem putJ_dlt {L : List Sl} {J j : Nat} {x : Sl} (hJ : J ≤ L.length) (hj : j < J) : depN (putJ L J x) j = depN L j := by rw [depN, depN, putJ_lt hJ hj]
theorem putJ_dat {L : List Sl} {J : Nat} {x : Sl} (hJ : J ≤ L.length) : depN (putJ L J x) J = x.p := by rw [depN, putJ_at hJ]; rfl
theorem putJ_dgt {L : List Sl} {J j : Nat} {x : Sl} (hJ : J ≤ L.length) (hj : J ≤ j) : depN (putJ L J x) (j + 1) = depN L j := by rw [depN, depN, putJ_gt hJ hj]

/-- Nothing came of what was put: what stands behind it is no deeper. -/
theorem put_run {L : List Sl} {J : Nat} {x : Sl} (hJ : J ≤ L.length) (hd : J < L.length → depN L J ≤ x.p) : ∀ h : J < (putJ L J x).length, runN ((putJ L J x)[J]).p ((putJ L J x).drop (J + 1)) = 0 := by
  intro h
  have e : (putJ L J x)[J] = x := by have := putJ_at (x := x) hJ; rw [List.getElem?_eq_getElem h] at this; exact Option.some.inj this
  rw [e]
  have e2 : (putJ L J x).drop (J + 1) = L.drop J := by
    apply List.ext_getElem?; intro n
    rw [List.getElem?_drop, List.getElem?_drop, show J + 1 + n = (J + n) + 1 by omega, putJ_gt hJ (by omega)]
  rw [e2]
  by_cases hl : J < L.length
  · have := hd hl
    rw [depN_at hl] at this
    rw [List.drop_eq_getElem_cons hl, runN, if_neg (by omega)]
  · rw [List.drop_eq_nil_of_le (by omega)]; rfl

/-- Cut again it is as it was. -/
theorem put_cut {L : List Sl} {J : Nat} {x : Sl} (hJ : J ≤ L.length) : (putJ L J x).take J ++ (putJ L J x).drop (J + 1) = L := by
  have e2 : (putJ L J x).drop (J + 1) = L.drop J := by
    apply List.ext_getElem?; intro n
    rw [List.getElem?_drop, List.getElem?_drop, show J + 1 + n = (J + n) + 1 by omega, putJ_gt hJ (by omega)]
  have e1 : (putJ L J x).take J = L.take J := by
    apply List.ext_getElem?; intro n
    by_cases hn : n < J
    · rw [List.getElem?_take_of_lt hn, List.getElem?_take_of_lt hn, putJ_lt hJ hn]
    · rw [List.getElem?_take_eq_none (by omega), List.getElem?_take_eq_none (by omega)]
  rw [e1, e2, List.take_append_drop]

/-- Where a slot of before stands now. -/
def shiftN (J k : Nat) : Nat := if k < J then k else k + 1

theorem shift_at {L : List Sl} {J k : Nat} {x : Sl} (hJ : J ≤ L.length) : (putJ L J x)[shiftN J k]? = L[k]? := by
  unfold shiftN; split
  · exact putJ_lt hJ (by assumption)
  · exact putJ_gt hJ (by omega)
theorem shift_dep {L : List Sl} {J k : Nat} {x : Sl} (hJ : J ≤ L.length) : depN (putJ L J x) (shiftN J k) = depN L k := by rw [depN, depN, shift_at hJ]

/-- The others came of what they came of. -/
theorem put_up {L : List Sl} {J k : Nat} {x : Sl} (hJ : J ≤ L.length) (hd : J < L.length → depN L J ≤ x.p) (hk : k < L.length) :
    (headI (ups (depN L) (depN L k) k) < 0 ∧ headI (ups (depN (putJ L J x)) (depN (putJ L J x) (shiftN J k)) (shiftN J k)) < 0) ∨
    ∃ u, u < k ∧ headI (ups (depN L) (depN L k) k) = (u : Int) ∧ headI (ups (depN (putJ L J x)) (depN (putJ L J x) (shiftN J k)) (shiftN J k)) = (shiftN J u : Int) := by
  have hs := shift_dep (x := x) (k := k) hJ
  have hput : k < J ∨ ¬ depN (putJ L J x) J < depN L k ∨ ∃ v, J ≤ v ∧ v < k ∧ depN L v < depN L k := by
    by_cases h : k < J
    · exact .inl h
    · have hJl : J < L.length := by omega
      have hd' := hd hJl
      by_cases hkJ : k = J
      · subst hkJ; rw [putJ_dat hJ]; exact .inr (.inl (by omega))
      · by_cases hv : depN L J < depN L k
        · exact .inr (.inr ⟨J, Nat.le_refl _, by omega, hv⟩)
        · rw [putJ_dat hJ]; exact .inr (.inl (by omega))
  rcases ups_first (depN L) (depN L k) k with ⟨e, hj⟩ | ⟨u, hu, hf, hj, e⟩
  · refine .inl ⟨by rw [e]; simp [headI], ?_⟩
    rcases ups_first (depN (putJ L J x)) (depN (putJ L J x) (shiftN J k)) (shiftN J k) with ⟨e', _⟩ | ⟨v, hv, hfv, _, e'⟩
    · rw [e']; simp [headI]
    · exfalso
      rw [hs] at hfv
      rcases Nat.lt_trichotomy v J with h | h | h
      · rw [putJ_dlt hJ h] at hfv
        refine hj v ?_ hfv
        unfold shiftN at hv; split at hv <;> omega
      · subst h
        rcases hput with h1 | h1 | ⟨w, _, hw, hw2⟩
        · unfold shiftN at hv; rw [if_pos h1] at hv; omega
        · exact h1 hfv
        · exact hj w hw hw2
      · obtain ⟨v', rfl⟩ : ∃ v', v = v' + 1 := ⟨v - 1, by omega⟩
        rw [putJ_dgt hJ (by omega)] at hfv
        refine hj v' ?_ hfv
        unfold shiftN at hv; split at hv <;> omega
  · refine .inr ⟨u, hu, by rw [e]; rfl, ?_⟩
    rcases ups_first (depN (putJ L J x)) (depN (putJ L J x) (shiftN J k)) (shiftN J k) with ⟨e', h'⟩ | ⟨v, hv, hfv, hj', e'⟩
    · exfalso
      refine h' (shiftN J u) ?_ ?_
      · unfold shiftN; split <;> split <;> omega
      · rw [hs, shift_dep hJ]; exact hf
    · rw [e']
      show (v : Int) = _
      rw [hs] at hfv hj'
      have hle : ¬ v < shiftN J u := fun h => hj' (shiftN J u) h (by unfold shiftN; split <;> split <;> omega) (by rw [shift_dep hJ]; exact hf)
      rcases Nat.lt_trichotomy v J with h | h | h
      · rw [putJ_dlt hJ h] at hfv
        have hvk : v < k := by unfold shiftN at hv; split at hv <;> omega
        by_cases huv : u < v
        · exact absurd hfv (hj v huv hvk)
        · have : v = u := by
            rcases Nat.lt_or_ge u J with h1 | h1
            · rw [shiftN, if_pos h1] at hle; omega
            · rw [shiftN, if_neg (by omega)] at hle; omega
          subst this; rw [shiftN, if_pos h]
      · subst h
        rcases hput with h1 | h1 | ⟨w, hw1, hw, hw2⟩
        · unfold shiftN at hv; rw [if_pos h1] at hv; omega
        · exact absurd hfv h1
        · have : w ≤ u := by
            rcases Nat.lt_or_ge u w with h | h
            · exact absurd hw2 (hj w h hw)
            · exact h
          exfalso; refine hle ?_; unfold shiftN; rw [if_neg (by omega)]; omega
      · obtain ⟨v', rfl⟩ : ∃ v', v = v' + 1 := ⟨v - 1, by omega⟩
        rw [putJ_dgt hJ (by omega)] at hfv
        have hvk : v' < k := by unfold shiftN at hv; split at hv <;> omega
        by_cases huv : u < v'
        · exact absurd hfv (hj v' huv hvk)
        · have : v' = u := by
            rcases Nat.lt_or_ge u J with h1 | h1
            · rw [shiftN, if_pos h1] at hle; omega
            · rw [shiftN, if_neg (by omega)] at hle; omega
          subst this; rw [shiftN, if_neg (by omega)]

end Go.Proofs.Ytalncgmncafhjaa
