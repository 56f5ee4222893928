/-
  The words of the text of a capability; a capability that is ok, of its words.
-/
import Derived.Test.YthmambhagheocaaGreatDoorTextDefs
import Derived.Test.YthmambhagheocaaGreatDoorReadNum
import Derived.Test.YthmambhagheocaaGreatDoorBounds
namespace Go.Proofs.YthmambhagheocaaGreatDoor
set_option linter.unusedVariables false

/-- A capability, as numbers. -/
structure CQ where
  k : Int
  a : Int
  b : Int
  r : Int
  d : Int
  g : Int
  q : Int
  f : Int
  o : Bool
deriving DecidableEq
def CQ.ok (c : CQ) : Bool := okB c.k c.a c.b c.r c.d c.g c.q c.f c.o
def CQ.text (c : CQ) : List UInt8 := textL c.k c.a c.b c.r c.d c.g c.q c.f c.o
def CQ.zero : CQ := ⟨0, 0, 0, 0, 0, 0, 0, 0, false⟩

def starL (o : Bool) : List UInt8 := if o = true then [42] else []
def restW (c : CQ) : List (List UInt8) :=
  if c.k = 1 then [Lib.itoa c.b, Lib.itoa c.f]
  else if c.k = 2 then [Lib.itoa c.b, Lib.itoa c.g, Lib.itoa c.q]
  else if c.k = 4 ∨ c.k = 5 then [lettersL c.r, Lib.itoa c.d]
  else if c.k = 6 then [Lib.itoa c.b, lettersL c.r]
  else []
def wordsW (c : CQ) : List (List UInt8) := (nameL c.k ++ starL c.o) :: Lib.itoa c.a :: restW c

theorem text_join (c : CQ) : c.text = joinL (wordsW c) := by
  unfold CQ.text textL wordsW restW tailL
  repeat' split
  all_goals simp [joinL, starL, *]

theorem letters_free (r : Int) : ∀ x ∈ lettersL r, x ≠ 32 := by
  intro x hx e
  subst e
  unfold lettersL at hx
  split at hx
  · revert hx; decide
  · revert hx
    repeat' split
    all_goals simp
theorem name_free (k : Int) (o : Bool) : ∀ x ∈ nameL k ++ starL o, x ≠ 32 := by
  intro x hx e
  subst e
  rcases List.mem_append.1 hx with h | h
  · unfold nameL at h
    revert h
    repeat' split
    all_goals simp
  · unfold starL at h
    revert h
    split <;> simp
theorem words_free (c : CQ) : ∀ w ∈ wordsW c, ∀ x ∈ w, x ≠ 32 := by
  intro w hw
  rcases List.mem_cons.1 hw with e | hw
  · subst e; exact name_free _ _
  · rcases List.mem_cons.1 hw with e | hw
    · subst e; exact itoa_free _
    · unfold restW at hw
      have h1 := fun n : Int => itoa_free n
      have h2 := letters_free c.r
      repeat' split at hw
      all_goals simp at hw
      all_goals first
        | (rcases hw with rfl | rfl | rfl <;> first | exact h2 | exact h1 _)
        | (rcases hw with rfl | rfl <;> first | exact h2 | exact h1 _)
theorem cut_text (c : CQ) : cutL c.text = wordsW c := by
  rw [text_join]
  exact cut_join _ (by simp [wordsW]) (words_free c)

/-! ### What a kind has not is 0. -/
theorem ok_span {k a b r d g q f : Int} {o : Bool} (h : okB k a b r d g q f o = true) : ¬ spanI k b = 0 := by
  simp only [okB, Bool.and_eq_true] at h
  have hA := h.1.1.1.2
  intro e
  rw [e] at hA
  simp [alignB, fineB] at hA
theorem ok_zero {c : CQ} (h : c.ok = true) :
    (c.k = 1 → c.r = 0 ∧ c.d = 0 ∧ c.g = 0 ∧ c.q = 0) ∧ (c.k = 2 → c.r = 0 ∧ c.d = 0 ∧ c.f = 0) ∧ (c.k = 3 → c.b = 0 ∧ c.r = 0 ∧ c.d = 0 ∧ c.g = 0 ∧ c.q = 0 ∧ c.f = 0) ∧
    (c.k = 4 ∨ c.k = 5 → c.b = 0 ∧ c.g = 0 ∧ c.q = 0 ∧ c.f = 0) ∧ (c.k = 6 → c.d = 0 ∧ c.g = 0 ∧ c.q = 0 ∧ c.f = 0) ∧ (c.k = 7 → c.b = 0 ∧ c.r = 0 ∧ c.d = 0 ∧ c.g = 0 ∧ c.q = 0 ∧ c.f = 0) := by
  obtain ⟨k, a, b, r, d, g, q, f, o⟩ := c
  unfold CQ.ok at h
  simp only at h ⊢
  have hz := ok_span h
  simp only [okB, besideB, withinB, Bool.and_eq_true, decide_eq_true_eq] at h
  obtain ⟨⟨⟨⟨⟨⟨h1, h7⟩, ⟨hr0, hr1⟩⟩, hA⟩, hI⟩, ⟨⟨⟨hd0, hd1⟩, ⟨hq0, hq1⟩⟩, ⟨hg0, hg1⟩⟩, ⟨hf0, hf1⟩⟩, ho⟩ := h
  have hsz : q = 0 → sizeI q = 1 := by intro e; subst e; decide
  refine ⟨?_, ?_, ?_, ?_, ?_, ?_⟩
  · intro e; subst e; simp [maxI, bmaxI, gmaxI] at hr1 hd1 hq1
    have := hsz (by omega)
    omega
  · intro e; subst e; simp [maxI, bmaxI, fmaxI] at hr1 hd1 hf1
    omega
  · intro e; subst e; simp [maxI, bmaxI, gmaxI, fmaxI] at hr1 hd1 hq1 hf1
    have := hsz (by omega)
    have hb : b = 0 := by have := hz; simp [spanI, szI] at this; omega
    omega
  · intro e
    have hb : b = 0 := by rcases e with e | e <;> subst e <;> (have := hz; simp [spanI, szI] at this; omega)
    rcases e with e | e <;> subst e <;> simp [gmaxI, fmaxI] at hq1 hf1 <;> (have := hsz (by omega); omega)
  · intro e; subst e; simp [bmaxI, gmaxI, fmaxI] at hd1 hq1 hf1
    have := hsz (by omega)
    omega
  · intro e; subst e; simp [maxI, bmaxI, gmaxI, fmaxI] at hr1 hd1 hq1 hf1
    have := hsz (by omega)
    have hb : b = 0 := by have := hz; simp [spanI] at this; omega
    omega

end Go.Proofs.YthmambhagheocaaGreatDoor
