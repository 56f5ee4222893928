/-
  Plain facts on what is copied and minted: it is ok, it can be copied again, and it gives no more.
-/
import Derived.Test.YtaebcaajcolnfaaMinted
import Derived.Test.YtaebcaajcolnfaaLess
namespace Go.Proofs.Ytaebcaajcolnfaa
set_option linter.unusedVariables false

theorem both_sub {a b : Int} (h0 : 0 ≤ a) (h1 : a ≤ 7) (h2 : 0 ≤ b) (h3 : b ≤ 7) : subB (bothI a b) a = true := by
  rcases upto7 h0 h1 with e | e | e | e | e | e | e | e <;> subst e <;> rcases upto7 h2 h3 with e | e | e | e | e | e | e | e <;> subst e <;> decide
theorem both_seven {a : Int} (h0 : 0 ≤ a) (h1 : a ≤ 7) : bothI a 7 = a := by
  rcases upto7 h0 h1 with e | e | e | e | e | e | e | e <;> subst e <;> decide
theorem sub_trans {a b c : Int} (h0 : 0 ≤ a) (h1 : a ≤ 7) (h2 : 0 ≤ b) (h3 : b ≤ 7) (h4 : 0 ≤ c) (h5 : c ≤ 7) (x : subB a b = true) (y : subB b c = true) : subB a c = true := by
  simp only [subB, Bool.and_eq_true, Bool.or_eq_true, beq_iff_eq] at *
  omega

theorem ok_less {k a b r r' d g q f : Int} {o : Bool} (h : okB k a b r d g q f o = true) (hk : (k == 1) = false) (h0 : 0 ≤ r') (h1 : r' ≤ r) : okB k a b r' d g q f false = true := by
  have hk' : ¬ k = 1 := by simpa using hk
  simp only [okB, Bool.and_eq_true] at h ⊢
  obtain ⟨⟨⟨⟨⟨x1, x2⟩, x3⟩, x4⟩, x5⟩, x6⟩ := h
  refine ⟨⟨⟨⟨⟨x1, ?_⟩, x3⟩, x4⟩, x5⟩, ?_⟩
  · simp only [withinB, decide_eq_true_eq] at x2 ⊢; omega
  · simp [origB, hk']

theorem copy_of {k a b r d g q f : Int} {o : Bool} (h : copyB k a b r d g q f o = true) : okB k a b r d g q f o = true ∧ (k == 1) = false ∧ (k == 7) = false := by
  have h' : (okB k a b r d g q f o = true ∧ (k == 1) = false) ∧ (k == 7) = false := by simpa [copyB] using h
  exact ⟨h'.1.1, h'.1.2, h'.2⟩

/-- What is copied is ok, can be copied, gives no more, and a copy of it with all rights is itself. -/
theorem copied {k a b r d g q f m : Int} {o : Bool} (h : copyB k a b r d g q f o = true) :
    okB k a b (bothI r (m % 8)) d g q f false = true ∧ copyB k a b (bothI r (m % 8)) d g q f false = true ∧ belowB k a b (bothI r (m % 8)) d g q f false k a b r d g q f o = true ∧ bothI (bothI r (m % 8)) 7 = bothI r (m % 8) := by
  obtain ⟨ho, h1, h7⟩ := copy_of h
  obtain ⟨_, _, _, ⟨r0, r1⟩, _⟩ := ok_bounds ho
  have hb := both_bd r0 r1 (b := m % 8) (by omega) (by omega)
  have hs := both_sub r0 r1 (b := m % 8) (by omega) (by omega)
  have ho' := ok_less ho h1 hb.1 hb.2
  refine ⟨ho', ?_, ?_, both_seven hb.1 (by omega)⟩
  · simp [copyB, ho', h1, h7]
  · simp [belowB, lessB, ho, ho', hs]

/-- What is minted is ok, can be copied, and gives no more. -/
theorem minted {k a b r d g q f m x : Int} {o : Bool} (h : mintB k a b r d g q f o m x = true) (hx0 : 0 ≤ x) :
    copyB k a b r d g q f o = true ∧ copyB k a b (bothI r (m % 8)) (mintD k d x) (mintG k g x) (mintQ k q x) f false = true ∧ belowB k a b (bothI r (m % 8)) (mintD k d x) (mintG k g x) (mintQ k q x) f false k a b r d g q f o = true := by
  have hc : copyB k a b r d g q f o = true := by simp only [mintB, Bool.and_eq_true] at h; exact h.1
  obtain ⟨ho, h1, h7⟩ := copy_of hc
  obtain ⟨_, _, _, ⟨r0, r1⟩, _⟩ := ok_bounds ho
  have hs := both_sub r0 r1 (b := m % 8) (by omega) (by omega)
  have hcp := (copied (m := m) hc).1
  have key : okB k a b (bothI r (m % 8)) (mintD k d x) (mintG k g x) (mintQ k q x) f false = true ∧ (mintD k d x = d ∨ d = 0) := by
    simp only [mintB, Bool.and_eq_true, Bool.or_eq_true, Bool.not_eq_true', decide_eq_false_iff_not, beq_iff_eq, bne_eq_false_iff_eq] at h
    rcases h.2 with ⟨hk, hd, hx⟩ | ⟨hk, h2⟩
    · have n2 : ¬ k = 2 := by omega
      have hbm : bmaxI k = 65535 := by rcases hk with e | e <;> subst e <;> rfl
      refine ⟨?_, .inr hd⟩
      simp only [mintD, mintG, mintQ, if_neg n2]
      simp only [okB, besideB, Bool.and_eq_true] at hcp ⊢
      obtain ⟨⟨⟨⟨⟨x1, x2⟩, x3⟩, x4⟩, ⟨⟨⟨y1, y2⟩, y3⟩, y4⟩⟩, x6⟩ := hcp
      refine ⟨⟨⟨⟨⟨x1, x2⟩, x3⟩, x4⟩, ⟨⟨⟨?_, y2⟩, y3⟩, y4⟩⟩, x6⟩
      simp only [withinB, decide_eq_true_eq, hbm]; omega
    · subst hk
      simp only [mintD, mintG, mintQ, if_true]
      exact ⟨h2, .inl trivial⟩
  refine ⟨hc, ?_, ?_⟩
  · simp [copyB, key.1, h1, h7]
  · rcases key.2 with e | e
    · simp [belowB, lessB, ho, key.1, hs]; exact .inl e
    · simp [belowB, lessB, ho, key.1, hs]; exact .inr e

theorem below_trans {k a b r1 r2 r3 d1 d2 d3 g1 q1 f1 g2 q2 f2 g3 q3 f3 : Int} {o1 o2 o3 : Bool} (x : belowB k a b r1 d1 g1 q1 f1 o1 k a b r2 d2 g2 q2 f2 o2 = true) (y : belowB k a b r2 d2 g2 q2 f2 o2 k a b r3 d3 g3 q3 f3 o3 = true) : belowB k a b r1 d1 g1 q1 f1 o1 k a b r3 d3 g3 q3 f3 o3 = true := by
  simp only [belowB, lessB, Bool.and_eq_true, Bool.or_eq_true, beq_iff_eq] at x y ⊢
  obtain ⟨⟨x1, x2⟩, ⟨⟨⟨_, _⟩, _⟩, x3⟩, x4⟩ := x
  obtain ⟨⟨y1, y2⟩, ⟨⟨⟨_, _⟩, _⟩, y3⟩, y4⟩ := y
  obtain ⟨_, _, _, ⟨r10, r11⟩, _⟩ := ok_bounds x1
  obtain ⟨_, _, _, ⟨r20, r21⟩, _⟩ := ok_bounds x2
  obtain ⟨_, _, _, ⟨r30, r31⟩, _⟩ := ok_bounds y2
  exact ⟨⟨x1, y2⟩, ⟨⟨⟨trivial, trivial⟩, trivial⟩, sub_trans r10 r11 r20 r21 r30 r31 x3 y3⟩, by omega⟩

end Go.Proofs.Ytaebcaajcolnfaa
