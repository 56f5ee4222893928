/-
  What the specification takes a text for; a text that a capability has is taken for it.
-/
import Derived.Test.YthmambhagheocaaGreatDoorReadText
namespace Go.Proofs.YthmambhagheocaaGreatDoor
set_option linter.unusedVariables false

def wordsS (s : List UInt8) : List (List UInt8) := (cutL s).filter fun w => !w.isEmpty
def wordAt (ws : List (List UInt8)) (i : Nat) : List UInt8 := ws.getD i []
def atS (ws : List (List UInt8)) (i : Nat) : Int := (numS (wordAt ws i)).getD (-1)
def kindStep (w : List UInt8) (acc : Int × Bool) (k : Int) : Int × Bool := if w = nameL k ∨ w = nameL k ++ [42] then (k, decide (w ≠ nameL k)) else acc
def kindS (w : List UInt8) : Int × Bool := [1, 2, 3, 4, 5, 6, 7].foldl (kindStep w) (0, false)
def speltFrom (w : List UInt8) : List Int → Int
  | [] => 8
  | r :: l => if lettersL r = w then r else speltFrom w l
def speltS (w : List UInt8) : Int := speltFrom w [0, 1, 2, 3, 4, 5, 6, 7]
/-- What a text is taken for. -/
def candS (s : List UInt8) : CQ :=
  let ws := wordsS s
  let k := (kindS (wordAt ws 0)).1
  let o := (kindS (wordAt ws 0)).2
  let a := atS ws 1
  if k = 1 then ⟨k, a, atS ws 2, 0, 0, 0, 0, atS ws 3, o⟩
  else if k = 2 then ⟨k, a, atS ws 2, 0, 0, atS ws 3, atS ws 4, 0, o⟩
  else if k = 4 ∨ k = 5 then ⟨k, a, 0, speltS (wordAt ws 2), atS ws 3, 0, 0, 0, o⟩
  else if k = 6 then ⟨k, a, atS ws 2, speltS (wordAt ws 3), 0, 0, 0, 0, o⟩
  else ⟨k, a, 0, 0, 0, 0, 0, 0, o⟩

theorem itoa_ne (n : Int) (h : 0 ≤ n) : (Lib.itoa n).isEmpty = false := by
  obtain ⟨u, rfl⟩ : ∃ u : Nat, n = u := ⟨n.toNat, by omega⟩
  have e : Lib.itoa (u : Int) = Lib.decDigits u := by unfold Lib.itoa; rw [if_neg (by omega)]; simp
  obtain ⟨x, t, hd, _⟩ := dec_head u
  rw [e, hd]; rfl
theorem eight {r : Int} (h0 : 0 ≤ r) (h1 : r ≤ 7) : r = 0 ∨ r = 1 ∨ r = 2 ∨ r = 3 ∨ r = 4 ∨ r = 5 ∨ r = 6 ∨ r = 7 := by omega
theorem letters_ne {r : Int} (h0 : 0 ≤ r) (h1 : r ≤ 7) : (lettersL r).isEmpty = false := by
  rcases eight h0 h1 with h | h | h | h | h | h | h | h <;> subst h <;> decide
theorem spelt_letters {r : Int} (h0 : 0 ≤ r) (h1 : r ≤ 7) : speltS (lettersL r) = r := by
  rcases eight h0 h1 with h | h | h | h | h | h | h | h <;> subst h <;> decide
theorem kind_name {k : Int} (h0 : 1 ≤ k) (h1 : k ≤ 7) (o : Bool) : kindS (nameL k ++ starL o) = (k, o) := by
  have : k = 1 ∨ k = 2 ∨ k = 3 ∨ k = 4 ∨ k = 5 ∨ k = 6 ∨ k = 7 := by omega
  rcases this with h | h | h | h | h | h | h <;> subst h <;> cases o <;> decide
theorem name_ne {k : Int} (h0 : 1 ≤ k) (h1 : k ≤ 7) (o : Bool) : (nameL k ++ starL o).isEmpty = false := by
  have : k = 1 ∨ k = 2 ∨ k = 3 ∨ k = 4 ∨ k = 5 ∨ k = 6 ∨ k = 7 := by omega
  rcases this with h | h | h | h | h | h | h <;> subst h <;> cases o <;> decide

theorem words_ne {c : CQ} (h : c.ok = true) : ∀ w ∈ wordsW c, w.isEmpty = false := by
  obtain ⟨⟨k0, k1⟩, ⟨a0, a1⟩, ⟨b0, b1⟩, ⟨r0, r1⟩, ⟨d0, d1⟩, ⟨g0, g1⟩, ⟨q0, q1⟩, ⟨f0, f1⟩, _⟩ := ok_bounds (show okB c.k c.a c.b c.r c.d c.g c.q c.f c.o = true from h)
  intro w hw
  rcases List.mem_cons.1 hw with e | hw
  · subst e; exact name_ne k0 k1 _
  · rcases List.mem_cons.1 hw with e | hw
    · subst e; exact itoa_ne _ a0
    · unfold restW at hw
      have hl := letters_ne r0 r1
      have hb := itoa_ne _ b0
      have hd := itoa_ne _ d0
      have hg := itoa_ne _ g0
      have hq := itoa_ne _ q0
      have hf := itoa_ne _ f0
      repeat' split at hw
      all_goals simp at hw
      all_goals first
        | (rcases hw with rfl | rfl | rfl <;> assumption)
        | (rcases hw with rfl | rfl <;> assumption)
theorem words_text {c : CQ} (h : c.ok = true) : wordsS c.text = wordsW c := by
  unfold wordsS
  rw [cut_text, List.filter_eq_self]
  intro w hw
  rw [words_ne h w hw]; rfl

theorem cand_text {c : CQ} (h : c.ok = true) : candS c.text = c := by
  have hz := ok_zero h
  obtain ⟨⟨k0, k1⟩, ⟨a0, a1⟩, ⟨b0, b1⟩, ⟨r0, r1⟩, ⟨d0, d1⟩, ⟨g0, g1⟩, ⟨q0, q1⟩, ⟨f0, f1⟩, _⟩ := ok_bounds (show okB c.k c.a c.b c.r c.d c.g c.q c.f c.o = true from h)
  have hw := words_text h
  have na := numS_itoa c.a a0 (by omega)
  have nb := numS_itoa c.b b0 (by omega)
  have nd := numS_itoa c.d d0 (by omega)
  have ng := numS_itoa c.g g0 (by omega)
  have nq := numS_itoa c.q q0 (by omega)
  have nf := numS_itoa c.f f0 (by omega)
  have ns := spelt_letters r0 r1
  have nk := kind_name k0 k1 c.o
  unfold candS
  rw [hw]
  obtain ⟨k, a, b, r, d, g, q, f, o⟩ := c
  simp only at *
  have hk : k = 1 ∨ k = 2 ∨ k = 3 ∨ k = 4 ∨ k = 5 ∨ k = 6 ∨ k = 7 := by omega
  obtain ⟨z1, z2, z3, z4, z6, z7⟩ := hz
  rcases hk with e | e | e | e | e | e | e <;> subst e <;> simp [wordsW, restW, wordAt, atS, nk, na, nb, nd, ng, nq, nf, ns] at * <;> omega

end Go.Proofs.YthmambhagheocaaGreatDoor
