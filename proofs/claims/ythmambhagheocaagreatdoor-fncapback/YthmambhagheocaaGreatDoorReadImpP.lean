/-
  How the program reads a text, as a plain function: it reads just the texts of capabilities that are ok.
-/
import Derived.Test.YthmambhagheocaaGreatDoorReadCand
import Derived.Lib.AtoiTie
namespace Go.Proofs.YthmambhagheocaaGreatDoor
set_option linter.unusedVariables false

def cutStar (w : List UInt8) : List UInt8 × Bool := if w.getLast? = some 42 then (w.dropLast, true) else (w, false)
def namedFrom (w : List UInt8) : List Int → Int
  | [] => 0
  | k :: l => if nameL k = w then k else namedFrom w l
def namedI (w : List UInt8) : Int := namedFrom w [1, 2, 3, 4, 5, 6, 7]
def partsI (k : Int) : List Int := if k = 1 then [0, 1, 6] else if k = 2 then [0, 1, 4, 5] else if k = 4 ∨ k = 5 then [0, 2, 3] else if k = 6 then [0, 1, 2] else [0]
/-- A number that is written as it would be written again. -/
def numI (t : List UInt8) : Option Int :=
  match Lib.atoiAll t with
  | .ok n => if Lib.itoa n = t then some n else none
  | _ => none
def rightsFrom (t : List UInt8) : List Int → Option Int
  | [] => none
  | r :: l => if lettersL r = t then some r else rightsFrom t l
def rightsI (t : List UInt8) : Option Int := rightsFrom t [0, 1, 2, 3, 4, 5, 6, 7]
def setPart (c : CQ) (p n : Int) : CQ :=
  if p = 0 then { c with a := n } else if p = 1 then { c with b := n } else if p = 2 then { c with r := n } else if p = 3 then { c with d := n }
  else if p = 4 then { c with g := n } else if p = 5 then { c with q := n } else { c with f := n }
def partI (p : Int) (t : List UInt8) : Option Int := if p = 2 then rightsI t else numI t
def readParts : CQ → List Int → List (List UInt8) → Option CQ
  | c, [], _ => some c
  | c, p :: ps, [] => none
  | c, p :: ps, t :: ts =>
    match partI p t with
    | none => none
    | some n => readParts (setPart c p n) ps ts
def readK (k : Int) (o : Bool) (F : List (List UInt8)) : Option CQ :=
  if F.length = (partsI k).length then (readParts ⟨k, 0, 0, 0, 0, 0, 0, 0, o⟩ (partsI k) F).bind fun c => if c.ok = true then some c else none else none
def readI (s : List UInt8) : Option CQ :=
  match cutL s with
  | [] => none
  | f0 :: F => if namedI (cutStar f0).1 = 0 then none else readK (namedI (cutStar f0).1) (cutStar f0).2 F

theorem numI_some {t : List UInt8} {n : Int} (h : numI t = some n) : Lib.itoa n = t := by
  unfold numI at h
  split at h
  · split at h
    · cases h; assumption
    · cases h
  · cases h
theorem rights_some {t : List UInt8} : ∀ {l : List Int} {r : Int}, rightsFrom t l = some r → lettersL r = t
  | [], _, h => by cases h
  | x :: l, r, h => by
    rw [rightsFrom] at h
    split at h
    · cases h; assumption
    · exact rights_some h
theorem named_some {w : List UInt8} : ∀ {l : List Int}, namedFrom w l ≠ 0 → nameL (namedFrom w l) = w ∧ namedFrom w l ∈ l
  | [], h => absurd rfl h
  | x :: l, h => by
    rw [namedFrom] at h ⊢
    split
    · exact ⟨by assumption, List.mem_cons_self ..⟩
    · rw [if_neg (by assumption)] at h
      have := named_some h
      exact ⟨this.1, List.mem_cons_of_mem _ this.2⟩
theorem cutStar_is (w : List UInt8) : w = (cutStar w).1 ++ starL (cutStar w).2 := by
  unfold cutStar
  split
  · next h =>
    have hne : w ≠ [] := by intro e; subst e; simp at h
    rw [List.getLast?_eq_some_getLast hne] at h
    have := List.dropLast_concat_getLast hne
    rw [Option.some.inj h] at this
    simpa [starL] using this.symm
  · simp [starL]

theorem readParts_cons {c c' : CQ} {p : Int} {ps : List Int} {t : List UInt8} {ts : List (List UInt8)} (h : readParts c (p :: ps) (t :: ts) = some c') : ∃ n, partI p t = some n ∧ readParts (setPart c p n) ps ts = some c' := by
  rw [readParts] at h
  split at h
  · cases h
  · exact ⟨_, by assumption, h⟩
theorem partI_num {p : Int} {t : List UInt8} {n : Int} (hp : p ≠ 2) (h : partI p t = some n) : Lib.itoa n = t := numI_some (by rw [partI, if_neg hp] at h; exact h)
theorem partI_let {t : List UInt8} {n : Int} (h : partI 2 t = some n) : lettersL n = t := rights_some (l := [0, 1, 2, 3, 4, 5, 6, 7]) (by rw [partI, if_pos rfl] at h; exact h)

theorem read_sound {s : List UInt8} {c : CQ} (h : readI s = some c) : c.ok = true ∧ c.text = s := by
  unfold readI at h
  split at h
  · cases h
  · next f0 F hc =>
    split at h
    · cases h
    · next hk =>
      obtain ⟨hn, hm⟩ := named_some (l := [1, 2, 3, 4, 5, 6, 7]) hk
      have hst := cutStar_is f0
      rw [← hn] at hst
      have hj := join_cut s
      rw [hc] at hj
      generalize hkk : namedFrom (cutStar f0).1 [1, 2, 3, 4, 5, 6, 7] = k at hn hm hst
      have hkk2 : namedI (cutStar f0).1 = k := hkk
      rw [hkk2] at h
      generalize (cutStar f0).2 = o at h hst
      unfold readK at h
      split at h
      · next hl =>
        obtain ⟨c1, h1, h2⟩ := Option.bind_eq_some_iff.1 h
        split at h2
        · next hok =>
          cases h2
          refine ⟨hok, ?_⟩
          rw [text_join, ← hj]
          congr 1
          simp only [List.mem_cons, List.not_mem_nil, or_false] at hm
          rcases hm with e | e | e | e | e | e | e <;> subst e
          all_goals simp [partsI] at hl
          all_goals simp only [partsI] at h1
          · match F, hl with
            | [x, y, z], _ =>
              obtain ⟨n0, q0, h1⟩ := readParts_cons h1
              obtain ⟨n1, q1, h1⟩ := readParts_cons h1
              obtain ⟨n2, q2, h1⟩ := readParts_cons h1
              cases h1
              have e0 := partI_num (by decide) q0
              have e1 := partI_num (by decide) q1
              have e2 := partI_num (by decide) q2
              subst e0 e1 e2
              rw [hst]; simp [wordsW, restW, setPart]
          · match F, hl with
            | [x, y, z, u], _ =>
              obtain ⟨n0, q0, h1⟩ := readParts_cons h1
              obtain ⟨n1, q1, h1⟩ := readParts_cons h1
              obtain ⟨n2, q2, h1⟩ := readParts_cons h1
              obtain ⟨n3, q3, h1⟩ := readParts_cons h1
              cases h1
              have e0 := partI_num (by decide) q0
              have e1 := partI_num (by decide) q1
              have e2 := partI_num (by decide) q2
              have e3 := partI_num (by decide) q3
              subst e0 e1 e2 e3
              rw [hst]; simp [wordsW, restW, setPart]
          · match F, hl with
            | [x], _ =>
              obtain ⟨n0, q0, h1⟩ := readParts_cons h1
              cases h1
              have e0 := partI_num (by decide) q0
              subst e0
              rw [hst]; simp [wordsW, restW, setPart]
          · match F, hl with
            | [x, y, z], _ =>
              obtain ⟨n0, q0, h1⟩ := readParts_cons h1
              obtain ⟨n1, q1, h1⟩ := readParts_cons h1
              obtain ⟨n2, q2, h1⟩ := readParts_cons h1
              cases h1
              have e0 := partI_num (by decide) q0
              have e1 := partI_let q1
              have e2 := partI_num (by decide) q2
              subst e0 e1 e2
              rw [hst]; simp [wordsW, restW, setPart]
          · match F, hl with
            | [x, y, z], _ =>
              obtain ⟨n0, q0, h1⟩ := readParts_cons h1
              obtain ⟨n1, q1, h1⟩ := readParts_cons h1
              obtain ⟨n2, q2, h1⟩ := readParts_cons h1
              cases h1
              have e0 := partI_num (by decide) q0
              have e1 := partI_let q1
              have e2 := partI_num (by decide) q2
              subst e0 e1 e2
              rw [hst]; simp [wordsW, restW, setPart]
          · match F, hl with
            | [x, y, z], _ =>
              obtain ⟨n0, q0, h1⟩ := readParts_cons h1
              obtain ⟨n1, q1, h1⟩ := readParts_cons h1
              obtain ⟨n2, q2, h1⟩ := readParts_cons h1
              cases h1
              have e0 := partI_num (by decide) q0
              have e1 := partI_num (by decide) q1
              have e2 := partI_let q2
              subst e0 e1 e2
              rw [hst]; simp [wordsW, restW, setPart]
          · match F, hl with
            | [x], _ =>
              obtain ⟨n0, q0, h1⟩ := readParts_cons h1
              cases h1
              have e0 := partI_num (by decide) q0
              subst e0
              rw [hst]; simp [wordsW, restW, setPart]
        · cases h2
      · cases h

/-! ### The texts of capabilities that are ok are read. -/
theorem atoi_itoa (n : Int) (h0 : 0 ≤ n) : Lib.atoi (Lib.itoa n) = some n := by
  obtain ⟨u, rfl⟩ : ∃ u : Nat, n = u := ⟨n.toNat, by omega⟩
  have e : Lib.itoa (u : Int) = Lib.decDigits u := by unfold Lib.itoa; rw [if_neg (by omega)]; simp
  obtain ⟨x, t, hd, _⟩ := dec_head u
  have hdig := dec_digit u x (by rw [hd]; exact List.mem_cons_self ..)
  have hr := dec_read u
  rw [e, hd]
  rw [hd] at hr
  have h45 : (x == 45) = false := by rw [beq_eq_false_iff_ne]; intro e2; subst e2; revert hdig; decide
  have h43 : (x == 43) = false := by rw [beq_eq_false_iff_ne]; intro e2; subst e2; revert hdig; decide
  simp [Lib.atoi, h45, h43, Lib.decNat, hr]
theorem itoa_len (n : Int) (h0 : 0 ≤ n) (h1 : n ≤ 65535) : (Lib.itoa n).length ≤ 5 := by
  obtain ⟨u, rfl⟩ : ∃ u : Nat, n = u := ⟨n.toNat, by omega⟩
  have e : Lib.itoa (u : Int) = Lib.decDigits u := by unfold Lib.itoa; rw [if_neg (by omega)]; simp
  rw [e, Lib.decDigits_length]
  by_cases h2 : u < 10
  · rw [Lib.nDigits_small h2]; omega
  · by_cases a : u < 100
    · rw [Lib.nDigits_unique 1 u (by omega) (by omega)]; omega
    · by_cases b : u < 1000
      · rw [Lib.nDigits_unique 2 u (by omega) (by omega)]; omega
      · by_cases c : u < 10000
        · rw [Lib.nDigits_unique 3 u (by omega) (by omega)]; omega
        · rw [Lib.nDigits_unique 4 u (by omega) (by omega)]; omega
theorem numI_itoa (n : Int) (h0 : 0 ≤ n) (h1 : n ≤ 65535) : numI (Lib.itoa n) = some n := by
  have hl := itoa_len n h0 h1
  unfold numI
  rw [Lib.atoiAll_short _ (by omega), atoi_itoa n h0]
  simp [Lib.NumEnd.ofOption]
theorem rightsI_letters {r : Int} (h0 : 0 ≤ r) (h1 : r ≤ 7) : rightsI (lettersL r) = some r := by
  rcases eight h0 h1 with h | h | h | h | h | h | h | h <;> subst h <;> decide
theorem cutStar_name {k : Int} (h0 : 1 ≤ k) (h1 : k ≤ 7) (o : Bool) : cutStar (nameL k ++ starL o) = (nameL k, o) ∧ namedI (nameL k) = k := by
  have : k = 1 ∨ k = 2 ∨ k = 3 ∨ k = 4 ∨ k = 5 ∨ k = 6 ∨ k = 7 := by omega
  rcases this with h | h | h | h | h | h | h <;> subst h <;> cases o <;> decide
theorem read_complete {c : CQ} (h : c.ok = true) : readI c.text = some c := by
  have hz := ok_zero h
  obtain ⟨⟨k0, k1⟩, ⟨a0, a1⟩, ⟨b0, b1⟩, ⟨r0, r1⟩, ⟨d0, d1⟩, ⟨g0, g1⟩, ⟨q0, q1⟩, ⟨f0, f1⟩, _⟩ := ok_bounds (show okB c.k c.a c.b c.r c.d c.g c.q c.f c.o = true from h)
  have na := numI_itoa c.a a0 (by omega)
  have nb := numI_itoa c.b b0 (by omega)
  have nd := numI_itoa c.d d0 (by omega)
  have ng := numI_itoa c.g g0 (by omega)
  have nq := numI_itoa c.q q0 (by omega)
  have nf := numI_itoa c.f f0 (by omega)
  have ns := rightsI_letters r0 r1
  obtain ⟨nc, nn⟩ := cutStar_name k0 k1 c.o
  have hne : ¬ c.k = 0 := by omega
  unfold readI
  rw [cut_text]
  simp only [wordsW, nc, nn, hne, if_false]
  obtain ⟨k, a, b, r, d, g, q, f, o⟩ := c
  simp only at *
  have hk : k = 1 ∨ k = 2 ∨ k = 3 ∨ k = 4 ∨ k = 5 ∨ k = 6 ∨ k = 7 := by omega
  obtain ⟨z1, z2, z3, z4, z6, z7⟩ := hz
  rcases hk with e | e | e | e | e | e | e <;> subst e
  · obtain ⟨rfl, rfl, rfl, rfl⟩ := z1 rfl
    simp [readK, restW, partsI, readParts, partI, setPart, na, nb, nf, h]
  · obtain ⟨rfl, rfl, rfl⟩ := z2 rfl
    simp [readK, restW, partsI, readParts, partI, setPart, na, nb, ng, nq, h]
  · obtain ⟨rfl, rfl, rfl, rfl, rfl, rfl⟩ := z3 rfl
    simp [readK, restW, partsI, readParts, partI, setPart, na, h]
  · obtain ⟨rfl, rfl, rfl, rfl⟩ := z4 (.inl rfl)
    simp [readK, restW, partsI, readParts, partI, setPart, na, ns, nd, h]
  · obtain ⟨rfl, rfl, rfl, rfl⟩ := z4 (.inr rfl)
    simp [readK, restW, partsI, readParts, partI, setPart, na, ns, nd, h]
  · obtain ⟨rfl, rfl, rfl, rfl⟩ := z6 rfl
    simp [readK, restW, partsI, readParts, partI, setPart, na, nb, ns, h]
  · obtain ⟨rfl, rfl, rfl, rfl, rfl, rfl⟩ := z7 rfl
    simp [readK, restW, partsI, readParts, partI, setPart, na, h]

/-! ### How the specification reads: the same. -/
def readS (s : List UInt8) : Option CQ := if s.length ≤ 100 ∧ s ≠ [] ∧ (candS s).ok = true ∧ (candS s).text = s then some (candS s) else none
theorem letters_len {r : Int} (h0 : 0 ≤ r) (h1 : r ≤ 7) : (lettersL r).length ≤ 5 := by
  rcases eight h0 h1 with h | h | h | h | h | h | h | h <;> subst h <;> decide
theorem name_len {k : Int} (h0 : 1 ≤ k) (h1 : k ≤ 7) (o : Bool) : (nameL k ++ starL o).length ≤ 9 := by
  have : k = 1 ∨ k = 2 ∨ k = 3 ∨ k = 4 ∨ k = 5 ∨ k = 6 ∨ k = 7 := by omega
  rcases this with h | h | h | h | h | h | h <;> subst h <;> cases o <;> decide
theorem text_len {c : CQ} (h : c.ok = true) : c.text.length ≤ 100 ∧ c.text ≠ [] := by
  obtain ⟨⟨k0, k1⟩, ⟨a0, a1⟩, ⟨b0, b1⟩, ⟨r0, r1⟩, ⟨d0, d1⟩, ⟨g0, g1⟩, ⟨q0, q1⟩, ⟨f0, f1⟩, _⟩ := ok_bounds (show okB c.k c.a c.b c.r c.d c.g c.q c.f c.o = true from h)
  have la := itoa_len c.a a0 (by omega)
  have lb := itoa_len c.b b0 (by omega)
  have ld := itoa_len c.d d0 (by omega)
  have lg := itoa_len c.g g0 (by omega)
  have lq := itoa_len c.q q0 (by omega)
  have lf := itoa_len c.f f0 (by omega)
  have ll := letters_len r0 r1
  have ln := name_len k0 k1 c.o
  have hn := name_ne k0 k1 c.o
  refine ⟨?_, ?_⟩
  · rw [text_join, wordsW, restW]
    repeat' split
    all_goals simp only [joinL, List.length_append, List.length_cons] at *
    all_goals omega
  · rw [text_join, wordsW]
    intro e
    simp only [joinL] at e
    have := congrArg List.length e
    simp at this
theorem read_same (s : List UInt8) : readS s = readI s := by
  cases hr : readI s with
  | some c =>
    obtain ⟨hok, ht⟩ := read_sound hr
    subst ht
    unfold readS
    rw [cand_text hok, if_pos ⟨(text_len hok).1, (text_len hok).2, hok, rfl⟩]
  | none =>
    unfold readS
    rw [if_neg]
    rintro ⟨_, _, hok, ht⟩
    have := read_complete hok
    rw [ht, hr] at this
    cases this

end Go.Proofs.YthmambhagheocaaGreatDoor
