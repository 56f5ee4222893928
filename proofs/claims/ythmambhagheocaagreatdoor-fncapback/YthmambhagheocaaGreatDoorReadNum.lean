/-
  Numbers as they are written: read back.
-/
import Derived.Test.YthmambhagheocaaGreatDoorReadCut
import Derived.Lib.Atoi
import Derived.Lib.ItoaNum
namespace Go.Proofs.YthmambhagheocaaGreatDoor
set_option linter.unusedVariables false

theorem dig_toNat {d : Nat} (h : d < 10) : (UInt8.ofNat (48 + d)).toNat = 48 + d := by
  rw [UInt8.toNat_ofNat']; omega
theorem dig_val {d : Nat} (h : d < 10) : Lib.digitVal (UInt8.ofNat (48 + d)) = some d := by
  rw [Lib.digitVal, dig_toNat h, if_pos (by omega)]
  congr 1; omega
theorem decFrom_snoc : ∀ (l : List UInt8) (acc : Nat) (x : UInt8) (d : Nat), Lib.digitVal x = some d → Lib.decFrom acc (l ++ [x]) = (Lib.decFrom acc l).map (fun n => n * 10 + d)
  | [], acc, x, d, h => by simp [Lib.decFrom, h]
  | y :: l, acc, x, d, h => by
    rw [List.cons_append, Lib.decFrom, Lib.decFrom]
    cases hy : Lib.digitVal y with
    | none => rfl
    | some e => exact decFrom_snoc l _ x d h
theorem dec_read (u : Nat) : Lib.decFrom 0 (Lib.decDigits u) = some u := by
  induction u using Nat.strongRecOn with
  | ind u ih =>
    by_cases h : u < 10
    · rw [Lib.decDigits_one h, Lib.decFrom, dig_val h]; simp [Lib.decFrom]
    · rw [Lib.decDigits, dif_neg h, decFrom_snoc _ _ _ _ (dig_val (Nat.mod_lt _ (by omega))), ih (u / 10) (by omega)]
      simp; omega
theorem dec_digit (u : Nat) : ∀ x ∈ Lib.decDigits u, 48 ≤ x.toNat ∧ x.toNat ≤ 57 := by
  induction u using Nat.strongRecOn with
  | ind u ih =>
    intro x hx
    by_cases h : u < 10
    · rw [Lib.decDigits_one h] at hx
      rw [List.mem_singleton.1 hx, dig_toNat h]; omega
    · rw [Lib.decDigits, dif_neg h] at hx
      rcases List.mem_append.1 hx with hx | hx
      · exact ih (u / 10) (by omega) x hx
      · rw [List.mem_singleton.1 hx, dig_toNat (Nat.mod_lt _ (by omega))]
        have := Nat.mod_lt u (show 10 > 0 by omega)
        omega
/-- The first digit of a number that is not 0 is not 0. -/
theorem dec_head (u : Nat) : ∃ x t, Lib.decDigits u = x :: t ∧ (x.toNat = 48 → u = 0) := by
  induction u using Nat.strongRecOn with
  | ind u ih =>
    by_cases h : u < 10
    · exact ⟨_, [], Lib.decDigits_one h, fun e => by rw [dig_toNat h] at e; omega⟩
    · obtain ⟨x, t, e, hx⟩ := ih (u / 10) (by omega)
      exact ⟨x, t ++ [UInt8.ofNat (48 + u % 10)], by rw [Lib.decDigits, dif_neg h, e]; rfl, fun e2 => by have := hx e2; omega⟩

theorem itoa_free (n : Int) : ∀ x ∈ Lib.itoa n, x ≠ 32 := by
  intro x hx e
  subst e
  unfold Lib.itoa at hx
  split at hx
  · rcases List.mem_cons.1 hx with h | h
    · exact absurd h (by decide)
    · have := dec_digit _ _ h; revert this; decide
  · have := dec_digit _ _ hx; revert this; decide

/-- A number as the specification reads it: of at most 17 digits, as it is written. -/
def numS (s : List UInt8) : Option Int :=
  if s.head? = some 45 then
    (if s.tail = [] ∨ 17 < s.tail.length ∨ s.tail.head? = some 48 then none else (Lib.decFrom 0 s.tail).map fun m : Nat => -(m : Int))
  else (if s = [] ∨ 17 < s.length ∨ (s.head? = some 48 ∧ 1 < s.length) then none else (Lib.decFrom 0 s).map fun m : Nat => (m : Int))

theorem numS_itoa (n : Int) (h0 : 0 ≤ n) (h1 : n ≤ 65535) : numS (Lib.itoa n) = some n := by
  obtain ⟨u, rfl⟩ : ∃ u : Nat, n = u := ⟨n.toNat, by omega⟩
  have e : Lib.itoa (u : Int) = Lib.decDigits u := by unfold Lib.itoa; rw [if_neg (by omega)]; simp
  rw [e]
  obtain ⟨x, t, hd, hx⟩ := dec_head u
  have hdig := dec_digit u x (by rw [hd]; exact List.mem_cons_self ..)
  have hlen : (Lib.decDigits u).length ≤ 17 := by
    rw [Lib.decDigits_length]
    by_cases h2 : u < 10
    · rw [Lib.nDigits_small h2]; omega
    · have h5 : Lib.nDigits u ≤ 5 := by
        by_cases a : u < 100
        · rw [Lib.nDigits_unique 1 u (by omega) (by omega)]; omega
        · by_cases b : u < 1000
          · rw [Lib.nDigits_unique 2 u (by omega) (by omega)]; omega
          · by_cases c : u < 10000
            · rw [Lib.nDigits_unique 3 u (by omega) (by omega)]; omega
            · rw [Lib.nDigits_unique 4 u (by omega) (by omega)]; omega
      omega
  have hr := dec_read u
  have h45 : ¬ (Lib.decDigits u).head? = some 45 := by
    rw [hd]; simp; intro e2; subst e2; revert hdig; decide
  unfold numS
  rw [if_neg h45, if_neg ?_, hr]
  · rfl
  · rintro (h | h | ⟨h, h2⟩)
    · rw [hd] at h; simp at h
    · omega
    · rw [hd] at h
      simp at h
      have hu : u = 0 := hx (by rw [h]; rfl)
      subst hu
      rw [Lib.decDigits_one (by omega)] at h2
      simp at h2

end Go.Proofs.YthmambhagheocaaGreatDoor
