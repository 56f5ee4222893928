/-
  A number as the specification reads it, at every text; the number of a word.
-/
import Derived.Test.YthmambhagheocaaGreatDoorReadSpecC
namespace Go.Proofs.YthmambhagheocaaGreatDoor
open Go.ChangeShapes Go.WideShapes Go.ChangeAt Go.RowKit
set_option linter.unusedVariables false

theorem byte_ne {x : UInt8} {n : Nat} (hn : n < 256) (h : x ≠ UInt8.ofNat n) : ((x.toNat : Int) == (n : Int)) = false := by
  rw [beq_eq_false_iff_ne]; intro e; apply h; apply UInt8.toNat_inj.1; rw [UInt8.toNat_ofNat']; omega

set_option maxRecDepth 100000 in
set_option maxHeartbeats 2000000 in
theorem num_none_nil (w : World) : Calls Tryz.prog 60 #[.string ⟨([] : List UInt8).toArray⟩] w fun e w' => e = .returned (numV none) ∧ w' = w := by
  have hsz : (⟨([] : List UInt8).toArray⟩ : ByteArray).size = 0 := rfl
  go_enter Tryz.func60, Tryz.ntmps60
  go_wp2
  go_ret2
  exact ⟨rfl, rfl⟩

set_option maxRecDepth 100000 in
set_option maxHeartbeats 2000000 in
theorem num_none_pos (x : UInt8) (t : List UInt8) (w : World) (hx : x ≠ 45) (hl : t.length ≤ 1000) (h : 17 < t.length + 1 ∨ (x = 48 ∧ 1 < t.length + 1)) :
    Calls Tryz.prog 60 #[.string ⟨(x :: t).toArray⟩] w fun e w' => e = .returned (numV none) ∧ w' = w := by
  have hks0 : 0 < (⟨(x :: t).toArray⟩ : ByteArray).size := by simp [ByteArray.size]
  have hb0 : (⟨(x :: t).toArray⟩ : ByteArray)[0] = x := rfl
  have hx1 : ((x.toNat : Int) == 45) = false := byte_ne (n := 45) (by decide) hx
  have hsz : (⟨(x :: t).toArray⟩ : ByteArray).size = t.length + 1 := by simp [ByteArray.size]
  by_cases h17 : 17 < t.length + 1
  · have hl1 : ((t.length : Int) + 1 > 17) := by omega
    clear h
    go_enter Tryz.func60, Tryz.ntmps60
    go_wp2
    go_ret2
    exact ⟨rfl, rfl⟩
  · have hl1 : ¬ ((t.length : Int) + 1 > 17) := by omega
    obtain ⟨rfl, h1⟩ : x = 48 ∧ 1 < t.length + 1 := h.resolve_left h17
    have hl2 : ((t.length : Int) + 1 > 1) := by omega
    have hz1 : (((48 : UInt8).toNat : Int) == 48) = true := rfl
    clear h
    go_enter Tryz.func60, Tryz.ntmps60
    go_wp2
    go_ret2
    exact ⟨rfl, rfl⟩

set_option maxRecDepth 100000 in
set_option maxHeartbeats 2000000 in
theorem num_none_neg0 (w : World) :
    Calls Tryz.prog 60 #[.string ⟨([45] : List UInt8).toArray⟩] w fun e w' => e = .returned (numV none) ∧ w' = w := by
  have hks0 : 0 < (⟨([45] : List UInt8).toArray⟩ : ByteArray).size := by decide
  have hb0 : (⟨([45] : List UInt8).toArray⟩ : ByteArray)[0] = 45 := rfl
  have hsz : (⟨([45] : List UInt8).toArray⟩ : ByteArray).size = 1 := rfl
  have HE : (⟨([45] : List UInt8).toArray⟩ : ByteArray).extract 1 1 = ⟨([] : List UInt8).toArray⟩ := by rw [extract_list]; simp
  have hsz0 : (⟨([] : List UInt8).toArray⟩ : ByteArray).size = 0 := rfl
  go_enter Tryz.func60, Tryz.ntmps60
  go_wp2
  go_ret2
  exact ⟨rfl, rfl⟩

set_option maxRecDepth 100000 in
set_option maxHeartbeats 2000000 in
theorem num_none_neg (y : UInt8) (t : List UInt8) (w : World) (hl : t.length ≤ 1000) (h : 17 < t.length + 1 ∨ y = 48) :
    Calls Tryz.prog 60 #[.string ⟨(45 :: y :: t).toArray⟩] w fun e w' => e = .returned (numV none) ∧ w' = w := by
  have hks0 : 0 < (⟨(45 :: y :: t).toArray⟩ : ByteArray).size := by simp [ByteArray.size]
  have hb0 : (⟨(45 :: y :: t).toArray⟩ : ByteArray)[0] = 45 := rfl
  have hsz : (⟨(45 :: y :: t).toArray⟩ : ByteArray).size = t.length + 2 := by simp [ByteArray.size]
  have HE : (⟨(45 :: y :: t).toArray⟩ : ByteArray).extract 1 (t.length + 2) = ⟨(y :: t).toArray⟩ := by rw [extract_list]; simp
  have HE2 : (⟨(45 :: y :: t).toArray⟩ : ByteArray).extract 1 (t.length + 1 + 1) = ⟨(y :: t).toArray⟩ := by rw [extract_list]; simp
  have hks1 : 0 < (⟨(y :: t).toArray⟩ : ByteArray).size := by simp [ByteArray.size]
  have hb1 : (⟨(y :: t).toArray⟩ : ByteArray)[0] = y := rfl
  have hsz1 : (⟨(y :: t).toArray⟩ : ByteArray).size = t.length + 1 := by simp [ByteArray.size]
  by_cases h17 : 17 < t.length + 1
  · have hl1 : ((t.length : Int) + 1 > 17) := by omega
    clear h
    go_enter Tryz.func60, Tryz.ntmps60
    go_wp2
    go_ret2
    exact ⟨rfl, rfl⟩
  · have hl1 : ¬ ((t.length : Int) + 1 > 17) := by omega
    obtain rfl : y = 48 := h.resolve_left h17
    have hz1 : (((48 : UInt8).toNat : Int) == 48) = true := rfl
    clear h
    by_cases h1 : 1 < t.length + 1
    · have hl2 : ((t.length : Int) + 1 > 1) := by omega
      go_enter Tryz.func60, Tryz.ntmps60
      go_wp2
      go_ret2
      exact ⟨rfl, rfl⟩
    · have hl2 : ¬ ((t.length : Int) + 1 > 1) := by omega
      go_enter Tryz.func60, Tryz.ntmps60
      go_wp2
      go_ret2
      exact ⟨rfl, rfl⟩

theorem numS_any (s : List UInt8) (w : World) (hl : s.length ≤ 1000) :
    Calls Tryz.prog 60 #[.string ⟨s.toArray⟩] w fun e w' => e = .returned (numV (numS s)) ∧ w' = w := by
  match s, hl with
  | [], _ => exact num_none_nil w
  | x :: t, hl =>
    simp only [List.length_cons] at hl
    by_cases hx : x = 45
    · subst hx
      match t, hl with
      | [], _ => exact num_none_neg0 w
      | y :: u, hl =>
        simp only [List.length_cons] at hl
        by_cases h : 17 < u.length + 1 ∨ y = 48
        · have e : numS (45 :: y :: u) = none := by
            unfold numS; rw [if_pos (show (45 :: y :: u).head? = some 45 from rfl), if_pos (.inr (by simpa using h))]
          rw [e]; exact num_none_neg y u w (by omega) h
        · have e : numS (45 :: y :: u) = (Lib.decFrom 0 (y :: u)).map fun m : Nat => -(m : Int) := by
            unfold numS; rw [if_pos (show (45 :: y :: u).head? = some 45 from rfl), if_neg (by rintro (hh | hh); simp at hh; exact h (by simpa using hh))]; rfl
          rw [e]; exact num_neg y u w (fun hh => h (.inr hh)) (by simp; omega) _ rfl
    · have h45 : ¬ (x :: t).head? = some 45 := by simpa using hx
      by_cases h : 17 < t.length + 1 ∨ (x = 48 ∧ 1 < t.length + 1)
      · have e : numS (x :: t) = none := by
          unfold numS; rw [if_neg h45, if_pos (.inr (by simpa using h))]
        rw [e]; exact num_none_pos x t w hx (by omega) h
      · have e : numS (x :: t) = (Lib.decFrom 0 (x :: t)).map fun m : Nat => (m : Int) := by
          unfold numS; rw [if_neg h45, if_neg (by rintro (hh | hh); simp at hh; exact h (by simpa using hh))]
        rw [e]; exact num_pos x t w hx (by simp; omega) (fun hh => h (.inr (by simpa using hh))) _ rfl

set_option maxRecDepth 100000 in
set_option maxHeartbeats 1000000 in
theorem atS_any (Q : Option Addr) (cap i : Nat) (L : List (List UInt8)) (w : World) (h : LiesG fS w Q L) (hl : L.length ≤ 1000) (hi : i ≤ 10) (hw : (wordAt L i).length ≤ 1000) :
    Calls Tryz.prog 38 #[.slice Q L.length cap, .int .i64 i] w fun e w' => e = .returned (.int .i64 (atS L i)) ∧ w' = w := by
  have HW : Hid _ := fun W hW => wordAt_any Q cap i L W hW hl hi
  have HN : Hid _ := fun W => numS_any (wordAt L i) W hw
  have HA : Hid (atS L i = (numS (wordAt L i)).getD (-1)) := rfl
  generalize wordAt L i = x at *
  generalize atS L i = r at *
  cases hn : numS x with
  | none =>
    rw [hn] at HN HA
    obtain rfl := HA.out
    go_enter Tryz.func38, Tryz.ntmps38
    go_wp2_with (first
      | (go_at_call 39; refine Calls.mono (HW.out _ h) ?_; rintro e w1 ⟨rfl, hw⟩; have hw := hw.symm; subst hw)
      | (go_at_call 60; refine Calls.mono (HN.out _) ?_; simp only [numV, Option.getD, Option.isSome]; rintro e w1 ⟨rfl, hw⟩; have hw := hw.symm; subst hw))
    go_ret
    exact ⟨rfl, rfl⟩
  | some n =>
    rw [hn] at HN HA
    obtain rfl := HA.out
    go_enter Tryz.func38, Tryz.ntmps38
    go_wp2_with (first
      | (go_at_call 39; refine Calls.mono (HW.out _ h) ?_; rintro e w1 ⟨rfl, hw⟩; have hw := hw.symm; subst hw)
      | (go_at_call 60; refine Calls.mono (HN.out _) ?_; simp only [numV, Option.getD, Option.isSome]; rintro e w1 ⟨rfl, hw⟩; have hw := hw.symm; subst hw))
    go_ret
    exact ⟨rfl, rfl⟩

end Go.Proofs.YthmambhagheocaaGreatDoor
