/-
  The parts of CapRead of the program: the kind that a word names, rights, numbers, one part.
-/
import Derived.Test.YthmambhagheocaaGreatDoorReadImpP
import Derived.Lib.AtoiErrMem
import Derived.Test.YthmambhagheocaaGreatDoorTexts
import Derived.Test.YthmambhagheocaaGreatDoorBx
namespace Go.Proofs.YthmambhagheocaaGreatDoor
open Go.ChangeShapes Go.WideShapes Go.ChangeAt Go.RowKit
set_option linter.unusedVariables false

/-- What of the library's variables reading leans on. -/
structure Laid (w : World) : Prop where
  tab : ∀ w', Below w.heap.size w w' → Lib.TabIs Tryz.prog w' "internal/strconv.uint64pow10" .u64 Lib.pow10Tab
  syn : ∃ ev, w.cell? ⟨3, 0, none⟩ = some ev ∧ (ev = .nilIface ∨ ∃ te pe, ev = .iface te pe)
  ran : ∃ ev, w.cell? ⟨4, 0, none⟩ = some ev ∧ (ev = .nilIface ∨ ∃ te pe, ev = .iface te pe)
  max : ∃ m : Int, w.cell? ⟨0, 0, none⟩ = some (.int .i64 m)
  synB : 3 < w.heap.size
  ranB : 4 < w.heap.size
  maxB : 0 < w.heap.size
theorem Laid.below {w w' : World} (h : Laid w) (hb : Below w.heap.size w w') : Laid w' :=
  ⟨fun w2 h2 => h.tab w2 (hb.trans (h2.mono hb.size)),
    by obtain ⟨ev, h1, h2⟩ := h.syn; exact ⟨ev, (hb.cell h.synB).trans h1, h2⟩,
    by obtain ⟨ev, h1, h2⟩ := h.ran; exact ⟨ev, (hb.cell h.ranB).trans h1, h2⟩,
    by obtain ⟨m, h1⟩ := h.max; exact ⟨m, (hb.cell h.maxB).trans h1⟩,
    Nat.lt_of_lt_of_le h.synB hb.size, Nat.lt_of_lt_of_le h.ranB hb.size, Nat.lt_of_lt_of_le h.maxB hb.size⟩

theorem named_step (w : List UInt8) (j : Nat) : namedFrom w ((List.range' (j + 1) (7 - j)).map fun n : Nat => (n : Int)) = if j < 7 then (if nameL ((j : Int) + 1) = w then (j : Int) + 1 else namedFrom w ((List.range' (j + 1 + 1) (7 - (j + 1))).map fun n : Nat => (n : Int))) else 0 := by
  by_cases h : j < 7
  · rw [if_pos h]
    have : 7 - j = (7 - (j + 1)) + 1 := by omega
    rw [this, List.range'_succ]
    simp only [List.map_cons, namedFrom]
    norm_cast
  · rw [if_neg h]
    have : 7 - j = 0 := by omega
    rw [this]
    rfl

set_option maxRecDepth 100000 in
set_option maxHeartbeats 2000000 in
theorem named_any (s : List UInt8) (w : World) :
    Calls Tryz.prog 20 #[.string ⟨s.toArray⟩] w fun e w' => e = .returned (.int .i64 (namedI s)) ∧ Below w.heap.size w w' := by
  have HR : Hid (namedFrom s ((List.range' (0 + 1) (7 - 0)).map fun n : Nat => (n : Int)) = namedI s) := rfl
  generalize namedI s = r at HR ⊢
  go_enter Tryz.func20, Tryz.ntmps20
  go_wp2
  go_loopw [3] (fun i w' => ∃ j : Nat, j ≤ 7 ∧ i = .int .i64 ((j : Int) + 1) ∧ Hid (namedFrom s ((List.range' (j + 1) (7 - j)).map fun n : Nat => (n : Int)) = r) ∧ Below w.heap.size w w') (fun i w' => 8 - (intOf i).toNat)
  case atStart => exact ⟨0, by omega, rfl, HR.out, Below.refl _ _⟩
  case round =>
    clear HR
    obtain ⟨j, hj, rfl, HK, bw⟩ := hrel
    have hst := HK.out
    rw [named_step] at hst
    clear HK
    by_cases hlt : j < 7
    · rw [if_pos hlt] at hst
      have hbq : (nameL ((j : Int) + 1) == s) = decide (nameL ((j : Int) + 1) = s) := by rw [Bool.eq_iff_iff]; simp
      have hj7 : j = 0 ∨ j = 1 ∨ j = 2 ∨ j = 3 ∨ j = 4 ∨ j = 5 ∨ j = 6 := by omega
      rcases hj7 with e | e | e | e | e | e | e <;> subst e
      · have hM := wordM_1
        simp only [show (((0 : Nat) : Int) + 1) = 1 from rfl] at hst hbq
        by_cases hx : nameL 1 = s
        · rw [if_pos hx] at hst
          rw [decide_eq_true hx] at hbq
          subst hst
          go_wp2_with (first
          | (go_at_call 17; refine (kindOf_any _ _).mono ?_; rintro e w1 ⟨rfl, hw⟩; have hw := hw.symm; subst hw; rw [kindV_1])
          | (go_at_call 131; refine (word_1 _).mono ?_; rintro e w1 ⟨rfl, rfl⟩))
          go_ret
          exact ⟨rfl, bw.alloc bw.size _⟩
        · rw [if_neg hx] at hst
          rw [decide_eq_false hx] at hbq
          have HN : Hid _ := hst
          clear hst
          go_wp2_with (first
          | (go_at_call 17; refine (kindOf_any _ _).mono ?_; rintro e w1 ⟨rfl, hw⟩; have hw := hw.symm; subst hw; rw [kindV_1])
          | (go_at_call 131; refine (word_1 _).mono ?_; rintro e w1 ⟨rfl, rfl⟩))
          go_roundw
          case rel => exact ⟨0 + 1, by omega, by go_num, HN.out, bw.alloc bw.size _⟩
          case measure => first | (simp [intOf]; done) | (simp [intOf]; omega)
      · have hM := wordM_2
        simp only [show (((1 : Nat) : Int) + 1) = 2 from rfl] at hst hbq
        by_cases hx : nameL 2 = s
        · rw [if_pos hx] at hst
          rw [decide_eq_true hx] at hbq
          subst hst
          go_wp2_with (first
          | (go_at_call 17; refine (kindOf_any _ _).mono ?_; rintro e w1 ⟨rfl, hw⟩; have hw := hw.symm; subst hw; rw [kindV_2])
          | (go_at_call 128; refine (word_2 _).mono ?_; rintro e w1 ⟨rfl, rfl⟩))
          go_ret
          exact ⟨rfl, bw.alloc bw.size _⟩
        · rw [if_neg hx] at hst
          rw [decide_eq_false hx] at hbq
          have HN : Hid _ := hst
          clear hst
          go_wp2_with (first
          | (go_at_call 17; refine (kindOf_any _ _).mono ?_; rintro e w1 ⟨rfl, hw⟩; have hw := hw.symm; subst hw; rw [kindV_2])
          | (go_at_call 128; refine (word_2 _).mono ?_; rintro e w1 ⟨rfl, rfl⟩))
          go_roundw
          case rel => exact ⟨1 + 1, by omega, by go_num, HN.out, bw.alloc bw.size _⟩
          case measure => first | (simp [intOf]; done) | (simp [intOf]; omega)
      · have hM := wordM_3
        simp only [show (((2 : Nat) : Int) + 1) = 3 from rfl] at hst hbq
        by_cases hx : nameL 3 = s
        · rw [if_pos hx] at hst
          rw [decide_eq_true hx] at hbq
          subst hst
          go_wp2_with (first
          | (go_at_call 17; refine (kindOf_any _ _).mono ?_; rintro e w1 ⟨rfl, hw⟩; have hw := hw.symm; subst hw; rw [kindV_3])
          | (go_at_call 134; refine (word_3 _).mono ?_; rintro e w1 ⟨rfl, rfl⟩))
          go_ret
          exact ⟨rfl, bw.alloc bw.size _⟩
        · rw [if_neg hx] at hst
          rw [decide_eq_false hx] at hbq
          have HN : Hid _ := hst
          clear hst
          go_wp2_with (first
          | (go_at_call 17; refine (kindOf_any _ _).mono ?_; rintro e w1 ⟨rfl, hw⟩; have hw := hw.symm; subst hw; rw [kindV_3])
          | (go_at_call 134; refine (word_3 _).mono ?_; rintro e w1 ⟨rfl, rfl⟩))
          go_roundw
          case rel => exact ⟨2 + 1, by omega, by go_num, HN.out, bw.alloc bw.size _⟩
          case measure => first | (simp [intOf]; done) | (simp [intOf]; omega)
      · have hM := wordM_4
        simp only [show (((3 : Nat) : Int) + 1) = 4 from rfl] at hst hbq
        by_cases hx : nameL 4 = s
        · rw [if_pos hx] at hst
          rw [decide_eq_true hx] at hbq
          subst hst
          go_wp2_with (first
          | (go_at_call 17; refine (kindOf_any _ _).mono ?_; rintro e w1 ⟨rfl, hw⟩; have hw := hw.symm; subst hw; rw [kindV_4])
          | (go_at_call 136; refine (word_4 _).mono ?_; rintro e w1 ⟨rfl, rfl⟩))
          go_ret
          exact ⟨rfl, bw.alloc bw.size _⟩
        · rw [if_neg hx] at hst
          rw [decide_eq_false hx] at hbq
          have HN : Hid _ := hst
          clear hst
          go_wp2_with (first
          | (go_at_call 17; refine (kindOf_any _ _).mono ?_; rintro e w1 ⟨rfl, hw⟩; have hw := hw.symm; subst hw; rw [kindV_4])
          | (go_at_call 136; refine (word_4 _).mono ?_; rintro e w1 ⟨rfl, rfl⟩))
          go_roundw
          case rel => exact ⟨3 + 1, by omega, by go_num, HN.out, bw.alloc bw.size _⟩
          case measure => first | (simp [intOf]; done) | (simp [intOf]; omega)
      · have hM := wordM_5
        simp only [show (((4 : Nat) : Int) + 1) = 5 from rfl] at hst hbq
        by_cases hx : nameL 5 = s
        · rw [if_pos hx] at hst
          rw [decide_eq_true hx] at hbq
          subst hst
          go_wp2_with (first
          | (go_at_call 17; refine (kindOf_any _ _).mono ?_; rintro e w1 ⟨rfl, hw⟩; have hw := hw.symm; subst hw; rw [kindV_5])
          | (go_at_call 139; refine (word_5 _).mono ?_; rintro e w1 ⟨rfl, rfl⟩))
          go_ret
          exact ⟨rfl, bw.alloc bw.size _⟩
        · rw [if_neg hx] at hst
          rw [decide_eq_false hx] at hbq
          have HN : Hid _ := hst
          clear hst
          go_wp2_with (first
          | (go_at_call 17; refine (kindOf_any _ _).mono ?_; rintro e w1 ⟨rfl, hw⟩; have hw := hw.symm; subst hw; rw [kindV_5])
          | (go_at_call 139; refine (word_5 _).mono ?_; rintro e w1 ⟨rfl, rfl⟩))
          go_roundw
          case rel => exact ⟨4 + 1, by omega, by go_num, HN.out, bw.alloc bw.size _⟩
          case measure => first | (simp [intOf]; done) | (simp [intOf]; omega)
      · have hM := wordM_6
        simp only [show (((5 : Nat) : Int) + 1) = 6 from rfl] at hst hbq
        by_cases hx : nameL 6 = s
        · rw [if_pos hx] at hst
          rw [decide_eq_true hx] at hbq
          subst hst
          go_wp2_with (first
          | (go_at_call 17; refine (kindOf_any _ _).mono ?_; rintro e w1 ⟨rfl, hw⟩; have hw := hw.symm; subst hw; rw [kindV_6])
          | (go_at_call 142; refine (word_6 _).mono ?_; rintro e w1 ⟨rfl, rfl⟩))
          go_ret
          exact ⟨rfl, bw.alloc bw.size _⟩
        · rw [if_neg hx] at hst
          rw [decide_eq_false hx] at hbq
          have HN : Hid _ := hst
          clear hst
          go_wp2_with (first
          | (go_at_call 17; refine (kindOf_any _ _).mono ?_; rintro e w1 ⟨rfl, hw⟩; have hw := hw.symm; subst hw; rw [kindV_6])
          | (go_at_call 142; refine (word_6 _).mono ?_; rintro e w1 ⟨rfl, rfl⟩))
          go_roundw
          case rel => exact ⟨5 + 1, by omega, by go_num, HN.out, bw.alloc bw.size _⟩
          case measure => first | (simp [intOf]; done) | (simp [intOf]; omega)
      · have hM := wordM_7
        simp only [show (((6 : Nat) : Int) + 1) = 7 from rfl] at hst hbq
        by_cases hx : nameL 7 = s
        · rw [if_pos hx] at hst
          rw [decide_eq_true hx] at hbq
          subst hst
          go_wp2_with (first
          | (go_at_call 17; refine (kindOf_any _ _).mono ?_; rintro e w1 ⟨rfl, hw⟩; have hw := hw.symm; subst hw; rw [kindV_7])
          | (go_at_call 145; refine (word_7 _).mono ?_; rintro e w1 ⟨rfl, rfl⟩))
          go_ret
          exact ⟨rfl, bw.alloc bw.size _⟩
        · rw [if_neg hx] at hst
          rw [decide_eq_false hx] at hbq
          have HN : Hid _ := hst
          clear hst
          go_wp2_with (first
          | (go_at_call 17; refine (kindOf_any _ _).mono ?_; rintro e w1 ⟨rfl, hw⟩; have hw := hw.symm; subst hw; rw [kindV_7])
          | (go_at_call 145; refine (word_7 _).mono ?_; rintro e w1 ⟨rfl, rfl⟩))
          go_roundw
          case rel => exact ⟨6 + 1, by omega, by go_num, HN.out, bw.alloc bw.size _⟩
          case measure => first | (simp [intOf]; done) | (simp [intOf]; omega)
    · rw [if_neg hlt] at hst
      subst hst
      have hk1 : ¬ (j : Int) + 1 ≤ 7 := by omega
      go_wp2
      go_ret
      exact ⟨rfl, bw⟩

theorem rightsF_step (w : List UInt8) (k : Nat) : rightsFrom w ((List.range' k (8 - k)).map fun n : Nat => (n : Int)) = if k < 8 then (if lettersL k = w then some (k : Int) else rightsFrom w ((List.range' (k + 1) (8 - (k + 1))).map fun n : Nat => (n : Int))) else none := by
  by_cases h : k < 8
  · rw [if_pos h]
    have : 8 - k = (8 - (k + 1)) + 1 := by omega
    rw [this, List.range'_succ]
    simp only [List.map_cons, rightsFrom]
  · rw [if_neg h]
    have : 8 - k = 0 := by omega
    rw [this]
    rfl

/-- A number and whether it is one. -/
def optV (r : Option Int) : Value := .tuple #[.int .i64 (r.getD 0), .bool r.isSome]

set_option maxRecDepth 100000 in
set_option maxHeartbeats 2000000 in
theorem rightsI_any (s : List UInt8) (w : World) :
    Calls Tryz.prog 50 #[.string ⟨s.toArray⟩] w fun e w' => e = .returned (optV (rightsI s)) ∧ Below w.heap.size w w' := by
  have HR : Hid (rightsFrom s ((List.range' 0 (8 - 0)).map fun n : Nat => (n : Int)) = rightsI s) := rfl
  generalize rightsI s = r at HR ⊢
  go_enter Tryz.func50, Tryz.ntmps50
  go_wp2
  go_loopw [4] (fun i w' => ∃ k : Nat, k ≤ 8 ∧ i = .int .i64 k ∧ Hid (rightsFrom s ((List.range' k (8 - k)).map fun n : Nat => (n : Int)) = r) ∧ Below w.heap.size w w') (fun i w' => 8 - (intOf i).toNat)
  case atStart => exact ⟨0, by omega, rfl, HR.out, Below.refl _ _⟩
  case round =>
    clear HR
    obtain ⟨k, hk, rfl, HK, bw⟩ := hrel
    have hst := HK.out
    rw [rightsF_step] at hst
    clear HK
    by_cases hlt : k < 8
    · rw [if_pos hlt] at hst
      have hbq : (lettersL (k : Int) == s) = decide (lettersL (k : Int) = s) := by rw [Bool.eq_iff_iff]; simp
      have HLt : Hid _ := fun W => lettersImpl_any (k : Int) W (by omega) (by omega)
      generalize lettersL (k : Int) = l at hst hbq HLt
      have hk1 : (k : Int) ≤ 7 := by omega
      by_cases hx : l = s
      · rw [if_pos hx] at hst
        rw [decide_eq_true hx] at hbq
        subst hst
        go_wp2_with ((go_at_call 53; refine Calls.mono (HLt.out _) ?_; rintro e w1 ⟨rfl, hw⟩; have hw := hw.symm; subst hw))
        go_ret2
        exact ⟨rfl, bw⟩
      · rw [if_neg hx] at hst
        rw [decide_eq_false hx] at hbq
        have HN : Hid _ := hst
        clear hst
        go_wp2_with ((go_at_call 53; refine Calls.mono (HLt.out _) ?_; rintro e w1 ⟨rfl, hw⟩; have hw := hw.symm; subst hw))
        go_roundw
        case rel => exact ⟨k + 1, by omega, by go_num, HN.out, bw⟩
        case measure => first | (simp [intOf]; omega) | simp [intOf]
    · rw [if_neg hlt] at hst
      subst hst
      have hk1 : ¬ (k : Int) ≤ 7 := by omega
      go_wp2
      go_ret2
      exact ⟨rfl, bw⟩

theorem itoaL_any (n : Int) (w : World) (h0 : -9223372036854775808 ≤ n) (h1 : n ≤ 9223372036854775807) (hL : Laid w) :
    Calls Tryz.prog 52 #[.int .i64 n] w fun e w' => e = .returned (.string ⟨(Lib.itoa n).toArray⟩) ∧ Below w.heap.size w w' :=
  (Tryz.strconv_Itoa n h0 h1 w (hL.tab w (Below.refl _ _))).mono fun e w' ⟨he, k, os, hw⟩ => ⟨he, by rw [hw]; exact grow_below w k os⟩

set_option maxRecDepth 100000 in
set_option maxHeartbeats 2000000 in
theorem number_any (s : List UInt8) (w : World) (hl : s.length ≤ 281474976710656) (hL : Laid w) :
    Calls Tryz.prog 51 #[.string ⟨s.toArray⟩] w fun e w' => (∃ n : Int, e = .returned (.tuple #[.int .i64 n, .bool (numI s).isSome]) ∧ (∀ m, numI s = some m → n = m)) ∧ Below w.heap.size w w' := by
  have hsz : (⟨s.toArray⟩ : ByteArray).size = s.length := by simp [ByteArray.size]
  have hdl : (⟨s.toArray⟩ : ByteArray).data.toList = s := rfl
  cases ha : Lib.atoiAll s with
  | ok v =>
    have hv := Lib.atoiAll_bounds ha
    have hA := fun W => Tryz.strconv_Atoi_ok ⟨s.toArray⟩ (by rw [hsz]; omega) v ha W
    have hA2 : ∀ W, Calls Tryz.prog 72 #[.string ⟨s.toArray⟩] W fun e w' => e = .returned (.tuple #[.int .i64 v, .nilIface]) ∧ Below W.heap.size W w' := fun W =>
      (hA W).mono fun e w' ⟨he, hw⟩ => ⟨he, by rcases hw with rfl | ⟨t, rfl⟩; exact Below.refl _ _; exact Lib.bytesWorld_below _ _ _⟩
    have HA : Hid _ := hA2
    clear hA hA2
    by_cases hx : Lib.itoa v = s
    · have hn : numI s = some v := by unfold numI; rw [ha]; simp [hx]
      have HN : Hid _ := hn
      have hbq : (Lib.itoa v == s) = true := by simpa using hx
      have HI : Hid _ := fun W h => itoaL_any v W hv.1 hv.2 h
      generalize Lib.itoa v = l at hbq HI
      clear hx hn
      go_enter Tryz.func51, Tryz.ntmps51
      go_wp2_with (first
        | (go_at_call 72; refine Calls.mono (HA.out _) ?_; rintro e w1 ⟨rfl, hb1⟩)
        | (go_at_call 52; refine Calls.mono (HI.out _ (hL.below hb1)) ?_; rintro e w2 ⟨rfl, hb2⟩))
      go_ret2
      exact ⟨⟨v, by rw [HN.out]; rfl, fun m hm => by rw [HN.out] at hm; exact Option.some.inj hm⟩, hb1.trans (hb2.mono hb1.size)⟩
    · have hn : numI s = none := by unfold numI; rw [ha]; simp [hx]
      have HN : Hid _ := hn
      have hbq : (Lib.itoa v == s) = false := by simpa using hx
      have HI : Hid _ := fun W h => itoaL_any v W hv.1 hv.2 h
      generalize Lib.itoa v = l at hbq HI
      clear hx hn
      go_enter Tryz.func51, Tryz.ntmps51
      go_wp2_with (first
        | (go_at_call 72; refine Calls.mono (HA.out _) ?_; rintro e w1 ⟨rfl, hb1⟩)
        | (go_at_call 52; refine Calls.mono (HI.out _ (hL.below hb1)) ?_; rintro e w2 ⟨rfl, hb2⟩))
      go_ret2
      exact ⟨⟨v, by rw [HN.out]; rfl, fun m hm => by rw [HN.out] at hm; cases hm⟩, hb1.trans (hb2.mono hb1.size)⟩
  | «syntax» =>
    have HN : Hid (numI s = none) := by unfold Hid numI; rw [ha]
    obtain ⟨ev, hc, hev⟩ := hL.syn
    have HA : Hid _ := Tryz.strconv_Atoi_syntax ⟨s.toArray⟩ (by rw [hsz]; omega) ha ev w hc hev
    clear hc hev
    go_enter Tryz.func51, Tryz.ntmps51
    go_wp2_with (first
      | (go_at_call 72; refine Calls.mono HA.out ?_; rintro e w1 ⟨N, rfl, _, _, hb1⟩))
    go_ret2
    exact ⟨⟨_, by rw [HN.out]; rfl, fun m hm => by rw [HN.out] at hm; cases hm⟩, hb1⟩
  | range =>
    have HN : Hid (numI s = none) := by unfold Hid numI; rw [ha]
    obtain ⟨ev, hc, hev⟩ := hL.ran
    have HA : Hid _ := Tryz.strconv_Atoi_range ⟨s.toArray⟩ (by rw [hsz]; omega) ha ev w hc hev
    clear hc hev
    generalize Lib.atoiSat (⟨s.toArray⟩ : ByteArray).data.toList = z at HA
    go_enter Tryz.func51, Tryz.ntmps51
    go_wp2_with (first
      | (go_at_call 72; refine Calls.mono HA.out ?_; rintro e w1 ⟨N, rfl, _, _, hb1⟩))
    go_ret2
    exact ⟨⟨_, by rw [HN.out]; rfl, fun m hm => by rw [HN.out] at hm; cases hm⟩, hb1⟩

end Go.Proofs.YthmambhagheocaaGreatDoor
