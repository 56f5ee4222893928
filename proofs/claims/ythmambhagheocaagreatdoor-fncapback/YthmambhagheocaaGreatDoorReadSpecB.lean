/-
  The words of a text, a word and a number among them, as the specification finds them.
-/
import Derived.Test.YthmambhagheocaaGreatDoorReadSpecA
import Derived.Test.YthmambhagheocaaGreatDoorDigits
namespace Go.Proofs.YthmambhagheocaaGreatDoor
open Go.ChangeShapes Go.WideShapes Go.ChangeAt Go.RowKit
set_option linter.unusedVariables false

theorem str_ne_nil (l : List UInt8) : ((⟨l.toArray⟩ : ByteArray) == ⟨#[]⟩) = l.isEmpty := by
  cases l with
  | nil => rfl
  | cons x l =>
    show ((x :: l).toArray == (#[] : Array UInt8)) = false
    simp

theorem cutL_length : ∀ l : List UInt8, (cutL l).length ≤ l.length + 1
  | [] => by simp [cutL]
  | x :: l => by
    have ih := cutL_length l
    rw [cutL]
    split
    · simp; omega
    · split
      · simp
      · next e => rw [e] at ih; simp at ih ⊢; omega

structure WordsW (w W : World) (L : List (List UInt8)) (out i : Value) (w' : World) (k : Nat) : Prop where
  h2 : i = .int .i64 k
  kl : k ≤ L.length
  own : OwnG fS 9 w' W.heap.size out ((L.take k).filter fun x => !x.isEmpty)
  bw : Below W.heap.size W w'

set_option maxRecDepth 100000 in
set_option maxHeartbeats 4000000 in
theorem wordsS_any (s : List UInt8) (w : World) (hl : s.length ≤ 100) :
    Calls Tryz.prog 37 #[.string ⟨s.toArray⟩] w fun e w' => ∃ v, e = .returned v ∧ OwnG fS 9 w' w.heap.size v (wordsS s) ∧ Below w.heap.size w w' := by
  obtain ⟨i0, hi0, hzz⟩ := Option.map_eq_some_iff.1 infoS
  simp only [Prod.mk.injEq] at hzz
  obtain ⟨hy1, hs0, hy0⟩ := hzz
  have HC : Hid _ := cutS_any s w hl
  have HW : Hid (wordsS s = (cutL s).filter fun x => !x.isEmpty) := rfl
  have hcl : (cutL s).length ≤ 101 := by have := cutL_length s; omega
  generalize wordsS s = R at HW ⊢
  generalize cutL s = L at *
  go_enter Tryz.func37, Tryz.ntmps37
  go_wp2_with ((go_at_call 59; refine Calls.mono HC.out ?_; rintro e w1 ⟨v, rfl, own1, hb1⟩; obtain ⟨Q, cap, rfl, lies, hPb⟩ := own1.form))
  go_loopw [4, 5] (fun out i w' => ∃ k, WordsW w w1 L out i w' k) (fun out i w' => L.length - (intOf i).toNat)
  case atStart =>
    exact ⟨0, rfl, Nat.zero_le _, OwnG.made fS 9 w1 w1.heap.size #[] 0 (Nat.le_refl _) (Nat.zero_le _) rfl, (Below.refl _ _).alloc (Nat.le_refl _) _⟩
  case round =>
    obtain ⟨k, rfl, kl, own, bw⟩ := hrel
    by_cases hlt : k < L.length
    · obtain ⟨B, O, rfl⟩ := lies.has hlt
      obtain rfl : O = 0 := (hPb.2.2.1 B O rfl).2.2.1
      clear hPb
      have c0 := atFS (lies.below bw) hlt
      simp only [Nat.zero_add] at c0
      have ht : L.take (k + 1) = L.take k ++ [L[k]] := List.take_succ_eq_append_getElem hlt
      have HT : Hid ((L.take (k + 1)).filter (fun x => !x.isEmpty) = (L.take k).filter (fun x => !x.isEmpty) ++ [L[k]].filter (fun x => !x.isEmpty)) := by unfold Hid; rw [ht, List.filter_append]
      clear ht
      have hpl : ((L.take k).filter fun x => !x.isEmpty).length ≤ k := Nat.le_trans (List.length_filter_le _ _) (by simp; omega)
      generalize L[k] = x at c0 HT
      generalize (L.take k).filter (fun x => !x.isEmpty) = P at own HT hpl
      have hk1 : (k : Int) < (L.length : Int) := by omega
      cases hx : x.isEmpty
      · have hne : ((⟨x.toArray⟩ : ByteArray) == ⟨#[]⟩) = false := by rw [str_ne_nil, hx]
        have hT2 : P ++ [x].filter (fun x => !x.isEmpty) = P ++ [x] := by simp [hx]
        obtain ⟨Q2, cap2, rfl, _⟩ := own.form
        have hown : (wr.alloc (.cells #[.string ⟨x.toArray⟩] 9)).ownsRow w1.heap.size 9 1 (.slice Q2 P.length cap2) P.length (cellsG fS P) := own.below ((Below.refl _ wr).alloc (Nat.le_refl _) _)
        have hbs := bw.size
        go_wp2_with ((at_builtin; go_loud (refine wpList_append_own _ rfl _ _ 46 rfl w1.heap.size 9 i0 (.string ⟨#[]⟩) 1 16 Tryz.underlying46 hi0 hy1 hs0 hy0 rfl (by decide) (.slice Q2 P.length cap2) P.length (cellsG fS P) rfl hown ⟨wr.heap.size, 0, none⟩ 1 1 (fS.cel x) rfl rfl (newsG (F := fS) _ 9) (by simp [fS, Value.oneCell']) (by unfold maxLen; omega) (by omega) (by simp; omega) ?_; intro v2 w5 own2 gr2 _; obtain ⟨g3, cap3, rfl⟩ := own_some own2 (by omega))))
        have bA : Below w1.heap.size w1 (wr.alloc (.cells #[.string ⟨x.toArray⟩] 9)) := bw.alloc bw.size _
        go_roundw
        case rel => exact ⟨k + 1, by go_num, by omega, by rw [HT.out, hT2]; exact OwnG.snoc (F := fS) _ rfl own2, bA.trans ((Below.refl _ _).grown gr2 (by simp; omega) (fun k e => (World.ownsRow.lt hown k e).1))⟩
        case measure => first | (simp [intOf]; omega) | simp [intOf]
      · have hne : ((⟨x.toArray⟩ : ByteArray) == ⟨#[]⟩) = true := by rw [str_ne_nil, hx]
        have hT2 : P ++ [x].filter (fun x => !x.isEmpty) = P := by simp [hx]
        go_wp2
        go_roundw
        case rel => exact ⟨k + 1, by go_num, by omega, by rw [HT.out, hT2]; exact own, bw⟩
        case measure => first | (simp [intOf]; omega) | simp [intOf]
    · obtain rfl : k = L.length := by omega
      rw [List.take_length] at own
      obtain ⟨Q2, cap2, rfl, _⟩ := own.form
      go_wp2
      go_ret
      exact ⟨_, rfl, by rw [HW.out]; exact own.rebase hb1.size, hb1.trans (bw.mono hb1.size)⟩

set_option maxRecDepth 100000 in
set_option maxHeartbeats 1000000 in
theorem wordAt_any (Q : Option Addr) (cap i : Nat) (L : List (List UInt8)) (w : World) (h : LiesG fS w Q L) (hl : L.length ≤ 1000) (hi : i ≤ 10) :
    Calls Tryz.prog 39 #[.slice Q L.length cap, .int .i64 i] w fun e w' => e = .returned (.string ⟨(wordAt L i).toArray⟩) ∧ w' = w := by
  by_cases hlt : i < L.length
  · obtain ⟨B, O, rfl⟩ := h.has hlt
    have c0 := atFS h hlt
    have HW : Hid (wordAt L i = L[i]) := by unfold Hid wordAt; rw [List.getD_eq_getElem?_getD, List.getElem?_eq_getElem hlt]; rfl
    generalize L[i] = x at c0 HW
    have hk1 : (i : Int) < (L.length : Int) := by omega
    go_enter Tryz.func39, Tryz.ntmps39
    go_wp2
    go_ret
    exact ⟨by rw [HW.out]; rfl, rfl⟩
  · have HW : Hid (wordAt L i = []) := by unfold Hid wordAt; rw [List.getD_eq_getElem?_getD, List.getElem?_eq_none (by omega)]; rfl
    have hk1 : ¬ (i : Int) < (L.length : Int) := by omega
    go_enter Tryz.func39, Tryz.ntmps39
    go_wp2
    go_ret
    exact ⟨by rw [HW.out]; rfl, rfl⟩

theorem bytes_beq (a b : List UInt8) : ((⟨a.toArray⟩ : ByteArray) == ⟨b.toArray⟩) = decide (a = b) := by
  show (a.toArray == b.toArray) = _
  rw [Bool.eq_iff_iff]
  simp

theorem spelt_step (w : List UInt8) (k : Nat) : speltFrom w ((List.range' k (8 - k)).map fun n : Nat => (n : Int)) = if k < 8 then (if lettersL k = w then (k : Int) else speltFrom w ((List.range' (k + 1) (8 - (k + 1))).map fun n : Nat => (n : Int))) else 8 := by
  by_cases h : k < 8
  · rw [if_pos h]
    have : 8 - k = (8 - (k + 1)) + 1 := by omega
    rw [this, List.range'_succ]
    simp only [List.map_cons, speltFrom]
  · rw [if_neg h]
    have : 8 - k = 0 := by omega
    rw [this]
    rfl

set_option maxRecDepth 100000 in
set_option maxHeartbeats 2000000 in
theorem speltS_any (s : List UInt8) (w : World) :
    Calls Tryz.prog 41 #[.string ⟨s.toArray⟩] w fun e w' => e = .returned (.int .i64 (speltS s)) ∧ Below w.heap.size w w' := by
  have HR : Hid (speltFrom s ((List.range' 0 (8 - 0)).map fun n : Nat => (n : Int)) = speltS s) := rfl
  generalize speltS s = r at HR ⊢
  go_enter Tryz.func41, Tryz.ntmps41
  go_wp2
  go_loopw [3] (fun i w' => ∃ k : Nat, k ≤ 8 ∧ i = .int .i64 k ∧ Hid (speltFrom s ((List.range' k (8 - k)).map fun n : Nat => (n : Int)) = r) ∧ Below w.heap.size w w') (fun i w' => 8 - (intOf i).toNat)
  case atStart => exact ⟨0, by omega, rfl, HR.out, Below.refl _ _⟩
  case round =>
    clear HR
    obtain ⟨k, hk, rfl, HK, bw⟩ := hrel
    have hst := HK.out
    rw [spelt_step] at hst
    by_cases hlt : k < 8
    · rw [if_pos hlt] at hst
      have hbq : (lettersL (k : Int) == s) = decide (lettersL (k : Int) = s) := by rw [Bool.eq_iff_iff]; simp
      have HLt : Hid _ := fun W => lettersSpec_any (k : Int) W (by omega) (by omega)
      generalize lettersL (k : Int) = l at hst hbq HLt
      have hk1 : (k : Int) < 8 := by omega
      by_cases hx : l = s
      · rw [if_pos hx] at hst
        rw [decide_eq_true hx] at hbq
        subst hst
        clear HK
        go_wp2_with ((go_at_call 58; refine Calls.mono (HLt.out _) ?_; rintro e w1 ⟨rfl, hw⟩; have hw := hw.symm; subst hw))
        go_ret
        exact ⟨rfl, bw⟩
      · rw [if_neg hx] at hst
        rw [decide_eq_false hx] at hbq
        clear HK
        have HN : Hid _ := hst
        clear hst
        go_wp2_with ((go_at_call 58; refine Calls.mono (HLt.out _) ?_; rintro e w1 ⟨rfl, hw⟩; have hw := hw.symm; subst hw))
        go_roundw
        case rel => exact ⟨k + 1, by omega, by go_num, HN.out, bw⟩
        case measure => first | (simp [intOf]; omega) | simp [intOf]
    · rw [if_neg hlt] at hst
      subst hst
      have hk1 : ¬ (k : Int) < 8 := by omega
      clear HK
      go_wp2
      go_ret
      exact ⟨rfl, bw⟩

end Go.Proofs.YthmambhagheocaaGreatDoor
