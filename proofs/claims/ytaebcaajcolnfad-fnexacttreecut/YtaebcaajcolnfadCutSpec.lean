/-
  What l3Cut and TreeCut of the specification answer.
-/
import Derived.Test.YtaebcaajcolnfadCutImpl
import Derived.Test.YtaebcaajcolnfadEndSpec
import Derived.Test.YtaebcaajcolnfadRunStep
import Derived.OwnWalk
import Derived.BigRegion
import Derived.Deep.RegionHeldLaw
namespace Go.Proofs.Ytaebcaajcolnfad
open Go.ChangeShapes Go.WideShapes Go.ChangeAt Go.RowKit
set_option linter.unusedVariables false

set_option maxRecDepth 100000 in
set_option maxHeartbeats 2000000 in
theorem cutSpec_at (B O c i : Nat) (L : List Sl) (w : World) (hl : L.length ≤ 1048576) (hcap : L.length ≤ c) (hcm : c ≤ 1048576) (h : Lies w (some ⟨B, O, none⟩) L) (hi : i < L.length) :
    Calls Try.prog 13 #[.slice (some ⟨B, O, none⟩) L.length c, .int .i64 (i : Int)] w fun e w' => ∃ g cap, e = .returned (.slice (some ⟨g, 0, none⟩) (L.length - 1) cap) ∧ w.heap.size ≤ g ∧ Lies w' (some ⟨g, 0, none⟩) (L.take i ++ L.drop (i + 1)) ∧ g < w'.heap.size ∧ Below w.heap.size w w' := by
  have hBlt : B < w.heap.size := (h.cells B O rfl i hi).lt
  obtain ⟨J, hJ⟩ : ∃ J, i + 1 = J := ⟨_, rfl⟩
  have hJ1 : (i : Int) + 1 = (J : Int) := by omega
  have hJ2 : (J : Int) ≤ (L.length : Int) := by omega
  have hJ3 : J ≤ L.length := by omega
  have hJ4 : J ≤ c := by omega
  have hi1 : (i : Int) ≤ (c : Int) := by omega
  have hi2 : i ≤ c := by omega
  have hw1 : IntKind.i64.wrap ((i : Int) + 1) = (J : Int) := by rw [wrap_in (by omega) (by omega)]; exact hJ1
  have hw2 : IntKind.i64.wrap (J : Int) = (J : Int) := wrap_in (by omega) (by omega)
  have hJp : (0 : Int) ≤ (J : Int) := by omega
  have hip : (0 : Int) ≤ (i : Int) := by omega
  have hJ0 : ¬ J = 0 := by omega
  have hJ00 : 0 < J := by omega
  have HJ : Hid _ := hJ
  clear hJ
  obtain ⟨i0, hi0, hzz⟩ := Option.map_eq_some_iff.1 slotInfo
  simp only [Prod.mk.injEq] at hzz
  obtain ⟨hz0, hs0, hy0⟩ := hzz
  have own0 : (w.alloc (.cells #[] 36)).drew.ownsRow w.heap.size 36 11 (.slice (some ⟨w.heap.size, 0, none⟩) 0 0) 0 [] := World.ownsRow_made (base := w.heap.size) (e := 36) (size := 11) w #[] 0 (Nat.le_refl _) (Nat.zero_le _) rfl
  have hB0 : Below w.heap.size w ((w.alloc (.cells #[] 36)).drew) := ((Below.refl _ _).alloc (Nat.le_refl _) _).drew
  have hL0 : Lies ((w.alloc (.cells #[] 36)).drew) (some ⟨B, O, none⟩) L := h.below hB0
  obtain ⟨v1, w1, r1, own1, gr1, n1⟩ := run_append_own (P := Try.prog) ((w.alloc (.cells #[] 36)).drew) w.heap.size 24 24 36 i0 (.agg #[.int .i64 0, .int .i64 0, .int .i64 0, .int .i64 0, .int .i64 0, .int .i64 0, .int .i64 0, .int .i64 0, .int .i64 0, .bool false, .int .i64 0]) 11 88 Try.underlying24 hi0 hz0 hs0 hy0 rfl (by decide) (.slice (some ⟨w.heap.size, 0, none⟩) 0 0) 0 [] own0 ⟨B, O, none⟩ i c (cellsAll (L.take i)) (by rw [cellsAll_length, List.length_take]; omega) (lies_news (hL0.take i)) (cellsAll_one' _) (by unfold maxLen; omega) (by omega) hB0.size
  rw [Nat.zero_add, List.nil_append] at own1
  obtain ⟨g1, cap1, rfl, hg1, hg1'⟩ := own_form own1 (fun e => by have := n1.1 e; simp at this)
  have hL1 := lies_grown hL0 gr1 (by simp [Value.ownBlock]; omega) (Nat.lt_of_lt_of_le hBlt hB0.size)
  have hB1 : Below w.heap.size w w1 := hB0.grown gr1 hB0.size (fun k e => by simp [Value.ownBlock] at e; omega)
  clear n1
  by_cases hcJ : c ≤ J
  · have hc0 : c = J := by omega
    have hlJ : L.length = J := by omega
    subst hc0
    obtain ⟨v2, w2, r2, own2, gr2, n2⟩ := run_append_own (P := Try.prog) w1 w.heap.size 24 24 36 i0 (.agg #[.int .i64 0, .int .i64 0, .int .i64 0, .int .i64 0, .int .i64 0, .int .i64 0, .int .i64 0, .int .i64 0, .int .i64 0, .bool false, .int .i64 0]) 11 88 Try.underlying24 hi0 hz0 hs0 hy0 rfl (by decide) (.slice (some ⟨g1, 0, none⟩) i cap1) i (cellsAll (L.take i)) own1 ⟨B, O, none⟩ 0 0 (cellsAll (L.take 0)) (by rw [cellsAll_length, List.length_take]; omega) (lies_news (hL1.take 0)) (cellsAll_one' _) (by unfold maxLen; omega) (by omega) hB1.size
    obtain ⟨g2, cap2, rfl, hg2, hg2'⟩ := own_form own2 (fun e => by have := n2.1 e; simp at this)
    have hB2 : Below w.heap.size w w2 := hB1.grown gr2 hB1.size (fun k e => by simp [Value.ownBlock] at e; omega)
    have hR : ∃ g cap, Ending.returned (.slice (some ⟨g2, 0, none⟩) (i + 0) cap2) = .returned (.slice (some ⟨g, 0, none⟩) (L.length - 1) cap) ∧ w.heap.size ≤ g ∧ Lies w2 (some ⟨g, 0, none⟩) (L.take i ++ L.drop (i + 1)) ∧ g < w2.heap.size ∧ Below w.heap.size w w2 := by
      have e1 : i + 0 = L.length - 1 := by have := HJ.out; omega
      rw [e1] at own2 ⊢
      rw [← cellsAll_append] at own2
      have e2 : L.drop (i + 1) = L.take 0 := by rw [HJ.out, ← hlJ]; simp
      rw [e2]
      exact ⟨g2, cap2, rfl, hg2, (owns_lies own2).1, hg2', hB2⟩
    rw [hlJ] at hR ⊢
    rw [Nat.add_zero] at hR r2
    have HH : Hid _ := hR
    have hx1 : w.heap.size ≤ w1.heap.size := hB1.size
    have hx2 : w.heap.size ≤ w2.heap.size := hB2.size
    have hz : (c : Int) - (c : Int) = 0 := by omega
    clear hR n2 own0 own1 own2 gr1 gr2 hL0 hL1 hB0 hB1 hB2 h
    go_enter Try.func13, Try.ntmps13
    go_wp2
    go_region_held_law (fun w' => w.heap.size ≤ w'.heap.size) (first | go_keep | assumption)
      ((first
        | (refine step_run rfl (.tmp 5) (.tmp 8) 24 rfl (.slice (some ⟨w.heap.size, 0, none⟩) 0 0) (.slice (some ⟨B, O, none⟩) i c) (.slice (some ⟨g1, 0, none⟩) i cap1) w1 rfl rfl r1 9 rfl ?_)
        | (refine step_run rfl (.tmp 9) (.tmp 13) 24 rfl (.slice (some ⟨g1, 0, none⟩) i cap1) (.slice (some ⟨B, O, none⟩) 0 0) (.slice (some ⟨g2, 0, none⟩) i cap2) w2 rfl rfl r2 14 rfl ?_)))
    all_goals go_wp2
    go_ret
    exact HH.out
  · have hp0 : ¬ c - J = 0 := by omega
    have hp1 : ¬ (c : Int) - (J : Int) = 0 := by omega
    have hp2 : ¬ c = J := by omega
    have hp4 : ¬ (c : Int) ≤ (J : Int) := by omega
    have hp5 : ¬ (c : Int) - (J : Int) ≤ 0 := by omega
    have hp6 : (L.length : Int) ≤ (c : Int) := by omega
    have hp7 : ¬ (L.length : Int) < (J : Int) := by omega
    have hp8 : ¬ L.length < J := by omega
    have hp9 : ¬ (c : Int) < (L.length : Int) := by omega
    obtain ⟨v2, w2, r2, own2, gr2, n2⟩ := run_append_own (P := Try.prog) w1 w.heap.size 24 24 36 i0 (.agg #[.int .i64 0, .int .i64 0, .int .i64 0, .int .i64 0, .int .i64 0, .int .i64 0, .int .i64 0, .int .i64 0, .int .i64 0, .bool false, .int .i64 0]) 11 88 Try.underlying24 hi0 hz0 hs0 hy0 rfl (by decide) (.slice (some ⟨g1, 0, none⟩) i cap1) i (cellsAll (L.take i)) own1 ⟨B, O + J * 11, none⟩ (L.length - J) (c - J) (cellsAll (L.drop J)) (by rw [cellsAll_length, List.length_drop]) (lies_news (lies_drop hL1 J)) (cellsAll_one' _) (by unfold maxLen; omega) (by omega) hB1.size
    obtain ⟨g2, cap2, rfl, hg2, hg2'⟩ := own_form own2 (fun e => by have := n2.1 e; simp at this)
    have hB2 : Below w.heap.size w w2 := hB1.grown gr2 hB1.size (fun k e => by simp [Value.ownBlock] at e; omega)
    have hR : ∃ g cap, Ending.returned (.slice (some ⟨g2, 0, none⟩) (i + (L.length - J)) cap2) = .returned (.slice (some ⟨g, 0, none⟩) (L.length - 1) cap) ∧ w.heap.size ≤ g ∧ Lies w2 (some ⟨g, 0, none⟩) (L.take i ++ L.drop (i + 1)) ∧ g < w2.heap.size ∧ Below w.heap.size w w2 := by
      have e1 : i + (L.length - J) = L.length - 1 := by have := HJ.out; omega
      rw [e1] at own2 ⊢
      rw [← cellsAll_append] at own2
      rw [HJ.out]
      exact ⟨g2, cap2, rfl, hg2, (owns_lies own2).1, hg2', hB2⟩
    have HH : Hid _ := hR
    have hx1 : w.heap.size ≤ w1.heap.size := hB1.size
    have hx2 : w.heap.size ≤ w2.heap.size := hB2.size
    clear hR n2 own0 own1 own2 gr1 gr2 hL0 hL1 hB0 hB1 hB2 h
    go_enter Try.func13, Try.ntmps13
    go_wp2
    go_region_held_law (fun w' => w.heap.size ≤ w'.heap.size) (first | go_keep | assumption)
      ((first
        | (refine step_run rfl (.tmp 5) (.tmp 8) 24 rfl (.slice (some ⟨w.heap.size, 0, none⟩) 0 0) (.slice (some ⟨B, O, none⟩) i c) (.slice (some ⟨g1, 0, none⟩) i cap1) w1 rfl rfl r1 9 rfl ?_)
        | (refine step_run rfl (.tmp 9) (.tmp 13) 24 rfl (.slice (some ⟨g1, 0, none⟩) i cap1) (.slice (some ⟨B, O + J * 11, none⟩) (L.length - J) (c - J)) (.slice (some ⟨g2, 0, none⟩) (i + (L.length - J)) cap2) w2 rfl rfl r2 14 rfl ?_)))
    all_goals go_wp2
    go_ret
    exact HH.out

end Go.Proofs.Ytaebcaajcolnfad
