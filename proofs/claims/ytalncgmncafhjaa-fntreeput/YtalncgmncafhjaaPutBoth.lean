/-
  What TreePut of the specification answers.
-/
import Derived.Test.YtalncgmncafhjaaPutLast
import Derived.Test.YtalncgmncafhjaaPutImpl
namespace Go.Proofs.Ytalncgmncafhjaa
open Go.ChangeShapes Go.WideShapes Go.ChangeAt Go.RowKit
set_option linter.unusedVariables false

set_option maxRecDepth 100000 in
set_option maxHeartbeats 1000000 in
theorem treePutSpec_none (P : Option Addr) (c : Nat) (i : Int) (L : List Sl) (s : Sl) (w : World) (hl : L.length ≤ 1048576) (hcap : L.length ≤ c) (hcm : c ≤ 9223372036854775807) (h : Lies w P L) (ht : putB L i = false) :
    Calls Try.prog 7 #[.slice P L.length c, .int .i64 i, .agg #[.int .i64 s.t, .int .i64 s.k, .int .i64 s.e, .int .i64 s.b, .int .i64 s.r, .int .i64 s.d, .int .i64 s.g, .int .i64 s.q, .int .i64 s.f, .bool s.o, .int .i64 s.p]] w fun e w' => e = .returned (.tuple #[.slice none 0 0, .bool false]) ∧ Below w.heap.size w w' := by
  have hB0 : Below w.heap.size w (w.alloc (.cells #[.int .i64 s.t, .int .i64 s.k, .int .i64 s.e, .int .i64 s.b, .int .i64 s.r, .int .i64 s.d, .int .i64 s.g, .int .i64 s.q, .int .i64 s.f, .bool s.o, .int .i64 s.p] 27)) := (Below.refl _ w).alloc (Nat.le_refl _) _
  have h0 := h.below hB0
  unfold putB at ht
  cases hT : treeB L
  · have HC : Hid _ := (fun w1 (h1 : Lies w1 P L) => hT ▸ treeOkSpec_any P L.length c L w1 rfl hl hcap hcm h1)
    clear ht hT
    go_enter Try.func7, Try.ntmps7
    go_wp2_with ((go_at_call 18; refine (HC.out _ h0).mono ?_; rintro e w1 ⟨rfl, hb1⟩))
    go_ret2
    exact ⟨rfl, hB0.trans (hb1.mono hB0.size)⟩
  · have HC : Hid _ := (fun w1 (h1 : Lies w1 P L) => hT ▸ treeOkSpec_any P L.length c L w1 rfl hl hcap hcm h1)
    rw [hT, Bool.true_and, Bool.or_eq_false_iff] at ht
    obtain ⟨h1, h2⟩ := ht
    have h3 : ¬ i = -1 := by simpa using h1
    have h4 : ¬ (0 ≤ i ∧ i < (L.length : Int)) := by simpa [placeB] using h2
    clear hT h1 h2
    by_cases h5 : i < -1
    · go_enter Try.func7, Try.ntmps7
      go_wp2_with ((go_at_call 18; refine (HC.out _ h0).mono ?_; rintro e w1 ⟨rfl, hb1⟩))
      go_ret2
      exact ⟨rfl, hB0.trans (hb1.mono hB0.size)⟩
    · have h6 : (L.length : Int) ≤ i := by omega
      clear h4 h3
      go_enter Try.func7, Try.ntmps7
      go_wp2_with ((go_at_call 18; refine (HC.out _ h0).mono ?_; rintro e w1 ⟨rfl, hb1⟩))
      go_ret2
      exact ⟨rfl, hB0.trans (hb1.mono hB0.size)⟩

set_option maxRecDepth 100000 in
set_option maxHeartbeats 1000000 in
/-- Over what l3Put answers. -/
theorem treePutSpec_over (B O c : Nat) (i : Int) (L R : List Sl) (s : Sl) (w : World) (hl : L.length ≤ 1048576) (hcap : L.length ≤ c) (hcm : c ≤ 9223372036854775807) (h : Lies w (some ⟨B, O, none⟩) L) (hT : treeB L = true) (h300 : L.length ≤ 300) (hi1 : ¬ i < -1) (hi2 : ¬ (L.length : Int) ≤ i) (hR : R.length = L.length + 1)
    (HP : Hid (∀ W : World, Below w.heap.size w W → Lies W (some ⟨B, O, none⟩) L → Calls Try.prog 24 #[.slice (some ⟨B, O, none⟩) L.length c, .int .i64 i, .agg #[.int .i64 s.t, .int .i64 s.k, .int .i64 s.e, .int .i64 s.b, .int .i64 s.r, .int .i64 s.d, .int .i64 s.g, .int .i64 s.q, .int .i64 s.f, .bool s.o, .int .i64 s.p]] W fun e w' => ∃ g cap, e = .returned (.slice (some ⟨g, 0, none⟩) (L.length + 1) cap) ∧ W.heap.size ≤ g ∧ g < w'.heap.size ∧ L.length + 1 ≤ cap ∧ cap ≤ 9223372036854775807 ∧ Lies w' (some ⟨g, 0, none⟩) R ∧ Below W.heap.size W w')) :
    Calls Try.prog 7 #[.slice (some ⟨B, O, none⟩) L.length c, .int .i64 i, .agg #[.int .i64 s.t, .int .i64 s.k, .int .i64 s.e, .int .i64 s.b, .int .i64 s.r, .int .i64 s.d, .int .i64 s.g, .int .i64 s.q, .int .i64 s.f, .bool s.o, .int .i64 s.p]] w fun e w' => (treeB R = false ∧ e = .returned (.tuple #[.slice none 0 0, .bool false]) ∧ Below w.heap.size w w') ∨ (treeB R = true ∧ ∃ g cap, e = .returned (.tuple #[.slice (some ⟨g, 0, none⟩) (L.length + 1) cap, .bool true]) ∧ w.heap.size ≤ g ∧ g < w'.heap.size ∧ Lies w' (some ⟨g, 0, none⟩) R ∧ Below w.heap.size w w') := by
  have hB0 : Below w.heap.size w (w.alloc (.cells #[.int .i64 s.t, .int .i64 s.k, .int .i64 s.e, .int .i64 s.b, .int .i64 s.r, .int .i64 s.d, .int .i64 s.g, .int .i64 s.q, .int .i64 s.f, .bool s.o, .int .i64 s.p] 27)) := (Below.refl _ w).alloc (Nat.le_refl _) _
  have h0 := h.below hB0
  have HC : Hid _ := (fun w1 (h1 : Lies w1 (some ⟨B, O, none⟩) L) => hT ▸ treeOkSpec_any (some ⟨B, O, none⟩) L.length c L w1 rfl hl hcap hcm h1)
  have HR : Hid _ := hR
  obtain ⟨M, hM⟩ : ∃ M, L.length + 1 = M := ⟨_, rfl⟩
  have HM : Hid _ := hM
  clear hT hR hM
  go_enter Try.func7, Try.ntmps7
  go_upto_region 3 with ((go_at_call 18; refine (HC.out _ h0).mono ?_; rintro e w1 ⟨rfl, hb1⟩))
  have hS1 : At11 w1 w.heap.size 0 s := (At11.alloc w s 27).of fun j => (bcell hb1).1 _ _ (by simp)
  have hL1 : Lies w1 (some ⟨B, O, none⟩) L := h0.below hb1
  have hB1 : Below w.heap.size w w1 := hB0.trans (hb1.mono hB0.size)
  obtain ⟨d0, d1, d2, d3, d4, d5, d6, d7, d8, d9, d10⟩ := hS1
  simp only [Nat.zero_add] at d0 d1 d2 d3 d4 d5 d6 d7 d8 d9 d10
  clear hb1 h0 hB0
  have HQ : Hid _ := HP.out w1 hB1 hL1
  rw [HM.out] at HQ
  go_upto_region 4 with ((go_at_call 24; refine Calls.mono HQ.out ?_; rintro e w2 ⟨g, cap, rfl, hg, hg2, hc1, hc2, hLR, hb2⟩))
  have hW2 : Below w.heap.size w w2 := hB1.trans (hb2.mono hB1.size)
  have hRM : M = R.length := by rw [HR.out, HM.out]
  have HD : Hid _ := (fun w1 (h1 : Lies w1 (some ⟨g, 0, none⟩) R) => treeOkSpec_wide (some ⟨g, 0, none⟩) M cap R w1 hRM (by have := HM.out; omega) (by omega) hc2 h1)
  have hgw : w.heap.size ≤ g := Nat.le_trans hB1.size hg
  clear HQ HP d0 d1 d2 d3 d4 d5 d6 d7 d8 d9 d10 hRM
  cases hTR : treeB R
  · rw [hTR] at HD
    go_wp2_with ((go_at_call 18; refine (HD.out _ hLR).mono ?_; rintro e w5 ⟨rfl, hb5⟩))
    go_ret2
    exact .inl ⟨by first | rfl | exact hTR, rfl, hW2.trans (hb5.mono hW2.size)⟩
  · rw [hTR] at HD
    go_wp2_with ((go_at_call 18; refine (HD.out _ hLR).mono ?_; rintro e w5 ⟨rfl, hb5⟩))
    go_ret2
    exact .inr ⟨by first | rfl | exact hTR, g, cap, by have e := HM.out; subst e; rfl, hgw, Nat.lt_of_lt_of_le hg2 hb5.size, hLR.below hb5, hW2.trans (hb5.mono hW2.size)⟩

set_option maxRecDepth 100000 in
set_option maxHeartbeats 1000000 in
/-- Over what l3Put answers. -/
theorem treePutSpec_own (B O c : Nat) (i : Int) (L R : List Sl) (s : Sl) (w : World) (hl : L.length ≤ 1048576) (hcap : L.length ≤ c) (hcm : c ≤ 9223372036854775807) (h : Lies w (some ⟨B, O, none⟩) L) (hT : treeB L = true) (h300 : L.length ≤ 300) (hi1 : ¬ i < -1) (hi2 : ¬ (L.length : Int) ≤ i) (hR : R.length = L.length + 1)
    (HP : Hid (∀ W : World, Below w.heap.size w W → Lies W (some ⟨B, O, none⟩) L → Calls Try.prog 24 #[.slice (some ⟨B, O, none⟩) L.length c, .int .i64 i, .agg #[.int .i64 s.t, .int .i64 s.k, .int .i64 s.e, .int .i64 s.b, .int .i64 s.r, .int .i64 s.d, .int .i64 s.g, .int .i64 s.q, .int .i64 s.f, .bool s.o, .int .i64 s.p]] W fun e w' => ∃ g cap, e = .returned (.slice (some ⟨g, 0, none⟩) (L.length + 1) cap) ∧ W.heap.size ≤ g ∧ g < w'.heap.size ∧ L.length + 1 ≤ cap ∧ cap ≤ 9223372036854775807 ∧ Lies w' (some ⟨g, 0, none⟩) R ∧ Below W.heap.size W w' ∧ w'.ownsRow W.heap.size 27 11 (.slice (some ⟨g, 0, none⟩) (L.length + 1) cap) (L.length + 1) (cellsAll R))) :
    Calls Try.prog 7 #[.slice (some ⟨B, O, none⟩) L.length c, .int .i64 i, .agg #[.int .i64 s.t, .int .i64 s.k, .int .i64 s.e, .int .i64 s.b, .int .i64 s.r, .int .i64 s.d, .int .i64 s.g, .int .i64 s.q, .int .i64 s.f, .bool s.o, .int .i64 s.p]] w fun e w' => (treeB R = false ∧ e = .returned (.tuple #[.slice none 0 0, .bool false]) ∧ Below w.heap.size w w') ∨ (treeB R = true ∧ ∃ g cap, e = .returned (.tuple #[.slice (some ⟨g, 0, none⟩) (L.length + 1) cap, .bool true]) ∧ w.heap.size ≤ g ∧ g < w'.heap.size ∧ Lies w' (some ⟨g, 0, none⟩) R ∧ Below w.heap.size w w' ∧ w'.ownsRow w.heap.size 27 11 (.slice (some ⟨g, 0, none⟩) (L.length + 1) cap) (L.length + 1) (cellsAll R)) := by
  have hB0 : Below w.heap.size w (w.alloc (.cells #[.int .i64 s.t, .int .i64 s.k, .int .i64 s.e, .int .i64 s.b, .int .i64 s.r, .int .i64 s.d, .int .i64 s.g, .int .i64 s.q, .int .i64 s.f, .bool s.o, .int .i64 s.p] 27)) := (Below.refl _ w).alloc (Nat.le_refl _) _
  have h0 := h.below hB0
  have HC : Hid _ := (fun w1 (h1 : Lies w1 (some ⟨B, O, none⟩) L) => hT ▸ treeOkSpec_any (some ⟨B, O, none⟩) L.length c L w1 rfl hl hcap hcm h1)
  have HR : Hid _ := hR
  obtain ⟨M, hM⟩ : ∃ M, L.length + 1 = M := ⟨_, rfl⟩
  have HM : Hid _ := hM
  clear hT hR hM
  go_enter Try.func7, Try.ntmps7
  go_upto_region 3 with ((go_at_call 18; refine (HC.out _ h0).mono ?_; rintro e w1 ⟨rfl, hb1⟩))
  have hS1 : At11 w1 w.heap.size 0 s := (At11.alloc w s 27).of fun j => (bcell hb1).1 _ _ (by simp)
  have hL1 : Lies w1 (some ⟨B, O, none⟩) L := h0.below hb1
  have hB1 : Below w.heap.size w w1 := hB0.trans (hb1.mono hB0.size)
  obtain ⟨d0, d1, d2, d3, d4, d5, d6, d7, d8, d9, d10⟩ := hS1
  simp only [Nat.zero_add] at d0 d1 d2 d3 d4 d5 d6 d7 d8 d9 d10
  clear hb1 h0 hB0
  have HQ : Hid _ := HP.out w1 hB1 hL1
  rw [HM.out] at HQ
  go_upto_region 4 with ((go_at_call 24; refine Calls.mono HQ.out ?_; rintro e w2 ⟨g, cap, rfl, hg, hg2, hc1, hc2, hLR, hb2, own2⟩))
  have hW2 : Below w.heap.size w w2 := hB1.trans (hb2.mono hB1.size)
  rw [← HM.out] at own2
  have own3 : Hid _ := own_base own2 hB1.size
  clear own2
  have hRM : M = R.length := by rw [HR.out, HM.out]
  have HD : Hid _ := (fun w1 (h1 : Lies w1 (some ⟨g, 0, none⟩) R) => treeOkSpec_wide (some ⟨g, 0, none⟩) M cap R w1 hRM (by have := HM.out; omega) (by omega) hc2 h1)
  have hgw : w.heap.size ≤ g := Nat.le_trans hB1.size hg
  clear HQ HP d0 d1 d2 d3 d4 d5 d6 d7 d8 d9 d10 hRM
  cases hTR : treeB R
  · rw [hTR] at HD
    go_wp2_with ((go_at_call 18; refine (HD.out _ hLR).mono ?_; rintro e w5 ⟨rfl, hb5⟩))
    go_ret2
    exact .inl ⟨by first | rfl | exact hTR, rfl, hW2.trans (hb5.mono hW2.size)⟩
  · rw [hTR] at HD
    go_wp2_with ((go_at_call 18; refine (HD.out _ hLR).mono ?_; rintro e w5 ⟨rfl, hb5⟩))
    go_ret2
    exact .inr ⟨by first | rfl | exact hTR, g, cap, by have e := HM.out; subst e; rfl, hgw, Nat.lt_of_lt_of_le hg2 hb5.size, hLR.below hb5, hW2.trans (hb5.mono hW2.size), own_same own3.out (hb5.block g hg2)⟩

theorem goB_depth : ∀ (L : List Sl) (was : Int) (pre : List Sl), goB was pre L = true → ∀ s ∈ L, 0 ≤ s.p ∧ s.p ≤ 12
  | [], _, _, _, s, hs => absurd hs (by simp)
  | x :: L, was, pre, h, s, hs => by
    rw [goB, Bool.and_eq_true_iff] at h
    rcases List.mem_cons.1 hs with rfl | hs
    · have h1 := h.1
      simp only [slotB, Bool.and_eq_true_iff, decide_eq_true_eq] at h1
      omega
    · exact goB_depth L _ _ h.2 s hs
theorem treeB_depth {L : List Sl} (h : treeB L = true) {k : Nat} (hk : k < L.length) : 0 ≤ L[k].p ∧ L[k].p ≤ 12 := by
  unfold treeB at h
  exact goB_depth L _ _ (Bool.and_eq_true_iff.1 h).2 _ (List.getElem_mem hk)

end Go.Proofs.Ytalncgmncafhjaa
