/-
  Texts of the proof, put together: PutOne, WtSame.
-/
import Derived.Test.YtalncgmncafhjaaBundleB
import Derived.Test.YtalncgmncafhjaaBundleC
/-
  What TreePut of the program and of the specification answer, told by one plain function. Conditions: the list lies in memory, its numbers are small.
-/
namespace Go.Proofs.Ytalncgmncafhjaa
open Go.ChangeShapes Go.WideShapes Go.ChangeAt Go.RowKit
set_option linter.unusedVariables false

/-- Where a slot is put, and how deep. -/
def putPl (L : List Sl) (i : Int) : Nat := if i = -1 then L.length else i.toNat + 1
def putDp (L : List Sl) (i : Int) : Int := if i = -1 then 0 else depN L i.toNat + 1
def putR (L : List Sl) (i : Int) (s : Sl) : List Sl := putJ L (putPl L i) (s.at (putDp L i))
def okP (L : List Sl) (i : Int) (s : Sl) : Bool := putB L i && treeB (putR L i s)

theorem putB_iff (L : List Sl) (i : Int) : putB L i = true ↔ treeB L = true ∧ (i = -1 ∨ (0 ≤ i ∧ i < L.length)) := by
  simp only [putB, placeB, Bool.and_eq_true, Bool.or_eq_true, decide_eq_true_eq]
theorem tree_300 {L : List Sl} (h : treeB L = true) : L.length ≤ 300 := by
  simp only [treeB, Bool.and_eq_true, decide_eq_true_eq] at h; exact h.1
theorem putPl_le {L : List Sl} {i : Int} (h : i = -1 ∨ (0 ≤ i ∧ i < L.length)) : putPl L i ≤ L.length := by
  unfold putPl; split <;> omega
theorem putR_len {L : List Sl} {i : Int} {s : Sl} (h : i = -1 ∨ (0 ≤ i ∧ i < L.length)) : (putR L i s).length = L.length + 1 := putJ_len L _ _ (putPl_le h)
theorem putDp_bd {L : List Sl} {i : Int} (hT : treeB L = true) (h : i = -1 ∨ (0 ≤ i ∧ i < L.length)) : 0 ≤ putDp L i ∧ putDp L i ≤ 13 := by
  unfold putDp; split
  · omega
  · have := tree_slot hT i.toNat (by omega); omega
theorem putDp_next {L : List Sl} {i : Int} {s : Sl} (hT : treeB L = true) (h : i = -1 ∨ (0 ≤ i ∧ i < L.length)) : putPl L i < L.length → depN L (putPl L i) ≤ (s.at (putDp L i)).p := by
  intro hl
  show _ ≤ putDp L i
  by_cases hi : i = -1
  · rw [putPl, if_pos hi] at hl; omega
  · rw [putPl, if_neg hi] at hl ⊢
    rw [putDp, if_neg hi]
    exact (tree_slot hT (i.toNat + 1) hl).2.2.1 i.toNat rfl
theorem putR_last (L : List Sl) (s : Sl) : putR L (-1) s = L ++ [s.at 0] := by
  simp [putR, putPl, putDp, putJ]
theorem putR_at (L : List Sl) (k : Nat) (s : Sl) (hk : k < L.length) : putR L (k : Int) s = putAt L k s (L[k].p + 1) := by
  have h1 : ¬ ((k : Int) = -1) := by omega
  rw [putR, putPl, putDp, if_neg h1, if_neg h1, putAt, putJ, Int.toNat_natCast, depN_at hk]
theorem put_upJ {L : List Sl} {i : Int} {s : Sl} (hT : treeB L = true) (h : i = -1 ∨ (0 ≤ i ∧ i < L.length)) : headI (ups (depN (putR L i s)) (depN (putR L i s) (putPl L i)) (putPl L i)) = i := by
  have hJ := putPl_le h
  rw [putR, putJ_dat hJ]
  show headI (ups _ (putDp L i) (putPl L i)) = i
  rcases ups_first (depN (putJ L (putPl L i) (s.at (putDp L i)))) (putDp L i) (putPl L i) with ⟨e, hj⟩ | ⟨u, hu, hf, hj, e⟩
  · rw [e]
    by_cases hi : i = -1
    · rw [hi]; rfl
    · exfalso
      refine hj i.toNat ?_ ?_
      · rw [putPl, if_neg hi]; omega
      · rw [putJ_dlt hJ (by rw [putPl, if_neg hi]; omega), putDp, if_neg hi]; omega
  · rw [e]
    rw [putJ_dlt hJ hu] at hf
    by_cases hi : i = -1
    · exfalso
      rw [putDp, if_pos hi] at hf
      rw [putPl, if_pos hi] at hu
      have := (tree_slot hT u hu).1
      omega
    · show (u : Int) = i
      have hu' := hu
      rw [putPl, if_neg hi] at hu'
      by_cases hui : u = i.toNat
      · omega
      · exfalso
        refine hj i.toNat (by omega) (by rw [putPl, if_neg hi]; omega) ?_
        rw [putJ_dlt hJ (by rw [putPl, if_neg hi]; omega), putDp, if_neg hi]; omega

theorem implPut_no (g cap : Nat) (i : Int) (L : List Sl) (s : Sl) (w : World) (hl : L.length ≤ 1048576) (hcap : L.length ≤ cap) (hcm : cap ≤ 9223372036854775807) (h : Lies w (some ⟨g, 0, none⟩) L) (hg : g < w.heap.size) (hta : ∀ s ∈ L, s.Tame) (hs : s.Tame) (hok : okP L i s = false) :
    Calls Try.prog 6 #[.slice (some ⟨g, 0, none⟩) L.length cap, .int .i64 i, .agg #[.int .i64 s.t, .int .i64 s.k, .int .i64 s.e, .int .i64 s.b, .int .i64 s.r, .int .i64 s.d, .int .i64 s.g, .int .i64 s.q, .int .i64 s.f, .bool s.o, .int .i64 s.p]] w fun e w' => e = .returned (.tuple #[.slice none 0 0, .bool false]) ∧ Below w.heap.size w w' := by
  have hfit : ∀ s ∈ L, s.Fit := fun s hs => (hta s hs).fit
  cases hp : putB L i
  · exact treePutImpl_none _ cap i L s w hl hcap hcm h hfit hp
  · obtain ⟨hT, hi⟩ := (putB_iff L i).1 hp
    have hR : treeB (putR L i s) = false := by simpa [okP, hp] using hok
    have h300 := tree_300 hT
    by_cases hi1 : i = -1
    · subst hi1
      rw [putR_last] at hR
      have e : putJ L L.length (s.at 0) = L ++ [s.at 0] := by simp [putJ]
      refine (treePutImpl_last g 0 cap L.length (-1) L s w hl hcap hcm h hg hfit ⟨hs.fit.t, hs.fit.r, by simp [Sl.at]⟩ hT h300 rfl rfl).mono ?_
      rintro e' w' (⟨_, he, hb⟩ | ⟨h1, _⟩)
      · exact ⟨he, hb⟩
      · rw [e, hR] at h1; cases h1
    · obtain ⟨k, rfl⟩ : ∃ k : Nat, i = k := ⟨i.toNat, by omega⟩
      have hk : k < L.length := by omega
      have hd := treeB_depth hT hk
      rw [putR_at L k s hk] at hR
      refine (treePutImpl_at g 0 cap (k + 1) k (L[k].p + 1) L s w hl hcap hcm h hfit ⟨hs.fit.t, hs.fit.r, by simp [Sl.at]; omega⟩ hT h300 hk rfl L[k].p rfl rfl hd.1 (by omega)).mono ?_
      rintro e' w' (⟨_, he, hb⟩ | ⟨h1, _⟩)
      · exact ⟨he, hb⟩
      · have h2 : treeB (putAt L k s (L[k].p + 1)) = true := h1
        rw [hR] at h2; cases h2

theorem implPut_yes (g cap : Nat) (i : Int) (L R : List Sl) (s : Sl) (w : World) (hl : L.length ≤ 1048576) (hcap : L.length ≤ cap) (hcm : cap ≤ 9223372036854775807) (h : Lies w (some ⟨g, 0, none⟩) L) (hg : g < w.heap.size) (hta : ∀ s ∈ L, s.Tame) (hs : s.Tame) (hok : okP L i s = true) (hR : R = putR L i s) :
    Calls Try.prog 6 #[.slice (some ⟨g, 0, none⟩) L.length cap, .int .i64 i, .agg #[.int .i64 s.t, .int .i64 s.k, .int .i64 s.e, .int .i64 s.b, .int .i64 s.r, .int .i64 s.d, .int .i64 s.g, .int .i64 s.q, .int .i64 s.f, .bool s.o, .int .i64 s.p]] w fun e w' => ∃ G, e = .returned (.tuple #[.slice (some ⟨G, 0, none⟩) R.length R.length, .bool true]) ∧ w.heap.size ≤ G ∧ G < w'.heap.size ∧ Lies w' (some ⟨G, 0, none⟩) R ∧ Below w.heap.size w w' := by
  subst hR
  have hfit : ∀ s ∈ L, s.Fit := fun s hs => (hta s hs).fit
  simp only [okP, Bool.and_eq_true] at hok
  obtain ⟨hp, hR⟩ := hok
  obtain ⟨hT, hi⟩ := (putB_iff L i).1 hp
  have h300 := tree_300 hT
  have hlen := putR_len (s := s) hi
  rw [hlen]
  by_cases hi1 : i = -1
  · subst hi1
    have e : putJ L L.length (s.at 0) = putR L (-1) s := by simp [putJ, putR_last]
    refine (treePutImpl_last g 0 cap L.length (-1) L s w hl hcap hcm h hg hfit ⟨hs.fit.t, hs.fit.r, by simp [Sl.at]⟩ hT h300 rfl rfl).mono ?_
    rw [e]
    rintro e' w' (⟨h1, _⟩ | ⟨_, G, he, h2, h3, h4, hb⟩)
    · rw [hR] at h1; cases h1
    · exact ⟨G, he, h2, h3.lt, h4, hb⟩
  · obtain ⟨k, rfl⟩ : ∃ k : Nat, i = k := ⟨i.toNat, by omega⟩
    have hk : k < L.length := by omega
    have hd := treeB_depth hT hk
    have e : putJ L (k + 1) (s.at (L[k].p + 1)) = putR L (k : Int) s := by rw [putR_at L k s hk]; rfl
    refine (treePutImpl_at g 0 cap (k + 1) k (L[k].p + 1) L s w hl hcap hcm h hfit ⟨hs.fit.t, hs.fit.r, by simp [Sl.at]; omega⟩ hT h300 hk rfl L[k].p rfl rfl hd.1 (by omega)).mono ?_
    rw [e]
    rintro e' w' (⟨h1, _⟩ | ⟨_, G, he, h2, h3, h4, hb⟩)
    · rw [hR] at h1; cases h1
    · exact ⟨G, he, h2, h3.lt, h4, hb⟩

theorem specPut_no (g cap : Nat) (i : Int) (L : List Sl) (s : Sl) (w : World) (hl : L.length ≤ 1048576) (hcap : L.length ≤ cap) (hcm : cap ≤ 9223372036854775807) (h : Lies w (some ⟨g, 0, none⟩) L) (hg : g < w.heap.size) (hok : okP L i s = false) :
    Calls Try.prog 7 #[.slice (some ⟨g, 0, none⟩) L.length cap, .int .i64 i, .agg #[.int .i64 s.t, .int .i64 s.k, .int .i64 s.e, .int .i64 s.b, .int .i64 s.r, .int .i64 s.d, .int .i64 s.g, .int .i64 s.q, .int .i64 s.f, .bool s.o, .int .i64 s.p]] w fun e w' => e = .returned (.tuple #[.slice none 0 0, .bool false]) ∧ Below w.heap.size w w' := by
  cases hp : putB L i
  · exact treePutSpec_none _ cap i L s w hl hcap hcm h hp
  · obtain ⟨hT, hi⟩ := (putB_iff L i).1 hp
    have hR : treeB (putR L i s) = false := by simpa [okP, hp] using hok
    have h300 := tree_300 hT
    by_cases hi1 : i = -1
    · subst hi1
      rw [putR_last] at hR
      refine (treePutSpec_over g 0 cap (-1) L (L ++ [s.at 0]) s w hl hcap hcm h hT h300 (by omega) (by omega) (by simp)
        (fun W hW h1 => putSpec_last g 0 cap (-1) L s W hl h1 (Nat.lt_of_lt_of_le hg hW.size) (by omega))).mono ?_
      rintro e' w' (⟨_, he, hb⟩ | ⟨h1, _⟩)
      · exact ⟨he, hb⟩
      · rw [hR] at h1; cases h1
    · obtain ⟨k, rfl⟩ : ∃ k : Nat, i = k := ⟨i.toNat, by omega⟩
      have hk : k < L.length := by omega
      have hd := treeB_depth hT hk
      rw [putR_at L k s hk] at hR
      refine (treePutSpec_over g 0 cap (k : Int) L (putAt L k s (L[k].p + 1)) s w hl hcap hcm h hT h300 (by omega) (by omega) (putAt_len hk)
        (fun W hW h1 => putSpec_at g 0 cap k L s L[k].p W hl hcap hcm h1 hk rfl hd.1 (by omega))).mono ?_
      rintro e' w' (⟨_, he, hb⟩ | ⟨h1, _⟩)
      · exact ⟨he, hb⟩
      · rw [hR] at h1; cases h1

theorem specPut_yes (g cap : Nat) (i : Int) (L R : List Sl) (s : Sl) (w : World) (hl : L.length ≤ 1048576) (hcap : L.length ≤ cap) (hcm : cap ≤ 9223372036854775807) (h : Lies w (some ⟨g, 0, none⟩) L) (hg : g < w.heap.size) (hok : okP L i s = true) (hR : R = putR L i s) :
    Calls Try.prog 7 #[.slice (some ⟨g, 0, none⟩) L.length cap, .int .i64 i, .agg #[.int .i64 s.t, .int .i64 s.k, .int .i64 s.e, .int .i64 s.b, .int .i64 s.r, .int .i64 s.d, .int .i64 s.g, .int .i64 s.q, .int .i64 s.f, .bool s.o, .int .i64 s.p]] w fun e w' => ∃ G C, e = .returned (.tuple #[.slice (some ⟨G, 0, none⟩) R.length C, .bool true]) ∧ G < w'.heap.size ∧ Lies w' (some ⟨G, 0, none⟩) R ∧ Below w.heap.size w w' := by
  subst hR
  simp only [okP, Bool.and_eq_true] at hok
  obtain ⟨hp, hR⟩ := hok
  obtain ⟨hT, hi⟩ := (putB_iff L i).1 hp
  have h300 := tree_300 hT
  have hlen := putR_len (s := s) hi
  rw [hlen]
  by_cases hi1 : i = -1
  · subst hi1
    rw [putR_last] at hR ⊢
    refine (treePutSpec_over g 0 cap (-1) L (L ++ [s.at 0]) s w hl hcap hcm h hT h300 (by omega) (by omega) (by simp)
      (fun W hW h1 => putSpec_last g 0 cap (-1) L s W hl h1 (Nat.lt_of_lt_of_le hg hW.size) (by omega))).mono ?_
    rintro e' w' (⟨h1, _⟩ | ⟨_, G, C, he, h2, h3, h4, hb⟩)
    · rw [hR] at h1; cases h1
    · exact ⟨G, C, he, h3, h4, hb⟩
  · obtain ⟨k, rfl⟩ : ∃ k : Nat, i = k := ⟨i.toNat, by omega⟩
    have hk : k < L.length := by omega
    have hd := treeB_depth hT hk
    rw [putR_at L k s hk] at hR ⊢
    refine (treePutSpec_over g 0 cap (k : Int) L (putAt L k s (L[k].p + 1)) s w hl hcap hcm h hT h300 (by omega) (by omega) (putAt_len hk)
      (fun W hW h1 => putSpec_at g 0 cap k L s L[k].p W hl hcap hcm h1 hk rfl hd.1 (by omega))).mono ?_
    rintro e' w' (⟨h1, _⟩ | ⟨_, G, C, he, h2, h3, h4, hb⟩)
    · rw [hR] at h1; cases h1
    · exact ⟨G, C, he, h3, h4, hb⟩

end Go.Proofs.Ytalncgmncafhjaa
/-
  The law's own comparing of two lists of slots: two that are the same are told so. Condition: both lie in memory.
-/
namespace Go.Proofs.Ytalncgmncafhjaa
open Go.ChangeShapes Go.WideShapes Go.ChangeAt Go.RowKit
set_option linter.unusedVariables false

def wtInv (w : World) (L : List Sl) (i : Value) (w' : World) : Prop :=
  ∃ k : Nat, k ≤ L.length ∧ i = .int .i64 k ∧ Below w.heap.size w w'

set_option maxRecDepth 100000 in
set_option maxHeartbeats 2000000 in
theorem wtSame_same (P Q : Option Addr) (c d : Nat) (L : List Sl) (w : World) (hl : L.length ≤ 1048576) (hP : Lies w P L) (hQ : Lies w Q L) :
    Calls Try.prog 8 #[.slice P L.length c, .slice Q L.length d] w fun e w' => e = .returned (.bool true) ∧ Below w.heap.size w w' := by
  go_enter Try.func8, Try.ntmps8
  go_wp2
  go_loopw [5] (fun i w' => wtInv w L i w') (fun i w' => L.length - (intOf i).toNat)
  case atStart => exact ⟨0, Nat.zero_le _, rfl, Below.refl _ _⟩
  case round =>
    obtain ⟨k, hk, rfl, hB⟩ := hrel
    have hP1 := hP.below hB
    have hQ1 := hQ.below hB
    by_cases hlt : k < L.length
    · obtain ⟨B, O, rfl⟩ := hP1.some hlt
      obtain ⟨B2, O2, rfl⟩ := hQ1.some hlt
      have cc := hP1.cells B O rfl k hlt
      have dd := hQ1.cells B2 O2 rfl k hlt
      have hk1 : (k : Int) < (L.length : Int) := by omega
      generalize hx : L[k] = x at cc dd
      clear hx
      obtain ⟨c0, c1, c2, c3, c4, c5, c6, c7, c8, c9, c10⟩ := cc
      obtain ⟨d0, d1, d2, d3, d4, d5, d6, d7, d8, d9, d10⟩ := dd
      have hne := neqS_run x x
      simp only [decide_true, Bool.not_true] at hne
      go_wp2
      go_quiet (fail)
      all_goals go_wp2
      all_goals go_roundw
      case rel => exact ⟨k + 1, by omega, by go_num, by first | exact belowG_drewN hB _ | exact hB.drew | exact hB⟩
      case measure => simp [intOf]; omega
    · have hk1 : ¬ (k : Int) < (L.length : Int) := by omega
      go_wp2
      go_ret
      exact ⟨rfl, hB⟩

end Go.Proofs.Ytalncgmncafhjaa
