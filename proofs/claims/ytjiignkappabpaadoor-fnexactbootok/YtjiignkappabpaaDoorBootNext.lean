/-
  How the specification lays the parts of a plan.
-/
import Derived.Test.YtjiignkappabpaaDoorBootPlain
import Derived.Deep.CutRange
import Derived.Deep.DeepCutAuto
import Derived.WalkSmall
namespace Go.Proofs.YtjiignkappabpaaDoor
open Go.ChangeShapes Go.WideShapes Go.ChangeAt Go.RowKit
set_option linter.unusedVariables false

/-- A part of memory with its label. -/
structure QA where
  ad : Int
  sz : Int
  lb : Int
def fA : Form QA := ⟨3, fun e => [.int .i64 e.ad, .int .i64 e.sz, .int .i64 e.lb], fun _ => rfl, by decide⟩
theorem atA {W : World} {B O : Nat} {L : List QA} (h : LiesG fA W (some ⟨B, O, none⟩) L) {k : Nat} (hk : k < L.length) : W.cell? ⟨B, O + k * 3, none⟩ = some (.int .i64 L[k].ad) ∧ W.cell? ⟨B, O + k * 3 + 1, none⟩ = some (.int .i64 L[k].sz) ∧ W.cell? ⟨B, O + k * 3 + 2, none⟩ = some (.int .i64 L[k].lb) :=
  ⟨by have := h.at hk 0 _ rfl; simpa [fA] using this, by have := h.at hk 1 _ rfl; simpa [fA] using this, by have := h.at hk 2 _ rfl; simpa [fA] using this⟩
theorem infoA : (Tryd.prog.info? 47).map (fun i => (i.zero, i.size, i.bytes)) = some (some (.agg #[.int .i64 0, .int .i64 0, .int .i64 0]), 3, 24) := by kernel_rfl
/-- Where the last of some parts ends. -/
def lastE (L : List QA) : Int := match L.getLast? with
  | none => 128
  | some a => a.ad + a.sz
/-- Parts are within bounds. -/
def Tight (L : List QA) : Prop := ∀ x ∈ L, 0 ≤ x.ad ∧ x.ad ≤ 8192 ∧ 0 ≤ x.sz ∧ x.sz ≤ 4096
theorem lastE_nil : lastE [] = 128 := rfl
theorem lastE_snoc (L : List QA) (x : QA) : lastE (L ++ [x]) = x.ad + x.sz := by simp [lastE]
theorem lastE_at {L : List QA} (h : 0 < L.length) : lastE L = L[L.length - 1].ad + L[L.length - 1].sz := by
  unfold lastE
  rw [List.getLast?_eq_getElem?, List.getElem?_eq_getElem (by omega)]
theorem lastE_bound {L : List QA} (h : Tight L) : 0 ≤ lastE L ∧ lastE L ≤ 12288 := by
  by_cases h0 : 0 < L.length
  · rw [lastE_at h0]
    have := h L[L.length - 1] (List.getElem_mem _)
    omega
  · have : L = [] := List.eq_nil_of_length_eq_zero (by omega)
    subst this
    decide

set_option maxRecDepth 100000 in
set_option maxHeartbeats 4000000 in
theorem next_any (v : Value) (L : List QA) (s lb : Int) (w : World) (base : Nat) (own : OwnG fA 47 w base v L) (hb : base ≤ w.heap.size) (hl : L.length ≤ 1000) (hT : Tight L) (hs0 : 0 ≤ s) (hs1 : s ≤ 4096) :
    Calls Tryd.prog 24 #[v, .int .i64 s, .int .i64 lb] w fun e w' => ∃ v', e = .returned v' ∧ OwnG fA 47 w' base v' (L ++ [⟨upI (lastE L) s, s, lb⟩]) ∧ Below base w w' ∧ base ≤ w'.heap.size := by
  obtain ⟨i0, hi0, hzz⟩ := Option.map_eq_some_iff.1 infoA
  simp only [Prod.mk.injEq] at hzz
  obtain ⟨hy1, hs0', hy0⟩ := hzz
  have hlb := lastE_bound hT
  have HU : Hid _ := fun W => upSpec_any (lastE L) s W
  have HX : Hid (upI (lastE L) s = upI (lastE L) s) := rfl
  generalize hu : upI (lastE L) s = u at *
  clear HX hu
  obtain ⟨P, cap, rfl, hlies, hc1, hc2, hPb, hPn, hPo⟩ := own.form
  by_cases h0 : 0 < L.length
  · obtain ⟨B, O, hP⟩ := hlies.has h0
    subst hP
    have hO := (hPb B O rfl).2.2.1
    subst hO
    have cc := atA hlies (k := L.length - 1) (by omega)
    have hle := lastE_at h0
    rw [hle] at HU
    have hbd := hT L[L.length - 1] (List.getElem_mem _)
    generalize L[L.length - 1] = x at cc hle HU hbd
    clear hle
    obtain ⟨c0, c1, c2⟩ := cc
    have ownA := own.below ((Below.refl _ w).alloc (Nat.le_refl _) (.cells #[.int .i64 x.ad, .int .i64 x.sz, .int .i64 x.lb] 47))
    obtain ⟨n, hn⟩ : ∃ n, L.length = n + 1 := ⟨L.length - 1, by omega⟩
    have HLn : Hid _ := hn
    have e1 : L.length - 1 = n := by omega
    rw [e1] at c0 c1 c2
    simp only [Nat.zero_add] at c0 c1 c2
    rw [hn] at hl ⊢
    clear hn e1 h0 hlies own
    have i1 : ((n : Int) + 1) > 0 := by omega
    have hnw : IntKind.i64.wrap ((n : Int) + 1 - 1) = (n : Int) := by rw [IntKind.wrap_i64]; omega
    go_enter Tryd.func24, Tryd.ntmps24
    go_upto_region 5 with fail
    have bA : Below base w (w.alloc (.cells #[.int .i64 x.ad, .int .i64 x.sz, .int .i64 x.lb] 47)) := (Below.refl _ _).alloc hb _
    have hbA : base ≤ (w.alloc (.cells #[.int .i64 x.ad, .int .i64 x.sz, .int .i64 x.lb] 47)).heap.size := by simp; omega
    generalize w.alloc (.cells #[.int .i64 x.ad, .int .i64 x.sz, .int .i64 x.lb] 47) = wA at ownA bA hbA ⊢
    have hown : (wA.alloc (.cells #[.int .i64 u, .int .i64 s, .int .i64 lb] 47)).ownsRow base 47 3 (.slice (some ⟨B, 0, none⟩) (n + 1) cap) (n + 1) (cellsG fA L) := by
      have := ownA.below ((Below.refl _ wA).alloc (Nat.le_refl _) (.cells #[.int .i64 u, .int .i64 s, .int .i64 lb] 47))
      unfold OwnG at this
      rw [HLn.out] at this
      exact this
    go_wp2_with (first
      | (go_at_call 39; refine Calls.mono (HU.out _) ?_; rintro e w1 ⟨rfl, hw⟩; have hw := hw.symm; subst hw)
      | (at_builtin; go_loud (refine wpList_append_own _ rfl _ _ 44 rfl base 47 i0 (.agg #[.int .i64 0, .int .i64 0, .int .i64 0]) 3 24 Tryd.underlying44 hi0 hy1 hs0' hy0 rfl (by decide) (.slice (some ⟨B, 0, none⟩) (n + 1) cap) (n + 1) (cellsG fA L) rfl hown ⟨wA.heap.size, 0, none⟩ 1 1 (fA.cel ⟨u, s, lb⟩) rfl rfl (newsG (F := fA) ⟨u, s, lb⟩ 47) (by simp [fA, Value.oneCell']) (by unfold maxLen; omega) (by omega) (by simp; omega) ?_; intro v2 w5 own2 gr2 _; obtain ⟨g3, cap3, rfl⟩ := own_some own2 (by omega))))
    go_ret
    refine ⟨_, rfl, OwnG.snoc (F := fA) ⟨u, s, lb⟩ (by rw [HLn.out]) own2, ?_, ?_⟩
    · exact Below.trans (bA.alloc hbA _) ((Below.refl _ _).grown gr2 (by simp; omega) (fun k e => (World.ownsRow.lt hown k e).1))
    · have := gr2.size; simp at this; omega
  · have hnil : L = [] := List.eq_nil_of_length_eq_zero (by omega)
    subst hnil
    rw [lastE_nil] at HU
    have hown : (w.alloc (.cells #[.int .i64 u, .int .i64 s, .int .i64 lb] 47)).ownsRow base 47 3 (.slice P 0 cap) 0 (cellsG fA []) := own.below ((Below.refl _ _).alloc (Nat.le_refl _) _)
    clear own hlies h0
    show Calls _ _ #[.slice P 0 cap, _, _] _ _
    go_enter Tryd.func24, Tryd.ntmps24
    go_wp2_with (first
      | (go_at_call 39; refine Calls.mono (HU.out _) ?_; rintro e w1 ⟨rfl, hw⟩; have hw := hw.symm; subst hw)
      | (at_builtin; go_loud (refine wpList_append_own _ rfl _ _ 44 rfl base 47 i0 (.agg #[.int .i64 0, .int .i64 0, .int .i64 0]) 3 24 Tryd.underlying44 hi0 hy1 hs0' hy0 rfl (by decide) (.slice P 0 cap) 0 (cellsG fA []) rfl hown ⟨w.heap.size, 0, none⟩ 1 1 (fA.cel ⟨u, s, lb⟩) rfl rfl (newsG (F := fA) ⟨u, s, lb⟩ 47) (by simp [fA, Value.oneCell']) (by unfold maxLen; omega) (by omega) (by simp; omega) ?_; intro v2 w5 own2 gr2 _; obtain ⟨g3, cap3, rfl⟩ := own_some own2 (by omega))))
    go_ret
    refine ⟨_, rfl, OwnG.snoc (F := fA) ⟨u, s, lb⟩ rfl own2, ?_, ?_⟩
    · exact Below.trans ((Below.refl _ _).alloc hb _) ((Below.refl _ _).grown gr2 (by simp; omega) (fun k e => (World.ownsRow.lt hown k e).1))
    · have := gr2.size; simp at this; omega

end Go.Proofs.YtjiignkappabpaaDoor
