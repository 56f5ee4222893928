/-
  What TreeLeaf of the program answers.
-/
import Derived.Test.YtalncgmncafhjaaBundleA
namespace Go.Proofs.Ytalncgmncafhjaa
open Go.RowKit Go.Shelf
set_option linter.unusedVariables false

attribute [local go_sem] Oper.semAt_some

set_option maxRecDepth 100000 in
set_option maxHeartbeats 2000000 in
theorem treeLeafImpl_none (P : Option Addr) (c : Nat) (i : Int) (L : List Sl) (w : World) (hl : L.length ≤ 1048576) (hcap : L.length ≤ c) (hcm : c ≤ 9223372036854775807) (h : Lies w P L) (hfit : ∀ s ∈ L, s.Fit) (ht : (treeB L && placeB L.length i) = false) :
    Calls Try.prog 14 #[.slice P L.length c, .int .i64 i] w fun e w' => e = .returned (.int .i64 (-1)) ∧ Below w.heap.size w w' := by
  refine (callsIn_wide (n := 5)).1 ?_
  refine callsIn_of_wp_marks Try.func14 rfl trivial ?_ rfl
  simp only [Try.ntmps14, List.size_toArray, List.length_cons, List.length_nil, Nat.reduceAdd, Nat.reduceSub, Array.replicate_succ, Array.replicate_zero, List.push_toArray, List.append_toArray, List.nil_append, List.cons_append]
  gi_wp2_with (refine ⟨trivial, ?_⟩; gi_at_call 27; refine (callsIn_wide.2 (linkAt_none _ _ _ L _ hl hcap hcm h hfit ht)).mono ?_; rintro e w1 ⟨rfl, hb1⟩)
  exact ⟨_, results_tmp rfl _ _ _, rfl, hb1⟩

set_option maxRecDepth 100000 in
set_option maxHeartbeats 2000000 in
theorem leafM_some (N i : Nat) (L : List Sl) (w1 : World) (hi : i < L.length) (hK : Links w1 N L L.length) (k : Nat) (hk : IsLeaf L i k) :
    CallsIn Fence.wide 5 Try.prog 33 #[.pointer (some ⟨N, i * 4, none⟩)] w1 fun e w' => e = .returned (.pointer (some ⟨N, (i + k) * 4, none⟩)) ∧ Below w1.heap.size w1 w' := by
  refine callsIn_of_wp_marks Try.func33 rfl trivial ?_ rfl
  simp only [Try.ntmps33, List.size_toArray, List.length_cons, List.length_nil, Nat.reduceAdd, Nat.reduceSub, Array.replicate_succ, Array.replicate_zero, List.push_toArray, List.append_toArray, List.nil_append, List.cons_append]
  gi_wp2_with ((refine ⟨trivial, ?_⟩; gi_at_call 28; refine (below_in _ _ _).mono ?_; rintro e w2 ⟨rfl, rfl⟩))
  have hNlt := hK.lt
  have hB0 : Below w1.heap.size w1 ((w1.alloc (.cells #[.pointer (some ⟨N, i * 4, none⟩)] 49)).alloc (.cells #[.pointer (some ⟨N, i * 4, none⟩)] 49)) := ((Below.refl _ w1).alloc (Nat.le_refl _) _).alloc (by simp) _
  have c0 := cell_new w1 (.pointer (some ⟨N, i * 4, none⟩)) 49
  have c1 := cell_new (w1.alloc (.cells #[.pointer (some ⟨N, i * 4, none⟩)] 49)) (.pointer (some ⟨N, i * 4, none⟩)) 49
  rw [World.size_alloc] at c1
  have hb2 : Below (w1.heap.size + 1) (w1.alloc (.cells #[.pointer (some ⟨N, i * 4, none⟩)] 49)) ((w1.alloc (.cells #[.pointer (some ⟨N, i * 4, none⟩)] 49)).alloc (.cells #[.pointer (some ⟨N, i * 4, none⟩)] 49)) := (Below.refl _ _).alloc (by simp) _
  have c0' := (hb2.cell (p := ⟨w1.heap.size, 0, none⟩) (Nat.lt_succ_self _)).trans c0.1
  have f0' := (hb2.frozen (p := ⟨w1.heap.size, 0, none⟩) (Nat.lt_succ_self _)).trans c0.2
  refine wpIn_rangeFunc_ownF rfl (by omega) (gf := 44) (lb := #[.pointer (some ⟨w1.heap.size + 1, 0, none⟩)]) rfl trivial (enters_of Try.func44 (by kernel_rfl) rfl)
    (below_stops 4 (by omega) (w1.heap.size + 1) N i L hi _ (by simp) (by simp; omega) c1.1 (hK.linked.keep (keep2_below (Bn := N) hB0 hNlt hNlt)))
    (fun a b => Keep2.trans a b) (keep2_put (n₀ := w1.heap.size + 1 + 1) (by simp) (by omega) (by omega)) (Below.refl _ _) (fun _ => rfl)
    (fun pre W => ((climbs (depN L) i (pre.map Fin.val) ∧ lastN i (pre.map Fin.val) < L.length) ∧ W.cell? ⟨w1.heap.size, 0, none⟩ = some (.pointer (some ⟨N, lastN i (pre.map Fin.val) * 4, none⟩)) ∧ W.frozen? ⟨w1.heap.size, 0, none⟩ = false) ∧ Below w1.heap.size w1 W)
    (fun c pre W => (c = .exit 0 ∧ (∃ (ps : List (Fin L.length)) (x : Fin L.length), pre = ps ++ [x] ∧ climbs (depN L) i (ps.map Fin.val) ∧ ¬ depN L (lastN i (ps.map Fin.val)) < depN L x.val ∧ W.cell? ⟨w1.heap.size, 0, none⟩ = some (.pointer (some ⟨N, lastN i (ps.map Fin.val) * 4, none⟩)))) ∧ Below w1.heap.size w1 W)
    (OwnFrom.and (Own.from (fun s A B row hs hg hr => ⟨hs.1, cell_kept hs.2.1 hg hr, (frozen_kept hs.2.1 hg hr).trans hs.2.2⟩) _) (ownFrom_below (Nat.le_refl _) (by simp; omega)))
    (fun c => OwnFrom.and (Own.from (fun s A B row hs hg hr => ⟨hs.1, by obtain ⟨ps, x, e1, e2, e3, e4⟩ := hs.2; exact ⟨ps, x, e1, e2, e3, cell_kept e4 hg hr⟩⟩) _) (ownFrom_below (Nat.le_refl _) (by simp; omega)))
    ⟨⟨⟨trivial, hi⟩, c0', f0'⟩, hB0⟩
    (fun x => { tmps := #[.pointer (some ⟨N, i * 4, none⟩), undef, .pointer none, .pointer (some ⟨w1.heap.size, 0, none⟩), .pointer (some ⟨N, x.val * 4, none⟩), .pointer (some ⟨N, i * 4, none⟩), .pointer (some ⟨N, i * 4, none⟩), .func (.func 44) #[] #[.pointer (some ⟨w1.heap.size + 1, 0, none⟩)], .pointer (some ⟨N, x.val * 4, none⟩), undef, undef, undef, undef, undef, undef, undef, undef, undef, undef, undef], defers := [] }) ?assign ?body ?done ?stop
  case assign =>
    intro l x W K hK
    gi_wp2
    exact hK
  case body =>
    rintro l pre x W ⟨⟨⟨hcl, hla⟩, hc, hf⟩, hB⟩ _
    have hLk := hK.linked.keep (keep2_below (Bn := N) hB hNlt hNlt)
    have hdx := hLk.depth x.val x.isLt
    have hdl := hLk.depth _ hla
    rw [← depN_at x.isLt] at hdx
    rw [← depN_at hla] at hdl
    obtain ⟨p, hp⟩ : ∃ p, lastN i (pre.map Fin.val) = p := ⟨_, rfl⟩
    rw [hp] at hc hdl hla
    have HP : Hid _ := hp
    clear hp
    have hm : Try.prog.follows .mixedOrders = true := by kernel_rfl
    by_cases hlt : depN L p < depN L x.val
    · have g : decide (depN L x.val ≤ depN L p) = false := by simp; omega
      have HA : KeepsOthers W (W.setCell ⟨w1.heap.size, 0, none⟩ (.pointer (some ⟨N, x.val * 4, none⟩))).drew ∧ Keep2 N (w1.heap.size + 1) W (W.setCell ⟨w1.heap.size, 0, none⟩ (.pointer (some ⟨N, x.val * 4, none⟩))).drew ∧
          (((climbs (depN L) i ((pre ++ [x]).map Fin.val) ∧ lastN i ((pre ++ [x]).map Fin.val) < L.length) ∧ (W.setCell ⟨w1.heap.size, 0, none⟩ (.pointer (some ⟨N, x.val * 4, none⟩))).drew.cell? ⟨w1.heap.size, 0, none⟩ = some (.pointer (some ⟨N, lastN i ((pre ++ [x]).map Fin.val) * 4, none⟩)) ∧ (W.setCell ⟨w1.heap.size, 0, none⟩ (.pointer (some ⟨N, x.val * 4, none⟩))).drew.frozen? ⟨w1.heap.size, 0, none⟩ = false) ∧ Below w1.heap.size w1 (W.setCell ⟨w1.heap.size, 0, none⟩ (.pointer (some ⟨N, x.val * 4, none⟩))).drew) := by
        rw [List.map_append, List.map_cons, List.map_nil, lastN_snoc, climbs_snoc, HP.out]
        refine ⟨(KeepsOthers.setCell _ _ _).trans (KeepsOthers.drew _), fun o => ⟨World.cell?_setCell_far _ _ _ _ (by simp; omega), World.cell?_setCell_far _ _ _ _ (by simp)⟩, ⟨⟨⟨hcl, hlt⟩, x.isLt⟩, ?_, ?_⟩, (hB.setCell (p := ⟨w1.heap.size, 0, none⟩) (Nat.le_refl _) _).drew⟩
        · exact World.cell?_setCell_same' W ⟨w1.heap.size, 0, none⟩ _ (by rw [hc]; rfl)
        · show (W.setCell ⟨w1.heap.size, 0, none⟩ _).frozen? _ = false
          rw [World.frozen?_setCell]; exact hf
      have HH : Hid _ := HA
      clear HA HP hcl hK hB0 c0 c1 c0' f0' hb2
      gi_wp2
      gi_region_with_o (fail)
      all_goals gi_wp2
      all_goals exact HH.out
    · have g : decide (depN L x.val ≤ depN L p) = true := by simp; omega
      have HA : KeepsOthers W W.drew ∧ ((Code.exit 0 = Code.exit 0 ∧ (∃ (ps : List (Fin L.length)) (y : Fin L.length), pre ++ [x] = ps ++ [y] ∧ climbs (depN L) i (ps.map Fin.val) ∧ ¬ depN L (lastN i (ps.map Fin.val)) < depN L y.val ∧ W.drew.cell? ⟨w1.heap.size, 0, none⟩ = some (.pointer (some ⟨N, lastN i (ps.map Fin.val) * 4, none⟩)))) ∧ Below w1.heap.size w1 W.drew) :=
        ⟨KeepsOthers.drew _, ⟨rfl, pre, x, rfl, hcl, by rw [HP.out]; exact hlt, by rw [HP.out]; exact hc⟩, hB.drew⟩
      have HH : Hid _ := HA
      clear HA HP hcl hK hB0 c0 c1 c0' f0' hb2
      gi_wp2
      gi_region_with_o (fail)
      all_goals gi_wp2
      all_goals exact ⟨HH.out.1, ⟨rfl, HH.out.2.1.2⟩, HH.out.2.2⟩
  case done =>
    rintro D ys W hD hys ⟨⟨⟨hcl, hla⟩, hc, hf⟩, hB⟩ hK2
    rw [hys] at hcl hc hla
    rw [lastN_range] at hc hla
    have e := leaf_done hk hi rfl hcl
    rw [← e] at hc hla
    clear e hcl
    gi_wp2
    refine ⟨by simp, .inl ⟨_, _, rfl, run_takeDeferred hK2, ?_⟩⟩
    refine ⟨_, results_tmp rfl _ _ _, rfl, ?_⟩
    exact hB.trans (belowK_b (w := w1) (Nat.le_refl _) W D _ _ (by simp at hD; omega) hK2 rfl rfl)
  case stop =>
    rintro D c' pre W hD hpre ⟨⟨rfl, ps, x, rfl, hcl, hno, hc⟩, hB⟩ hK2
    rw [List.map_append, List.map_cons, List.map_nil] at hpre
    obtain ⟨hm1, hm2⟩ := prefix_snoc hpre
    generalize (ps.map Fin.val).length = m at hm1 hm2
    clear hpre
    rw [hm1] at hcl hno hc
    rw [lastN_range] at hno hc
    rw [hm2] at hno
    have hx := x.isLt
    have e := leaf_stop hk hcl hno (by omega)
    rw [← e] at hc
    clear e hcl hno hm1 hm2
    gi_wp2
    refine ⟨by simp, .inl ⟨_, _, rfl, run_takeDeferred hK2, ?_⟩⟩
    refine ⟨_, results_tmp rfl _ _ _, rfl, ?_⟩
    exact hB.trans (belowK_b (w := w1) (Nat.le_refl _) W D _ _ (by simp at hD; omega) hK2 rfl rfl)

set_option maxRecDepth 100000 in
set_option maxHeartbeats 2000000 in
theorem treeLeafImpl_some (P : Option Addr) (c i : Nat) (L : List Sl) (w : World) (hl : L.length ≤ 1048576) (hcap : L.length ≤ c) (hcm : c ≤ 9223372036854775807) (h : Lies w P L) (hfit : ∀ s ∈ L, s.Fit) (ht : treeB L = true) (hi : i < L.length) (k : Nat) (hk : IsLeaf L i k) :
    Calls Try.prog 14 #[.slice P L.length c, .int .i64 (i : Int)] w fun e w' => e = .returned (.int .i64 ((i + k : Nat) : Int)) ∧ Below w.heap.size w w' := by
  have hin := hk.inn
  refine (callsIn_wide (n := 6)).1 ?_
  refine callsIn_of_wp_marks Try.func14 rfl trivial ?_ rfl
  simp only [Try.ntmps14, List.size_toArray, List.length_cons, List.length_nil, Nat.reduceAdd, Nat.reduceSub, Array.replicate_succ, Array.replicate_zero, List.push_toArray, List.append_toArray, List.nil_append, List.cons_append]
  gi_wp2_with (first
    | (refine ⟨trivial, ?_⟩; gi_at_call 27; refine (callsIn_wide.2 (linkAt_some _ _ _ L _ hl hcap hcm h hfit ht hi)).mono ?_; rintro e w1 ⟨N, hN, rfl, hK, hb1⟩)
    | (refine ⟨trivial, ?_⟩; gi_at_call 33; refine (leafM_some N i L _ hi hK k hk).mono ?_; rintro e w2 ⟨rfl, hb2⟩; have hp := (hK.linked.keep (keep2_below (Bn := N) hb2 hK.lt hK.lt)).place (i + k) hin))
  exact ⟨_, results_tmp rfl _ _ _, rfl, hb1.trans (hb2.mono hb1.size)⟩

end Go.Proofs.Ytalncgmncafhjaa
