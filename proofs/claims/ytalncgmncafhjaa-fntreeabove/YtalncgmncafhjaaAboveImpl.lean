/-
  What TreeAbove of the program answers.
-/
import Derived.Test.YtalncgmncafhjaaBundleA
import Derived.LaidEqlPtr
namespace Go.Proofs.Ytalncgmncafhjaa
open Go.RowKit Go.Shelf
set_option linter.unusedVariables false

attribute [local go_sem] Oper.semAt_some

/-- Two boxes that were made, and a call behind them. -/
theorem two1 {w w1 : World} {a b : Value} {S T : Nat} (hb : Below ((w.alloc (.cells #[a] S)).alloc (.cells #[b] T)).heap.size ((w.alloc (.cells #[a] S)).alloc (.cells #[b] T)) w1) :
    w1.cell? ⟨w.heap.size, 0, none⟩ = some a ∧ w1.cell? ⟨w.heap.size + 1, 0, none⟩ = some b ∧ w1.frozen? ⟨w.heap.size + 1, 0, none⟩ = false ∧ Below w.heap.size w w1 ∧ w.heap.size + 1 < w1.heap.size ∧ w.heap.size < w1.heap.size := by
  have hc := (bcell hb).1
  have hf := (bcell hb).2
  refine ⟨?_, ?_, ?_, (((Below.refl _ _).alloc (Nat.le_refl _) _).alloc (by simp) _).trans (hb.mono (by simp; omega)), ?_, ?_⟩
  · rw [hc _ _ (by simp; omega)]; go_simp
  · rw [hc _ _ (by simp)]; go_simp
  · rw [hf _ _ (by simp)]; go_simp
  · have := hb.size; simp at this; omega
  · have := hb.size; simp at this; omega

theorem Plain.own {W W' : World} {row : Option Nat} {N : Nat} (h : Plain W N) (hg : W.grownBy W' row) (hr : ∀ r, row = some r → ∃ o : Obj, W.heap[r]? = some o ∧ o.isCells = false) : Plain W' N := by
  obtain ⟨c, t, h⟩ := h
  exact ⟨c, t, (grownBy_keeps_cells hg hr h rfl).trans h⟩

theorem link_info : ∃ j, Try.prog.info? 60 = some j ∧ j.size ≠ 0 := by
  obtain ⟨i, hi, hzz⟩ := Option.map_eq_some_iff.1 linkInfo
  simp only [Prod.mk.injEq] at hzz
  exact ⟨i, hi, by omega⟩

theorem same_ptr (W : World) (N j : Nat) : (binOp .eql 49 (.pointer (some ⟨N, j, none⟩)) (.pointer (some ⟨N, j, none⟩))).run Try.prog W = .ok (.bool true) W := by
  obtain ⟨i, hi, _⟩ := link_info
  exact run_eql_ptr_same W _ Try.underlying49 hi
theorem other_ptr {W : World} {N j k : Nat} (h : Plain W N) (hne : j ≠ k) : (binOp .eql 49 (.pointer (some ⟨N, j, none⟩)) (.pointer (some ⟨N, k, none⟩))).run Try.prog W = .ok (.bool false) W := by
  obtain ⟨i, hi, hz⟩ := link_info
  obtain ⟨c, t, h⟩ := h
  exact run_eql_ptr_other W Try.underlying49 hi hz (fun e => hne (congrArg Addr.off e)) h h

set_option maxRecDepth 100000 in
set_option maxHeartbeats 2000000 in
theorem treeAboveImpl_none (P : Option Addr) (c : Nat) (i k : Int) (L : List Sl) (w : World) (hl : L.length ≤ 1048576) (hcap : L.length ≤ c) (hcm : c ≤ 9223372036854775807) (h : Lies w P L) (hfit : ∀ s ∈ L, s.Fit) (ht : bothB L i k = false) :
    Calls Try.prog 16 #[.slice P L.length c, .int .i64 i, .int .i64 k] w fun e w' => e = .returned (.bool false) ∧ Below w.heap.size w w' := by
  have h0 : Lies ((w.alloc (.cells #[.int .i64 i] 3)).alloc (.cells #[.bool false] 4)) P L := h.below (((Below.refl _ _).alloc (Nat.le_refl _) _).alloc (by simp) _)
  refine (callsIn_wide (n := 5)).1 ?_
  cases hT : treeB L
  · have hp : placeB ((0 : Nat) : Int) i = false := by unfold placeB; simp only [decide_eq_false_iff_not]; omega
    refine callsIn_of_wp_marks Try.func16 rfl trivial ?_ rfl
    simp only [Try.ntmps16, List.size_toArray, List.length_cons, List.length_nil, Nat.reduceAdd, Nat.reduceSub, Array.replicate_succ, Array.replicate_zero, List.push_toArray, List.append_toArray, List.nil_append, List.cons_append]
    gi_wp2_with (first
      | (refine ⟨trivial, ?_⟩; gi_at_call 34; refine (callsIn_wide.2 (links_no _ _ L _ hl hcap hcm h0 hfit hT)).mono ?_; rintro e w1 ⟨rfl, hb1⟩; obtain ⟨ci, cR, fR, hW1, hz, hz0⟩ := two1 hb1; clear hb1)
      | (refine ⟨trivial, ?_⟩; gi_at_call 23; refine (callsIn_wide.2 (placeOk_to 0 _ _ _ (by omega) hp)).mono ?_; rintro e w2 ⟨rfl, rfl⟩))
    refine ⟨trivial, ?_⟩
    gi_wp2
    refine ⟨.bool false, ?_, rfl, ?_⟩
    · simp [results, Try.f16, go_sem, *]
    · exact by repeat (first | exact hW1 | (refine Below.setCell ?_ (by simp; try omega) _) | (refine Below.alloc ?_ (by have := hW1.size; simp; try omega) _))
  · cases h1 : placeB L.length i
    · refine callsIn_of_wp_marks Try.func16 rfl trivial ?_ rfl
      simp only [Try.ntmps16, List.size_toArray, List.length_cons, List.length_nil, Nat.reduceAdd, Nat.reduceSub, Array.replicate_succ, Array.replicate_zero, List.push_toArray, List.append_toArray, List.nil_append, List.cons_append]
      gi_wp2_with (first
        | (refine ⟨trivial, ?_⟩; gi_at_call 34; refine (callsIn_wide.2 (links_yes _ _ L _ hl hcap hcm h0 hfit hT)).mono ?_; rintro e w1 ⟨N, hN, rfl, hK, hb1⟩; obtain ⟨ci, cR, fR, hW1, hz, hz0⟩ := two1 hb1; clear hb1)
        | (refine ⟨trivial, ?_⟩; gi_at_call 23; refine (callsIn_wide.2 (placeOk_to _ _ _ _ hl h1)).mono ?_; rintro e w2 ⟨rfl, rfl⟩))
      refine ⟨trivial, ?_⟩
      gi_wp2
      refine ⟨.bool false, ?_, rfl, ?_⟩
      · simp [results, Try.f16, go_sem, *]
      · exact by repeat (first | exact hW1 | (refine Below.setCell ?_ (by simp; try omega) _) | (refine Below.alloc ?_ (by have := hW1.size; simp; try omega) _))
    · have h2 : placeB L.length k = false := by simpa [bothB, hT, h1] using ht
      refine callsIn_of_wp_marks Try.func16 rfl trivial ?_ rfl
      simp only [Try.ntmps16, List.size_toArray, List.length_cons, List.length_nil, Nat.reduceAdd, Nat.reduceSub, Array.replicate_succ, Array.replicate_zero, List.push_toArray, List.append_toArray, List.nil_append, List.cons_append]
      gi_wp2_with (first
        | (refine ⟨trivial, ?_⟩; gi_at_call 34; refine (callsIn_wide.2 (links_yes _ _ L _ hl hcap hcm h0 hfit hT)).mono ?_; rintro e w1 ⟨N, hN, rfl, hK, hb1⟩; obtain ⟨ci, cR, fR, hW1, hz, hz0⟩ := two1 hb1; clear hb1)
        | (refine ⟨trivial, ?_⟩; gi_at_call 23; refine (callsIn_wide.2 (placeOk_to _ _ _ _ hl h1)).mono ?_; clear h1; rintro e w2 ⟨rfl, rfl⟩)
        | (refine ⟨trivial, ?_⟩; gi_at_call 23; refine (callsIn_wide.2 (placeOk_to _ _ _ _ hl h2)).mono ?_; rintro e w2 ⟨rfl, rfl⟩))
      refine ⟨.bool false, ?_, rfl, ?_⟩
      · simp [results, Try.f16, go_sem, *]
      · exact by repeat (first | exact hW1 | (refine Below.setCell ?_ (by simp; try omega) _) | (refine Below.alloc ?_ (by have := hW1.size; simp; try omega) _))

set_option maxRecDepth 100000 in
set_option maxHeartbeats 2000000 in
theorem treeAboveImpl_some (P : Option Addr) (c i k : Nat) (L : List Sl) (w : World) (hl : L.length ≤ 1048576) (hcap : L.length ≤ c) (hcm : c ≤ 9223372036854775807) (h : Lies w P L) (hfit : ∀ s ∈ L, s.Fit) (hT : treeB L = true) (hi : i < L.length) (hk : k < L.length) :
    Calls Try.prog 16 #[.slice P L.length c, .int .i64 (i : Int), .int .i64 (k : Int)] w fun e w' => e = .returned (.bool (inUps L i k)) ∧ Below w.heap.size w w' := by
  have h0 : Lies ((w.alloc (.cells #[.int .i64 (i : Int)] 3)).alloc (.cells #[.bool false] 4)) P L := h.below (((Below.refl _ _).alloc (Nat.le_refl _) _).alloc (by simp) _)
  have h1 : placeB L.length (i : Int) = true := by simp [placeB]; omega
  have h2 : placeB L.length (k : Int) = true := by simp [placeB]; omega
  refine (callsIn_wide (n := 5)).1 ?_
  refine callsIn_of_wp_marks Try.func16 rfl trivial ?_ rfl
  simp only [Try.ntmps16, List.size_toArray, List.length_cons, List.length_nil, Nat.reduceAdd, Nat.reduceSub, Array.replicate_succ, Array.replicate_zero, List.push_toArray, List.append_toArray, List.nil_append, List.cons_append]
  gi_wp2_with (first
    | (refine ⟨trivial, ?_⟩; gi_at_call 34; refine (callsIn_wide.2 (links_yes _ _ L _ hl hcap hcm h0 hfit hT)).mono ?_; rintro e w1 ⟨N, hN, rfl, hK, hb1⟩; obtain ⟨ci, cR, fR, hW1, hz, hz0⟩ := two1 hb1; clear hb1)
    | (refine ⟨trivial, ?_⟩; gi_at_call 23; refine (callsIn_wide.2 (placeOk_to _ _ _ _ hl h1)).mono ?_; clear h1; rintro e w2 ⟨rfl, rfl⟩)
    | (refine ⟨trivial, ?_⟩; gi_at_call 23; refine (callsIn_wide.2 (placeOk_to _ _ _ _ hl h2)).mono ?_; clear h2; rintro e w2 ⟨rfl, rfl⟩)
    | (refine ⟨trivial, ?_⟩; gi_at_call 32; refine (above_in _ _ _).mono ?_; rintro e w3 ⟨rfl, rfl⟩))
  have hNlt := hK.lt
  rw [World.size_alloc, World.size_alloc] at hN
  have hB0 : Below w1.heap.size w1 ((w1.alloc (.cells #[.slice (some ⟨N, 0, none⟩) L.length L.length] 62)).alloc (.cells #[.pointer (some ⟨N, k * 4, none⟩)] 49)) := ((Below.refl _ w1).alloc (Nat.le_refl _) _).alloc (by simp) _
  have c0 := cell_new w1 (.slice (some ⟨N, 0, none⟩) L.length L.length) 62
  have c1 := cell_new (w1.alloc (.cells #[.slice (some ⟨N, 0, none⟩) L.length L.length] 62)) (.pointer (some ⟨N, k * 4, none⟩)) 49
  rw [World.size_alloc] at c1
  have hb2 : Below (w1.heap.size + 1) (w1.alloc (.cells #[.slice (some ⟨N, 0, none⟩) L.length L.length] 62)) ((w1.alloc (.cells #[.slice (some ⟨N, 0, none⟩) L.length L.length] 62)).alloc (.cells #[.pointer (some ⟨N, k * 4, none⟩)] 49)) := (Below.refl _ _).alloc (by simp) _
  have c0' := (hb2.cell (p := ⟨w1.heap.size, 0, none⟩) (Nat.lt_succ_self _)).trans c0.1
  have ci' := (hB0.cell (p := ⟨w.heap.size, 0, none⟩) hz0).trans ci
  have cR' := (hB0.cell (p := ⟨w.heap.size + 1, 0, none⟩) hz).trans cR
  have fR' := (hB0.frozen (p := ⟨w.heap.size + 1, 0, none⟩) hz).trans fR
  refine wpIn_rangeFunc_ownF rfl (by omega) (gf := 51) (lb := #[.pointer (some ⟨w1.heap.size + 1, 0, none⟩)]) rfl trivial (enters_of Try.func51 (by kernel_rfl) rfl)
    (above_stops 4 (by omega) (w1.heap.size + 1) N k L hk _ (by simp) (by simp; omega) c1.1 (hK.linked.keep (keep2_below (Bn := N) hB0 hNlt hNlt)))
    (fun a b => Keep2.trans a b) (keep2_put (n₀ := w1.heap.size + 1 + 1) (by simp) (by omega) (by omega)) (Below.refl _ _) (fun _ => rfl)
    (fun pre W => ((∀ y ∈ pre, y.val ≠ i) ∧ W.cell? ⟨w.heap.size, 0, none⟩ = some (.int .i64 (i : Int)) ∧ W.cell? ⟨w1.heap.size, 0, none⟩ = some (.slice (some ⟨N, 0, none⟩) L.length L.length) ∧ W.cell? ⟨w.heap.size + 1, 0, none⟩ = some (.bool false) ∧ W.frozen? ⟨w.heap.size + 1, 0, none⟩ = false ∧ Plain W N) ∧ Below w.heap.size w W)
    (fun c pre W => (c = .ret ∧ (∃ y ∈ pre, y.val = i) ∧ W.cell? ⟨w.heap.size + 1, 0, none⟩ = some (.bool true)) ∧ Below w.heap.size w W)
    (OwnFrom.and (Own.from (fun s A B row hs hg hr => ⟨hs.1, cell_kept hs.2.1 hg hr, cell_kept hs.2.2.1 hg hr, cell_kept hs.2.2.2.1 hg hr, (frozen_kept hs.2.2.2.1 hg hr).trans hs.2.2.2.2.1, hs.2.2.2.2.2.own hg hr⟩) _) (ownFrom_below (Nat.le_refl _) (by simp; omega)))
    (fun c => OwnFrom.and (Own.from (fun s A B row hs hg hr => ⟨hs.1, hs.2.1, cell_kept hs.2.2 hg hr⟩) _) (ownFrom_below (Nat.le_refl _) (by simp; omega)))
    ⟨⟨fun y hy => absurd hy (by simp), ci', c0', cR', fR', hK.blk.below hB0 hNlt⟩, hW1.trans (hB0.mono hW1.size)⟩
    (fun x => { tmps := #[.slice P L.length c, .int .i64 i, .int .i64 k, undef, .pointer (some ⟨w.heap.size, 0, none⟩), undef, .pointer (some ⟨w.heap.size + 1, 0, none⟩), .pointer (some ⟨w1.heap.size, 0, none⟩), .pointer (some ⟨N, x.val * 4, none⟩), .slice P L.length c, .slice (some ⟨N, 0, none⟩) L.length L.length, .slice (some ⟨N, 0, none⟩) L.length L.length, .int .i64 L.length, .int .i64 i, .bool true, .bool false, .bool false, .slice (some ⟨N, 0, none⟩) L.length L.length, .int .i64 L.length, .int .i64 k, .bool true, .bool false, .bool false, .slice (some ⟨N, 0, none⟩) L.length L.length, .int .i64 k, .pointer (some ⟨N, k * 4, none⟩), .func (.func 51) #[] #[.pointer (some ⟨w1.heap.size + 1, 0, none⟩)], .pointer (some ⟨N, x.val * 4, none⟩), undef, undef, undef, undef, undef, undef, undef, undef], defers := [] }) ?assign ?body ?done ?stop
  case assign =>
    intro l x W K hK
    gi_wp2
    exact hK
  case body =>
    rintro l pre x W ⟨⟨hne, hc1, hc2, hc3, hf, hpl⟩, hB⟩ _
    by_cases hx : x.val = i
    · have hpe := same_ptr W N (i * 4)
      have hR : KeepsOthers W (W.setCell ⟨w.heap.size + 1, 0, none⟩ (.bool true)) ∧ (Code.ret = Code.ret ∧ (∃ y ∈ pre ++ [x], y.val = i) ∧ (W.setCell ⟨w.heap.size + 1, 0, none⟩ (.bool true)).cell? ⟨w.heap.size + 1, 0, none⟩ = some (.bool true)) ∧ Below w.heap.size w (W.setCell ⟨w.heap.size + 1, 0, none⟩ (.bool true)) :=
        ⟨KeepsOthers.setCell _ _ _, ⟨rfl, ⟨x, by simp, hx⟩, World.cell?_setCell_same' _ _ _ (by rw [hc3]; rfl)⟩, hB.setCell (p := ⟨w.heap.size + 1, 0, none⟩) (by simp) _⟩
      have HH : Hid _ := hR
      clear hR
      gi_wp2
      exact ⟨HH.out.1, ⟨rfl, HH.out.2.1.2⟩, HH.out.2.2⟩
    · have hx4 : x.val * 4 ≠ i * 4 := by omega
      have hpe := other_ptr hpl hx4
      have hR : KeepsOthers W W ∧ Keep2 N (w1.heap.size + 1) W W ∧ ((∀ y ∈ pre ++ [x], y.val ≠ i) ∧ W.cell? ⟨w.heap.size, 0, none⟩ = some (.int .i64 (i : Int)) ∧ W.cell? ⟨w1.heap.size, 0, none⟩ = some (.slice (some ⟨N, 0, none⟩) L.length L.length) ∧ W.cell? ⟨w.heap.size + 1, 0, none⟩ = some (.bool false) ∧ W.frozen? ⟨w.heap.size + 1, 0, none⟩ = false ∧ Plain W N) ∧ Below w.heap.size w W :=
        ⟨KeepsOthers.refl _, fun o => ⟨rfl, rfl⟩, ⟨fun y hy => (List.mem_append.1 hy).elim (hne y) (fun e => by rw [List.mem_singleton.1 e]; exact hx), hc1, hc2, hc3, hf, hpl⟩, hB⟩
      have HH : Hid _ := hR
      clear hR
      gi_wp2
      exact HH.out
  case done =>
    rintro D ys W hD hys ⟨⟨hne, hc1, hc2, hc3, hf, hpl⟩, hB⟩ hK2
    have hno : ¬ i ∈ ups (depN L) (depN L k) k := by
      rw [← hys]; intro hm
      obtain ⟨y, hy, he⟩ := List.mem_map.1 hm
      exact hne y hy he
    have HR : Hid (inUps L i k = ((i : Int) == (k : Int))) := by
      unfold Hid inUps; rw [Bool.eq_iff_iff]; simp [hno]; omega
    clear hys hno
    gi_wp2
    have hK' := (KeepsOthers.setCell W ⟨w.heap.size + 1, 0, none⟩ (.bool ((i : Int) == (k : Int)))).same D _ hK2 rfl
    refine ⟨by simp, .inl ⟨_, _, rfl, run_takeDeferred hK', ?_⟩⟩
    have hc5 := cell_kept (World.cell?_setCell_same' W ⟨w.heap.size + 1, 0, none⟩ (.bool ((i : Int) == (k : Int))) (by rw [hc3]; rfl)) (grownBy_putObj' _ D (.deferred none)) (fun r e => by cases e; exact ⟨_, hK', rfl⟩)
    refine ⟨.bool ((i : Int) == (k : Int)), ?_, by rw [HR.out], (hB.setCell (p := ⟨w.heap.size + 1, 0, none⟩) (by simp) _).trans (belowK_b (w := w) (Nat.le_refl _) _ D _ _ (by simp at hD; omega) hK' rfl rfl)⟩
    simp [results, Try.f16, go_sem, hc5]
  case stop =>
    rintro D c' pre W hD hpre ⟨⟨rfl, ⟨y, hy, he⟩, hc⟩, hB⟩ hK2
    have HR : Hid (inUps L i k = true) := by
      unfold Hid inUps
      have : i ∈ ups (depN L) (depN L k) k := hpre.subset (List.mem_map.2 ⟨y, hy, he⟩)
      simp [this]
    clear hpre hy
    gi_wp2
    refine ⟨by simp, .inl ⟨_, _, rfl, run_takeDeferred hK2, ?_⟩⟩
    have hc5 := cell_kept hc (grownBy_putObj' _ D (.deferred none)) (fun r e => by cases e; exact ⟨_, hK2, rfl⟩)
    refine ⟨.bool true, ?_, by rw [HR.out], hB.trans (belowK_b (w := w) (Nat.le_refl _) W D _ _ (by simp at hD; omega) hK2 rfl rfl)⟩
    simp [results, Try.f16, go_sem, hc5]

end Go.Proofs.Ytalncgmncafhjaa
