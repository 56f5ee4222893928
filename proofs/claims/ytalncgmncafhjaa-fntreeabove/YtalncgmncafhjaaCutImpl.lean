/-
  What TreeCut of the program answers.
-/
import Derived.Test.YtalncgmncafhjaaCopy11
import Derived.Test.YtalncgmncafhjaaBundleA
import Derived.Test.YtalncgmncafhjaaTreeOkSpec
namespace Go.Proofs.Ytalncgmncafhjaa
open Go.RowKit Go.Shelf
set_option linter.unusedVariables false

attribute [local go_sem] Oper.semAt_some

/-- Two boxes that were made, and a call behind them. -/
theorem boxes2 {w w1 : World} {a b : Value} {S T : Nat} (hb : Below ((w.alloc (.cells #[a] S)).alloc (.cells #[b] T)).heap.size ((w.alloc (.cells #[a] S)).alloc (.cells #[b] T)) w1) :
    w1.cell? ⟨w.heap.size, 0, none⟩ = some a ∧ w1.frozen? ⟨w.heap.size, 0, none⟩ = false ∧ w1.cell? ⟨w.heap.size + 1, 0, none⟩ = some b ∧ w1.frozen? ⟨w.heap.size + 1, 0, none⟩ = false ∧ Below w.heap.size w w1 ∧ w.heap.size + 1 < w1.heap.size ∧ w.heap.size < w1.heap.size := by
  have hc := (bcell hb).1
  have hf := (bcell hb).2
  refine ⟨?_, ?_, ?_, ?_, (((Below.refl _ _).alloc (Nat.le_refl _) _).alloc (by simp) _).trans (hb.mono (by simp; omega)), ?_, ?_⟩
  · rw [hc _ _ (by simp; omega)]; go_simp
  · rw [hf _ _ (by simp; omega)]; go_simp
  · rw [hc _ _ (by simp)]; go_simp
  · rw [hf _ _ (by simp)]; go_simp
  · have := hb.size; simp at this; omega
  · have := hb.size; simp at this; omega

theorem room_far {W : World} {G n C o : Nat} {v : Value} (h : Room W G n) (hne : C ≠ G) : Room (W.setCell ⟨C, o, none⟩ v) G n :=
  ⟨fun j hj => by rw [World.cell?_setCell_far _ _ _ _ hne]; exact h.c j hj, fun j => by rw [World.frozen?_setCell]; exact h.z j, by simpa using h.lt⟩
theorem room_grown {W W' : World} {row : Option Nat} {G n : Nat} (h : Room W G n) (hg : W.grownBy W' row) (hne : some G ≠ row) : Room W' G n :=
  ⟨fun j hj => by rw [World.cell?_of_block (a := ⟨G, j, none⟩) (hg.block G h.lt hne)]; exact h.c j hj, fun j => by rw [World.frozen?_of_block (a := ⟨G, j, none⟩) (hg.block G h.lt hne)]; exact h.z j, Nat.lt_of_lt_of_le h.lt hg.size⟩

set_option maxRecDepth 100000 in
set_option maxHeartbeats 2000000 in
theorem treeCutImpl_none (P : Option Addr) (c : Nat) (i : Int) (L : List Sl) (w : World) (hl : L.length ≤ 1048576) (hcap : L.length ≤ c) (hcm : c ≤ 9223372036854775807) (h : Lies w P L) (hfit : ∀ s ∈ L, s.Fit) (ht : (treeB L && placeB L.length i) = false) :
    Calls Try.prog 10 #[.slice P L.length c, .int .i64 i] w fun e w' => e = .returned (.tuple #[.slice none 0 0, .bool false]) ∧ Below w.heap.size w w' := by
  have h0 : Lies ((w.alloc (.cells #[.slice none 0 0] 23)).alloc (.cells #[.bool false] 4)) P L := h.below (((Below.refl _ _).alloc (Nat.le_refl _) _).alloc (by simp) _)
  refine (callsIn_wide (n := 5)).1 ?_
  refine callsIn_of_wp_marks Try.func10 rfl trivial ?_ rfl
  simp only [Try.ntmps10, List.size_toArray, List.length_cons, List.length_nil, Nat.reduceAdd, Nat.reduceSub, Array.replicate_succ, Array.replicate_zero, List.push_toArray, List.append_toArray, List.nil_append, List.cons_append]
  gi_wp2_with (refine ⟨trivial, ?_⟩; gi_at_call 27; refine (callsIn_wide.2 (linkAt_none _ _ _ L _ hl hcap hcm h0 hfit ht)).mono ?_; rintro e w1 ⟨rfl, hb1⟩; obtain ⟨c1, f1, c2, f2, hW1, hz1, hz0⟩ := boxes2 hb1; clear hb1)
  refine ⟨.tuple #[.slice none 0 0, .bool false], ?_, rfl, (hW1.setCell (p := ⟨w.heap.size, 0, none⟩) (Nat.le_refl _) _).setCell (p := ⟨w.heap.size + 1, 0, none⟩) (by simp) _⟩
  have hn : ¬ w.heap.size = w.heap.size + 1 := by omega
  simp [results, Try.f10, go_sem, *]

set_option maxRecDepth 100000 in
set_option maxHeartbeats 2000000 in
theorem treeCutImpl_has (P : Option Addr) (c i : Nat) (L : List Sl) (w : World) (hl : L.length ≤ 1048576) (hcap : L.length ≤ c) (hcm : c ≤ 9223372036854775807) (h : Lies w P L) (hfit : ∀ s ∈ L, s.Fit) (ht : treeB L = true) (hi : i < L.length) (hr : runN L[i].p (L.drop (i + 1)) ≠ 0) :
    Calls Try.prog 10 #[.slice P L.length c, .int .i64 (i : Int)] w fun e w' => e = .returned (.tuple #[.slice none 0 0, .bool false]) ∧ Below w.heap.size w w' := by
  have h0 : Lies ((w.alloc (.cells #[.slice none 0 0] 23)).alloc (.cells #[.bool false] 4)) P L := h.below (((Below.refl _ _).alloc (Nat.le_refl _) _).alloc (by simp) _)
  refine (callsIn_wide (n := 5)).1 ?_
  refine callsIn_of_wp_marks Try.func10 rfl trivial ?_ rfl
  simp only [Try.ntmps10, List.size_toArray, List.length_cons, List.length_nil, Nat.reduceAdd, Nat.reduceSub, Array.replicate_succ, Array.replicate_zero, List.push_toArray, List.append_toArray, List.nil_append, List.cons_append]
  gi_wp2_with (first
    | (refine ⟨trivial, ?_⟩; gi_at_call 27; refine (callsIn_wide.2 (linkAt_some _ _ _ L _ hl hcap hcm h0 hfit ht hi)).mono ?_; rintro e w1 ⟨N, hN, rfl, hK, hb1⟩; obtain ⟨c1, f1, c2, f2, hW1, hz1, hz0⟩ := boxes2 hb1; clear hb1)
    | (refine ⟨trivial, ?_⟩; gi_at_call 28; refine (below_in _ _ _).mono ?_; rintro e w2 ⟨rfl, rfl⟩))
  have hNlt := hK.lt
  have hB0 : Below w1.heap.size w1 (w1.alloc (.cells #[.pointer (some ⟨N, i * 4, none⟩)] 49)) := (Below.refl _ w1).alloc (Nat.le_refl _) _
  have cb := cell_new w1 (.pointer (some ⟨N, i * 4, none⟩)) 49
  have c1' := (hB0.cell (p := ⟨w.heap.size, 0, none⟩) hz0).trans c1
  have f1' := (hB0.frozen (p := ⟨w.heap.size, 0, none⟩) hz0).trans f1
  have c2' := (hB0.cell (p := ⟨w.heap.size + 1, 0, none⟩) hz1).trans c2
  have f2' := (hB0.frozen (p := ⟨w.heap.size + 1, 0, none⟩) hz1).trans f2
  refine wpIn_rangeFunc_ownF rfl (by omega) (gf := 44) (lb := #[.pointer (some ⟨w1.heap.size, 0, none⟩)]) rfl trivial (enters_of Try.func44 (by kernel_rfl) rfl)
    (below_stops 4 (by omega) w1.heap.size N i L hi _ (by simp) (by simp; omega) cb.1 (hK.linked.keep (keep2_below (Bn := N) hB0 hNlt hNlt)))
    (fun a b => Keep2.trans a b) (keep2_put (n₀ := w1.heap.size + 1) (by simp) (by omega) (by omega)) (Below.refl _ _) (fun _ => rfl)
    (fun pre W => (pre = [] ∧ W.cell? ⟨w.heap.size, 0, none⟩ = some (.slice none 0 0) ∧ W.frozen? ⟨w.heap.size, 0, none⟩ = false ∧ W.cell? ⟨w.heap.size + 1, 0, none⟩ = some (.bool false) ∧ W.frozen? ⟨w.heap.size + 1, 0, none⟩ = false) ∧ Below w.heap.size w W)
    (fun c pre W => (c = .ret ∧ pre ≠ [] ∧ W.cell? ⟨w.heap.size, 0, none⟩ = some (.slice none 0 0) ∧ W.cell? ⟨w.heap.size + 1, 0, none⟩ = some (.bool false)) ∧ Below w.heap.size w W)
    (OwnFrom.and (Own.from (fun s A B row hs hg hr => ⟨hs.1, cell_kept hs.2.1 hg hr, (frozen_kept hs.2.1 hg hr).trans hs.2.2.1, cell_kept hs.2.2.2.1 hg hr, (frozen_kept hs.2.2.2.1 hg hr).trans hs.2.2.2.2⟩) _) (ownFrom_below (Nat.le_refl _) (by simp; omega)))
    (fun c => OwnFrom.and (Own.from (fun s A B row hs hg hr => ⟨hs.1, hs.2.1, cell_kept hs.2.2.1 hg hr, cell_kept hs.2.2.2 hg hr⟩) _) (ownFrom_below (Nat.le_refl _) (by simp; omega)))
    ⟨⟨rfl, c1', f1', c2', f2'⟩, hW1.trans (hB0.mono hW1.size)⟩
    (fun x => { tmps := #[.slice P L.length c, .int .i64 i, undef, undef, .pointer (some ⟨w.heap.size, 0, none⟩), .pointer (some ⟨w.heap.size + 1, 0, none⟩), .pointer (some ⟨N, i * 4, none⟩), undef, .slice P L.length c, .int .i64 i, .pointer (some ⟨N, i * 4, none⟩), .pointer (some ⟨N, i * 4, none⟩), .bool false, .pointer (some ⟨N, i * 4, none⟩), .func (.func 44) #[] #[.pointer (some ⟨w1.heap.size, 0, none⟩)], .pointer (some ⟨N, x.val * 4, none⟩), undef, undef, undef, undef, undef, undef, undef, undef, undef, undef, undef, undef, undef, undef, undef, undef, undef, undef], defers := [] }) ?assign ?body ?done ?stop
  case assign =>
    intro l x W K hK
    gi_wp2
    exact hK
  case body =>
    rintro l pre x W ⟨⟨rfl, hc1, hf1, hc2, hf2⟩, hB⟩ _
    have hn : ¬ w.heap.size = w.heap.size + 1 := by omega
    gi_wp2
    refine ⟨(KeepsOthers.setCell _ _ _).trans (KeepsOthers.setCell _ _ _), ⟨rfl, by simp, ?_, ?_⟩, (hB.setCell (p := ⟨w.heap.size, 0, none⟩) (Nat.le_refl _) _).setCell (p := ⟨w.heap.size + 1, 0, none⟩) (by simp) _⟩
    · go_simp
    · go_simp
  case done =>
    rintro D ys W hD hys ⟨⟨rfl, _⟩, _⟩ _
    exfalso
    have := congrArg List.length hys
    simp at this
    omega
  case stop =>
    rintro D c' pre W hD hpre ⟨⟨rfl, _, hc1, hc2⟩, hB⟩ hK2
    gi_wp2
    refine ⟨by simp, .inl ⟨_, _, rfl, run_takeDeferred hK2, ?_⟩⟩
    have hc3 := cell_kept hc1 (grownBy_putObj' _ D (.deferred none)) (fun r e => by cases e; exact ⟨_, hK2, rfl⟩)
    have hc4 := cell_kept hc2 (grownBy_putObj' _ D (.deferred none)) (fun r e => by cases e; exact ⟨_, hK2, rfl⟩)
    refine ⟨.tuple #[.slice none 0 0, .bool false], ?_, rfl, hB.trans (belowK_b (w := w) (Nat.le_refl _) W D _ _ (by simp at hD; omega) hK2 rfl rfl)⟩
    simp [results, Try.f10, go_sem, hc3, hc4]

set_option maxRecDepth 100000 in
set_option maxHeartbeats 2000000 in
theorem treeCutImpl_leaf (B O c i : Nat) (L : List Sl) (w : World) (hl : L.length ≤ 1048576) (hcap : L.length ≤ c) (hcm : c ≤ 9223372036854775807) (h : Lies w (some ⟨B, O, none⟩) L) (hfit : ∀ s ∈ L, s.Fit) (ht : treeB L = true) (hi : i < L.length) (hr : runN L[i].p (L.drop (i + 1)) = 0) :
    Calls Try.prog 10 #[.slice (some ⟨B, O, none⟩) L.length c, .int .i64 (i : Int)] w fun e w' => ∃ G, e = .returned (.tuple #[.slice (some ⟨G, 0, none⟩) (L.length - 1) (L.length - 1), .bool true]) ∧ w.heap.size ≤ G ∧ Room w' G (L.length - 1) ∧ Lies w' (some ⟨G, 0, none⟩) (L.take i ++ L.drop (i + 1)) ∧ Below w.heap.size w w' := by
  have h0 : Lies ((w.alloc (.cells #[.slice none 0 0] 23)).alloc (.cells #[.bool false] 4)) (some ⟨B, O, none⟩) L := h.below (((Below.refl _ _).alloc (Nat.le_refl _) _).alloc (by simp) _)
  refine (callsIn_wide (n := 5)).1 ?_
  refine callsIn_of_wp_marks Try.func10 rfl trivial ?_ rfl
  simp only [Try.ntmps10, List.size_toArray, List.length_cons, List.length_nil, Nat.reduceAdd, Nat.reduceSub, Array.replicate_succ, Array.replicate_zero, List.push_toArray, List.append_toArray, List.nil_append, List.cons_append]
  gi_wp2_with (first
    | (refine ⟨trivial, ?_⟩; gi_at_call 27; refine (callsIn_wide.2 (linkAt_some _ _ _ L _ hl hcap hcm h0 hfit ht hi)).mono ?_; rintro e w1 ⟨N, hN, rfl, hK, hb1⟩; obtain ⟨c1, f1, c2, f2, hW1, hz1, hz0⟩ := boxes2 hb1; clear hb1)
    | (refine ⟨trivial, ?_⟩; gi_at_call 28; refine (below_in _ _ _).mono ?_; rintro e w2 ⟨rfl, rfl⟩))
  have hNlt := hK.lt
  have hB0 : Below w1.heap.size w1 (w1.alloc (.cells #[.pointer (some ⟨N, i * 4, none⟩)] 49)) := (Below.refl _ w1).alloc (Nat.le_refl _) _
  have cb := cell_new w1 (.pointer (some ⟨N, i * 4, none⟩)) 49
  have c1' := (hB0.cell (p := ⟨w.heap.size, 0, none⟩) hz0).trans c1
  have f1' := (hB0.frozen (p := ⟨w.heap.size, 0, none⟩) hz0).trans f1
  have c2' := (hB0.cell (p := ⟨w.heap.size + 1, 0, none⟩) hz1).trans c2
  have f2' := (hB0.frozen (p := ⟨w.heap.size + 1, 0, none⟩) hz1).trans f2
  refine wpIn_rangeFunc_ownF rfl (by omega) (gf := 44) (lb := #[.pointer (some ⟨w1.heap.size, 0, none⟩)]) rfl trivial (enters_of Try.func44 (by kernel_rfl) rfl)
    (below_stops 4 (by omega) w1.heap.size N i L hi _ (by simp) (by simp; omega) cb.1 (hK.linked.keep (keep2_below (Bn := N) hB0 hNlt hNlt)))
    (fun a b => Keep2.trans a b) (keep2_put (n₀ := w1.heap.size + 1) (by simp) (by omega) (by omega)) (Below.refl _ _) (fun _ => rfl)
    (fun pre W => (pre = [] ∧ W.cell? ⟨w.heap.size, 0, none⟩ = some (.slice none 0 0) ∧ W.frozen? ⟨w.heap.size, 0, none⟩ = false ∧ W.cell? ⟨w.heap.size + 1, 0, none⟩ = some (.bool false) ∧ W.frozen? ⟨w.heap.size + 1, 0, none⟩ = false) ∧ Below w.heap.size w W)
    (fun c pre W => (c = .ret ∧ pre ≠ [] ∧ W.cell? ⟨w.heap.size, 0, none⟩ = some (.slice none 0 0) ∧ W.cell? ⟨w.heap.size + 1, 0, none⟩ = some (.bool false)) ∧ Below w.heap.size w W)
    (OwnFrom.and (Own.from (fun s A B row hs hg hr => ⟨hs.1, cell_kept hs.2.1 hg hr, (frozen_kept hs.2.1 hg hr).trans hs.2.2.1, cell_kept hs.2.2.2.1 hg hr, (frozen_kept hs.2.2.2.1 hg hr).trans hs.2.2.2.2⟩) _) (ownFrom_below (Nat.le_refl _) (by simp; omega)))
    (fun c => OwnFrom.and (Own.from (fun s A B row hs hg hr => ⟨hs.1, hs.2.1, cell_kept hs.2.2.1 hg hr, cell_kept hs.2.2.2 hg hr⟩) _) (ownFrom_below (Nat.le_refl _) (by simp; omega)))
    ⟨⟨rfl, c1', f1', c2', f2'⟩, hW1.trans (hB0.mono hW1.size)⟩
    (fun x => { tmps := #[.slice (some ⟨B, O, none⟩) L.length c, .int .i64 i, undef, undef, .pointer (some ⟨w.heap.size, 0, none⟩), .pointer (some ⟨w.heap.size + 1, 0, none⟩), .pointer (some ⟨N, i * 4, none⟩), undef, .slice (some ⟨B, O, none⟩) L.length c, .int .i64 i, .pointer (some ⟨N, i * 4, none⟩), .pointer (some ⟨N, i * 4, none⟩), .bool false, .pointer (some ⟨N, i * 4, none⟩), .func (.func 44) #[] #[.pointer (some ⟨w1.heap.size, 0, none⟩)], .pointer (some ⟨N, x.val * 4, none⟩), undef, undef, undef, undef, undef, undef, undef, undef, undef, undef, undef, undef, undef, undef, undef, undef, undef, undef], defers := [] }) ?assign ?body ?done ?stop
  case assign =>
    intro l x W K hK
    gi_wp2
    exact hK
  case body =>
    rintro l pre x W ⟨⟨rfl, hc1, hf1, hc2, hf2⟩, hB⟩ _
    have hn : ¬ w.heap.size = w.heap.size + 1 := by omega
    gi_wp2
    refine ⟨(KeepsOthers.setCell _ _ _).trans (KeepsOthers.setCell _ _ _), ⟨rfl, by simp, ?_, ?_⟩, (hB.setCell (p := ⟨w.heap.size, 0, none⟩) (Nat.le_refl _) _).setCell (p := ⟨w.heap.size + 1, 0, none⟩) (by simp) _⟩
    · go_simp
    · go_simp
  case done =>
    rintro D ys W hD hys ⟨⟨rfl, hc1, hf1, hc2, hf2⟩, hB⟩ hK2
    have hL := h.below hB
    clear hys
    obtain ⟨M, hM⟩ : ∃ M, L.length = M + 1 := ⟨L.length - 1, by omega⟩
    have hM1 : (L.length : Int) - 1 = (M : Int) := by omega
    have hmk := makeSlots M (by omega)
    have HM : Hid _ := hM
    clear hM
    have hiM : i ≤ M := by have := HM.out; omega
    have hGne : B ≠ W.heap.size := by have := (h.cells B O rfl i hi).lt; have := hB.size; omega
    have hBlt : B < W.heap.size := by have := (h.cells B O rfl i hi).lt; have := hB.size; omega
    have hsz := hB.size
    have hDlt : D < W.heap.size := (Array.getElem?_eq_some_iff.1 hK2).1
    have hBa : Below W.heap.size W (W.alloc (.cells (roomCells M) 27)) := (Below.refl _ _).alloc (Nat.le_refl _) _
    have hRa := Room.new W M 27
    have hLa := hL.below hBa
    have hlen := cellsAll_length (L.take i)
    rw [List.length_take, Nat.min_eq_left (by omega)] at hlen
    have hcp1 := run_copy11 (W.alloc (.cells (roomCells M) 27)) 3 W.heap.size 0 M M ⟨B, O, none⟩ i c i (cellsAll (L.take i)) (Nat.min_eq_left hiM).symm hlen (lies_news (hLa.take i)) (fun j hj => by rw [Nat.zero_add]; exact hRa.c j (by omega)) (fun j hj => hRa.z _) (cellsAll_one' _)
    have hR1 : Room ((W.alloc (.cells (roomCells M) 27)).setCells W.heap.size 0 (cellsAll (L.take i))) W.heap.size M := room_setAll hRa (by omega)
    have hA1 : Lies ((W.alloc (.cells (roomCells M) 27)).setCells W.heap.size 0 (cellsAll (L.take i))) (some ⟨W.heap.size, 0, none⟩) (L.take i) := by
      have := lies_copy (A := []) (C := L.take i) (Lies.nil _ _) hRa (by rw [List.length_take]; simp; omega)
      simpa using this
    have hL1 : Lies ((W.alloc (.cells (roomCells M) 27)).setCells W.heap.size 0 (cellsAll (L.take i))) (some ⟨B, O, none⟩) L := lies_far hLa hGne
    have hfar : ∀ b o, b < W.heap.size → ((W.alloc (.cells (roomCells M) 27)).setCells W.heap.size 0 (cellsAll (L.take i))).cell? ⟨b, o, none⟩ = W.cell? ⟨b, o, none⟩ := fun b o hb =>
      (World.cell?_setCells_out _ _ _ _ ⟨b, o, none⟩ (fun e => by have : b = W.heap.size := e; omega)).trans ((bcell hBa).1 b o hb)
    have hfrz : ∀ b o, b < W.heap.size → ((W.alloc (.cells (roomCells M) 27)).setCells W.heap.size 0 (cellsAll (L.take i))).frozen? ⟨b, o, none⟩ = W.frozen? ⟨b, o, none⟩ := fun b o hb =>
      (World.frozen?_setCells _ _ _ _ _).trans ((bcell hBa).2 b o hb)
    have hK1 : ((W.alloc (.cells (roomCells M) 27)).setCells W.heap.size 0 (cellsAll (L.take i))).heap[D]? = some (.deferred (some [])) :=
      ((grownBy_setCells _ _ _ _).block D (by simp; omega) (by simp; omega)).trans ((hBa.block D hDlt).trans hK2)
    have hB1 : Below w.heap.size w ((W.alloc (.cells (roomCells M) 27)).setCells W.heap.size 0 (cellsAll (L.take i))) := below_setAll (hB.alloc hB.size _) hB.size
    have hs1 : W.heap.size < ((W.alloc (.cells (roomCells M) 27)).setCells W.heap.size 0 (cellsAll (L.take i))).heap.size := hR1.lt
    have d1 := (hfar (w.heap.size) 0 (by simp at hD; omega)).trans hc1
    have d2 := (hfar (w.heap.size + 1) 0 (by simp at hD; omega)).trans hc2
    have g1 := (hfrz (w.heap.size) 0 (by simp at hD; omega)).trans hf1
    have g2 := (hfrz (w.heap.size + 1) 0 (by simp at hD; omega)).trans hf2
    have hm : Try.prog.follows .mixedOrders = true := by kernel_rfl
    gi_wp2
    generalize hWx : (W.alloc (.cells (roomCells M) 27)).setCells W.heap.size 0 (cellsAll (L.take i)) = Wx at hR1 hA1 hL1 hK1 hB1 hs1 d1 d2 g1 g2 ⊢
    generalize hG : W.heap.size = G at hR1 hA1 hs1 hGne hDlt hBlt hsz ⊢
    clear hWx hG hcp1 hfar hfrz hRa hLa hBa hmk hc1 hc2 hf1 hf2 hB hL hK2
    have hwG : w.heap.size + 1 < G := by simp at hD; omega
    obtain ⟨J, hJ⟩ : ∃ J, i + 1 = J := ⟨_, rfl⟩
    have hJ1 : (i : Int) + 1 = (J : Int) := by omega
    have hJ2 : (J : Int) ≤ (L.length : Int) := by omega
    have hJ3 : J ≤ L.length := by omega
    have hJ4 : J ≤ c := by omega
    have hiM1 : (i : Int) ≤ (M : Int) := by omega
    have hdl := cellsAll_length (L.drop J)
    rw [List.length_drop] at hdl
    by_cases hlast : i < M
    · have hq0 : ¬ M - i = 0 := by omega
      have hq1 : ¬ (M : Int) - (i : Int) = 0 := by omega
      have hq2 : ¬ M = i := by omega
      have hq3 : ¬ M ≤ i := by omega
      have hp0 : ¬ c - J = 0 := by have := HM.out; omega
      have hp1 : ¬ (c : Int) - (J : Int) = 0 := by have := HM.out; omega
      have hp2 : ¬ c = J := by have := HM.out; omega
      have hp3 : ¬ c ≤ J := by have := HM.out; omega
      have hw1 : IntKind.i64.wrap ((i : Int) + 1) = (J : Int) := by rw [wrap_in (by omega) (by omega)]; exact hJ1
      have hcp2 := run_copy11 Wx.drew 3 G (i * 11) (M - i) (M - i) ⟨B, O + J * 11, none⟩ (L.length - J) (c - J) (M - i) (cellsAll (L.drop J)) (Nat.min_eq_right (by have := HM.out; omega)).symm (by have := HM.out; omega) (fun j v hj => lies_news (lies_drop hL1 J) j v hj) (fun j hj => hR1.c _ (by have := HM.out; omega)) (fun j hj => hR1.z _) (cellsAll_one' _)
      have HJ : Hid _ := hJ
      clear hJ
      have yL : Lies (Wx.drew.setCells G (i * 11) (cellsAll (L.drop J))) (some ⟨G, 0, none⟩) (L.take i ++ L.drop J) := by
        have e := lies_copy (W := Wx.drew) (n := M) (A := L.take i) (C := L.drop J) ⟨hA1.place, fun B O e i hi => (hA1.cells B O e i hi).of fun _ => rfl⟩ ⟨fun j hj => hR1.c j hj, fun j => hR1.z j, hR1.lt⟩ (by rw [List.length_take, List.length_drop]; have := HM.out; omega)
        rw [List.length_take, Nat.min_eq_left (by have := HM.out; omega)] at e
        exact e
      have yR : Room (Wx.drew.setCells G (i * 11) (cellsAll (L.drop J))) G M := room_setAll ⟨fun j hj => hR1.c j hj, fun j => hR1.z j, hR1.lt⟩ (by have := HM.out; omega)
      have yK : (Wx.drew.setCells G (i * 11) (cellsAll (L.drop J))).heap[D]? = some (.deferred (some [])) := ((grownBy_setCells Wx.drew G (i * 11) (cellsAll (L.drop J))).block D (Nat.lt_trans hDlt hs1) (by simp; omega)).trans hK1
      have yB : Below w.heap.size w (Wx.drew.setCells G (i * 11) (cellsAll (L.drop J))) := below_setAll hB1.drew hsz
      have y1 : (Wx.drew.setCells G (i * 11) (cellsAll (L.drop J))).cell? ⟨w.heap.size, 0, none⟩ = some (.slice none 0 0) := (World.cell?_setCells_out _ _ _ _ _ (fun e => by have : w.heap.size = G := e; simp at hD; omega)).trans d1
      have y2 : (Wx.drew.setCells G (i * 11) (cellsAll (L.drop J))).cell? ⟨w.heap.size + 1, 0, none⟩ = some (.bool false) := (World.cell?_setCells_out _ _ _ _ _ (fun e => by have : w.heap.size + 1 = G := e; simp at hD; omega)).trans d2
      have z1 : (Wx.drew.setCells G (i * 11) (cellsAll (L.drop J))).frozen? ⟨w.heap.size, 0, none⟩ = false := (World.frozen?_setCells _ _ _ _ _).trans g1
      have z2 : (Wx.drew.setCells G (i * 11) (cellsAll (L.drop J))).frozen? ⟨w.heap.size + 1, 0, none⟩ = false := (World.frozen?_setCells _ _ _ _ _).trans g2
      gi_region_o
      generalize hYY : Wx.drew.setCells G (i * 11) (cellsAll (L.drop J)) = Y at yL yR yK yB y1 y2 z1 z2 ⊢
      have hYs : Y.heap.size = Wx.heap.size := by rw [← hYY]; rw [size_setCells]; rfl
      clear hYY hcp2
      have hn : ¬ w.heap.size = w.heap.size + 1 := by omega
      gi_wp2
      have hK' := (KeepsOthers.setCell (Y.setCell ⟨w.heap.size, 0, none⟩ (.slice (some ⟨G, 0, none⟩) M M)) ⟨w.heap.size + 1, 0, none⟩ (.bool true)).same D _ ((KeepsOthers.setCell Y ⟨w.heap.size, 0, none⟩ (.slice (some ⟨G, 0, none⟩) M M)).same D _ yK rfl) rfl
      refine ⟨by simp, .inl ⟨_, _, rfl, run_takeDeferred hK', ?_⟩⟩
      have e1 : ((Y.setCell ⟨w.heap.size, 0, none⟩ (.slice (some ⟨G, 0, none⟩) M M)).setCell ⟨w.heap.size + 1, 0, none⟩ (.bool true)).cell? ⟨w.heap.size, 0, none⟩ = some (.slice (some ⟨G, 0, none⟩) M M) := by go_simp
      have e2 : ((Y.setCell ⟨w.heap.size, 0, none⟩ (.slice (some ⟨G, 0, none⟩) M M)).setCell ⟨w.heap.size + 1, 0, none⟩ (.bool true)).cell? ⟨w.heap.size + 1, 0, none⟩ = some (.bool true) := by go_simp
      have hgp := grownBy_putObj' ((Y.setCell ⟨w.heap.size, 0, none⟩ (.slice (some ⟨G, 0, none⟩) M M)).setCell ⟨w.heap.size + 1, 0, none⟩ (.bool true)) D (.deferred none)
      have hc3 := cell_kept e1 hgp (fun r e => by cases e; exact ⟨_, hK', rfl⟩)
      have hc4 := cell_kept e2 hgp (fun r e => by cases e; exact ⟨_, hK', rfl⟩)
      have hM' : L.length - 1 = M := by have := HM.out; omega
      refine ⟨.tuple #[.slice (some ⟨G, 0, none⟩) M M, .bool true], ?_, G, by rw [hM'], by omega, ?_, ?_, ?_⟩
      · simp [results, Try.f10, go_sem, hc3, hc4]
      · rw [hM']; exact room_grown (room_far (room_far yR (by omega)) (by omega)) hgp (by simp; omega)
      · rw [HJ.out]; exact lies_grown (liesSet (liesSet yL _ _ _ (fun B' O' e => by cases e; omega)) _ _ _ (fun B' O' e => by cases e; omega)) hgp (by simp; omega) (by simp; omega)
      · exact ((yB.setCell (p := ⟨w.heap.size, 0, none⟩) (Nat.le_refl _) _).setCell (p := ⟨w.heap.size + 1, 0, none⟩) (by simp) _).trans (belowK_b (w := w) (Nat.le_refl _) _ D _ _ (by simp at hD; omega) hK' rfl rfl)
    · have hq0 : M - i = 0 := by omega
      have hq1 : (M : Int) - (i : Int) = 0 := by omega
      have hLJ : L.length - J = 0 := by have := HM.out; omega
      have hw1 : IntKind.i64.wrap ((i : Int) + 1) = (J : Int) := by rw [wrap_in (by omega) (by omega)]; exact hJ1
      have HJ : Hid _ := hJ
      clear hJ
      by_cases hcJ : c ≤ J
      · have hp0 : c - J = 0 := by omega
        have hp1 : (c : Int) - (J : Int) = 0 := by omega
        have hcp2 := run_copy11 Wx.drew 3 G 0 0 0 ⟨B, O, none⟩ 0 0 0 [] rfl rfl (fun j v hj => by simp at hj) (fun j hj => by simp at hj) (fun j hj => by simp at hj) (fun v hv => by simp at hv)
        simp only [World.setCells] at hcp2
        have yL : Lies Wx.drew (some ⟨G, 0, none⟩) (L.take i ++ L.drop J) := by
          rw [List.drop_eq_nil_of_le (by have := HM.out; omega), List.append_nil]
          exact ⟨hA1.place, fun B O e i hi => (hA1.cells B O e i hi).of fun _ => rfl⟩
        have yR : Room Wx.drew G M := ⟨fun j hj => hR1.c j hj, fun j => hR1.z j, hR1.lt⟩
        have yK : Wx.drew.heap[D]? = some (.deferred (some [])) := hK1
        have yB : Below w.heap.size w Wx.drew := hB1.drew
        have y1 : Wx.drew.cell? ⟨w.heap.size, 0, none⟩ = some (.slice none 0 0) := d1
        have y2 : Wx.drew.cell? ⟨w.heap.size + 1, 0, none⟩ = some (.bool false) := d2
        have z1 : Wx.drew.frozen? ⟨w.heap.size, 0, none⟩ = false := g1
        have z2 : Wx.drew.frozen? ⟨w.heap.size + 1, 0, none⟩ = false := g2
        gi_region_o
        generalize hYY : Wx.drew = Y at yL yR yK yB y1 y2 z1 z2 ⊢
        have hYs : Y.heap.size = Wx.heap.size := by rw [← hYY]; rfl
        clear hYY hcp2
        have hn : ¬ w.heap.size = w.heap.size + 1 := by omega
        gi_wp2
        have hK' := (KeepsOthers.setCell (Y.setCell ⟨w.heap.size, 0, none⟩ (.slice (some ⟨G, 0, none⟩) M M)) ⟨w.heap.size + 1, 0, none⟩ (.bool true)).same D _ ((KeepsOthers.setCell Y ⟨w.heap.size, 0, none⟩ (.slice (some ⟨G, 0, none⟩) M M)).same D _ yK rfl) rfl
        refine ⟨by simp, .inl ⟨_, _, rfl, run_takeDeferred hK', ?_⟩⟩
        have e1 : ((Y.setCell ⟨w.heap.size, 0, none⟩ (.slice (some ⟨G, 0, none⟩) M M)).setCell ⟨w.heap.size + 1, 0, none⟩ (.bool true)).cell? ⟨w.heap.size, 0, none⟩ = some (.slice (some ⟨G, 0, none⟩) M M) := by go_simp
        have e2 : ((Y.setCell ⟨w.heap.size, 0, none⟩ (.slice (some ⟨G, 0, none⟩) M M)).setCell ⟨w.heap.size + 1, 0, none⟩ (.bool true)).cell? ⟨w.heap.size + 1, 0, none⟩ = some (.bool true) := by go_simp
        have hgp := grownBy_putObj' ((Y.setCell ⟨w.heap.size, 0, none⟩ (.slice (some ⟨G, 0, none⟩) M M)).setCell ⟨w.heap.size + 1, 0, none⟩ (.bool true)) D (.deferred none)
        have hc3 := cell_kept e1 hgp (fun r e => by cases e; exact ⟨_, hK', rfl⟩)
        have hc4 := cell_kept e2 hgp (fun r e => by cases e; exact ⟨_, hK', rfl⟩)
        have hM' : L.length - 1 = M := by have := HM.out; omega
        refine ⟨.tuple #[.slice (some ⟨G, 0, none⟩) M M, .bool true], ?_, G, by rw [hM'], by omega, ?_, ?_, ?_⟩
        · simp [results, Try.f10, go_sem, hc3, hc4]
        · rw [hM']; exact room_grown (room_far (room_far yR (by omega)) (by omega)) hgp (by simp; omega)
        · rw [HJ.out]; exact lies_grown (liesSet (liesSet yL _ _ _ (fun B' O' e => by cases e; omega)) _ _ _ (fun B' O' e => by cases e; omega)) hgp (by simp; omega) (by simp; omega)
        · exact ((yB.setCell (p := ⟨w.heap.size, 0, none⟩) (Nat.le_refl _) _).setCell (p := ⟨w.heap.size + 1, 0, none⟩) (by simp) _).trans (belowK_b (w := w) (Nat.le_refl _) _ D _ _ (by simp at hD; omega) hK' rfl rfl)
      · have hp0 : ¬ c - J = 0 := by omega
        have hp1 : ¬ (c : Int) - (J : Int) = 0 := by omega
        have hp2 : ¬ c = J := by omega
        have hcp2 := run_copy11 Wx.drew 3 G 0 0 0 ⟨B, O + J * 11, none⟩ 0 (c - J) 0 [] rfl rfl (fun j v hj => by simp at hj) (fun j hj => by simp at hj) (fun j hj => by simp at hj) (fun v hv => by simp at hv)
        simp only [World.setCells] at hcp2
        have yL : Lies Wx.drew (some ⟨G, 0, none⟩) (L.take i ++ L.drop J) := by
          rw [List.drop_eq_nil_of_le (by have := HM.out; omega), List.append_nil]
          exact ⟨hA1.place, fun B O e i hi => (hA1.cells B O e i hi).of fun _ => rfl⟩
        have yR : Room Wx.drew G M := ⟨fun j hj => hR1.c j hj, fun j => hR1.z j, hR1.lt⟩
        have yK : Wx.drew.heap[D]? = some (.deferred (some [])) := hK1
        have yB : Below w.heap.size w Wx.drew := hB1.drew
        have y1 : Wx.drew.cell? ⟨w.heap.size, 0, none⟩ = some (.slice none 0 0) := d1
        have y2 : Wx.drew.cell? ⟨w.heap.size + 1, 0, none⟩ = some (.bool false) := d2
        have z1 : Wx.drew.frozen? ⟨w.heap.size, 0, none⟩ = false := g1
        have z2 : Wx.drew.frozen? ⟨w.heap.size + 1, 0, none⟩ = false := g2
        gi_region_o
        generalize hYY : Wx.drew = Y at yL yR yK yB y1 y2 z1 z2 ⊢
        have hYs : Y.heap.size = Wx.heap.size := by rw [← hYY]; rfl
        clear hYY hcp2
        have hn : ¬ w.heap.size = w.heap.size + 1 := by omega
        gi_wp2
        have hK' := (KeepsOthers.setCell (Y.setCell ⟨w.heap.size, 0, none⟩ (.slice (some ⟨G, 0, none⟩) M M)) ⟨w.heap.size + 1, 0, none⟩ (.bool true)).same D _ ((KeepsOthers.setCell Y ⟨w.heap.size, 0, none⟩ (.slice (some ⟨G, 0, none⟩) M M)).same D _ yK rfl) rfl
        refine ⟨by simp, .inl ⟨_, _, rfl, run_takeDeferred hK', ?_⟩⟩
        have e1 : ((Y.setCell ⟨w.heap.size, 0, none⟩ (.slice (some ⟨G, 0, none⟩) M M)).setCell ⟨w.heap.size + 1, 0, none⟩ (.bool true)).cell? ⟨w.heap.size, 0, none⟩ = some (.slice (some ⟨G, 0, none⟩) M M) := by go_simp
        have e2 : ((Y.setCell ⟨w.heap.size, 0, none⟩ (.slice (some ⟨G, 0, none⟩) M M)).setCell ⟨w.heap.size + 1, 0, none⟩ (.bool true)).cell? ⟨w.heap.size + 1, 0, none⟩ = some (.bool true) := by go_simp
        have hgp := grownBy_putObj' ((Y.setCell ⟨w.heap.size, 0, none⟩ (.slice (some ⟨G, 0, none⟩) M M)).setCell ⟨w.heap.size + 1, 0, none⟩ (.bool true)) D (.deferred none)
        have hc3 := cell_kept e1 hgp (fun r e => by cases e; exact ⟨_, hK', rfl⟩)
        have hc4 := cell_kept e2 hgp (fun r e => by cases e; exact ⟨_, hK', rfl⟩)
        have hM' : L.length - 1 = M := by have := HM.out; omega
        refine ⟨.tuple #[.slice (some ⟨G, 0, none⟩) M M, .bool true], ?_, G, by rw [hM'], by omega, ?_, ?_, ?_⟩
        · simp [results, Try.f10, go_sem, hc3, hc4]
        · rw [hM']; exact room_grown (room_far (room_far yR (by omega)) (by omega)) hgp (by simp; omega)
        · rw [HJ.out]; exact lies_grown (liesSet (liesSet yL _ _ _ (fun B' O' e => by cases e; omega)) _ _ _ (fun B' O' e => by cases e; omega)) hgp (by simp; omega) (by simp; omega)
        · exact ((yB.setCell (p := ⟨w.heap.size, 0, none⟩) (Nat.le_refl _) _).setCell (p := ⟨w.heap.size + 1, 0, none⟩) (by simp) _).trans (belowK_b (w := w) (Nat.le_refl _) _ D _ _ (by simp at hD; omega) hK' rfl rfl)
  case stop =>
    rintro D c' pre W hD hpre ⟨⟨rfl, hne, _⟩, _⟩ _
    exfalso
    rw [hr] at hpre
    have := hpre.length_le
    simp at this
    exact hne this

end Go.Proofs.Ytalncgmncafhjaa
