/-
  What TreeUp of the program answers.
-/
import Derived.Test.YtalncgmncafhjaaUps
namespace Go.Proofs.Ytalncgmncafhjaa
open Go.RowKit Go.Shelf
set_option linter.unusedVariables false

attribute [local go_sem] Oper.semAt_some

/-- What a slot came of: the first of those, or -1. -/
def headI : List Nat → Int
  | [] => -1
  | x :: _ => (x : Int)

set_option maxRecDepth 100000 in
set_option maxHeartbeats 2000000 in
theorem treeUpImpl_none (P : Option Addr) (c : Nat) (i : Int) (L : List Sl) (w : World) (hl : L.length ≤ 1048576) (hcap : L.length ≤ c) (hcm : c ≤ 9223372036854775807) (h : Lies w P L) (hfit : ∀ s ∈ L, s.Fit) (ht : (treeB L && placeB L.length i) = false) :
    Calls Try.prog 12 #[.slice P L.length c, .int .i64 i] w fun e w' => e = .returned (.int .i64 (-1)) ∧ Below w.heap.size w w' := by
  have hb0 : Below w.heap.size w (w.alloc (.cells #[.int .i64 0] 3)) := (Below.refl _ _).alloc (Nat.le_refl _) _
  have h0 := h.below hb0
  have cr := cell_new w (.int .i64 0) 3
  refine (callsIn_wide (n := 5)).1 ?_
  refine callsIn_of_wp_marks Try.func12 rfl trivial ?_ rfl
  simp only [Try.ntmps12, List.size_toArray, List.length_cons, List.length_nil, Nat.reduceAdd, Nat.reduceSub, Array.replicate_succ, Array.replicate_zero, List.push_toArray, List.append_toArray, List.nil_append, List.cons_append]
  gi_wp2_with (refine ⟨trivial, ?_⟩; gi_at_call 27; refine (callsIn_wide.2 (linkAt_none _ _ _ L _ hl hcap hcm h0 hfit ht)).mono ?_; rintro e w1 ⟨rfl, hb1⟩; have c1 := (hb1.cell (p := ⟨w.heap.size, 0, none⟩) (by simp)).trans cr.1; have f1 := (hb1.frozen (p := ⟨w.heap.size, 0, none⟩) (by simp)).trans cr.2)
  refine ⟨.int .i64 (-1), ?_, rfl, (hb0.trans (hb1.mono (by simp))).setCell (Nat.le_refl _) _⟩
  have c2 := World.cell?_setCell_same' w1 ⟨w.heap.size, 0, none⟩ (.int .i64 (-1)) (by rw [c1]; rfl)
  simp [results, Try.f12, go_sem, c2]

set_option maxRecDepth 100000 in
set_option maxHeartbeats 2000000 in
theorem treeUpImpl_some (P : Option Addr) (c i : Nat) (L : List Sl) (w : World) (hl : L.length ≤ 1048576) (hcap : L.length ≤ c) (hcm : c ≤ 9223372036854775807) (h : Lies w P L) (hfit : ∀ s ∈ L, s.Fit) (ht : treeB L = true) (hi : i < L.length) :
    Calls Try.prog 12 #[.slice P L.length c, .int .i64 (i : Int)] w fun e w' => e = .returned (.int .i64 (headI (ups (depN L) (depN L i) i))) ∧ Below w.heap.size w w' := by
  have hb0 : Below w.heap.size w (w.alloc (.cells #[.int .i64 0] 3)) := (Below.refl _ _).alloc (Nat.le_refl _) _
  have h0 := h.below hb0
  have cr := cell_new w (.int .i64 0) 3
  refine (callsIn_wide (n := 5)).1 ?_
  refine callsIn_of_wp_marks Try.func12 rfl trivial ?_ rfl
  simp only [Try.ntmps12, List.size_toArray, List.length_cons, List.length_nil, Nat.reduceAdd, Nat.reduceSub, Array.replicate_succ, Array.replicate_zero, List.push_toArray, List.append_toArray, List.nil_append, List.cons_append]
  gi_wp2_with (first
    | (refine ⟨trivial, ?_⟩; gi_at_call 27; refine (callsIn_wide.2 (linkAt_some _ _ _ L _ hl hcap hcm h0 hfit ht hi)).mono ?_; rintro e w1 ⟨N, hN, rfl, hK, hb1⟩)
    | (refine ⟨trivial, ?_⟩; gi_at_call 32; refine (above_in _ _ _).mono ?_; rintro e w2 ⟨rfl, rfl⟩))
  have hNlt := hK.lt
  rw [World.size_alloc] at hN
  have hRlt : w.heap.size < w1.heap.size := by have := hb1.size; simp at this; omega
  have hW1 : Below w.heap.size w w1 := hb0.trans (hb1.mono (by simp))
  have cR := (hb1.cell (p := ⟨w.heap.size, 0, none⟩) (by simp)).trans cr.1
  have fR := (hb1.frozen (p := ⟨w.heap.size, 0, none⟩) (by simp)).trans cr.2
  have hB0 : Below w1.heap.size w1 (w1.alloc (.cells #[.pointer (some ⟨N, i * 4, none⟩)] 49)) := (Below.refl _ w1).alloc (Nat.le_refl _) _
  have c1 := cell_new w1 (.pointer (some ⟨N, i * 4, none⟩)) 49
  have cR' := (hB0.cell (p := ⟨w.heap.size, 0, none⟩) hRlt).trans cR
  have fR' := (hB0.frozen (p := ⟨w.heap.size, 0, none⟩) hRlt).trans fR
  have hLk0 := hK.linked.keep (keep2_below (Bn := N) hB0 hNlt hNlt)
  refine wpIn_rangeFunc_ownF rfl (by omega) (gf := 51) (lb := #[.pointer (some ⟨w1.heap.size, 0, none⟩)]) rfl trivial (enters_of Try.func51 (by kernel_rfl) rfl)
    (above_stops 4 (by omega) w1.heap.size N i L hi _ (by simp) (by simp; omega) c1.1 hLk0)
    (fun a b => Keep2.trans a b) (keep2_put (n₀ := w1.heap.size + 1) (by simp) (by omega) (by omega)) (Below.refl _ _) (fun _ => rfl)
    (fun pre W => (pre = [] ∧ W.cell? ⟨w.heap.size, 0, none⟩ = some (.int .i64 0) ∧ W.frozen? ⟨w.heap.size, 0, none⟩ = false ∧ (∀ j, j < L.length → W.cell? ⟨N, j * 4, none⟩ = some (.int .i64 (j : Nat)))) ∧ Below w.heap.size w W)
    (fun c pre W => (c = .ret ∧ ∃ x : Fin L.length, pre = [x] ∧ W.cell? ⟨w.heap.size, 0, none⟩ = some (.int .i64 (x.val : Int))) ∧ Below w.heap.size w W)
    (OwnFrom.and (Own.from (fun s A B row hs hg hr => ⟨hs.1, cell_kept hs.2.1 hg hr, (frozen_kept hs.2.1 hg hr).trans hs.2.2.1, fun j hj => cell_kept (hs.2.2.2 j hj) hg hr⟩) _) (ownFrom_below (Nat.le_refl _) (by simp; omega)))
    (fun c => OwnFrom.and (Own.from (fun s A B row hs hg hr => ⟨hs.1, by obtain ⟨x, e1, e2⟩ := hs.2; exact ⟨x, e1, cell_kept e2 hg hr⟩⟩) _) (ownFrom_below (Nat.le_refl _) (by simp; omega)))
    ⟨⟨rfl, cR', fR', hLk0.place⟩, hW1.trans (hB0.mono hW1.size)⟩
    (fun x => { tmps := #[.slice P L.length c, .int .i64 i, undef, undef, .pointer (some ⟨w.heap.size, 0, none⟩), .pointer (some ⟨N, i * 4, none⟩), .pointer (some ⟨N, x.val * 4, none⟩), .slice P L.length c, .int .i64 i, .pointer (some ⟨N, i * 4, none⟩), .pointer (some ⟨N, i * 4, none⟩), .bool false, .pointer (some ⟨N, i * 4, none⟩), .func (.func 51) #[] #[.pointer (some ⟨w1.heap.size, 0, none⟩)], .pointer (some ⟨N, x.val * 4, none⟩), undef, undef, undef, undef], defers := [] }) ?assign ?body ?done ?stop
  case assign =>
    intro l x W K hK
    gi_wp2
    exact hK
  case body =>
    rintro l pre x W ⟨⟨rfl, hc, hf, hp⟩, hB⟩ _
    have hpx := hp x.val x.isLt
    gi_wp2
    exact ⟨KeepsOthers.setCell _ _ _, ⟨rfl, x, rfl, World.cell?_setCell_same' _ _ _ (by rw [hc]; rfl)⟩, hB.setCell (p := ⟨w.heap.size, 0, none⟩) (Nat.le_refl _) _⟩
  case done =>
    rintro D ys W hD hys ⟨⟨rfl, hc, hf, hp⟩, hB⟩ hK2
    have HY : Hid _ := hys
    clear hys
    gi_wp2
    have hK' := (KeepsOthers.setCell W ⟨w.heap.size, 0, none⟩ (.int .i64 (-1))).same D _ hK2 rfl
    refine ⟨by simp, .inl ⟨_, _, rfl, run_takeDeferred hK', ?_⟩⟩
    have hc5 := cell_kept (World.cell?_setCell_same' W ⟨w.heap.size, 0, none⟩ (.int .i64 (-1)) (by rw [hc]; rfl)) (grownBy_putObj' _ D (.deferred none)) (fun r e => by cases e; exact ⟨_, hK', rfl⟩)
    refine ⟨.int .i64 (-1), ?_, by rw [← HY.out]; rfl, (hB.setCell (p := ⟨w.heap.size, 0, none⟩) (Nat.le_refl _) _).trans (belowK_b (w := w) (Nat.le_refl _) _ D _ _ (by simp at hD; omega) hK' rfl rfl)⟩
    simp [results, Try.f12, go_sem, hc5]
  case stop =>
    rintro D c' pre W hD hpre ⟨⟨rfl, x, rfl, hc⟩, hB⟩ hK2
    obtain ⟨rest, hrest⟩ := hpre
    have HY : Hid _ := hrest
    clear hrest
    gi_wp2
    refine ⟨by simp, .inl ⟨_, _, rfl, run_takeDeferred hK2, ?_⟩⟩
    have hc5 := cell_kept hc (grownBy_putObj' _ D (.deferred none)) (fun r e => by cases e; exact ⟨_, hK2, rfl⟩)
    refine ⟨.int .i64 (x.val : Int), ?_, by rw [← HY.out]; rfl, hB.trans (belowK_b (w := w) (Nat.le_refl _) W D _ _ (by simp at hD; omega) hK2 rfl rfl)⟩
    simp [results, Try.f12, go_sem, hc5]

end Go.Proofs.Ytalncgmncafhjaa
