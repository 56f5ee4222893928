/-
  What TreeEnd of the program answers.
-/
import Derived.Test.YtalncgmncafhjaaWalks
namespace Go.Proofs.Ytalncgmncafhjaa
open Go.RowKit Go.Shelf
set_option linter.unusedVariables false

attribute [local go_sem] Oper.semAt_some

/-- The last that has come, or where the walk began. -/
def lastN (i : Nat) (pre : List Nat) : Nat := pre.getLast?.getD i
theorem lastN_snoc (i : Nat) (pre : List Nat) (x : Nat) : lastN i (pre ++ [x]) = x := by simp [lastN]
theorem lastN_range (i r : Nat) : lastN i (List.range' (i + 1) r) = i + r := by
  cases r with
  | zero => rfl
  | succ r => rw [List.range'_concat, lastN_snoc]; omega

theorem cell_new (W : World) (v : Value) (t : TypeId) : (W.alloc (.cells #[v] t)).cell? ⟨W.heap.size, 0, none⟩ = some v ∧ (W.alloc (.cells #[v] t)).frozen? ⟨W.heap.size, 0, none⟩ = false := by
  constructor <;> go_simp

set_option maxRecDepth 100000 in
set_option maxHeartbeats 2000000 in
theorem treeEndImpl_none (P : Option Addr) (c : Nat) (i : Int) (L : List Sl) (w : World) (hl : L.length ≤ 1048576) (hcap : L.length ≤ c) (hcm : c ≤ 9223372036854775807) (h : Lies w P L) (hfit : ∀ s ∈ L, s.Fit) (ht : (treeB L && placeB L.length i) = false) :
    Calls Try.prog 13 #[.slice P L.length c, .int .i64 i] w fun e w' => e = .returned (.int .i64 (-1)) ∧ Below w.heap.size w w' := by
  refine (callsIn_wide (n := 5)).1 ?_
  refine callsIn_of_wp_marks Try.func13 rfl trivial ?_ rfl
  simp only [Try.ntmps13, List.size_toArray, List.length_cons, List.length_nil, Nat.reduceAdd, Nat.reduceSub, Array.replicate_succ, Array.replicate_zero, List.push_toArray, List.append_toArray, List.nil_append, List.cons_append]
  gi_wp2_with (refine ⟨trivial, ?_⟩; gi_at_call 27; refine (callsIn_wide.2 (linkAt_none _ _ _ L _ hl hcap hcm h hfit ht)).mono ?_; rintro e w1 ⟨rfl, hb1⟩)
  exact ⟨_, results_tmp rfl _ _ _, rfl, hb1⟩

set_option maxRecDepth 100000 in
set_option maxHeartbeats 2000000 in
theorem treeEndImpl_some (P : Option Addr) (c i : Nat) (L : List Sl) (w : World) (hl : L.length ≤ 1048576) (hcap : L.length ≤ c) (hcm : c ≤ 9223372036854775807) (h : Lies w P L) (hfit : ∀ s ∈ L, s.Fit) (ht : treeB L = true) (hi : i < L.length) (r : Nat) (hr2 : runN L[i].p (L.drop (i + 1)) = r) :
    Calls Try.prog 13 #[.slice P L.length c, .int .i64 (i : Int)] w fun e w' => e = .returned (.int .i64 ((i + r + 1 : Nat) : Int)) ∧ Below w.heap.size w w' := by
  have HR : Hid _ := hr2
  clear hr2
  refine (callsIn_wide (n := 5)).1 ?_
  refine callsIn_of_wp_marks Try.func13 rfl trivial ?_ rfl
  simp only [Try.ntmps13, List.size_toArray, List.length_cons, List.length_nil, Nat.reduceAdd, Nat.reduceSub, Array.replicate_succ, Array.replicate_zero, List.push_toArray, List.append_toArray, List.nil_append, List.cons_append]
  gi_wp2_with (first
    | (refine ⟨trivial, ?_⟩; gi_at_call 27; refine (callsIn_wide.2 (linkAt_some _ _ _ L _ hl hcap hcm h hfit ht hi)).mono ?_; rintro e w1 ⟨N, hN, rfl, hK, hb1⟩)
    | (refine ⟨trivial, ?_⟩; gi_at_call 28; refine (below_in _ _ _).mono ?_; rintro e w2 ⟨rfl, rfl⟩))
  have hNlt := hK.lt
  have hB0 : Below w1.heap.size w1 ((w1.alloc (.cells #[.pointer (some ⟨N, i * 4, none⟩)] 49)).alloc (.cells #[.pointer (some ⟨N, i * 4, none⟩)] 49)) := ((Below.refl _ w1).alloc (Nat.le_refl _) _).alloc (by simp) _
  have c0 := cell_new w1 (.pointer (some ⟨N, i * 4, none⟩)) 49
  have c1 := cell_new (w1.alloc (.cells #[.pointer (some ⟨N, i * 4, none⟩)] 49)) (.pointer (some ⟨N, i * 4, none⟩)) 49
  rw [World.size_alloc] at c1
  have hb2 : Below (w1.heap.size + 1) (w1.alloc (.cells #[.pointer (some ⟨N, i * 4, none⟩)] 49)) ((w1.alloc (.cells #[.pointer (some ⟨N, i * 4, none⟩)] 49)).alloc (.cells #[.pointer (some ⟨N, i * 4, none⟩)] 49)) := (Below.refl _ _).alloc (by simp) _
  have c0' := (hb2.cell (p := ⟨w1.heap.size, 0, none⟩) (Nat.lt_succ_self _)).trans c0.1
  have f0' := (hb2.frozen (p := ⟨w1.heap.size, 0, none⟩) (Nat.lt_succ_self _)).trans c0.2
  refine wpIn_rangeFunc_ownF rfl (by omega) (gf := 44) (lb := #[.pointer (some ⟨w1.heap.size + 1, 0, none⟩)]) rfl trivial (enters_of Try.func44 (by kernel_rfl) rfl)
    (below_stops 4 (by omega) (w1.heap.size + 1) N i L hi _ (by simp) (by simp; omega) c1.1 (hK.linked.keep (keep2_below (Bn := N) hB0 hNlt hNlt)))
    (fun a b => Keep2.trans a b) (keep2_put (n₀ := w1.heap.size + 1 + 1) (by simp) (by omega) (by omega)) (Below.refl _ _) (fun _ => rfl)
    (fun pre W => (W.cell? ⟨w1.heap.size, 0, none⟩ = some (.pointer (some ⟨N, lastN i (pre.map Fin.val) * 4, none⟩)) ∧ W.frozen? ⟨w1.heap.size, 0, none⟩ = false) ∧ Below w1.heap.size w1 W)
    (fun _ _ _ => False)
    (OwnFrom.and (Own.from (fun s A B row hs hg hr => ⟨cell_kept hs.1 hg hr, (frozen_kept hs.1 hg hr).trans hs.2⟩) _) (ownFrom_below (Nat.le_refl _) (by simp; omega)))
    (fun _ _ _ _ _ hs _ _ => hs)
    ⟨⟨c0', f0'⟩, hB0⟩
    (fun x => { tmps := #[.slice P L.length c, .int .i64 i, undef, undef, .int .i64 0, .pointer (some ⟨N, i * 4, none⟩), .pointer (some ⟨w1.heap.size, 0, none⟩), .pointer (some ⟨N, x.val * 4, none⟩), .slice P L.length c, .int .i64 i, .pointer (some ⟨N, i * 4, none⟩), .pointer (some ⟨N, i * 4, none⟩), .bool false, .pointer (some ⟨N, i * 4, none⟩), .pointer (some ⟨N, i * 4, none⟩), .func (.func 44) #[] #[.pointer (some ⟨w1.heap.size + 1, 0, none⟩)], .pointer (some ⟨N, x.val * 4, none⟩), undef, undef, undef, undef, undef, undef], defers := [] }) ?assign ?body ?done ?stop
  case assign =>
    intro l x W K hK
    gi_wp2
    exact hK
  case body =>
    rintro l pre x W ⟨⟨hc, hf⟩, hB⟩ _
    gi_wp2
    refine ⟨KeepsOthers.setCell _ _ _, fun o => ⟨World.cell?_setCell_far _ _ _ _ (by simp; omega), World.cell?_setCell_far _ _ _ _ (by simp)⟩, ⟨?_, ?_⟩, hB.setCell (p := ⟨w1.heap.size, 0, none⟩) (Nat.le_refl _) _⟩
    · rw [List.map_append, List.map_cons, List.map_nil, lastN_snoc]
      exact World.cell?_setCell_same' _ _ _ (by rw [hc]; rfl)
    · rw [World.frozen?_setCell]; exact hf
  case done =>
    rintro D ys W hD hys ⟨⟨hc, hf⟩, hB⟩ hK2
    rw [hys, lastN_range] at hc
    have hr := runN_le L[i].p (L.drop (i + 1))
    rw [List.length_drop] at hr
    rw [HR.out] at hc hr
    have hp := (hK.linked.keep (keep2_below (Bn := N) hB hNlt hNlt)).place (i + r) (by omega)
    have hir : i + r ≤ 1048576 := by omega
    gi_wp2
    refine ⟨by simp, .inl ⟨_, _, rfl, run_takeDeferred hK2, ?_⟩⟩
    refine ⟨_, results_tmp rfl _ _ _, ?_, ?_⟩
    · exact ret_int (by omega)
    · exact hb1.trans ((hB.trans (belowK_b (w := w1) (Nat.le_refl _) W D _ _ (by simp at hD; omega) hK2 rfl rfl)).mono hb1.size)
  case stop =>
    rintro D c pre W _ _ h _
    exact h.elim

end Go.Proofs.Ytalncgmncafhjaa
