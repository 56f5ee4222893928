/-
  Texts of the proof, put together: EndImpl, Climb, Ups, UpImpl, EndSpec, UpSpec, AboveSpec.
-/
import Derived.Test.YtalncgmncafhjaaWalks
import Derived.Deep.QuietTactic
import Derived.BigQuiet
/-
  What TreeEnd of the program answers.
-/
namespace Go.Proofs.Ytalncgmncafhjaa
open Go.RowKit Go.Shelf
set_option linter.unusedVariables false

attribute [local go_sem] Oper.semAt_some

/-- The last that has come, or where the walk began. -/
def lastN (i : Nat) (pre : List Nat) : Nat := pre.getLast?.getD i
theorem lastN_snoc (i : Nat) (pre : List Nat) (x : Nat) : lastN i (pre ++ [x]) = x := by simp [lastN]
theorem lastN_range (i r : Nat) : lastN i (List.range' (i + 1) r) = i + r := by
  cases r with
  | zero => rfl
  | succ r => rw [List.range'_concat, lastN_snoc]; omega

theorem cell_new (W : World) (v : Value) (t : TypeId) : (W.alloc (.cells #[v] t)).cell? ⟨W.heap.size, 0, none⟩ = some v ∧ (W.alloc (.cells #[v] t)).frozen? ⟨W.heap.size, 0, none⟩ = false := by
  constructor <;> go_simp

set_option maxRecDepth 100000 in
set_option maxHeartbeats 2000000 in
theorem treeEndImpl_none (P : Option Addr) (c : Nat) (i : Int) (L : List Sl) (w : World) (hl : L.length ≤ 1048576) (hcap : L.length ≤ c) (hcm : c ≤ 9223372036854775807) (h : Lies w P L) (hfit : ∀ s ∈ L, s.Fit) (ht : (treeB L && placeB L.length i) = false) :
    Calls Try.prog 13 #[.slice P L.length c, .int .i64 i] w fun e w' => e = .returned (.int .i64 (-1)) ∧ Below w.heap.size w w' := by
  refine (callsIn_wide (n := 5)).1 ?_
  refine callsIn_of_wp_marks Try.func13 rfl trivial ?_ rfl
  simp only [Try.ntmps13, List.size_toArray, List.length_cons, List.length_nil, Nat.reduceAdd, Nat.reduceSub, Array.replicate_succ, Array.replicate_zero, List.push_toArray, List.append_toArray, List.nil_append, List.cons_append]
  gi_wp2_with (refine ⟨trivial, ?_⟩; gi_at_call 27; refine (callsIn_wide.2 (linkAt_none _ _ _ L _ hl hcap hcm h hfit ht)).mono ?_; rintro e w1 ⟨rfl, hb1⟩)
  exact ⟨_, results_tmp rfl _ _ _, rfl, hb1⟩

set_option maxRecDepth 100000 in
set_option maxHeartbeats 2000000 in
theorem treeEndImpl_some (P : Option Addr) (c i : Nat) (L : List Sl) (w : World) (hl : L.length ≤ 1048576) (hcap : L.length ≤ c) (hcm : c ≤ 9223372036854775807) (h : Lies w P L) (hfit : ∀ s ∈ L, s.Fit) (ht : treeB L = true) (hi : i < L.length) (r : Nat) (hr2 : runN L[i].p (L.drop (i + 1)) = r) :
    Calls Try.prog 13 #[.slice P L.length c, .int .i64 (i : Int)] w fun e w' => e = .returned (.int .i64 ((i + r + 1 : Nat) : Int)) ∧ Below w.heap.size w w' := by
  have HR : Hid _ := hr2
  clear hr2
  refine (callsIn_wide (n := 5)).1 ?_
  refine callsIn_of_wp_marks Try.func13 rfl trivial ?_ rfl
  simp only [Try.ntmps13, List.size_toArray, List.length_cons, List.length_nil, Nat.reduceAdd, Nat.reduceSub, Array.replicate_succ, Array.replicate_zero, List.push_toArray, List.append_toArray, List.nil_append, List.cons_append]
  gi_wp2_with (first
    | (refine ⟨trivial, ?_⟩; gi_at_call 27; refine (callsIn_wide.2 (linkAt_some _ _ _ L _ hl hcap hcm h hfit ht hi)).mono ?_; rintro e w1 ⟨N, hN, rfl, hK, hb1⟩)
    | (refine ⟨trivial, ?_⟩; gi_at_call 28; refine (below_in _ _ _).mono ?_; rintro e w2 ⟨rfl, rfl⟩))
  have hNlt := hK.lt
  have hB0 : Below w1.heap.size w1 ((w1.alloc (.cells #[.pointer (some ⟨N, i * 4, none⟩)] 49)).alloc (.cells #[.pointer (some ⟨N, i * 4, none⟩)] 49)) := ((Below.refl _ w1).alloc (Nat.le_refl _) _).alloc (by simp) _
  have c0 := cell_new w1 (.pointer (some ⟨N, i * 4, none⟩)) 49
  have c1 := cell_new (w1.alloc (.cells #[.pointer (some ⟨N, i * 4, none⟩)] 49)) (.pointer (some ⟨N, i * 4, none⟩)) 49
  rw [World.size_alloc] at c1
  have hb2 : Below (w1.heap.size + 1) (w1.alloc (.cells #[.pointer (some ⟨N, i * 4, none⟩)] 49)) ((w1.alloc (.cells #[.pointer (some ⟨N, i * 4, none⟩)] 49)).alloc (.cells #[.pointer (some ⟨N, i * 4, none⟩)] 49)) := (Below.refl _ _).alloc (by simp) _
  have c0' := (hb2.cell (p := ⟨w1.heap.size, 0, none⟩) (Nat.lt_succ_self _)).trans c0.1
  have f0' := (hb2.frozen (p := ⟨w1.heap.size, 0, none⟩) (Nat.lt_succ_self _)).trans c0.2
  refine wpIn_rangeFunc_ownF rfl (by omega) (gf := 44) (lb := #[.pointer (some ⟨w1.heap.size + 1, 0, none⟩)]) rfl trivial (enters_of Try.func44 (by kernel_rfl) rfl)
    (below_stops 4 (by omega) (w1.heap.size + 1) N i L hi _ (by simp) (by simp; omega) c1.1 (hK.linked.keep (keep2_below (Bn := N) hB0 hNlt hNlt)))
    (fun a b => Keep2.trans a b) (keep2_put (n₀ := w1.heap.size + 1 + 1) (by simp) (by omega) (by omega)) (Below.refl _ _) (fun _ => rfl)
    (fun pre W => (W.cell? ⟨w1.heap.size, 0, none⟩ = some (.pointer (some ⟨N, lastN i (pre.map Fin.val) * 4, none⟩)) ∧ W.frozen? ⟨w1.heap.size, 0, none⟩ = false) ∧ Below w1.heap.size w1 W)
    (fun _ _ _ => False)
    (OwnFrom.and (Own.from (fun s A B row hs hg hr => ⟨cell_kept hs.1 hg hr, (frozen_kept hs.1 hg hr).trans hs.2⟩) _) (ownFrom_below (Nat.le_refl _) (by simp; omega)))
    (fun _ _ _ _ _ hs _ _ => hs)
    ⟨⟨c0', f0'⟩, hB0⟩
    (fun x => { tmps := #[.slice P L.length c, .int .i64 i, undef, undef, .int .i64 0, .pointer (some ⟨N, i * 4, none⟩), .pointer (some ⟨w1.heap.size, 0, none⟩), .pointer (some ⟨N, x.val * 4, none⟩), .slice P L.length c, .int .i64 i, .pointer (some ⟨N, i * 4, none⟩), .pointer (some ⟨N, i * 4, none⟩), .bool false, .pointer (some ⟨N, i * 4, none⟩), .pointer (some ⟨N, i * 4, none⟩), .func (.func 44) #[] #[.pointer (some ⟨w1.heap.size + 1, 0, none⟩)], .pointer (some ⟨N, x.val * 4, none⟩), undef, undef, undef, undef, undef, undef], defers := [] }) ?assign ?body ?done ?stop
  case assign =>
    intro l x W K hK
    gi_wp2
    exact hK
  case body =>
    rintro l pre x W ⟨⟨hc, hf⟩, hB⟩ _
    gi_wp2
    refine ⟨KeepsOthers.setCell _ _ _, fun o => ⟨World.cell?_setCell_far _ _ _ _ (by simp; omega), World.cell?_setCell_far _ _ _ _ (by simp)⟩, ⟨?_, ?_⟩, hB.setCell (p := ⟨w1.heap.size, 0, none⟩) (Nat.le_refl _) _⟩
    · rw [List.map_append, List.map_cons, List.map_nil, lastN_snoc]
      exact World.cell?_setCell_same' _ _ _ (by rw [hc]; rfl)
    · rw [World.frozen?_setCell]; exact hf
  case done =>
    rintro D ys W hD hys ⟨⟨hc, hf⟩, hB⟩ hK2
    rw [hys, lastN_range] at hc
    have hr := runN_le L[i].p (L.drop (i + 1))
    rw [List.length_drop] at hr
    rw [HR.out] at hc hr
    have hp := (hK.linked.keep (keep2_below (Bn := N) hB hNlt hNlt)).place (i + r) (by omega)
    have hir : i + r ≤ 1048576 := by omega
    gi_wp2
    refine ⟨by simp, .inl ⟨_, _, rfl, run_takeDeferred hK2, ?_⟩⟩
    refine ⟨_, results_tmp rfl _ _ _, ?_, ?_⟩
    · exact ret_int (by omega)
    · exact hb1.trans ((hB.trans (belowK_b (w := w1) (Nat.le_refl _) W D _ _ (by simp at hD; omega) hK2 rfl rfl)).mono hb1.size)
  case stop =>
    rintro D c pre W _ _ h _
    exact h.elim

end Go.Proofs.Ytalncgmncafhjaa
/-
  The first slot from which nothing came: the plain facts.
-/
namespace Go.Proofs.Ytalncgmncafhjaa
set_option linter.unusedVariables false

/-- The depth at a place. -/
def depN (L : List Sl) (j : Nat) : Int := ((L[j]?).map Sl.p).getD 0
theorem depN_at {L : List Sl} {j : Nat} (h : j < L.length) : depN L j = L[j].p := by simp [depN, List.getElem?_eq_getElem h]

/-- Each is deeper than the one ahead of it. -/
def climbs (f : Nat → Int) : Nat → List Nat → Prop
  | _, [] => True
  | a, x :: xs => f a < f x ∧ climbs f x xs
theorem climbs_snoc (f : Nat → Int) : ∀ (xs : List Nat) (a x : Nat), climbs f a (xs ++ [x]) ↔ climbs f a xs ∧ f (lastN a xs) < f x
  | [], a, x => by simp [climbs, lastN]
  | y :: ys, a, x => by
    have ih := climbs_snoc f ys y x
    have e : lastN a (y :: ys) = lastN y ys := by
      cases ys with
      | nil => rfl
      | cons z zs => simp [lastN, List.getLast?_cons]
    simp only [List.cons_append, climbs, ih, e, and_assoc]
theorem climbs_range (f : Nat → Int) (i : Nat) : ∀ k, climbs f i (List.range' (i + 1) k) ↔ ∀ t, t < k → f (i + t) < f (i + t + 1)
  | 0 => by simp [climbs]
  | k + 1 => by
    rw [List.range'_concat, climbs_snoc, climbs_range f i k, lastN_range]
    constructor
    · rintro ⟨h1, h2⟩ t ht
      rcases Nat.lt_succ_iff_lt_or_eq.1 ht with h | h
      · exact h1 t h
      · subst h
        have e : i + 1 + 1 * t = i + t + 1 := by omega
        rw [e] at h2
        exact h2
    · intro h
      refine ⟨fun t ht => h t (by omega), ?_⟩
      have e : i + 1 + 1 * k = i + k + 1 := by omega
      rw [e]
      exact h k (by omega)

/-- The first leaf is this many places on. -/
structure IsLeaf (L : List Sl) (i k : Nat) : Prop where
  up : ∀ t, t < k → depN L (i + t) < depN L (i + t + 1)
  inn : i + k < L.length
  top : i + k + 1 < L.length → depN L (i + k + 1) ≤ depN L (i + k)

theorem isLeaf_ex (L : List Sl) (i : Nat) (hi : i < L.length) : ∃ k, IsLeaf L i k := by
  suffices H : ∀ n k, i + k + n = L.length → 0 < n → (∀ t, t < k → depN L (i + t) < depN L (i + t + 1)) → ∃ k, IsLeaf L i k from H (L.length - i) 0 (by omega) (by omega) (fun t ht => absurd ht (by omega))
  intro n
  induction n with
  | zero => intro k _ h _; omega
  | succ n ih =>
    intro k hk _ hup
    by_cases h1 : i + k + 1 < L.length
    · by_cases h2 : depN L (i + k) < depN L (i + k + 1)
      · refine ih (k + 1) (by omega) (by omega) (fun t ht => ?_)
        rcases Nat.lt_succ_iff_lt_or_eq.1 ht with h | h
        · exact hup t h
        · subst h; exact h2
      · exact ⟨k, hup, by omega, fun _ => by omega⟩
    · exact ⟨k, hup, by omega, fun h => absurd h h1⟩

theorem climb_trans {f : Nat → Int} {i : Nat} : ∀ {k : Nat}, (∀ t, t < k → f (i + t) < f (i + t + 1)) → 0 < k → f i < f (i + k)
  | 0, _, h => absurd h (by omega)
  | 1, h, _ => h 0 (by omega)
  | k + 2, h, _ => by
    have h1 := climb_trans (k := k + 1) (fun t ht => h t (by omega)) (by omega)
    have h2 := h (k + 1) (by omega)
    exact Int.lt_trans h1 h2

/-- Where the walk ran out. -/
theorem leaf_done {L : List Sl} {i k r : Nat} (h : IsLeaf L i k) (hi : i < L.length) (hr : runN L[i].p (L.drop (i + 1)) = r) (hc : climbs (depN L) i (List.range' (i + 1) r)) : k = r := by
  rw [climbs_range] at hc
  have hle := runN_le L[i].p (L.drop (i + 1))
  rw [List.length_drop, hr] at hle
  rcases Nat.lt_trichotomy k r with hlt | heq | hgt
  · have h1 := hc k hlt
    have h2 := h.top (by omega)
    omega
  · exact heq
  · have hlen : r < (L.drop (i + 1)).length := by rw [List.length_drop]; have := h.inn; omega
    have hs := runN_stop L[i].p (L.drop (i + 1)) (by rw [hr]; exact hlen)
    simp only [hr, List.getElem_drop] at hs
    have h1 := climb_trans (f := depN L) (i := i) (k := r + 1) (fun t ht => h.up t (by omega)) (by omega)
    have hj : i + 1 + r < L.length := by rw [List.length_drop] at hlen; omega
    rw [show i + (r + 1) = i + 1 + r by omega, depN_at hi, depN_at hj] at h1
    omega

/-- Where the walk was left. -/
theorem leaf_stop {L : List Sl} {i k m : Nat} (h : IsLeaf L i k) (hc : climbs (depN L) i (List.range' (i + 1) m)) (hn : ¬ depN L (i + m) < depN L (i + m + 1)) (hm : i + m + 1 < L.length) : k = m := by
  rw [climbs_range] at hc
  rcases Nat.lt_trichotomy k m with hlt | heq | hgt
  · have h1 := hc k hlt
    have h2 := h.top (by omega)
    omega
  · exact heq
  · exact absurd (h.up m hgt) hn

theorem prefix_range' : ∀ (l : List Nat) (i r : Nat), l <+: List.range' i r → l = List.range' i l.length
  | [], _, _, _ => rfl
  | a :: t, i, 0, h => by simp at h
  | a :: t, i, r + 1, h => by
    rw [List.range'_succ] at h
    obtain ⟨h1, h2⟩ := List.cons_prefix_cons.1 h
    have := prefix_range' t (i + 1) r h2
    rw [List.length_cons, List.range'_succ, ← this, h1]
theorem prefix_snoc {i r : Nat} {ps : List Nat} {x : Nat} (h : ps ++ [x] <+: List.range' (i + 1) r) : ps = List.range' (i + 1) ps.length ∧ x = i + ps.length + 1 := by
  have e := prefix_range' _ _ _ h
  rw [List.length_append, List.length_singleton, List.range'_concat] at e
  obtain ⟨e1, e2⟩ := List.append_inj' e rfl
  refine ⟨e1, ?_⟩
  have := List.singleton_inj.1 e2
  omega

end Go.Proofs.Ytalncgmncafhjaa
/-
  What a slot came of, what that came of, and so on: the plain facts, and the walk through them.
-/
namespace Go.Proofs.Ytalncgmncafhjaa
open Go.RowKit Go.Shelf
set_option linter.unusedVariables false

attribute [local go_sem] Oper.semAt_some

/-- Going back from a place: each that is less deep than all that were met. -/
def ups (f : Nat → Int) (d : Int) : Nat → List Nat
  | 0 => []
  | j + 1 => if f j < d then j :: ups f (f j) j else ups f d j
theorem ups_zero (f : Nat → Int) (d : Int) : ups f d 0 = [] := rfl
theorem ups_yes {f : Nat → Int} {d : Int} {j : Nat} (h : f j < d) : ups f d (j + 1) = j :: ups f (f j) j := by rw [ups, if_pos h]
theorem ups_no {f : Nat → Int} {d : Int} {j : Nat} (h : ¬ f j < d) : ups f d (j + 1) = ups f d j := by rw [ups, if_neg h]
/-- It begins with what the slot came of, and goes on from there. -/
theorem ups_head (f : Nat → Int) (d : Int) : ∀ j, ups f d j = [] ∨ ∃ u, u < j ∧ ups f d j = u :: ups f (f u) u
  | 0 => .inl rfl
  | j + 1 => by
    by_cases h : f j < d
    · exact .inr ⟨j, by omega, ups_yes h⟩
    · rw [ups_no h]
      rcases ups_head f d j with e | ⟨u, hu, e⟩
      · exact .inl e
      · exact .inr ⟨u, by omega, e⟩
theorem ups_lt (f : Nat → Int) : ∀ (j : Nat) (d : Int) (x : Nat), x ∈ ups f d j → x < j
  | 0, _, _, h => by simp [ups] at h
  | j + 1, d, x, h => by
    by_cases e : f j < d
    · rw [ups_yes e] at h
      rcases List.mem_cons.1 h with h1 | h1
      · omega
      · have := ups_lt f j _ x h1; omega
    · rw [ups_no e] at h
      have := ups_lt f j _ x h; omega

/-- What stands between two rounds of the walk up. -/
def aboveInv (N Bn i : Nat) (L : List Sl) (J : List (Fin L.length) → World → Prop) (v p : Value) (wr : World) : Prop :=
  ∃ (j : Nat) (d : Int) (pre : List (Fin L.length)), j ≤ i ∧ v = .int .i64 d ∧ p = .pointer (prevP N j) ∧ pre.map Fin.val ++ ups (depN L) d j = ups (depN L) (depN L i) i ∧ pre.length + j ≤ i ∧ Linked wr N L ∧ J pre wr

/-- How far a pointer is from the beginning. -/
def ptrBack : Value → Nat
  | .pointer (some a) => a.off + 1
  | _ => 0

set_option maxRecDepth 100000 in
set_option maxHeartbeats 2000000 in
theorem above1_in (n : Nat) (hn : 1 ≤ n) (l Bn N i : Nat) (L : List Sl) (hi : i < L.length) (J Jx : List (Fin L.length) → World → Prop)
    (hY : ∀ pre x W, J pre W → pre.length < L.length → YieldAt Fence.wide (n - 1) Try.prog l #[.pointer (some ⟨N, x.val * 4, none⟩)] W fun e W' =>
      (e = .returned (.bool true) ∧ J (pre ++ [x]) W' ∧ Keep2 N Bn W W') ∨ (e = .returned (.bool false) ∧ Jx (pre ++ [x]) W'))
    (W : World) (hBn : W.cell? ⟨Bn, 0, none⟩ = some (.pointer (some ⟨N, i * 4, none⟩))) (hL : Linked W N L) (h0 : J [] W) :
    CallsIn Fence.wide n Try.prog 51 #[.func (.yield l) #[] #[], .pointer (some ⟨Bn, 0, none⟩)] W fun e W' => (∃ v, e = .returned v) ∧
      ((∃ ys : List (Fin L.length), ys.map Fin.val = ups (depN L) (depN L i) i ∧ J ys W') ∨ (∃ pre : List (Fin L.length), pre.map Fin.val <+: ups (depN L) (depN L i) i ∧ Jx pre W')) := by
  have ha0 := hL.ahead i hi
  have hd0 := hL.depth i hi
  rw [← depN_at hi] at hd0
  refine callsIn_of_wp Try.func51 rfl trivial ?_ rfl
  simp only [Try.ntmps51, List.size_toArray, List.length_cons, List.length_nil, Nat.reduceAdd, Nat.reduceSub, Array.replicate_succ, Array.replicate_zero, List.push_toArray, List.append_toArray, List.nil_append, List.cons_append]
  gi_wp2
  gi_loopw [3, 4] (fun v p wr => aboveInv N Bn i L J v p wr) (fun v p wr => ptrBack p)
  case atStart =>
    exact ⟨i, _, [], Nat.le_refl _, rfl, rfl, rfl, by simp, hL, h0⟩
  case round =>
    clear ha0 hd0 hBn hL h0
    obtain ⟨j, d, pre, hji, rfl, rfl, hpre, hlen, hL, hJ⟩ := hrel
    cases j with
    | zero =>
      rw [prevP_zero]
      gi_wp2
      go_end0
      exact ⟨⟨_, rfl⟩, .inl ⟨pre, by rw [← hpre, ups_zero, List.append_nil], hJ⟩⟩
    | succ m =>
      have hm : m < L.length := by omega
      have hdm := hL.depth m hm
      rw [← depN_at hm] at hdm
      have ham := hL.ahead m hm
      rw [prevP_succ]
      obtain ⟨q, hq⟩ : ∃ q, depN L m = q := ⟨_, rfl⟩
      rw [hq] at hdm
      by_cases hlt : q < d
      · have hnle : ¬ d ≤ q := by omega
        obtain ⟨x, hx⟩ : ∃ x : Fin L.length, x.val = m := ⟨⟨m, hm⟩, rfl⟩
        obtain ⟨fn, tmps, assign, body, hy, hR⟩ := hY pre x wr hJ (by omega)
        rw [hx] at hy
        gi_wp2
        refine hR.mono ?_
        have hpre2 : (pre ++ [x]).map Fin.val ++ ups (depN L) q m = ups (depN L) (depN L i) i := by
          rw [← hpre, ups_yes (by rw [hq]; exact hlt), hq, List.map_append, List.append_assoc]; simp [hx]
        rintro e W3 (⟨rfl, hJ3, hk3⟩ | ⟨rfl, hJx3⟩)
        · have hL3 := hL.keep hk3
          have ham3 := hL3.ahead m hm
          clear ham hdm
          gi_wp2
          go_roundw
          case rel => exact ⟨m, q, pre ++ [x], by omega, rfl, rfl, hpre2, by simp; omega, hL3, hJ3⟩
          case measure =>
            cases m with
            | zero => rw [prevP_zero]; simp [ptrBack]
            | succ m => rw [prevP_succ]; simp [ptrBack]
        · gi_wp2
          refine bodyPost_ret (results_none rfl _ _ _) rfl ?_
          exact ⟨⟨_, rfl⟩, .inr ⟨pre ++ [x], ⟨_, hpre2⟩, hJx3⟩⟩
      · have hle : d ≤ q := by omega
        gi_wp2
        go_roundw
        case rel => exact ⟨m, d, pre, by omega, rfl, rfl, by rw [← hpre, ups_no (by rw [hq]; exact hlt)], by omega, hL, hJ⟩
        case measure =>
          cases m with
          | zero => rw [prevP_zero]; simp [ptrBack]
          | succ m => rw [prevP_succ]; simp [ptrBack]

set_option maxRecDepth 100000 in
set_option maxHeartbeats 1000000 in
theorem above_in (n : Nat) (p0 : Option Addr) (w : World) :
    CallsIn Fence.wide n Try.prog 32 #[.pointer p0] w fun e w' => e = .returned (.func (.func 51) #[] #[.pointer (some ⟨w.heap.size, 0, none⟩)]) ∧ w' = w.alloc (.cells #[.pointer p0] 49) := by
  refine callsIn_of_wp Try.func32 rfl trivial ?_ rfl
  simp only [Try.ntmps32, List.size_toArray, List.length_cons, List.length_nil, Nat.reduceAdd, Nat.reduceSub, Array.replicate_succ, Array.replicate_zero, List.push_toArray, List.append_toArray, List.nil_append, List.cons_append]
  gi_wp2
  go_ret
  exact ⟨rfl, rfl⟩

theorem above_stops (n : Nat) (hn : 1 ≤ n) (Bn N i : Nat) (L : List Sl) (hi : i < L.length) (w : World) (hBn : Bn < w.heap.size) (hN : N < w.heap.size)
    (hc : w.cell? ⟨Bn, 0, none⟩ = some (.pointer (some ⟨N, i * 4, none⟩))) (hL : Linked w N L) :
    SeqStopsK Fence.wide n Try.prog 51 #[.pointer (some ⟨Bn, 0, none⟩)] (fun x : Fin L.length => #[Value.pointer (some ⟨N, x.val * 4, none⟩)]) (Keep2 N Bn)
      (fun ys => ys.map Fin.val = ups (depN L) (depN L i) i) (fun pre => pre.map Fin.val <+: ups (depN L) (depN L i) i) L.length w := fun l J Jx W hW hab _ hY h0 =>
  above1_in n hn l Bn N i L hi J Jx hY W ((hW.cell (p := ⟨Bn, 0, none⟩) hBn).trans hc) (hL.keep (keep2_below hW hN hBn)) h0

end Go.Proofs.Ytalncgmncafhjaa
/-
  What TreeUp of the program answers.
-/
namespace Go.Proofs.Ytalncgmncafhjaa
open Go.RowKit Go.Shelf
set_option linter.unusedVariables false

attribute [local go_sem] Oper.semAt_some

/-- What a slot came of: the first of those, or -1. -/
def headI : List Nat → Int
  | [] => -1
  | x :: _ => (x : Int)

set_option maxRecDepth 100000 in
set_option maxHeartbeats 2000000 in
theorem treeUpImpl_none (P : Option Addr) (c : Nat) (i : Int) (L : List Sl) (w : World) (hl : L.length ≤ 1048576) (hcap : L.length ≤ c) (hcm : c ≤ 9223372036854775807) (h : Lies w P L) (hfit : ∀ s ∈ L, s.Fit) (ht : (treeB L && placeB L.length i) = false) :
    Calls Try.prog 12 #[.slice P L.length c, .int .i64 i] w fun e w' => e = .returned (.int .i64 (-1)) ∧ Below w.heap.size w w' := by
  have hb0 : Below w.heap.size w (w.alloc (.cells #[.int .i64 0] 3)) := (Below.refl _ _).alloc (Nat.le_refl _) _
  have h0 := h.below hb0
  have cr := cell_new w (.int .i64 0) 3
  refine (callsIn_wide (n := 5)).1 ?_
  refine callsIn_of_wp_marks Try.func12 rfl trivial ?_ rfl
  simp only [Try.ntmps12, List.size_toArray, List.length_cons, List.length_nil, Nat.reduceAdd, Nat.reduceSub, Array.replicate_succ, Array.replicate_zero, List.push_toArray, List.append_toArray, List.nil_append, List.cons_append]
  gi_wp2_with (refine ⟨trivial, ?_⟩; gi_at_call 27; refine (callsIn_wide.2 (linkAt_none _ _ _ L _ hl hcap hcm h0 hfit ht)).mono ?_; rintro e w1 ⟨rfl, hb1⟩; have c1 := (hb1.cell (p := ⟨w.heap.size, 0, none⟩) (by simp)).trans cr.1; have f1 := (hb1.frozen (p := ⟨w.heap.size, 0, none⟩) (by simp)).trans cr.2)
  refine ⟨.int .i64 (-1), ?_, rfl, (hb0.trans (hb1.mono (by simp))).setCell (Nat.le_refl _) _⟩
  have c2 := World.cell?_setCell_same' w1 ⟨w.heap.size, 0, none⟩ (.int .i64 (-1)) (by rw [c1]; rfl)
  simp [results, Try.f12, go_sem, c2]

set_option maxRecDepth 100000 in
set_option maxHeartbeats 2000000 in
theorem treeUpImpl_some (P : Option Addr) (c i : Nat) (L : List Sl) (w : World) (hl : L.length ≤ 1048576) (hcap : L.length ≤ c) (hcm : c ≤ 9223372036854775807) (h : Lies w P L) (hfit : ∀ s ∈ L, s.Fit) (ht : treeB L = true) (hi : i < L.length) :
    Calls Try.prog 12 #[.slice P L.length c, .int .i64 (i : Int)] w fun e w' => e = .returned (.int .i64 (headI (ups (depN L) (depN L i) i))) ∧ Below w.heap.size w w' := by
  have hb0 : Below w.heap.size w (w.alloc (.cells #[.int .i64 0] 3)) := (Below.refl _ _).alloc (Nat.le_refl _) _
  have h0 := h.below hb0
  have cr := cell_new w (.int .i64 0) 3
  refine (callsIn_wide (n := 5)).1 ?_
  refine callsIn_of_wp_marks Try.func12 rfl trivial ?_ rfl
  simp only [Try.ntmps12, List.size_toArray, List.length_cons, List.length_nil, Nat.reduceAdd, Nat.reduceSub, Array.replicate_succ, Array.replicate_zero, List.push_toArray, List.append_toArray, List.nil_append, List.cons_append]
  gi_wp2_with (first
    | (refine ⟨trivial, ?_⟩; gi_at_call 27; refine (callsIn_wide.2 (linkAt_some _ _ _ L _ hl hcap hcm h0 hfit ht hi)).mono ?_; rintro e w1 ⟨N, hN, rfl, hK, hb1⟩)
    | (refine ⟨trivial, ?_⟩; gi_at_call 32; refine (above_in _ _ _).mono ?_; rintro e w2 ⟨rfl, rfl⟩))
  have hNlt := hK.lt
  rw [World.size_alloc] at hN
  have hRlt : w.heap.size < w1.heap.size := by have := hb1.size; simp at this; omega
  have hW1 : Below w.heap.size w w1 := hb0.trans (hb1.mono (by simp))
  have cR := (hb1.cell (p := ⟨w.heap.size, 0, none⟩) (by simp)).trans cr.1
  have fR := (hb1.frozen (p := ⟨w.heap.size, 0, none⟩) (by simp)).trans cr.2
  have hB0 : Below w1.heap.size w1 (w1.alloc (.cells #[.pointer (some ⟨N, i * 4, none⟩)] 49)) := (Below.refl _ w1).alloc (Nat.le_refl _) _
  have c1 := cell_new w1 (.pointer (some ⟨N, i * 4, none⟩)) 49
  have cR' := (hB0.cell (p := ⟨w.heap.size, 0, none⟩) hRlt).trans cR
  have fR' := (hB0.frozen (p := ⟨w.heap.size, 0, none⟩) hRlt).trans fR
  have hLk0 := hK.linked.keep (keep2_below (Bn := N) hB0 hNlt hNlt)
  refine wpIn_rangeFunc_ownF rfl (by omega) (gf := 51) (lb := #[.pointer (some ⟨w1.heap.size, 0, none⟩)]) rfl trivial (enters_of Try.func51 (by kernel_rfl) rfl)
    (above_stops 4 (by omega) w1.heap.size N i L hi _ (by simp) (by simp; omega) c1.1 hLk0)
    (fun a b => Keep2.trans a b) (keep2_put (n₀ := w1.heap.size + 1) (by simp) (by omega) (by omega)) (Below.refl _ _) (fun _ => rfl)
    (fun pre W => (pre = [] ∧ W.cell? ⟨w.heap.size, 0, none⟩ = some (.int .i64 0) ∧ W.frozen? ⟨w.heap.size, 0, none⟩ = false ∧ (∀ j, j < L.length → W.cell? ⟨N, j * 4, none⟩ = some (.int .i64 (j : Nat)))) ∧ Below w.heap.size w W)
    (fun c pre W => (c = .ret ∧ ∃ x : Fin L.length, pre = [x] ∧ W.cell? ⟨w.heap.size, 0, none⟩ = some (.int .i64 (x.val : Int))) ∧ Below w.heap.size w W)
    (OwnFrom.and (Own.from (fun s A B row hs hg hr => ⟨hs.1, cell_kept hs.2.1 hg hr, (frozen_kept hs.2.1 hg hr).trans hs.2.2.1, fun j hj => cell_kept (hs.2.2.2 j hj) hg hr⟩) _) (ownFrom_below (Nat.le_refl _) (by simp; omega)))
    (fun c => OwnFrom.and (Own.from (fun s A B row hs hg hr => ⟨hs.1, by obtain ⟨x, e1, e2⟩ := hs.2; exact ⟨x, e1, cell_kept e2 hg hr⟩⟩) _) (ownFrom_below (Nat.le_refl _) (by simp; omega)))
    ⟨⟨rfl, cR', fR', hLk0.place⟩, hW1.trans (hB0.mono hW1.size)⟩
    (fun x => { tmps := #[.slice P L.length c, .int .i64 i, undef, undef, .pointer (some ⟨w.heap.size, 0, none⟩), .pointer (some ⟨N, i * 4, none⟩), .pointer (some ⟨N, x.val * 4, none⟩), .slice P L.length c, .int .i64 i, .pointer (some ⟨N, i * 4, none⟩), .pointer (some ⟨N, i * 4, none⟩), .bool false, .pointer (some ⟨N, i * 4, none⟩), .func (.func 51) #[] #[.pointer (some ⟨w1.heap.size, 0, none⟩)], .pointer (some ⟨N, x.val * 4, none⟩), undef, undef, undef, undef], defers := [] }) ?assign ?body ?done ?stop
  case assign =>
    intro l x W K hK
    gi_wp2
    exact hK
  case body =>
    rintro l pre x W ⟨⟨rfl, hc, hf, hp⟩, hB⟩ _
    have hpx := hp x.val x.isLt
    gi_wp2
    exact ⟨KeepsOthers.setCell _ _ _, ⟨rfl, x, rfl, World.cell?_setCell_same' _ _ _ (by rw [hc]; rfl)⟩, hB.setCell (p := ⟨w.heap.size, 0, none⟩) (Nat.le_refl _) _⟩
  case done =>
    rintro D ys W hD hys ⟨⟨rfl, hc, hf, hp⟩, hB⟩ hK2
    have HY : Hid _ := hys
    clear hys
    gi_wp2
    have hK' := (KeepsOthers.setCell W ⟨w.heap.size, 0, none⟩ (.int .i64 (-1))).same D _ hK2 rfl
    refine ⟨by simp, .inl ⟨_, _, rfl, run_takeDeferred hK', ?_⟩⟩
    have hc5 := cell_kept (World.cell?_setCell_same' W ⟨w.heap.size, 0, none⟩ (.int .i64 (-1)) (by rw [hc]; rfl)) (grownBy_putObj' _ D (.deferred none)) (fun r e => by cases e; exact ⟨_, hK', rfl⟩)
    refine ⟨.int .i64 (-1), ?_, by rw [← HY.out]; rfl, (hB.setCell (p := ⟨w.heap.size, 0, none⟩) (Nat.le_refl _) _).trans (belowK_b (w := w) (Nat.le_refl _) _ D _ _ (by simp at hD; omega) hK' rfl rfl)⟩
    simp [results, Try.f12, go_sem, hc5]
  case stop =>
    rintro D c' pre W hD hpre ⟨⟨rfl, x, rfl, hc⟩, hB⟩ hK2
    obtain ⟨rest, hrest⟩ := hpre
    have HY : Hid _ := hrest
    clear hrest
    gi_wp2
    refine ⟨by simp, .inl ⟨_, _, rfl, run_takeDeferred hK2, ?_⟩⟩
    have hc5 := cell_kept hc (grownBy_putObj' _ D (.deferred none)) (fun r e => by cases e; exact ⟨_, hK2, rfl⟩)
    refine ⟨.int .i64 (x.val : Int), ?_, by rw [← HY.out]; rfl, hB.trans (belowK_b (w := w) (Nat.le_refl _) W D _ _ (by simp at hD; omega) hK2 rfl rfl)⟩
    simp [results, Try.f12, go_sem, hc5]

end Go.Proofs.Ytalncgmncafhjaa
/-
  What l3In, l3End, TreeEnd of the specification answer.
-/
namespace Go.Proofs.Ytalncgmncafhjaa
open Go.ChangeShapes Go.WideShapes Go.ChangeAt Go.RowKit
set_option linter.unusedVariables false

theorem runN_next {d : Int} {L : List Sl} {i k j : Nat} (hk : k ≤ runN d (L.drop (i + 1))) (hj : i + 1 + k = j) (hlt : j < L.length) (h : d < L[j].p) : k < runN d (L.drop (i + 1)) := by
  subst hj
  rcases Nat.lt_or_ge k (runN d (L.drop (i + 1))) with h1 | h1
  · exact h1
  · have e : runN d (L.drop (i + 1)) = k := by omega
    have := runN_stop d (L.drop (i + 1)) (by rw [e, List.length_drop]; omega)
    simp only [e, List.getElem_drop] at this
    omega
theorem runN_halt {d : Int} {L : List Sl} {i k j : Nat} (hk : k ≤ runN d (L.drop (i + 1))) (hj : i + 1 + k = j) (h : ∀ hlt : j < L.length, ¬ d < L[j].p) : runN d (L.drop (i + 1)) = k := by
  subst hj
  rcases Nat.lt_or_ge k (runN d (L.drop (i + 1))) with h1 | h1
  · obtain ⟨h2, h3⟩ := runN_in d _ k h1
    simp only [List.getElem_drop] at h3
    exact absurd h3 (h (by rw [List.length_drop] at h2; omega))
  · omega

set_option maxRecDepth 100000 in
set_option maxHeartbeats 1000000 in
theorem inSpec_to (P : Option Addr) (c : Nat) (i : Int) (x : Bool) (L : List Sl) (w : World) (hl : L.length ≤ 1048576) (hcap : L.length ≤ c) (hcm : c ≤ 9223372036854775807) (h : Lies w P L) (hx : (treeB L && placeB L.length i) = x) :
    Calls Try.prog 35 #[.slice P L.length c, .int .i64 i] w fun e w' => e = .returned (.bool x) ∧ Below w.heap.size w w' := by
  by_cases h0 : 0 ≤ i
  · by_cases h1 : i < L.length
    · have hp : placeB L.length i = true := by unfold placeB; simp only [decide_eq_true_eq]; omega
      have ht : treeB L = x := by rw [hp] at hx; simpa using hx
      go_enter Try.func35, Try.ntmps35
      go_wp2_with (first
        | (go_at_call 18; refine (treeOkSpec_to _ _ _ L _ _ rfl hl hcap hcm h ht).mono ?_; rintro e w1 ⟨rfl, hb1⟩))
      go_ret
      exact ⟨rfl, hb1⟩
    · have hp : placeB L.length i = false := by unfold placeB; simp only [decide_eq_false_iff_not]; omega
      obtain rfl : x = false := by rw [hp] at hx; simpa using hx.symm
      go_enter Try.func35, Try.ntmps35
      go_wp2
      go_ret
      exact ⟨rfl, Below.refl _ _⟩
  · have hp : placeB L.length i = false := by unfold placeB; simp only [decide_eq_false_iff_not]; omega
    obtain rfl : x = false := by rw [hp] at hx; simpa using hx.symm
    go_enter Try.func35, Try.ntmps35
    go_wp2
    go_ret
    exact ⟨rfl, Below.refl _ _⟩


end Go.Proofs.Ytalncgmncafhjaa
/-
  What l3Up, TreeUp and TreeAbove of the specification answer.
-/
namespace Go.Proofs.Ytalncgmncafhjaa
open Go.ChangeShapes Go.WideShapes Go.ChangeAt Go.RowKit
set_option linter.unusedVariables false

theorem lies_dep2 {W : World} {B O : Nat} {L : List Sl} (h : Lies W (some ⟨B, O, none⟩) L) {j : Nat} (hj : j < L.length) : W.cell? ⟨B, O + j * 11 + 10, none⟩ = some (.int .i64 (depN L j)) := by
  rw [depN_at hj]; exact (h.cells B O rfl j hj).c10

/-- What stands between two rounds: the next place to look at is one less than j. -/
def upInv (w : World) (i : Nat) (L : List Sl) (v : Value) (w' : World) : Prop :=
  ∃ j : Nat, j ≤ i ∧ v = .int .i64 ((j : Int) - 1) ∧ ups (depN L) (depN L i) j = ups (depN L) (depN L i) i ∧ ∃ n, w' = w.drewN n

set_option maxRecDepth 100000 in
set_option maxHeartbeats 1000000 in
theorem l3UpSpec_any (P : Option Addr) (c i : Nat) (L : List Sl) (w : World) (hl : L.length ≤ 1048576) (h : Lies w P L) (hi : i < L.length) :
    Calls Try.prog 36 #[.slice P L.length c, .int .i64 (i : Int)] w fun e w' => e = .returned (.int .i64 (headI (ups (depN L) (depN L i) i))) ∧ Below w.heap.size w w' := by
  obtain ⟨B, O, rfl⟩ := h.some hi
  have ci := lies_dep2 h hi
  obtain ⟨d, hd⟩ : ∃ d, depN L i = d := ⟨_, rfl⟩
  rw [hd] at ci
  have HD : Hid _ := hd
  clear hd
  have hii : (i : Int) < (L.length : Int) := by omega
  go_enter Try.func36, Try.ntmps36
  go_wp2
  go_loopw [5] (fun v w' => upInv w i L v w') (fun v w' => (intOf v + 1).toNat)
  case atStart => exact ⟨i, Nat.le_refl _, rfl, rfl, 0, rfl⟩
  case round =>
    obtain ⟨j, hji, rfl, hu, m, rfl⟩ := hrel
    rw [HD.out] at hu
    cases j with
    | zero =>
      have HU : Hid _ := hu
      clear hu
      go_wp2
      go_ret
      exact ⟨ret_int (by rw [HD.out, ← HU.out, ups_zero]; rfl), below_drewN (Below.refl _ _) _⟩
    | succ k =>
      have hk : k < L.length := by omega
      have ck := lies_dep2 h hk
      have hkk : (k : Int) < (L.length : Int) := by omega
      have e1 : (((k + 1 : Nat) : Int) - 1) = (k : Int) := by omega
      rw [e1]
      obtain ⟨q, hq⟩ : ∃ q, depN L k = q := ⟨_, rfl⟩
      rw [hq] at ck
      have hk0 : (0 : Int) ≤ (k : Int) := by omega
      by_cases hlt : q < d
      · have g : decide (q < d) = true := by simpa using hlt
        have HU : Hid (ups (depN L) d i = k :: ups (depN L) q k) := by rw [← hq, ← ups_yes (by rw [hq]; exact hlt)]; exact hu.symm
        clear hu e1
        go_upto_region 4 with fail
        go_quiet (fail)
        go_wp2
        go_ret
        exact ⟨ret_int (by rw [HD.out, HU.out]; rfl), by first | exact below_drewN (Below.refl _ _) _ | exact below_drewN (below_drewN (Below.refl _ _) _) _⟩
      · have g : decide (q < d) = false := by simpa using hlt
        have HU : Hid (ups (depN L) d k = ups (depN L) d i) := by rw [← ups_no (by rw [hq]; exact hlt)]; exact hu
        clear hu e1
        go_upto_region 4 with fail
        go_quiet (fail)
        go_wp2
        go_roundw
        case rel => exact ⟨k, by omega, rfl, by rw [HD.out]; exact HU.out, _, rfl⟩
        case measure => simp [intOf]

theorem place_nat2 {L : List Sl} {i : Int} (h : (treeB L && placeB L.length i) = true) : ∃ k : Nat, i = (k : Int) ∧ k < L.length ∧ treeB L = true := by
  simp only [Bool.and_eq_true, placeB, decide_eq_true_eq] at h
  exact ⟨i.toNat, by omega, by omega, h.1⟩

end Go.Proofs.Ytalncgmncafhjaa
/-
  What TreeAbove of the specification answers.
-/
namespace Go.Proofs.Ytalncgmncafhjaa
open Go.ChangeShapes Go.WideShapes Go.ChangeAt Go.RowKit
set_option linter.unusedVariables false

/-- Both are places of a tree. -/
def bothB (L : List Sl) (i k : Int) : Bool := (treeB L && placeB L.length i) && (treeB L && placeB L.length k)

/-- A place is another one, or among those. -/
def inUps (L : List Sl) (i k : Nat) : Bool := decide (i = k) || decide (i ∈ ups (depN L) (depN L k) k)

theorem inUps_self (L : List Sl) (i : Nat) : inUps L i i = true := by simp [inUps]
theorem inUps_none {L : List Sl} {i k : Nat} (h : ups (depN L) (depN L k) k = []) (hne : i ≠ k) : inUps L i k = false := by simp [inUps, h, hne]
theorem inUps_next {L : List Sl} {i k u : Nat} (h : ups (depN L) (depN L k) k = u :: ups (depN L) (depN L u) u) (hne : i ≠ k) : inUps L i k = inUps L i u := by
  simp [inUps, h, hne]

set_option maxRecDepth 100000 in
set_option maxHeartbeats 1000000 in
theorem treeAboveSpec_none (P : Option Addr) (c : Nat) (i k : Int) (L : List Sl) (w : World) (hl : L.length ≤ 1048576) (hcap : L.length ≤ c) (hcm : c ≤ 9223372036854775807) (h : Lies w P L) (ht : bothB L i k = false) :
    Calls Try.prog 17 #[.slice P L.length c, .int .i64 i, .int .i64 k] w fun e w' => e = .returned (.bool false) ∧ Below w.heap.size w w' := by
  cases h1 : (treeB L && placeB L.length i)
  · go_enter Try.func17, Try.ntmps17
    go_wp2_with (first
      | (go_at_call 35; refine (inSpec_to _ _ _ _ L _ hl hcap hcm h h1).mono ?_; rintro e w1 ⟨rfl, hb1⟩))
    go_ret
    exact ⟨rfl, hb1⟩
  · have h2 : (treeB L && placeB L.length k) = false := by simpa [bothB, h1] using ht
    go_enter Try.func17, Try.ntmps17
    go_wp2_with (first
      | (go_at_call 35; refine (inSpec_to _ _ _ _ L _ hl hcap hcm h h1).mono ?_; clear h1; rintro e w1 ⟨rfl, hb1⟩)
      | (go_at_call 35; refine (inSpec_to _ _ _ _ L _ hl hcap hcm (h.below hb1) h2).mono ?_; rintro e w2 ⟨rfl, hb2⟩))
    go_ret
    exact ⟨rfl, hb1.trans (hb2.mono hb1.size)⟩

/-- What stands between two rounds: nobody is left, or a place of which the answer is asked. -/
def abovInv (w : World) (i k : Nat) (L : List Sl) (v : Value) (w' : World) : Prop :=
  ((v = .int .i64 (-1) ∧ inUps L i k = false) ∨ ∃ j : Nat, j < L.length ∧ v = .int .i64 (j : Int) ∧ inUps L i k = inUps L i j) ∧ Below w.heap.size w w'

set_option maxRecDepth 100000 in
set_option maxHeartbeats 1000000 in
theorem treeAboveSpec_some (P : Option Addr) (c i k : Nat) (L : List Sl) (w : World) (hl : L.length ≤ 1048576) (hcap : L.length ≤ c) (hcm : c ≤ 9223372036854775807) (h : Lies w P L) (hT : treeB L = true) (hi : i < L.length) (hk : k < L.length) :
    Calls Try.prog 17 #[.slice P L.length c, .int .i64 (i : Int), .int .i64 (k : Int)] w fun e w' => e = .returned (.bool (inUps L i k)) ∧ Below w.heap.size w w' := by
  have h1 : (treeB L && placeB L.length i) = true := by rw [hT]; simp [placeB]; omega
  have h2 : (treeB L && placeB L.length k) = true := by rw [hT]; simp [placeB]; omega
  go_enter Try.func17, Try.ntmps17
  go_wp2_with (first
    | (go_at_call 35; refine (inSpec_to _ _ _ _ L _ hl hcap hcm h h1).mono ?_; clear h1; rintro e w1 ⟨rfl, hb1⟩)
    | (go_at_call 35; refine (inSpec_to _ _ _ _ L _ hl hcap hcm (h.below hb1) h2).mono ?_; clear h2; rintro e w2 ⟨rfl, hb2⟩))
  go_loopw [2] (fun v w' => abovInv w i k L v w') (fun v w' => (intOf v + 1).toNat)
  case atStart => exact ⟨.inr ⟨k, hk, rfl, rfl⟩, hb1.trans (hb2.mono hb1.size)⟩
  case round =>
    obtain ⟨hv | ⟨j, hj, rfl, he⟩, hB⟩ := hrel
    · obtain ⟨rfl, he⟩ := hv
      have HE : Hid _ := he
      clear he
      have hne : ¬ ((-1 : Int) = (i : Int)) := by omega
      go_wp2
      go_ret
      exact ⟨ret_bool (by rw [HE.out]; simp), hB⟩
    · have HE : Hid _ := he
      clear he
      by_cases hij : i = j
      · subst hij
        go_wp2
        go_ret
        exact ⟨ret_bool (by rw [HE.out, inUps_self]), hB⟩
      · have g1 : ((j : Int) == (i : Int)) = false := by simp; omega
        have g2 : ((j : Int) != (i : Int)) = true := by simp; omega
        go_wp2_with (first
          | (go_at_call 36; refine (l3UpSpec_any _ _ _ L _ hl (h.below hB) hj).mono ?_; rintro e w3 ⟨rfl, hb3⟩))
        go_roundw
        case rel =>
          refine ⟨?_, hB.trans (hb3.mono hB.size)⟩
          rcases ups_head (depN L) (depN L j) j with hu | ⟨u, huj, hu⟩
          · exact .inl ⟨by rw [hu]; rfl, by rw [HE.out]; exact inUps_none hu hij⟩
          · exact .inr ⟨u, by omega, by rw [hu]; rfl, by rw [HE.out]; exact inUps_next hu hij⟩
        case measure =>
          rcases ups_head (depN L) (depN L j) j with hu | ⟨u, huj, hu⟩
          · rw [hu]; simp [intOf, headI]
          · rw [hu]; simp [intOf, headI]; omega

end Go.Proofs.Ytalncgmncafhjaa
