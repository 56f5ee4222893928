/-
  What a slot came of, what that came of, and so on: the plain facts, and the walk through them.
-/
import Derived.Test.YtalncgmncafhjaaClimb
namespace Go.Proofs.Ytalncgmncafhjaa
open Go.RowKit Go.Shelf
set_option linter.unusedVariables false

attribute [local go_sem] Oper.semAt_some

/-- Going back from a place: each that is less deep than all that were met. -/
def ups (f : Nat → Int) (d : Int) : Nat → List Nat
  | 0 => []
  | j + 1 => if f j < d then j :: ups f (f j) j else ups f d j
theorem ups_zero (f : Nat → Int) (d : Int) : ups f d 0 = [] := rfl
theorem ups_yes {f : Nat → Int} {d : Int} {j : Nat} (h : f j < d) : ups f d (j + 1) = j :: ups f (f j) j := by rw [ups, if_pos h]
theorem ups_no {f : Nat → Int} {d : Int} {j : Nat} (h : ¬ f j < d) : ups f d (j + 1) = ups f d j := by rw [ups, if_neg h]
/-- It begins with what the slot came of, and goes on from there. -/
theorem ups_head (f : Nat → Int) (d : Int) : ∀ j, ups f d j = [] ∨ ∃ u, u < j ∧ ups f d j = u :: ups f (f u) u
  | 0 => .inl rfl
  | j + 1 => by
    by_cases h : f j < d
    · exact .inr ⟨j, by omega, ups_yes h⟩
    · rw [ups_no h]
      rcases ups_head f d j with e | ⟨u, hu, e⟩
      · exact .inl e
      · exact .inr ⟨u, by omega, e⟩
theorem ups_lt (f : Nat → Int) : ∀ (j : Nat) (d : Int) (x : Nat), x ∈ ups f d j → x < j
  | 0, _, _, h => by simp [ups] at h
  | j + 1, d, x, h => by
    by_cases e : f j < d
    · rw [ups_yes e] at h
      rcases List.mem_cons.1 h with h1 | h1
      · omega
      · have := ups_lt f j _ x h1; omega
    · rw [ups_no e] at h
      have := ups_lt f j _ x h; omega

/-- What stands between two rounds of the walk up. -/
def aboveInv (N Bn i : Nat) (L : List Sl) (J : List (Fin L.length) → World → Prop) (v p : Value) (wr : World) : Prop :=
  ∃ (j : Nat) (d : Int) (pre : List (Fin L.length)), j ≤ i ∧ v = .int .i64 d ∧ p = .pointer (prevP N j) ∧ pre.map Fin.val ++ ups (depN L) d j = ups (depN L) (depN L i) i ∧ pre.length + j ≤ i ∧ Linked wr N L ∧ J pre wr

/-- How far a pointer is from the beginning. -/
def ptrBack : Value → Nat
  | .pointer (some a) => a.off + 1
  | _ => 0

set_option maxRecDepth 100000 in
set_option maxHeartbeats 2000000 in
theorem above1_in (n : Nat) (hn : 1 ≤ n) (l Bn N i : Nat) (L : List Sl) (hi : i < L.length) (J Jx : List (Fin L.length) → World → Prop)
    (hY : ∀ pre x W, J pre W → pre.length < L.length → YieldAt Fence.wide (n - 1) Try.prog l #[.pointer (some ⟨N, x.val * 4, none⟩)] W fun e W' =>
      (e = .returned (.bool true) ∧ J (pre ++ [x]) W' ∧ Keep2 N Bn W W') ∨ (e = .returned (.bool false) ∧ Jx (pre ++ [x]) W'))
    (W : World) (hBn : W.cell? ⟨Bn, 0, none⟩ = some (.pointer (some ⟨N, i * 4, none⟩))) (hL : Linked W N L) (h0 : J [] W) :
    CallsIn Fence.wide n Try.prog 51 #[.func (.yield l) #[] #[], .pointer (some ⟨Bn, 0, none⟩)] W fun e W' => (∃ v, e = .returned v) ∧
      ((∃ ys : List (Fin L.length), ys.map Fin.val = ups (depN L) (depN L i) i ∧ J ys W') ∨ (∃ pre : List (Fin L.length), pre.map Fin.val <+: ups (depN L) (depN L i) i ∧ Jx pre W')) := by
  have ha0 := hL.ahead i hi
  have hd0 := hL.depth i hi
  rw [← depN_at hi] at hd0
  refine callsIn_of_wp Try.func51 rfl trivial ?_ rfl
  simp only [Try.ntmps51, List.size_toArray, List.length_cons, List.length_nil, Nat.reduceAdd, Nat.reduceSub, Array.replicate_succ, Array.replicate_zero, List.push_toArray, List.append_toArray, List.nil_append, List.cons_append]
  gi_wp2
  gi_loopw [3, 4] (fun v p wr => aboveInv N Bn i L J v p wr) (fun v p wr => ptrBack p)
  case atStart =>
    exact ⟨i, _, [], Nat.le_refl _, rfl, rfl, rfl, by simp, hL, h0⟩
  case round =>
    clear ha0 hd0 hBn hL h0
    obtain ⟨j, d, pre, hji, rfl, rfl, hpre, hlen, hL, hJ⟩ := hrel
    cases j with
    | zero =>
      rw [prevP_zero]
      gi_wp2
      go_end0
      exact ⟨⟨_, rfl⟩, .inl ⟨pre, by rw [← hpre, ups_zero, List.append_nil], hJ⟩⟩
    | succ m =>
      have hm : m < L.length := by omega
      have hdm := hL.depth m hm
      rw [← depN_at hm] at hdm
      have ham := hL.ahead m hm
      rw [prevP_succ]
      obtain ⟨q, hq⟩ : ∃ q, depN L m = q := ⟨_, rfl⟩
      rw [hq] at hdm
      by_cases hlt : q < d
      · have hnle : ¬ d ≤ q := by omega
        obtain ⟨x, hx⟩ : ∃ x : Fin L.length, x.val = m := ⟨⟨m, hm⟩, rfl⟩
        obtain ⟨fn, tmps, assign, body, hy, hR⟩ := hY pre x wr hJ (by omega)
        rw [hx] at hy
        gi_wp2
        refine hR.mono ?_
        have hpre2 : (pre ++ [x]).map Fin.val ++ ups (depN L) q m = ups (depN L) (depN L i) i := by
          rw [← hpre, ups_yes (by rw [hq]; exact hlt), hq, List.map_append, List.append_assoc]; simp [hx]
        rintro e W3 (⟨rfl, hJ3, hk3⟩ | ⟨rfl, hJx3⟩)
        · have hL3 := hL.keep hk3
          have ham3 := hL3.ahead m hm
          clear ham hdm
          gi_wp2
          go_roundw
          case rel => exact ⟨m, q, pre ++ [x], by omega, rfl, rfl, hpre2, by simp; omega, hL3, hJ3⟩
          case measure =>
            cases m with
            | zero => rw [prevP_zero]; simp [ptrBack]
            | succ m => rw [prevP_succ]; simp [ptrBack]
        · gi_wp2
          refine bodyPost_ret (results_none rfl _ _ _) rfl ?_
          exact ⟨⟨_, rfl⟩, .inr ⟨pre ++ [x], ⟨_, hpre2⟩, hJx3⟩⟩
      · have hle : d ≤ q := by omega
        gi_wp2
        go_roundw
        case rel => exact ⟨m, d, pre, by omega, rfl, rfl, by rw [← hpre, ups_no (by rw [hq]; exact hlt)], by omega, hL, hJ⟩
        case measure =>
          cases m with
          | zero => rw [prevP_zero]; simp [ptrBack]
          | succ m => rw [prevP_succ]; simp [ptrBack]

set_option maxRecDepth 100000 in
set_option maxHeartbeats 1000000 in
theorem above_in (n : Nat) (p0 : Option Addr) (w : World) :
    CallsIn Fence.wide n Try.prog 32 #[.pointer p0] w fun e w' => e = .returned (.func (.func 51) #[] #[.pointer (some ⟨w.heap.size, 0, none⟩)]) ∧ w' = w.alloc (.cells #[.pointer p0] 49) := by
  refine callsIn_of_wp Try.func32 rfl trivial ?_ rfl
  simp only [Try.ntmps32, List.size_toArray, List.length_cons, List.length_nil, Nat.reduceAdd, Nat.reduceSub, Array.replicate_succ, Array.replicate_zero, List.push_toArray, List.append_toArray, List.nil_append, List.cons_append]
  gi_wp2
  go_ret
  exact ⟨rfl, rfl⟩

theorem above_stops (n : Nat) (hn : 1 ≤ n) (Bn N i : Nat) (L : List Sl) (hi : i < L.length) (w : World) (hBn : Bn < w.heap.size) (hN : N < w.heap.size)
    (hc : w.cell? ⟨Bn, 0, none⟩ = some (.pointer (some ⟨N, i * 4, none⟩))) (hL : Linked w N L) :
    SeqStopsK Fence.wide n Try.prog 51 #[.pointer (some ⟨Bn, 0, none⟩)] (fun x : Fin L.length => #[Value.pointer (some ⟨N, x.val * 4, none⟩)]) (Keep2 N Bn)
      (fun ys => ys.map Fin.val = ups (depN L) (depN L i) i) (fun pre => pre.map Fin.val <+: ups (depN L) (depN L i) i) L.length w := fun l J Jx W hW hab _ hY h0 =>
  above1_in n hn l Bn N i L hi J Jx hY W ((hW.cell (p := ⟨Bn, 0, none⟩) hBn).trans hc) (hL.keep (keep2_below hW hN hBn)) h0

end Go.Proofs.Ytalncgmncafhjaa
