/-
  The walk through what came of a slot: an iterator over the links.
-/
import Derived.RangeFuncNested
import Derived.RangeFuncBound
import Derived.RangeFuncCalls
import Derived.RangeFuncLeaves
import Derived.RangeFuncFrom
import Derived.Shelf.Abstract
import Derived.Shelf.RegionOpen
import Derived.WalkKit
import Derived.OwnWalkIn
import Derived.TacticsInMore
import Derived.LoopNIn
import Derived.LoopIn
import Derived.Sort.QuietTacIn
import Derived.Test.YtalncgmncafhjaaLinks
namespace Go.Proofs.Ytalncgmncafhjaa
open Go.RowKit Go.Shelf
set_option linter.unusedVariables false

attribute [local go_sem] Oper.semAt_some

/-- How many of a list, from its head on, are deeper. -/
def runN (d : Int) : List Sl → Nat
  | [] => 0
  | s :: L => if d < s.p then runN d L + 1 else 0

theorem runN_le (d : Int) : ∀ L : List Sl, runN d L ≤ L.length
  | [] => Nat.le_refl _
  | s :: L => by
    have := runN_le d L
    unfold runN
    split
    · simp; omega
    · simp
theorem runN_in (d : Int) : ∀ (L : List Sl) (k : Nat), k < runN d L → ∃ h : k < L.length, d < L[k].p
  | [], k, h => absurd h (by simp [runN])
  | s :: L, 0, h => by
    unfold runN at h
    split at h
    · exact ⟨by simp, by simpa using ‹_›⟩
    · exact absurd h (by omega)
  | s :: L, k + 1, h => by
    unfold runN at h
    split at h
    · obtain ⟨h1, h2⟩ := runN_in d L k (by omega)
      exact ⟨by simpa using h1, by simpa using h2⟩
    · exact absurd h (by omega)
theorem runN_stop (d : Int) : ∀ (L : List Sl), ∀ h : runN d L < L.length, L[runN d L].p ≤ d
  | [], h => absurd h (by simp)
  | s :: L, h => by
    by_cases e : d < s.p
    · have e1 : runN d (s :: L) = runN d L + 1 := by rw [runN, if_pos e]
      have h' : runN d L < L.length := by rw [e1] at h; simpa using h
      have := runN_stop d L h'
      simp only [e1, List.getElem_cons_succ]
      exact this
    · have e1 : runN d (s :: L) = 0 := by rw [runN, if_neg e]
      simp only [e1, List.getElem_cons_zero]
      omega

/-- The link to a place, if it is one. -/
def nextP (N n j : Nat) : Option Addr := if j < n then some ⟨N, j * 4, none⟩ else none
theorem nextP_some {N n j : Nat} (h : j < n) : nextP N n j = some ⟨N, j * 4, none⟩ := if_pos h
theorem nextP_none {N n j : Nat} (h : ¬ j < n) : nextP N n j = none := if_neg h
/-- The link to the place ahead of one, if there is one. -/
def prevP (N i : Nat) : Option Addr := if i = 0 then none else some ⟨N, (i - 1) * 4, none⟩
theorem prevP_zero (N : Nat) : prevP N 0 = none := rfl
theorem prevP_succ (N j : Nat) : prevP N (j + 1) = some ⟨N, j * 4, none⟩ := by rw [prevP, if_neg (by omega)]; rfl

/-- The places of a tree, linked. -/
structure Linked (W : World) (N : Nat) (L : List Sl) : Prop where
  place : ∀ i, i < L.length → W.cell? ⟨N, i * 4, none⟩ = some (.int .i64 (i : Nat))
  depth : ∀ i (h : i < L.length), W.cell? ⟨N, i * 4 + 1, none⟩ = some (.int .i64 L[i].p)
  ahead : ∀ i, i < L.length → W.cell? ⟨N, i * 4 + 2, none⟩ = some (.pointer (prevP N i))
  behind : ∀ i, i < L.length → W.cell? ⟨N, i * 4 + 3, none⟩ = some (.pointer (nextP N L.length (i + 1)))

theorem Links.linked {W : World} {N : Nat} {L : List Sl} (h : Links W N L L.length) : Linked W N L := by
  refine ⟨fun i hi => h.place i hi hi, fun i hi => h.depth i hi hi, fun i hi => ?_, fun i hi => h.behind i hi⟩
  have := h.ahead i hi
  by_cases e : i = 0
  · rw [if_pos (Or.inl e)] at this; rw [prevP, if_pos e]; exact this
  · rw [if_neg (by omega)] at this; rw [prevP, if_neg e]; exact this

/-- What a round keeps: the links, and the box of where the walk began. -/
def Keep2 (N Bn : Nat) (W W' : World) : Prop := ∀ o, W'.cell? ⟨N, o, none⟩ = W.cell? ⟨N, o, none⟩ ∧ W'.cell? ⟨Bn, o, none⟩ = W.cell? ⟨Bn, o, none⟩

theorem Keep2.trans {N Bn : Nat} {A B C : World} (h : Keep2 N Bn A B) (k : Keep2 N Bn B C) : Keep2 N Bn A C := fun o => ⟨(k o).1.trans (h o).1, (k o).2.trans (h o).2⟩
theorem keep2_below {N Bn n₀ : Nat} {W W' : World} (hb : Below n₀ W W') (hN : N < n₀) (hB : Bn < n₀) : Keep2 N Bn W W' := fun o => ⟨hb.cell (p := ⟨N, o, none⟩) hN, hb.cell (p := ⟨Bn, o, none⟩) hB⟩
theorem Linked.keep {N Bn : Nat} {W W' : World} {L : List Sl} (h : Linked W N L) (k : Keep2 N Bn W W') : Linked W' N L :=
  ⟨fun i hi => (k _).1.trans (h.place i hi), fun i hi => (k _).1.trans (h.depth i hi), fun i hi => (k _).1.trans (h.ahead i hi), fun i hi => (k _).1.trans (h.behind i hi)⟩

theorem grown_drewN (w : World) (n : Nat) (row : Option Nat) : w.grownBy (w.drewN n) row := ⟨rfl, rfl, rfl, Nat.le_refl _, fun _ _ _ => rfl⟩

/-- How far a pointer is from the end. -/
def ptrLeft (n : Nat) : Value → Nat
  | .pointer (some a) => n * 4 + 4 - a.off
  | _ => 0

/-- What stands between two rounds of the walk down. -/
def belowInv (N Bn i : Nat) (L : List Sl) (d : Int) (J : List (Fin L.length) → World → Prop) (p : Value) (wr : World) : Prop :=
  ∃ (k : Nat) (pre : List (Fin L.length)), k ≤ runN d (L.drop (i + 1)) ∧ p = .pointer (nextP N L.length (i + 1 + k)) ∧ pre.map Fin.val = List.range' (i + 1) k ∧
    wr.cell? ⟨Bn, 0, none⟩ = some (.pointer (some ⟨N, i * 4, none⟩)) ∧ Linked wr N L ∧ J pre wr

set_option maxRecDepth 100000 in
set_option maxHeartbeats 2000000 in
theorem below1_in (n : Nat) (hn : 1 ≤ n) (l Bn N i B0 : Nat) (L : List Sl) (hi : i < L.length) (J Jx : List (Fin L.length) → World → Prop) (hab : AbidesFrom B0 J)
    (hY : ∀ pre x W, J pre W → pre.length < L.length → YieldAt Fence.wide (n - 1) Try.prog l #[.pointer (some ⟨N, x.val * 4, none⟩)] W fun e W' =>
      (e = .returned (.bool true) ∧ J (pre ++ [x]) W' ∧ Keep2 N Bn W W') ∨ (e = .returned (.bool false) ∧ Jx (pre ++ [x]) W'))
    (W : World) (hBn : W.cell? ⟨Bn, 0, none⟩ = some (.pointer (some ⟨N, i * 4, none⟩))) (hL : Linked W N L) (h0 : J [] W) :
    CallsIn Fence.wide n Try.prog 44 #[.func (.yield l) #[] #[], .pointer (some ⟨Bn, 0, none⟩)] W fun e W' => (∃ v, e = .returned v) ∧
      ((∃ ys : List (Fin L.length), ys.map Fin.val = List.range' (i + 1) (runN L[i].p (L.drop (i + 1))) ∧ J ys W') ∨ (∃ pre : List (Fin L.length), pre.map Fin.val <+: List.range' (i + 1) (runN L[i].p (L.drop (i + 1))) ∧ Jx pre W')) := by
  have hb0 := hL.behind i hi
  obtain ⟨d, hd⟩ : ∃ d, L[i].p = d := ⟨_, rfl⟩
  rw [hd]
  refine callsIn_of_wp Try.func44 rfl trivial ?_ rfl
  simp only [Try.ntmps44, List.size_toArray, List.length_cons, List.length_nil, Nat.reduceAdd, Nat.reduceSub, Array.replicate_succ, Array.replicate_zero, List.push_toArray, List.append_toArray, List.nil_append, List.cons_append]
  gi_wp2
  gi_loopw [3] (fun p wr => belowInv N Bn i L d J p wr) (fun p wr => ptrLeft L.length p)
  case atStart =>
    exact ⟨0, [], Nat.zero_le _, rfl, rfl, hBn, hL, h0⟩
  case round =>
    clear hb0 hBn hL h0
    obtain ⟨k, pre, hk, rfl, hpre, hB, hL, hJ⟩ := hrel
    have hr := runN_le d (L.drop (i + 1))
    simp only [List.length_drop] at hr
    have hdi := hL.depth i hi
    rw [hd] at hdi
    have hlen : pre.length = k := by have := congrArg List.length hpre; simpa using this
    by_cases hj : i + 1 + k < L.length
    · obtain ⟨x, hx⟩ : ∃ x : Fin L.length, x.val = i + 1 + k := ⟨⟨i + 1 + k, hj⟩, rfl⟩
      have hdj := hL.depth (i + 1 + k) hj
      rw [nextP_some hj]
      have hdx : (L.drop (i + 1))[k]? = some L[i + 1 + k] := by rw [List.getElem?_drop, List.getElem?_eq_getElem hj]
      obtain ⟨q, hq⟩ : ∃ q, L[i + 1 + k].p = q := ⟨_, rfl⟩
      rw [hq] at hdj
      by_cases hlt : d < q
      · have hkr : k < runN d (L.drop (i + 1)) := by
          rcases Nat.lt_or_ge k (runN d (L.drop (i + 1))) with h | h
          · exact h
          · have e : runN d (L.drop (i + 1)) = k := by omega
            have := runN_stop d (L.drop (i + 1)) (by rw [e, List.length_drop]; omega)
            simp only [e, List.getElem_drop, hq] at this
            omega
        have g : decide (d < q) = true := by simpa using hlt
        gi_wp2
        gi_quiet_th (fail)
        have hJ1 : J pre (wr.drewN nq) := hab _ _ _ none hJ (grown_drewN _ _ _) (fun r e => by cases e)
        obtain ⟨fn, tmps, assign, body, hy, hR⟩ := hY pre x (wr.drewN nq) hJ1 (by omega)
        rw [hx] at hy
        have hL1 : Linked (wr.drewN nq) N L := hL.keep (Bn := Bn) (fun o => ⟨rfl, rfl⟩)
        have hB1 : (wr.drewN nq).cell? ⟨Bn, 0, none⟩ = some (.pointer (some ⟨N, i * 4, none⟩)) := hB
        gi_wp2
        refine hR.mono ?_
        rintro e W3 (⟨rfl, hJ3, hk3⟩ | ⟨rfl, hJx3⟩)
        · have hL3 := hL1.keep hk3
          have hb3 := hL3.behind (i + 1 + k) hj
          have hB3 := ((hk3 0).2).trans hB1
          gi_wp2
          go_roundw
          case rel => exact ⟨k + 1, pre ++ [x], by omega, rfl, by rw [List.map_append, hpre, List.range'_concat]; simp [hx], hB3, hL3, hJ3⟩
          case measure =>
            by_cases h2 : i + 1 + k + 1 < L.length
            · rw [nextP_some h2]; simp [ptrLeft]; omega
            · rw [nextP_none h2]; simp [ptrLeft]; omega
        · gi_wp2
          refine bodyPost_ret (results_none rfl _ _ _) rfl ?_
          exact ⟨⟨_, rfl⟩, .inr ⟨pre ++ [x], by
            rw [List.map_append, hpre]
            have e : List.range' (i + 1) k ++ List.map Fin.val [x] = List.range' (i + 1) (k + 1) := by rw [List.range'_concat]; simp [hx]
            rw [e]
            exact ⟨List.range' (i + 1 + (k + 1)) (runN d (L.drop (i + 1)) - (k + 1)), by
              rw [List.range'_append_1]; congr 1; omega⟩, hJx3⟩⟩
      · have hkr : runN d (L.drop (i + 1)) = k := by
          rcases Nat.lt_or_ge k (runN d (L.drop (i + 1))) with h | h
          · obtain ⟨h1, h2⟩ := runN_in d _ k h
            simp only [List.getElem_drop, hq] at h2
            omega
          · omega
        have g : decide (d < q) = false := by simpa using hlt
        gi_wp2
        gi_quiet_th (fail)
        gi_wp2
        go_end0
        exact ⟨⟨_, rfl⟩, .inl ⟨pre, by rw [hpre, hkr], hab _ _ _ none hJ (grown_drewN _ _ _) (fun r e => by cases e)⟩⟩
    · rw [nextP_none hj]
      have hkr : runN d (L.drop (i + 1)) = k := by omega
      gi_wp2
      gi_quiet_th (fail)
      gi_wp2
      go_end0
      exact ⟨⟨_, rfl⟩, .inl ⟨pre, by rw [hpre, hkr], hab _ _ _ none hJ (grown_drewN _ _ _) (fun r e => by cases e)⟩⟩

set_option maxRecDepth 100000 in
set_option maxHeartbeats 1000000 in
theorem below_in (n : Nat) (p0 : Option Addr) (w : World) :
    CallsIn Fence.wide n Try.prog 28 #[.pointer p0] w fun e w' => e = .returned (.func (.func 44) #[] #[.pointer (some ⟨w.heap.size, 0, none⟩)]) ∧ w' = w.alloc (.cells #[.pointer p0] 49) := by
  refine callsIn_of_wp Try.func28 rfl trivial ?_ rfl
  simp only [Try.ntmps28, List.size_toArray, List.length_cons, List.length_nil, Nat.reduceAdd, Nat.reduceSub, Array.replicate_succ, Array.replicate_zero, List.push_toArray, List.append_toArray, List.nil_append, List.cons_append]
  gi_wp2
  go_ret
  exact ⟨rfl, rfl⟩

theorem below_stops (n : Nat) (hn : 1 ≤ n) (Bn N i : Nat) (L : List Sl) (hi : i < L.length) (w : World) (hBn : Bn < w.heap.size) (hN : N < w.heap.size)
    (hc : w.cell? ⟨Bn, 0, none⟩ = some (.pointer (some ⟨N, i * 4, none⟩))) (hL : Linked w N L) :
    SeqStopsK Fence.wide n Try.prog 44 #[.pointer (some ⟨Bn, 0, none⟩)] (fun x : Fin L.length => #[Value.pointer (some ⟨N, x.val * 4, none⟩)]) (Keep2 N Bn)
      (fun ys => ys.map Fin.val = List.range' (i + 1) (runN L[i].p (L.drop (i + 1)))) (fun pre => pre.map Fin.val <+: List.range' (i + 1) (runN L[i].p (L.drop (i + 1)))) L.length w := fun l J Jx W hW hab _ hY h0 =>
  below1_in n hn l Bn N i W.heap.size L hi J Jx hab hY W ((hW.cell (p := ⟨Bn, 0, none⟩) hBn).trans hc) (hL.keep (keep2_below hW hN hBn)) h0

theorem keep2_put {N Bn n₀ : Nat} {w : World} (hn : n₀ ≤ w.heap.size) (hN : N < n₀) (hB : Bn < n₀) (W : World) (l : Nat) (o o' : Obj) (hl : w.heap.size ≤ l) (h : W.heap[l]? = some o) (h1 : o.isCells = false) (h2 : o.isWalk = false) : Keep2 N Bn W (W.putObj l o') :=
  keep2_below (belowK_b hn W l o o' hl h h1 h2) hN hB

end Go.Proofs.Ytalncgmncafhjaa
