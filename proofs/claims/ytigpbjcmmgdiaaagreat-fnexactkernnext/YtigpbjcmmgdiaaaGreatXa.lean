/-
  Texts of the proof, put together: PlaceF, NextP, LeafSpec, NextSa, NextS, NextV, NextI.
-/
import Derived.Test.YtigpbjcmmgdiaaaGreatRk
import Derived.Test.YtigpbjcmmgdiaaaGreatBt
import Derived.Test.YtigpbjcmmgdiaaaGreatBw
import Derived.Test.YtigpbjcmmgdiaaaGreatRv
import Derived.Test.YtigpbjcmmgdiaaaGreatRs
import Derived.Test.YtigpbjcmmgdiaaaGreatRn
import Derived.Test.YtigpbjcmmgdiaaaGreatKernOkB
/-
 The place of a slot, by both: in a tree the last that lies there is the first.
-/
namespace Go.Proofs.YtigpbjcmmgdiaaaGreat
open Go.ChangeShapes Go.WideShapes Go.ChangeAt Go.RowKit
set_option linter.unusedVariables false

theorem place_find {L : List Sl} (hT : treeB L = true) (x : Int) : findI L x = (placeR L L.length x).getD (-1) := by
 cases hp : placeR L L.length x with
 | none =>
  refine findI_no L x fun i hi e => ?_
  have := placeR_at hT hi
  rw [e, hp] at this
  cases this
 | some v =>
  obtain ⟨y, hy, e⟩ := placeR_some (Nat.le_refl _) (by rw [hp]; rfl)
  have h1 := placeR_at hT hy
  rw [e, hp] at h1
  injection h1 with h1
  show findI L x = v
  rw [h1]
  refine findI_at L x y hy e fun i hi e2 => ?_
  have h2 := placeR_at hT (y := i) (by omega)
  rw [e2, hp] at h2
  injection h2 with h2
  omega
/-- The slot that lies there is the one at its place. -/
theorem place_at {L : List Sl} (hT : treeB L = true) {x v : Int} (hp : placeR L L.length x = some v) : ∃ (y : Nat) (hy : y < L.length), v = (y : Int) ∧ L[y].t = x := by
 obtain ⟨y, hy, e⟩ := placeR_some (Nat.le_refl _) (by rw [hp]; rfl)
 have h1 := placeR_at hT hy
 rw [e, hp] at h1
 injection h1 with h1
 exact ⟨y, hy, h1, e⟩

end Go.Proofs.YtigpbjcmmgdiaaaGreat
/-
 Which slot goes next: plain facts. The leaf of a slot, then the one of lowest address that lies in what the leaf holds, and so on. Conditions: all lie where they may; nothing keeps itself from going.
-/
namespace Go.Proofs.YtigpbjcmmgdiaaaGreat
open Go.ChangeShapes Go.WideShapes Go.ChangeAt Go.RowKit
set_option linter.unusedVariables false

/-- Of the first k slots the one of lowest address in the room of s is at r; -1: none is. -/
def InP (L : List Sl) (s : Sl) (k : Nat) (r : Int) : Prop :=
 (r = -1 ∧ ∀ m (hm : m < L.length), m < k → inRm s L[m].t = false) ∨ ∃ (j : Nat) (hj : j < L.length), j < k ∧ r = (j : Int) ∧ inRm s L[j].t = true ∧ ∀ m (hm : m < L.length), m < k → inRm s L[m].t = true → L[j].t ≤ L[m].t
theorem InP.zero (L : List Sl) (s : Sl) : InP L s 0 (-1) := .inl ⟨rfl, fun m hm h => absurd h (Nat.not_lt_zero _)⟩
theorem InP.ge {L : List Sl} {s : Sl} {k : Nat} {r : Int} (h : InP L s k r) : -1 ≤ r := by
 rcases h with ⟨e, _⟩ | ⟨j, _, _, e, _⟩ <;> omega
theorem InP.out {L : List Sl} {s : Sl} {k : Nat} {r : Int} (hk : k < L.length) (h : InP L s k r) (hn : inRm s L[k].t = false) : InP L s (k + 1) r := by
 rcases h with ⟨e, h⟩ | ⟨j, hj, hjk, e, h1, h2⟩
 ·refine .inl ⟨e, fun m hm h3 => ?_⟩
  by_cases e2 : m = k
  ·subst e2; exact hn
  ·exact h m hm (by omega)
 ·refine .inr ⟨j, hj, by omega, e, h1, fun m hm h3 h4 => ?_⟩
  by_cases e2 : m = k
  ·subst e2; rw [hn] at h4; cases h4
  ·exact h2 m hm (by omega) h4
theorem InP.first {L : List Sl} {s : Sl} {k : Nat} (hk : k < L.length) (h : InP L s k (-1)) (hy : inRm s L[k].t = true) : InP L s (k + 1) (k : Int) := by
 rcases h with ⟨e, h⟩ | ⟨j, hj, hjk, e, h1, h2⟩
 ·refine .inr ⟨k, hk, by omega, rfl, hy, fun m hm h3 h4 => ?_⟩
  by_cases e2 : m = k
  ·subst e2; exact Int.le_refl _
  ·rw [h m hm (by omega)] at h4; cases h4
 ·omega
theorem InP.less {L : List Sl} {s : Sl} {k j : Nat} (hk : k < L.length) (hj : j < L.length) (h : InP L s k (j : Int)) (hy : inRm s L[k].t = true) (hl : L[k].t < L[j].t) : InP L s (k + 1) (k : Int) := by
 rcases h with ⟨e, h⟩ | ⟨j2, hj2, hjk, e, h1, h2⟩
 ·omega
 ·obtain rfl : j = j2 := by omega
  refine .inr ⟨k, hk, by omega, rfl, hy, fun m hm h3 h4 => ?_⟩
  by_cases e2 : m = k
  ·subst e2; exact Int.le_refl _
  ·have := h2 m hm (by omega) h4; omega
theorem InP.more {L : List Sl} {s : Sl} {k j : Nat} (hk : k < L.length) (hj : j < L.length) (h : InP L s k (j : Int)) (hl : ¬ L[k].t < L[j].t) : InP L s (k + 1) (j : Int) := by
 rcases h with ⟨e, h⟩ | ⟨j2, hj2, hjk, e, h1, h2⟩
 ·omega
 ·obtain rfl : j = j2 := by omega
  refine .inr ⟨j, hj, by omega, rfl, h1, fun m hm h3 h4 => ?_⟩
  by_cases e2 : m = k
  ·subst e2; omega
  ·exact h2 m hm (by omega) h4
theorem inP_ex (L : List Sl) (s : Sl) : ∀ k, k ≤ L.length → ∃ r, InP L s k r
 | 0, _ => ⟨-1, InP.zero L s⟩
 | k + 1, h => by
  have hk : k < L.length := by omega
  obtain ⟨r, hr⟩ := inP_ex L s k (by omega)
  cases hi : inRm s L[k].t with
  | false => exact ⟨r, hr.out hk hi⟩
  | true =>
   have hr2 := hr
   rcases hr2 with ⟨e, _⟩ | ⟨j, hj, _, e, _⟩
   ·subst e; exact ⟨_, hr.first hk hi⟩
   ·subst e
    by_cases hl : L[k].t < L[j].t
    ·exact ⟨_, hr.less hk hj hi hl⟩
    ·exact ⟨_, hr.more hk hj hl⟩
theorem at_one {L : List Sl} (hT : treeB L = true) {i j : Nat} (hi : i < L.length) (hj : j < L.length) (h : L[i].t = L[j].t) : i = j := by
 have h1 := placeR_at hT hi
 rw [h, placeR_at hT hj] at h1
 injection h1 with h1
 omega
theorem inP_one {L : List Sl} (hT : treeB L = true) {s : Sl} {r r' : Int} (h : InP L s L.length r) (k : InP L s L.length r') : r = r' := by
 rcases h with ⟨e, h⟩ | ⟨i, hi, _, e, h1, h2⟩
 ·rcases k with ⟨e', _⟩ | ⟨j, hj, _, _, k1, _⟩
  ·rw [e, e']
  ·rw [h j hj hj] at k1; cases k1
 ·rcases k with ⟨_, k⟩ | ⟨j, hj, _, e', k1, k2⟩
  ·rw [k i hi hi] at h1; cases h1
  ·have a := h2 j hj hj k1
   have b := k2 i hi hi h1
   rw [e, e', at_one hT hi hj (by omega)]
/-- The row of those that lie there, by their addresses: where it is empty, where it begins. -/
theorem inP_mid {L : List Sl} (hT : treeB L = true) {A : List Int} (hA : AtsP (placeR L L.length) A) {i : Nat} (hi : i < L.length) (ys : List (Fin L.length)) (h : ys.map (fun y => L[y.val].t) = midL A (rmA L[i]) (rmA L[i] + rmS L[i])) (h0 : ys = []) : InP L L[i] L.length (-1) := by
 refine .inl ⟨rfl, fun m hm _ => ?_⟩
 cases hr : inRm L[i] L[m].t with
 | false => rfl
 | true =>
  have := (mid_in hT hA hi m hm).2 hr
  rw [← h, h0] at this; cases this
theorem inP_head {L : List Sl} (hT : treeB L = true) {A : List Int} (hA : AtsP (placeR L L.length) A) {i : Nat} (hi : i < L.length) (x : Fin L.length) (h : [x].map (fun y => L[y.val].t) <+: midL A (rmA L[i]) (rmA L[i] + rmS L[i])) : InP L L[i] L.length (x.val : Int) := by
 obtain ⟨rest, hrest⟩ := h
 rw [List.map_cons, List.map_nil, List.cons_append, List.nil_append] at hrest
 have hs : (midL A (rmA L[i]) (rmA L[i] + rmS L[i])).Pairwise (· < ·) := List.Pairwise.filter _ hA.up
 rw [← hrest, List.pairwise_cons] at hs
 have hx : inRm L[i] L[x.val].t = true := (mid_in hT hA hi x.val x.isLt).1 (by rw [← hrest]; exact List.mem_cons_self ..)
 refine .inr ⟨x.val, x.isLt, x.isLt, rfl, hx, fun m hm _ hr => ?_⟩
 have := (mid_in hT hA hi m hm).2 hr
 rw [← hrest, List.mem_cons] at this
 rcases this with e | h3
 ·omega
 ·have := hs.1 _ h3; omega

/-- The way from a slot to the one that goes next, of at most that many steps. -/
inductive NextR (L : List Sl) : Nat → Nat → Nat → Prop
 | last {f i k : Nat} (hi : i < L.length) (hl : i + k < L.length) (h : IsLeaf L i k) (hin : InP L L[i + k] L.length (-1)) : NextR L (f + 1) i (i + k)
 | step {f i k y j : Nat} (hi : i < L.length) (hl : i + k < L.length) (h : IsLeaf L i k) (hin : InP L L[i + k] L.length (y : Int)) (hy : y < L.length) (hn : NextR L f y j) : NextR L (f + 1) i j
theorem NextR.lt {L : List Sl} {f i j : Nat} (h : NextR L f i j) : j < L.length := by
 induction h with
 | last _ hl _ _ => exact hl
 | step _ _ _ _ _ _ ih => exact ih
theorem leaf_stops {L : List Sl} {i k : Nat} (hi : i < L.length) (h : IsLeaf L i k) (hk : 0 < k) : stopR L (i + k) i := by
 refine ⟨L[i], List.getElem?_eq_getElem hi, ?_⟩
 unfold stopB
 have hl := h.inn
 have := (run_iff hi rfl (i + k) hl (by omega)).2 fun j h1 h2 => by
  have := climb_trans (f := depN L) (i := i) (k := j - i) (fun t ht => h.up t (by omega)) (by omega)
  have e : i + (j - i) = j := by omega
  rw [e] at this; exact this
 have e1 : decide (i < i + k) = true := by simpa using hk
 have e2 : decide (i + k < i + 1 + runN L[i].p (L.drop (i + 1))) = true := by simp; omega
 rw [e1, e2]; rfl
theorem in_stops {bits : Int} {L : List Sl} (S : Sound bits L) {y x : Nat} (hy : y < L.length) (hx : x < L.length) (h : inRm L[x] L[y].t = true) : stopR L y x := by
 rw [inRm_holds S.tree hx hy] at h
 obtain ⟨o1, o2, o3, o4, o5⟩ := hold_in S hx h
 have p := ok_parts (tree_ok S.tree x hx).2.2.2
 obtain ⟨t1, t2, t3, _⟩ := tree_ok S.tree y hy
 have hsz := p.2.2.2.2.2.2.2.2.2.2.2.2 o1
 have hin : inB L[y].t 4 L[x].e (szI L[x].k L[x].b) = true := in_iff.2 ⟨by omega, by omega, by omega, by omega⟩
 refine ⟨L[x], List.getElem?_eq_getElem hx, ?_⟩
 unfold stopB
 rw [o5, List.getElem?_eq_getElem hy]
 show (_ || (true && inB L[y].t 4 L[x].e (szI L[x].k L[x].b))) = true
 rw [hin]; simp
theorem InP.in_ {L : List Sl} {s : Sl} {k j : Nat} (hj : j < L.length) (h : InP L s k (j : Int)) : inRm s L[j].t = true := by
 rcases h with ⟨e, _⟩ | ⟨j2, hj2, _, e, h1, _⟩
 ·omega
 ·obtain rfl : j = j2 := by omega
  exact h1
theorem acyc_irr {n : Nat} {R : Nat → Nat → Prop} (h : Acyc n R) (x : Nat) : ¬ Way n R x x := by
 intro hw
 obtain ⟨z, hz, e, hn⟩ := acyc_ways (R' := Way n R) (fun _ _ _ _ h => h) h (fun z => z = x) ⟨x, hw.to_lt, rfl⟩
 subst e
 exact hn z hz rfl hw
/-- There is always one that goes next, and the way to it is no longer than there are slots. -/
theorem next_ex {bits : Int} {L : List Sl} (S : Sound bits L) (ha : Acyc L.length (stopR L)) : ∀ (m : Nat) (i : Nat) (V : List Nat), i < L.length → V.Nodup → (∀ v ∈ V, v < L.length) → V.length + m = L.length → (∀ k, IsLeaf L i k → ∀ v ∈ V, Way L.length (stopR L) (i + k) v) → ∃ j f, NextR L f i j ∧ f + V.length ≤ L.length := by
 intro m
 induction m with
 | zero =>
  intro i V hi hV hlt hlen hw
  obtain ⟨k, hk⟩ := isLeaf_ex L i hi
  have hin : i + k ∈ V := full_of_len hV hlt (by omega) (i + k) hk.inn
  exact absurd (hw k hk _ hin) (acyc_irr ha _)
 | succ m ih =>
  intro i V hi hV hlt hlen hw
  obtain ⟨k, hk⟩ := isLeaf_ex L i hi
  have hnot : i + k ∉ V := fun hin => absurd (hw k hk _ hin) (acyc_irr ha _)
  obtain ⟨r, hr⟩ := inP_ex L (L[i + k]'hk.inn) L.length (Nat.le_refl _)
  have hr2 := hr
  rcases hr2 with ⟨e, _⟩ | ⟨y, hy, _, e, _⟩
  ·subst e
   exact ⟨i + k, 1, .last hi hk.inn hk hr, by omega⟩
  ·subst e
   have hst := in_stops S hy hk.inn (hr.in_ hy)
   obtain ⟨j, f, hn, hle⟩ := ih y ((i + k) :: V) hy (List.nodup_cons.2 ⟨hnot, hV⟩) (fun v hv => by
    rcases List.mem_cons.1 hv with e | hv
    ·rw [e]; exact hk.inn
    ·exact hlt v hv) (by simp; omega) (fun k2 hk2 v hv => by
    have h1 : Way L.length (stopR L) (y + k2) (i + k) := by
     by_cases e0 : k2 = 0
     ·subst e0; exact .one hy hk.inn hst
     ·exact (Way.one hk2.inn hy (leaf_stops hy hk2 (by omega))).trans (.one hy hk.inn hst)
    rcases List.mem_cons.1 hv with e | hv
    ·rw [e]; exact h1
    ·exact h1.trans (hw k hk v hv))
   simp at hle
   exact ⟨j, f + 1, .step hi hk.inn hk hr hy hn, by omega⟩
theorem next_all {bits : Int} {L : List Sl} (S : Sound bits L) (ha : Acyc L.length (stopR L)) {i : Nat} (hi : i < L.length) : ∃ j f, NextR L f i j ∧ f ≤ L.length := by
 obtain ⟨j, f, h1, h2⟩ := next_ex S ha L.length i [] hi List.nodup_nil (fun v h => by cases h) (by simp) (fun _ _ v h => by cases h)
 exact ⟨j, f, h1, by simpa using h2⟩

end Go.Proofs.YtigpbjcmmgdiaaaGreat
/-
 What l3Leaf and TreeLeaf of the specification answer.
-/
namespace Go.Proofs.YtigpbjcmmgdiaaaGreat
open Go.ChangeShapes Go.WideShapes Go.ChangeAt Go.RowKit
set_option linter.unusedVariables false

/-- What stands between two rounds. -/
def leafInv (w : World) (i k : Nat) (v : Value) (w' : World) : Prop := ∃ t : Nat, t ≤ k ∧ v = .int .i64 ((i + t : Nat) : Int) ∧ ∃ n, w' = w.drewN n

theorem lies_dep {W : World} {B O : Nat} {L : List Sl} (h : Lies W (some ⟨B, O, none⟩) L) {j : Nat} (hj : j < L.length) : W.cell? ⟨B, O + j * 11 + 10, none⟩ = some (.int .i64 (depN L j)) := by
 rw [depN_at hj]; exact (h.cells B O rfl j hj).c10

set_option maxRecDepth 100000 in
set_option maxHeartbeats 1000000 in
theorem leafSpec_any (P : Option Addr) (c i : Nat) (L : List Sl) (w : World) (hl : L.length ≤ 1048576) (h : Lies w P L) (hi : i < L.length) (k : Nat) (hk : IsLeaf L i k) :
  Calls Tryz.prog 79 #[.slice P L.length c, .int .i64 (i : Int)] w fun e w' => e = .returned (.int .i64 ((i + k : Nat) : Int)) ∧ Below w.heap.size w w' := by
 obtain ⟨B, O, rfl⟩ := h.some hi
 go_enter Tryz.func79, Tryz.ntmps79
 go_wp2
 go_loopw [1] (fun v w' => leafInv w i k v w') (fun v w' => L.length - (intOf v).toNat)
 case atStart => exact ⟨0, Nat.zero_le _, rfl, 0, rfl⟩
 case round =>
  obtain ⟨t, htk, rfl, m, rfl⟩ := hrel
  have hin := hk.inn
  obtain ⟨j, hj⟩ : ∃ j, i + t = j := ⟨_, rfl⟩
  have hjl : j < L.length := by omega
  have c0 := lies_dep h hjl
  have hjj : (j : Int) < (L.length : Int) := by omega
  obtain ⟨J, hJ⟩ : ∃ J, j + 1 = J := ⟨_, rfl⟩
  have hw1 : IntKind.i64.wrap ((j : Int) + 1) = (J : Int) := by rw [wrap_in (by omega) (by omega)]; omega
  have hw2 : (j : Int) + 1 = (J : Int) := by omega
  by_cases htk2 : t < k
  ·have hup := hk.up t htk2
   rw [hj] at hup ⊢
   rw [hJ] at hup
   have c1 := lies_dep h (show J < L.length by omega)
   have hjj1 : (J : Int) < (L.length : Int) := by omega
   obtain ⟨p, hp⟩ : ∃ p, depN L j = p := ⟨_, rfl⟩
   obtain ⟨q, hq⟩ : ∃ q, depN L J = q := ⟨_, rfl⟩
   rw [hp] at c0 hup
   rw [hq] at c1 hup
   have g : decide (p < q) = true := by simpa using hup
   have HJ : Hid _ := hj
   have HJ2 : Hid _ := hJ
   clear hj hp hq hin hJ
   go_upto_region 1 with fail
   go_quiet (fail)
   go_wp2
   go_roundw
   case rel => exact ⟨t + 1, by omega, by have := HJ.out; have := HJ2.out; go_num, _, rfl⟩
   case measure => have := HJ2.out; simp [intOf]; omega
  ·obtain rfl : t = k := by omega
   by_cases h1 : J < L.length
   ·have htop := hk.top (by omega)
    rw [hj, hJ] at htop
    rw [hj]
    have c1 := lies_dep h h1
    have hjj1 : (J : Int) < (L.length : Int) := by omega
    obtain ⟨p, hp⟩ : ∃ p, depN L j = p := ⟨_, rfl⟩
    obtain ⟨q, hq⟩ : ∃ q, depN L J = q := ⟨_, rfl⟩
    rw [hp] at c0 htop
    rw [hq] at c1 htop
    have g : decide (p < q) = false := by simp; omega
    have HJ2 : Hid _ := hJ
    have HJ : Hid _ := hj
    clear hj hp hq hin hJ
    go_upto_region 1 with fail
    go_quiet (fail)
    go_wp2
    go_ret
    exact ⟨ret_int (by have := HJ.out; omega), by first | exact below_drewN (Below.refl _ _) _ | exact below_drewN (below_drewN (Below.refl _ _) _) _⟩
   ·rw [hj]
    have hjj1 : ¬ (J : Int) < (L.length : Int) := by omega
    have HJ2 : Hid _ := hJ
    have HJ : Hid _ := hj
    clear hj hin hJ
    go_upto_region 1 with fail
    go_quiet (fail)
    go_wp2
    go_ret
    exact ⟨ret_int (by have := HJ.out; omega), by first | exact below_drewN (Below.refl _ _) _ | exact below_drewN (below_drewN (Below.refl _ _) _) _⟩

end Go.Proofs.YtigpbjcmmgdiaaaGreat
/-
 The slot that goes next, by the specification. Conditions: the state's rows lie in memory and are not too long; its slots are a tree.
-/
namespace Go.Proofs.YtigpbjcmmgdiaaaGreat
open Go.ChangeShapes Go.WideShapes Go.ChangeAt Go.RowKit
set_option linter.unusedVariables false

/-- Who opens has a room: what lies in it lies in its home. -/
theorem rm_in {bits : Int} {L : List Sl} (S : Sound bits L) (hh : ∀ i, i < L.length → homeOkB L i = true) {x y : Nat} (hx : x < L.length) (hy : y < L.length) (ho : opensB L[x] = true) : inRm L[x] L[y].t = inB L[y].t 4 L[x].e (szI L[x].k L[x].b) := by
 have p := ok_parts (tree_ok S.tree x hx).2.2.2
 obtain ⟨t1, t2, t3, _⟩ := tree_ok S.tree y hy
 have hoo : L[x].o = true := by unfold opensB at ho; simp only [Bool.and_eq_true] at ho; exact ho.1
 have hk : L[x].k = 2 ∨ L[x].k = 3 := by unfold opensB at ho; simpa [hoo] using ho
 have hsz := p.2.2.2.2.2.2.2.2.2.2.2.2 hoo
 rw [inRm_holds S.tree hx hy, Bool.eq_iff_iff]
 constructor
 ·intro h
  obtain ⟨o1, o2, o3, o4, o5⟩ := hold_in S hx h
  exact in_iff.2 ⟨by omega, by omega, by omega, by omega⟩
 ·intro hin
  obtain ⟨_, _, h3, h4⟩ := in_iff.1 hin
  have hm := S.mem x hx
  have hge : 128 ≤ L[x].e := by
   unfold memB at hm; simp only [Bool.not_eq_true', Bool.or_eq_false_iff, decide_eq_false_iff_not] at hm; omega
  have hy2 := hh y hy
  unfold homeOkB at hy2
  rw [List.getElem?_eq_getElem hy] at hy2
  simp only [] at hy2
  rw [if_neg (by omega)] at hy2
  rcases home_or L L[y].t with ⟨e, _⟩ | ⟨k, hk2, e, hp⟩
  ·rw [homeSl_none e] at hy2; cases hy2
  ·obtain ⟨o1, o2, o3, o4, _⟩ := hold_in S hk2 hp
   have : k = x := objs_apart S hk2 hx o1 hoo o2 (by omega) (by omega) (by omega)
   subst this; exact hp
theorem rm_none {s : Sl} (ho : opensB s = false) (x : Int) : inRm s x = false := by
 unfold opensB at ho
 have h2 : (s.o && s.k == 2) = false := by revert ho; cases s.o <;> cases (s.k == 2) <;> simp
 have h3 : (s.o && s.k == 3) = false := by revert ho; cases s.o <;> cases (s.k == 3) <;> simp
 unfold inRm rmA rmS
 rw [h2, h3]
 simp only [Bool.false_eq_true, if_false]
 cases h : (decide ((0 : Int) ≤ x) && decide (x < 0 + 0)) with
 | false => rfl
 | true => simp at h; omega
theorem inP_shut {L : List Sl} {s : Sl} (ho : opensB s = false) {r : Int} (h : InP L s L.length r) : r = -1 := by
 rcases h with ⟨e, _⟩ | ⟨j, hj, _, _, h1, _⟩
 ·exact e
 ·rw [rm_none ho] at h1; cases h1
def insInv (w : World) (K : QK) (mB : Nat) (s : Sl) (b v : Value) (W : World) : Prop :=
 ∃ (k : Nat) (rb : Int), k ≤ K.sl.length ∧ v = .int .i64 (k : Int) ∧ b = .int .i64 rb ∧ InP K.sl s k rb ∧ KBox w K W ∧ Bx W mB 33 [.int .i64 s.k, .int .i64 s.e, .int .i64 s.b, .int .i64 s.r, .int .i64 s.d, .int .i64 s.g, .int .i64 s.q, .int .i64 s.f, .bool s.o]
set_option maxRecDepth 100000 in
set_option maxHeartbeats 8000000 in
theorem l4Inside_any (K : QK) (i : Nat) (w : World) (hs : K.Short) (h : KernIn w K) {bits : Int} (S : Sound bits K.sl) (hh : ∀ i, i < K.sl.length → homeOkB K.sl i = true) (hi : i < K.sl.length) (s : Sl) (hsl : K.sl[i] = s) (r : Int) (hr : InP K.sl s K.sl.length r) :
  Calls Tryz.prog 80 #[.agg #[.int .i64 K.bits, .int .i64 K.ticks, .slice K.sP K.sl.length K.sc, .slice K.tP K.tl.length K.tc, .slice K.eP K.el.length K.ec, .slice K.nP K.nl.length K.nc, .slice K.fP K.fl.length K.fc, .slice K.r0.P K.r0.l.length K.r0.c, .slice K.r1.P K.r1.l.length K.r1.c, .slice K.r2.P K.r2.l.length K.r2.c, .slice K.r3.P K.r3.l.length K.r3.c, .slice K.r4.P K.r4.l.length K.r4.c, .slice K.r5.P K.r5.l.length K.r5.c, .slice K.r6.P K.r6.l.length K.r6.c, .slice K.r7.P K.r7.l.length K.r7.c], .agg #[.int .i64 s.k, .int .i64 s.e, .int .i64 s.b, .int .i64 s.r, .int .i64 s.d, .int .i64 s.g, .int .i64 s.q, .int .i64 s.f, .bool s.o]] w fun e w' => e = .returned (.int .i64 r) ∧ Below w.heap.size w w' := by
 have hlen := hs.s
 have hb0 := (KBox.new h 42).below ((Below.refl _ _).alloc (Nat.le_refl _) (.cells #[.int .i64 s.k, .int .i64 s.e, .int .i64 s.b, .int .i64 s.r, .int .i64 s.d, .int .i64 s.g, .int .i64 s.q, .int .i64 s.f, .bool s.o] 33))
 have cx0 := Bx.newAt (w.alloc (.cells #[.int .i64 K.bits, .int .i64 K.ticks, .slice K.sP K.sl.length K.sc, .slice K.tP K.tl.length K.tc, .slice K.eP K.el.length K.ec, .slice K.nP K.nl.length K.nc, .slice K.fP K.fl.length K.fc, .slice K.r0.P K.r0.l.length K.r0.c, .slice K.r1.P K.r1.l.length K.r1.c, .slice K.r2.P K.r2.l.length K.r2.c, .slice K.r3.P K.r3.l.length K.r3.c, .slice K.r4.P K.r4.l.length K.r4.c, .slice K.r5.P K.r5.l.length K.r5.c, .slice K.r6.P K.r6.l.length K.r6.c, .slice K.r7.P K.r7.l.length K.r7.c] 42)) 33 [.int .i64 s.k, .int .i64 s.e, .int .i64 s.b, .int .i64 s.r, .int .i64 s.d, .int .i64 s.g, .int .i64 s.q, .int .i64 s.f, .bool s.o] (c := w.heap.size + 1) (by simp)
 clear h
 go_enter Tryz.func80, Tryz.ntmps80
 go_upto_region 1 with fail
 generalize (w.alloc (.cells #[.int .i64 K.bits, .int .i64 K.ticks, .slice K.sP K.sl.length K.sc, .slice K.tP K.tl.length K.tc, .slice K.eP K.el.length K.ec, .slice K.nP K.nl.length K.nc, .slice K.fP K.fl.length K.fc, .slice K.r0.P K.r0.l.length K.r0.c, .slice K.r1.P K.r1.l.length K.r1.c, .slice K.r2.P K.r2.l.length K.r2.c, .slice K.r3.P K.r3.l.length K.r3.c, .slice K.r4.P K.r4.l.length K.r4.c, .slice K.r5.P K.r5.l.length K.r5.c, .slice K.r6.P K.r6.l.length K.r6.c, .slice K.r7.P K.r7.l.length K.r7.c] 42)).alloc (.cells #[.int .i64 s.k, .int .i64 s.e, .int .i64 s.b, .int .i64 s.r, .int .i64 s.d, .int .i64 s.g, .int .i64 s.q, .int .i64 s.f, .bool s.o] 33) = W0 at hb0 cx0 ⊢
 obtain ⟨mB, hmB⟩ : ∃ mB, w.heap.size + 1 = mB := ⟨_, rfl⟩
 rw [hmB] at cx0 ⊢
 clear hmB
 have y0 := cx0.cell 0 _ rfl
 have y8 := cx0.cell 8 _ rfl
 cases hop : opensB s
 ·have HR : Hid (r = -1) := inP_shut hop hr
  have HBw : Hid _ := hb0.bw
  unfold opensB at hop
  cases ho : s.o
  ·rw [ho] at y8
   clear hb0 cx0 hop hr
   go_wp2
   go_ret
   exact ⟨ret_int HR.out.symm, HBw.out⟩
  ·rw [ho] at y8
   have k2 : (s.k == 2) = false := by rw [ho] at hop; revert hop; cases (s.k == 2) <;> simp
   have k3 : (s.k == 3) = false := by rw [ho] at hop; revert hop; cases (s.k == 3) <;> simp
   have n2 : (s.k != 2) = true := by rw [bne, k2]; rfl
   have n3 : (s.k != 3) = true := by rw [bne, k3]; rfl
   clear hb0 cx0 hop hr
   go_wp2
   go_ret
   exact ⟨ret_int HR.out.symm, HBw.out⟩
 ·have HOp : Hid (opensB s = true) := hop
  have HR : Hid _ := hr
  have HS : Hid _ := hsl
  have ho : s.o = true := by unfold opensB at hop; rw [Bool.and_eq_true] at hop; exact hop.1
  rw [ho] at y8
  have HOo : Hid (s.o = true) := ho
  have hb1 := hb0
  have cx1 := cx0
  clear hb0 cx0 hr hsl
  unfold opensB at hop
  have hkk : (s.k != 2) = false ∨ ((s.k != 2) = true ∧ (s.k != 3) = false) := by
   rw [ho] at hop
   cases k2 : (s.k == 2)
   ·cases k3 : (s.k == 3)
    ·rw [k2, k3] at hop; cases hop
    ·exact .inr ⟨by rw [bne, k2]; rfl, by rw [bne, k3]; rfl⟩
   ·exact .inl (by rw [bne, k2]; rfl)
  clear hop ho
  go_cut [19] (fun v W => v = .bool false ∧ KBox w K W ∧ Bx W mB 33 [.int .i64 s.k, .int .i64 s.e, .int .i64 s.b, .int .i64 s.r, .int .i64 s.d, .int .i64 s.g, .int .i64 s.q, .int .i64 s.f, .bool s.o])
  case first =>
   rcases hkk with n2 | ⟨n2, n3⟩
   ·go_wp2
    go_meet
    case rel => exact ⟨rfl, hb1, cx1⟩
   ·go_wp2
    go_meet
    case rel => exact ⟨rfl, hb1, cx1⟩
  case rest =>
   clear hb1 cx1 y0 y8 hkk
   obtain ⟨rfl, bb0, cx0⟩ := hcut
   go_wp2
   go_loopw [5, 6] (fun b v W => insInv w K mB s b v W) (fun b v W => K.sl.length - (intOf v).toNat)
   case atStart => exact ⟨0, -1, Nat.zero_le _, rfl, rfl, InP.zero _ _, bb0, cx0⟩
   case round =>
    clear bb0 cx0
    obtain ⟨k, rb, hk, rfl, rfl, hin, bb, cx⟩ := hrel
    by_cases hlt : k < K.sl.length
    ·have hk1 : (k : Int) < (K.sl.length : Int) := by omega
     have g2 := bb.cs
     have p2 := cell_regrown bb.cs
     have hrow := bb.b.s
     obtain ⟨B, O, hP⟩ := hrow.some hlt
     rw [hP] at p2 g2 hrow
     have cu := cell_regrown (hrow.cells B O rfl k hlt).c0
     have y0 := cell_regrown (cx.cell 0 _ rfl)
     have y1 := cell_regrown (cx.cell 1 _ rfl)
     have y2 := cell_regrown (cx.cell 2 _ rfl)
     have HI0 := fun W => inSpec_bel K.sl[k].t 4 s.e (szI s.k s.b) W
     obtain ⟨iv, hiv⟩ : ∃ iv, inB K.sl[k].t 4 s.e (szI s.k s.b) = iv := ⟨_, rfl⟩
     rw [hiv] at HI0
     have HI : Hid _ := HI0
     have HIv : Hid (inRm s K.sl[k].t = iv) := by
      have h0 := HOp.out
      have := rm_in S hh hi hlt (by rw [HS.out]; exact h0)
      rw [HS.out] at this
      unfold Hid; rw [this, hiv]
     have HIn : Hid (InP K.sl s k rb) := hin
     obtain ⟨tk, htk⟩ : ∃ t, K.sl[k].t = t := ⟨_, rfl⟩
     have HTk : Hid (K.sl[k].t = tk) := htk
     rw [htk] at cu HI
     clear HI0 hiv hin htk
     cases iv
     ·have HN : Hid (InP K.sl s (k + 1) rb) := HIn.out.out hlt HIv.out
      clear hrow hP
      as_aux_lemma =>
       go_upto_region 7 with fail
       refine wq_region (by kernel_rfl) (by kernel_rfl) ?_
       repeat (first | (refine wq_step (fun K hK => ?_); go_simp; first | (refine hK _ ?_; clear hK K) | (apply Exists.intro; refine ⟨fun _ => ?_, hK _ ?_⟩; (first | (go_at_call 136; exact Calls.regrown_of (sizeSpec_bel s.k s.b _)) | (go_at_call 135; exact Calls.regrown_of (HI.out _))); clear hK K)))
       refine wq_nil ?_
       intro _ hw'
       obtain ⟨⟨dq, osq⟩, hw''⟩ := hw'
       subst hw''
       have bb2 := bb.below (below_regrown _ dq osq)
       have cx2 := cx.below (below_regrown _ dq osq)
       go_wp2
       go_roundw
       case rel => exact ⟨k + 1, rb, by omega, by go_num, rfl, HN.out, bb2, cx2⟩
       case measure => simp [intOf]; omega
     ·by_cases hz : rb < 0
      ·have hrb : rb = -1 := by have := HIn.out.ge; omega
       subst hrb
       have HN : Hid (InP K.sl s (k + 1) (k : Int)) := HIn.out.first hlt HIv.out
       clear hrow hP
       as_aux_lemma =>
        go_upto_region 7 with fail
        refine wq_region (by kernel_rfl) (by kernel_rfl) ?_
        repeat (first | (refine wq_step (fun K hK => ?_); go_simp; first | (refine hK _ ?_; clear hK K) | (apply Exists.intro; refine ⟨fun _ => ?_, hK _ ?_⟩; (first | (go_at_call 136; exact Calls.regrown_of (sizeSpec_bel s.k s.b _)) | (go_at_call 135; exact Calls.regrown_of (HI.out _))); clear hK K)))
        refine wq_nil ?_
        intro _ hw'
        obtain ⟨⟨dq, osq⟩, hw''⟩ := hw'
        subst hw''
        have bb2 := bb.below (below_regrown _ dq osq)
        have cx2 := cx.below (below_regrown _ dq osq)
        go_wp2
        go_roundw
        case rel => exact ⟨k + 1, (k : Int), by omega, by go_num, rfl, HN.out, bb2, cx2⟩
        case measure => simp [intOf]; omega
      ·have hrb := HIn.out
       rcases hrb with ⟨e, _⟩ | ⟨j, hj, _, e, _⟩
       ·omega
       subst e
       have hj1 : (j : Int) < (K.sl.length : Int) := by omega
       have cj := cell_regrown (hrow.cells B O rfl j hj).c0
       obtain ⟨tj, htj⟩ : ∃ t, K.sl[j].t = t := ⟨_, rfl⟩
       have HTj : Hid (K.sl[j].t = tj) := htj
       rw [htj] at cj
       clear hrow hP htj
       by_cases hl : tk < tj
       ·have HN : Hid (InP K.sl s (k + 1) (k : Int)) := HIn.out.less hlt hj HIv.out (by rw [HTk.out, HTj.out]; exact hl)
        as_aux_lemma =>
         go_upto_region 7 with fail
         refine wq_region (by kernel_rfl) (by kernel_rfl) ?_
         repeat (first | (refine wq_step (fun K hK => ?_); go_simp; first | (refine hK _ ?_; clear hK K) | (apply Exists.intro; refine ⟨fun _ => ?_, hK _ ?_⟩; (first | (go_at_call 136; exact Calls.regrown_of (sizeSpec_bel s.k s.b _)) | (go_at_call 135; exact Calls.regrown_of (HI.out _))); clear hK K)))
         refine wq_nil ?_
         intro _ hw'
         obtain ⟨⟨dq, osq⟩, hw''⟩ := hw'
         subst hw''
         have bb2 := bb.below (below_regrown _ dq osq)
         have cx2 := cx.below (below_regrown _ dq osq)
         go_wp2
         go_roundw
         case rel => exact ⟨k + 1, (k : Int), by omega, by go_num, rfl, HN.out, bb2, cx2⟩
         case measure => simp [intOf]; omega
       ·have HN : Hid (InP K.sl s (k + 1) (j : Int)) := HIn.out.more hlt hj (by rw [HTk.out, HTj.out]; exact hl)
        as_aux_lemma =>
         go_upto_region 7 with fail
         refine wq_region (by kernel_rfl) (by kernel_rfl) ?_
         repeat (first | (refine wq_step (fun K hK => ?_); go_simp; first | (refine hK _ ?_; clear hK K) | (apply Exists.intro; refine ⟨fun _ => ?_, hK _ ?_⟩; (first | (go_at_call 136; exact Calls.regrown_of (sizeSpec_bel s.k s.b _)) | (go_at_call 135; exact Calls.regrown_of (HI.out _))); clear hK K)))
         refine wq_nil ?_
         intro _ hw'
         obtain ⟨⟨dq, osq⟩, hw''⟩ := hw'
         subst hw''
         have bb2 := bb.below (below_regrown _ dq osq)
         have cx2 := cx.below (below_regrown _ dq osq)
         go_wp2
         go_roundw
         case rel => exact ⟨k + 1, (j : Int), by omega, by go_num, rfl, HN.out, bb2, cx2⟩
         case measure => simp [intOf]; omega
    ·have hk1 : ¬ (k : Int) < (K.sl.length : Int) := by omega
     have hke : k = K.sl.length := by omega
     rw [hke] at hin
     have HE : Hid (rb = r) := inP_one S.tree hin HR.out
     have HBw : Hid _ := bb.bw
     have g2 := bb.cs
     clear hin hke
     go_wp2
     go_ret
     exact ⟨ret_int HE.out, HBw.out⟩

end Go.Proofs.YtigpbjcmmgdiaaaGreat
/-
 The slot that goes next, by the specification. Conditions: the state's rows lie in memory and are not too long; its slots are a tree.
-/
namespace Go.Proofs.YtigpbjcmmgdiaaaGreat
open Go.ChangeShapes Go.WideShapes Go.ChangeAt Go.RowKit
set_option linter.unusedVariables false

theorem leaf_one {L : List Sl} {i k k' : Nat} (h : IsLeaf L i k) (h' : IsLeaf L i k') : k = k' := by
 have h1 := h.inn
 have h2 := h'.inn
 rcases Nat.lt_trichotomy k k' with hl | he | hl
 ·have a := h'.up k hl
  have b := h.top (by omega)
  omega
 ·exact he
 ·have a := h.up k' hl
  have b := h'.top (by omega)
  omega
/-- Between two rounds: how far it came. -/
def nxInv (w : World) (K : QK) (j : Nat) (a v : Value) (W : World) : Prop :=
 ∃ (m i f : Nat), v = .int .i64 (m : Int) ∧ a = .int .i64 (i : Int) ∧ NextR K.sl f i j ∧ m + f ≤ K.sl.length ∧ KBox w K W
theorem NextR.pos {L : List Sl} {f i j : Nat} (h : NextR L f i j) : 1 ≤ f := by cases h <;> omega
theorem NextR.src {L : List Sl} {f i j : Nat} (h : NextR L f i j) : i < L.length := by cases h <;> assumption
set_option maxRecDepth 100000 in
set_option maxHeartbeats 8000000 in
theorem l4Next_any (K : QK) (x : Int) (w : World) (hs : K.Short) (h : KernIn w K) {bits : Int} (S : Sound bits K.sl) (hh : ∀ i, i < K.sl.length → homeOkB K.sl i = true) (z : Int) (hz : findI K.sl x = z) (c : Int) (hc : (z < 0 ∧ c = -1) ∨ ∃ (i j f : Nat) (hj : j < K.sl.length), z = (i : Int) ∧ NextR K.sl f i j ∧ f ≤ K.sl.length ∧ c = K.sl[j].t) :
  Calls Tryz.prog 46 #[.agg #[.int .i64 K.bits, .int .i64 K.ticks, .slice K.sP K.sl.length K.sc, .slice K.tP K.tl.length K.tc, .slice K.eP K.el.length K.ec, .slice K.nP K.nl.length K.nc, .slice K.fP K.fl.length K.fc, .slice K.r0.P K.r0.l.length K.r0.c, .slice K.r1.P K.r1.l.length K.r1.c, .slice K.r2.P K.r2.l.length K.r2.c, .slice K.r3.P K.r3.l.length K.r3.c, .slice K.r4.P K.r4.l.length K.r4.c, .slice K.r5.P K.r5.l.length K.r5.c, .slice K.r6.P K.r6.l.length K.r6.c, .slice K.r7.P K.r7.l.length K.r7.c], .int .i64 x] w fun e w' => e = .returned (.int .i64 c) ∧ Below w.heap.size w w' := by
 have hlen := hs.s
 have hb1 := KBox.new h 42
 clear h
 go_enter Tryz.func46, Tryz.ntmps46
 go_upto_region 1 with fail
 generalize (w.alloc (.cells #[.int .i64 K.bits, .int .i64 K.ticks, .slice K.sP K.sl.length K.sc, .slice K.tP K.tl.length K.tc, .slice K.eP K.el.length K.ec, .slice K.nP K.nl.length K.nc, .slice K.fP K.fl.length K.fc, .slice K.r0.P K.r0.l.length K.r0.c, .slice K.r1.P K.r1.l.length K.r1.c, .slice K.r2.P K.r2.l.length K.r2.c, .slice K.r3.P K.r3.l.length K.r3.c, .slice K.r4.P K.r4.l.length K.r4.c, .slice K.r5.P K.r5.l.length K.r5.c, .slice K.r6.P K.r6.l.length K.r6.c, .slice K.r7.P K.r7.l.length K.r7.c] 42)) = W1 at hb1 ⊢
 have HC0 : Hid _ := findSpec_any K.sP K.sl.length K.sc x K.sl W1 rfl hlen hb1.b.s
 have HZ : Hid (findI K.sl x = z) := hz
 have g2 := hb1.cs
 go_upto_region 2 with (go_at_call 26; refine Calls.mono HC0.out ?_; rintro e w2 ⟨rfl, rfl⟩)
 rcases hc with ⟨hneg, rfl⟩ | ⟨i, j, f, hj, rfl, hn, hf, rfl⟩
 ·have HBw : Hid _ := hb1.bw
  have hng : ¬ 0 ≤ z := by omega
  clear hz HC0
  go_wp2
  go_loopw [5, 6] (fun a v W => a = .int .i64 z ∧ Below w.heap.size w W) (fun _ _ _ => 0)
  case atStart => exact ⟨rfl, HBw.out⟩
  case round =>
   obtain ⟨rfl, hbw⟩ := hrel
   clear g2 hb1
   go_wp2
   go_ret
   exact ⟨rfl, hbw⟩
 ·clear hz HC0 HZ
  have HSt : Hid (NextR K.sl f i j ∧ f ≤ K.sl.length) := ⟨hn, hf⟩
  clear hn hf
  go_wp2
  go_loopw [5, 6] (fun a v W => nxInv w K j a v W) (fun a v W => K.sl.length - (intOf v).toNat)
  case atStart => exact ⟨0, i, f, rfl, rfl, HSt.out.1, by have := HSt.out.2; omega, hb1⟩
  case round =>
   clear hb1 g2 HSt
   obtain ⟨m, i, f, rfl, rfl, hn, hmf, bb⟩ := hrel
   have hp := hn.pos
   have hi := hn.src
   have hm1 : (m : Int) ≤ (K.sl.length : Int) := by omega
   have hi0 : (0 : Int) ≤ (i : Int) := by omega
   have g2 := bb.cs
   obtain ⟨kf, hkf⟩ := isLeaf_ex K.sl i hi
   obtain ⟨l, hl⟩ : ∃ l, i + kf = l := ⟨_, rfl⟩
   have HL0 := leafSpec_any K.sP K.sc i K.sl wr hlen bb.b.s hi kf hkf
   rw [hl] at HL0
   have HL : Hid _ := HL0
   have HLl : Hid (i + kf = l) := hl
   have HN : Hid (NextR K.sl f i j) := hn
   have HK : Hid (IsLeaf K.sl i kf) := hkf
   have HBB : Hid _ := bb
   have HMf : Hid (m + f ≤ K.sl.length) := hmf
   clear hn hkf bb HL0 hl
   go_upto_region 6 with (go_at_call 79; refine Calls.mono HL.out ?_; rintro e w2 ⟨rfl, hb2⟩)
   have bb2 := HBB.out.below hb2
   have hll := HK.out.inn
   rw [HLl.out] at hll
   have hli : (l : Int) < (K.sl.length : Int) := by omega
   obtain ⟨r, hr⟩ := inP_ex K.sl K.sl[l] K.sl.length (Nat.le_refl _)
   have HR : Hid (InP K.sl K.sl[l] K.sl.length r) := hr
   obtain ⟨s, hsl⟩ : ∃ s, K.sl[l] = s := ⟨_, rfl⟩
   rw [hsl] at hr
   have hrow := bb2.b.s
   obtain ⟨B, O, hP⟩ := hrow.some hll
   have HIn : Hid (∀ (dq : Nat) (osq : Array Obj), Calls Tryz.prog 80 #[.agg #[.int .i64 K.bits, .int .i64 K.ticks, .slice (some ⟨B, O, none⟩) K.sl.length K.sc, .slice K.tP K.tl.length K.tc, .slice K.eP K.el.length K.ec, .slice K.nP K.nl.length K.nc, .slice K.fP K.fl.length K.fc, .slice K.r0.P K.r0.l.length K.r0.c, .slice K.r1.P K.r1.l.length K.r1.c, .slice K.r2.P K.r2.l.length K.r2.c, .slice K.r3.P K.r3.l.length K.r3.c, .slice K.r4.P K.r4.l.length K.r4.c, .slice K.r5.P K.r5.l.length K.r5.c, .slice K.r6.P K.r6.l.length K.r6.c, .slice K.r7.P K.r7.l.length K.r7.c], .agg #[.int .i64 s.k, .int .i64 s.e, .int .i64 s.b, .int .i64 s.r, .int .i64 s.d, .int .i64 s.g, .int .i64 s.q, .int .i64 s.f, .bool s.o]] (Go.«Sort».grow (redrawn w2 dq) osq) fun e w' => e = .returned (.int .i64 r) ∧ Below (Go.«Sort».grow (redrawn w2 dq) osq).heap.size (Go.«Sort».grow (redrawn w2 dq) osq) w') := fun dq osq => by
    have := l4Inside_any K l _ hs (bb2.below (below_regrown _ dq osq)).b S hh hll s hsl r hr
    rw [hP] at this
    exact this
   have g0 := cell_regrown (atV bb2.a 0 _ rfl)
   have g1 := cell_regrown (atV bb2.a 1 _ rfl)
   have g2 := cell_regrown (atV bb2.a 2 _ rfl)
   have g3 := cell_regrown (atV bb2.a 3 _ rfl)
   have g4 := cell_regrown (atV bb2.a 4 _ rfl)
   have g5 := cell_regrown (atV bb2.a 5 _ rfl)
   have g6 := cell_regrown (atV bb2.a 6 _ rfl)
   have g7 := cell_regrown (atV bb2.a 7 _ rfl)
   have g8 := cell_regrown (atV bb2.a 8 _ rfl)
   have g9 := cell_regrown (atV bb2.a 9 _ rfl)
   have g10 := cell_regrown (atV bb2.a 10 _ rfl)
   have g11 := cell_regrown (atV bb2.a 11 _ rfl)
   have g12 := cell_regrown (atV bb2.a 12 _ rfl)
   have g13 := cell_regrown (atV bb2.a 13 _ rfl)
   have g14 := cell_regrown (atV bb2.a 14 _ rfl)
   rw [hP] at g2 hrow
   obtain ⟨c0, c1, c2, c3, c4, c5, c6, c7, c8, c9, _⟩ := hrow.cells B O rfl l hll
   rw [hsl] at c0 c1 c2 c3 c4 c5 c6 c7 c8 c9
   have d0 := cell_regrown c0; have d1 := cell_regrown c1; have d2 := cell_regrown c2; have d3 := cell_regrown c3; have d4 := cell_regrown c4; have d5 := cell_regrown c5; have d6 := cell_regrown c6; have d7 := cell_regrown c7; have d8 := cell_regrown c8; have d9 := cell_regrown c9
   have HSl : Hid (K.sl[l] = s) := hsl
   have HB2 : Hid _ := bb2
   clear c0 c1 c2 c3 c4 c5 c6 c7 c8 c9 hrow hP hsl hr bb2 hb2 HL HBB
   refine wq_region (by kernel_rfl) (by kernel_rfl) ?_
   repeat (first | (refine wq_step (fun K hK => ?_); go_simp; first | (refine hK _ ?_; clear hK K) | (apply Exists.intro; refine ⟨fun _ => ?_, hK _ ?_⟩; (first | (go_at_call 80; exact Calls.regrown_of (HIn.out _ _))); clear hK K)))
   refine wq_nil ?_
   intro _ hw'
   obtain ⟨⟨dq, osq⟩, hw''⟩ := hw'
   subst hw''
   have bb3 := HB2.out.below (below_regrown _ dq osq)
   have HBw : Hid _ := bb3.bw
   by_cases hr0 : r < 0
   ·have HJ : Hid (K.sl[j].t = s.t) := by
     have hr1 : r = -1 := by have := HR.out.ge; omega
     have hn := HN.out
     have hk := HK.out
     have hl := HLl.out
     have h4 := HR.out
     have h5 := HSl.out
     unfold Hid
     cases hn with
     | last hi hl2 h hin =>
      have e := leaf_one h hk
      subst e
      subst hl
      exact congrArg Sl.t h5
     | step hi hl2 h hin hy hn2 =>
      have e := leaf_one h hk
      subst e
      subst hl
      have := inP_one S.tree hin h4
      omega
    clear bb3
    go_wp2
    go_ret
    exact ⟨ret_int HJ.out.symm, HBw.out⟩
   ·have HJ : Hid (∃ (y g : Nat), r = (y : Int) ∧ NextR K.sl g y j ∧ m + 1 + g ≤ K.sl.length) := by
     have hn := HN.out
     have hk := HK.out
     have hl := HLl.out
     have h4 := HR.out
     have h6 := HMf.out
     unfold Hid
     cases hn with
     | last hi hl2 h hin =>
      have e := leaf_one h hk
      subst e
      subst hl
      have := inP_one S.tree hin h4
      omega
     | step hi hl2 h hin hy hn2 =>
      have e := leaf_one h hk
      subst e
      subst hl
      have := inP_one S.tree hin h4
      exact ⟨_, _, this.symm, hn2, by omega⟩
    have HB3 : Hid _ := bb3
    clear bb3
    go_wp2
    go_roundw
    case rel =>
     obtain ⟨y, g, e1, e2, e3⟩ := HJ.out
     exact ⟨m + 1, y, g, by go_num, by rw [e1], e2, e3, HB3.out⟩
    case measure => have := HMf.out; simp [intOf]; omega
/-- What KernNext answers. -/
def KNext (K : QK) (b : Bool) (x c : Int) : Prop :=
 (b = false ∧ c = -1) ∨ (b = true ∧ (Sound K.bits K.sl ∧ ∀ i, i < K.sl.length → homeOkB K.sl i = true) ∧ ((findI K.sl x < 0 ∧ c = -1) ∨ ∃ (i j f : Nat) (hj : j < K.sl.length), findI K.sl x = (i : Int) ∧ NextR K.sl f i j ∧ f ≤ K.sl.length ∧ c = K.sl[j].t))
set_option maxRecDepth 100000 in
set_option maxHeartbeats 8000000 in
theorem kernNextSpec_any (K : QK) (x : Int) (w : World) (b : Bool) (hs : K.Short) (HK : ∀ W, KernIn W K → Calls Tryz.prog 27 #[.agg #[.int .i64 K.bits, .int .i64 K.ticks, .slice K.sP K.sl.length K.sc, .slice K.tP K.tl.length K.tc, .slice K.eP K.el.length K.ec, .slice K.nP K.nl.length K.nc, .slice K.fP K.fl.length K.fc, .slice K.r0.P K.r0.l.length K.r0.c, .slice K.r1.P K.r1.l.length K.r1.c, .slice K.r2.P K.r2.l.length K.r2.c, .slice K.r3.P K.r3.l.length K.r3.c, .slice K.r4.P K.r4.l.length K.r4.c, .slice K.r5.P K.r5.l.length K.r5.c, .slice K.r6.P K.r6.l.length K.r6.c, .slice K.r7.P K.r7.l.length K.r7.c]] W fun e w' => e = .returned (.bool b) ∧ Below W.heap.size W w') (h : KernIn w K) (c : Int) (hc : KNext K b x c) :
  Calls Tryz.prog 18 #[.agg #[.int .i64 K.bits, .int .i64 K.ticks, .slice K.sP K.sl.length K.sc, .slice K.tP K.tl.length K.tc, .slice K.eP K.el.length K.ec, .slice K.nP K.nl.length K.nc, .slice K.fP K.fl.length K.fc, .slice K.r0.P K.r0.l.length K.r0.c, .slice K.r1.P K.r1.l.length K.r1.c, .slice K.r2.P K.r2.l.length K.r2.c, .slice K.r3.P K.r3.l.length K.r3.c, .slice K.r4.P K.r4.l.length K.r4.c, .slice K.r5.P K.r5.l.length K.r5.c, .slice K.r6.P K.r6.l.length K.r6.c, .slice K.r7.P K.r7.l.length K.r7.c], .int .i64 x] w fun e w' => e = .returned (.int .i64 c) ∧ Below w.heap.size w w' := by
 have hb1 := KBox.new h 42
 clear h
 go_enter Tryz.func18, Tryz.ntmps18
 go_upto_region 1 with fail
 generalize (w.alloc (.cells #[.int .i64 K.bits, .int .i64 K.ticks, .slice K.sP K.sl.length K.sc, .slice K.tP K.tl.length K.tc, .slice K.eP K.el.length K.ec, .slice K.nP K.nl.length K.nc, .slice K.fP K.fl.length K.fc, .slice K.r0.P K.r0.l.length K.r0.c, .slice K.r1.P K.r1.l.length K.r1.c, .slice K.r2.P K.r2.l.length K.r2.c, .slice K.r3.P K.r3.l.length K.r3.c, .slice K.r4.P K.r4.l.length K.r4.c, .slice K.r5.P K.r5.l.length K.r5.c, .slice K.r6.P K.r6.l.length K.r6.c, .slice K.r7.P K.r7.l.length K.r7.c] 42)) = W1 at hb1 ⊢
 have HC0 : Hid _ := HK W1 hb1.b
 have HB0 : Hid _ := hb1
 have g0 := atV hb1.a 0 _ rfl
 have g1 := atV hb1.a 1 _ rfl
 have g2 := atV hb1.a 2 _ rfl
 have g3 := atV hb1.a 3 _ rfl
 have g4 := atV hb1.a 4 _ rfl
 have g5 := atV hb1.a 5 _ rfl
 have g6 := atV hb1.a 6 _ rfl
 have g7 := atV hb1.a 7 _ rfl
 have g8 := atV hb1.a 8 _ rfl
 have g9 := atV hb1.a 9 _ rfl
 have g10 := atV hb1.a 10 _ rfl
 have g11 := atV hb1.a 11 _ rfl
 have g12 := atV hb1.a 12 _ rfl
 have g13 := atV hb1.a 13 _ rfl
 have g14 := atV hb1.a 14 _ rfl
 clear HK hb1
 rcases hc with ⟨rfl, rfl⟩ | ⟨rfl, ⟨S, hh⟩, hc⟩
 ·go_wp2_with (go_at_call 27; refine Calls.mono HC0.out ?_; rintro e w5 ⟨rfl, hb5⟩)
  go_ret
  exact ⟨rfl, (HB0.out.below hb5).bw⟩
 ·go_upto_region 3 with (go_at_call 27; refine Calls.mono HC0.out ?_; rintro e w5 ⟨rfl, hb5⟩)
  have hb1 := HB0.out.below hb5
  clear hb5 HC0 HB0 g0 g1 g2 g3 g4 g5 g6 g7 g8 g9 g10 g11 g12 g13 g14
  have g0 := atV hb1.a 0 _ rfl
  have g1 := atV hb1.a 1 _ rfl
  have g2 := atV hb1.a 2 _ rfl
  have g3 := atV hb1.a 3 _ rfl
  have g4 := atV hb1.a 4 _ rfl
  have g5 := atV hb1.a 5 _ rfl
  have g6 := atV hb1.a 6 _ rfl
  have g7 := atV hb1.a 7 _ rfl
  have g8 := atV hb1.a 8 _ rfl
  have g9 := atV hb1.a 9 _ rfl
  have g10 := atV hb1.a 10 _ rfl
  have g11 := atV hb1.a 11 _ rfl
  have g12 := atV hb1.a 12 _ rfl
  have g13 := atV hb1.a 13 _ rfl
  have g14 := atV hb1.a 14 _ rfl
  have HC1 : Hid _ := l4Next_any K x w5 hs hb1.b S hh _ rfl c hc
  have HB1 : Hid _ := hb1.bw
  clear hb1 hc S hh
  go_wp2_with (go_at_call 46; refine Calls.mono HC1.out ?_; rintro e w6 ⟨rfl, hb6⟩)
  go_ret
  exact ⟨rfl, HB1.out.trans (hb6.mono HB1.out.size)⟩

end Go.Proofs.YtigpbjcmmgdiaaaGreat
/-
 The slot that goes next, by the program. Conditions: the state's rows lie in memory and are not too long; its integers are such of 64 bits; it is ok where it is asked.
-/
namespace Go.Proofs.YtigpbjcmmgdiaaaGreat
open Go.ChangeShapes Go.WideShapes Go.ChangeAt Go.RowKit Go.Shelf
set_option linter.unusedVariables false

attribute [local go_sem] Oper.semAt_some

theorem keeps_below {W W' : World} (h : Below W.heap.size W W') : KeepsOthers W W' := ⟨h.size, fun k o hk _ => (h.block k (Array.getElem?_eq_some_iff.1 hk).1).trans hk⟩
theorem nextR_one {L : List Sl} (hT : treeB L = true) : ∀ {f i j : Nat}, NextR L f i j → ∀ {f' j' : Nat}, NextR L f' i j' → j = j' := by
 intro f i j h
 induction h with
 | last hi hl h hin =>
  intro f' j' h'
  cases h' with
  | last hi2 hl2 h2 hin2 => rw [leaf_one h h2]
  | step hi2 hl2 h2 hin2 hy2 hn2 =>
   have e := leaf_one h h2
   subst e
   have := inP_one hT hin hin2
   omega
 | step hi hl h hin hy hn ih =>
  intro f' j' h'
  cases h' with
  | last hi2 hl2 h2 hin2 =>
   have e := leaf_one h h2
   subst e
   have := inP_one hT hin hin2
   omega
  | step hi2 hl2 h2 hin2 hy2 hn2 =>
   have e := leaf_one h h2
   subst e
   have e2 := inP_one hT hin hin2
   have e3 : _ = _ := Int.ofNat.inj e2
   subst e3
   exact ih hn2
/-- What keeps others from going is told ahead of them. -/
theorem acyc_ind {n : Nat} {R : Nat → Nat → Prop} (ha : Acyc n R) {Pr : Nat → Prop} (h : ∀ x, x < n → (∀ y, y < n → Way n R y x → Pr y) → Pr x) : ∀ x, x < n → Pr x := by
 intro x hx
 apply Classical.byContradiction
 intro hn
 obtain ⟨z, hz, hs, hno⟩ := acyc_ways (R' := Way n R) (fun _ _ _ _ h => h) ha (fun z => ¬ Pr z) ⟨x, hx, hn⟩
 exact hs (h z hz fun y hy hw => Classical.byContradiction fun hp => hno y hy hp hw)
set_option maxRecDepth 100000 in
set_option maxHeartbeats 16000000 in
theorem next_one (w0 : World) (K : QK) (vB cB N uB pB : Nat) (P : Option Addr) (cap : Nat) (A : List Int) (fs : List Value) (w : World) (hs : K.Short) {bits : Int} (S : Sound bits K.sl) (ha : Acyc K.sl.length (stopR K.sl)) (Z : ZS w0 K vB cB N uB pB P cap A fs w) {f i j : Nat} (hn : NextR K.sl f i j)
  (hrec : ∀ y, y < K.sl.length → Way K.sl.length (stopR K.sl) y i → ∀ f j, NextR K.sl f y j → ∀ W, ZS w0 K vB cB N uB pB P cap A fs W → Calls Tryz.prog 47 #[.pointer (some ⟨vB, 0, none⟩), .int .i64 (y : Int)] W fun e w' => e = .returned (.int .i64 (j : Int)) ∧ Below W.heap.size W w') :
  Calls Tryz.prog 47 #[.pointer (some ⟨vB, 0, none⟩), .int .i64 (i : Int)] w fun e w' => e = .returned (.int .i64 (j : Int)) ∧ Below w.heap.size w w' := by
 have hlen := hs.s
 have hi := hn.src
 obtain ⟨k, hk⟩ := isLeaf_ex K.sl i hi
 have hl := hk.inn
 have HRec : Hid _ := hrec
 have HNx : Hid (NextR K.sl f i j) := hn
 have HWay : Hid (∀ y (hy : y < K.sl.length), inRm (K.sl[i + k]'hk.inn) (K.sl[y]'hy).t = true → Way K.sl.length (stopR K.sl) y i) := fun y hy hin => by
  have h1 := in_stops S hy hl hin
  by_cases e0 : k = 0
  ·subst e0; exact .one hy hi h1
  ·exact (Way.one hy hl h1).trans (.one hl hi (leaf_stops hi hk (by omega)))
 have HEnd : Hid (InP K.sl (K.sl[i + k]'hk.inn) K.sl.length (-1) → i + k = j) := fun h => nextR_one S.tree (NextR.last (f := 0) hi hl hk h) hn
 have HStep : Hid (∀ (y g j' : Nat) (hy : y < K.sl.length), InP K.sl (K.sl[i + k]'hk.inn) K.sl.length (y : Int) → NextR K.sl g y j' → j' = j) := fun y g j' hy h h2 => nextR_one S.tree (NextR.step hi hl hk h hy h2) hn
 have xB0 := Bx.new w 73 [.pointer (some ⟨vB, 0, none⟩)]
 have b0 : Below w.heap.size w (w.alloc (.cells #[.pointer (some ⟨vB, 0, none⟩)] 73)) := (Below.refl _ _).alloc (Nat.le_refl _) _
 have rB0 := Bx.newAt (w.alloc (.cells #[.pointer (some ⟨vB, 0, none⟩)] 73)) 3 [.int .i64 0] (c := w.heap.size + 1) (by simp)
 have xB1 := xB0.below ((Below.refl _ _).alloc (Nat.le_refl _) (.cells #[.int .i64 0] 3))
 have b1 : Below w.heap.size w ((w.alloc (.cells #[.pointer (some ⟨vB, 0, none⟩)] 73)).alloc (.cells #[.int .i64 0] 3)) := b0.alloc b0.size _
 have Z1 := Z.below b1
 have hwl : w.heap.size + 2 = ((w.alloc (.cells #[.pointer (some ⟨vB, 0, none⟩)] 73)).alloc (.cells #[.int .i64 0] 3)).heap.size := by simp
 clear xB0 b0 hrec hn Z
 refine (callsIn_wide (n := 5)).1 ?_
 refine callsIn_of_wp_marks Tryz.func47 rfl trivial ?_ rfl
 simp only [Tryz.ntmps47, List.size_toArray, List.length_cons, List.length_nil, Nat.reduceAdd, Nat.reduceSub, Array.replicate_succ, Array.replicate_zero, List.push_toArray, List.append_toArray, List.nil_append, List.cons_append]
 refine wpIn_wide.2 ?_
 go_upto_region 1 with fail
 generalize (w.alloc (.cells #[.pointer (some ⟨vB, 0, none⟩)] 73)).alloc (.cells #[.int .i64 0] 3) = W1 at xB1 rB0 b1 Z1 hwl ⊢
 have HB1 : Hid (Below w.heap.size w W1) := b1
 obtain ⟨xB, hxB⟩ : ∃ xB, w.heap.size = xB := ⟨_, rfl⟩
 rw [hxB] at xB1 rB0 hwl ⊢
 have HXB : Hid (w.heap.size = xB) := hxB
 obtain ⟨rs, hrs⟩ : ∃ rs, xB + 1 = rs := ⟨_, rfl⟩
 rw [hrs] at rB0 ⊢
 have HRS : Hid (xB + 1 = rs) := hrs
 have HWL : Hid (xB + 2 = W1.heap.size) := hwl
 clear hrs hxB b1 hwl
 have x0 := xB1.cell 0 _ rfl
 have f0 := Z1.v.snd 0 _ Z1.f0
 have hi1 : (i : Int) < (K.sl.length : Int) := by omega
 have HLf : Hid _ := callsIn_wide.1 (leafM_some N i K.sl W1 hi Z1.ln Z1.l k hk)
 obtain ⟨l, hl9⟩ : ∃ l, i + k = l := ⟨_, rfl⟩
 have HL9 : Hid (i + k = l) := hl9
 have hll : l < K.sl.length := by omega
 have HPl : Hid (∀ w2, Below W1.heap.size W1 w2 → w2.cell? ⟨N, l * 4, none⟩ = some (.int .i64 ((l : Nat) : Int))) := fun w2 hb => by rw [← hl9]; exact (hb.cell (p := ⟨N, (i + k) * 4, none⟩) Z1.ln).trans (Z1.l.place (i + k) hk.inn)
 rw [hl9] at HLf
 subst hl9
 have HZ1 : Hid _ := Z1
 have HX1 : Hid _ := xB1
 have HR1 : Hid _ := rB0
 clear Z1 xB1 rB0
 go_upto_region 2 with (go_at_call 81; refine Calls.mono HLf.out ?_; rintro e w2 ⟨rfl, hb2⟩; have hp := HPl.out _ hb2)
 have Z2 := HZ1.out.below hb2
 have xB2 := Bx.below HX1.out hb2
 have rB2 := Bx.below HR1.out hb2
 have bw2 := HB1.out.trans (hb2.mono HB1.out.size)
 have hs2 := hb2.size
 clear hb2 HLf HPl HZ1 HX1 HR1 x0 f0 hp
 have x0 := xB2.cell 0 _ rfl
 have HHe : Hid _ := held_any w0 K vB (i + k) fs w2 Z2.v Z2.tr hl hlen
 have HZ2 : Hid _ := Z2
 have HX2 : Hid _ := xB2
 have HR2 : Hid _ := rB2
 have HBw2 : Hid _ := bw2
 clear Z2 xB2 rB2 bw2
 go_wp2_with (go_at_call 82; refine Calls.mono HHe.out ?_; rintro e w5 ⟨qB, hqB, rfl, hx5, hr5, hb5⟩)
 have Z5 := HZ2.out.below hb5
 have xB5 := Bx.below HX2.out hb5
 have rB5 := Bx.below HR2.out hb5
 have bw5 := HBw2.out.trans (hb5.mono HBw2.out.size)
 clear hb5 HHe HZ2 HX2 HR2 HBw2 x0
 obtain ⟨xh, hxh⟩ : ∃ xh, w2.heap.size = xh := ⟨_, rfl⟩
 rw [hxh] at hx5 hqB ⊢
 clear hxh
 have hHV : HeldV w5 xh qB vB pB K.sl.length K.sl K.sl[i + k] P cap A := ⟨hx5.cell 0 _ rfl, hr5.cell 0 _ rfl, hr5.cell 1 _ rfl, Z5.v.snd 3 _ Z5.f3, Z5.v.snd 4 _ Z5.f4, Z5.m, Z5.a⟩
 have hQ9 : ∀ b, hQ xh qB vB pB P b → b < w5.heap.size := by
  rintro b (e | e | e | e | ⟨O, e⟩)
  ·rw [e]; exact hx5.lt
  ·rw [e]; exact hr5.lt
  ·rw [e]; exact Z5.v.lt
  ·rw [e]; exact Z5.m.lt
  ·exact (Z5.pb b O e).1
 have hsfine := rm_fine Z5.tr hl
 have x5 := xB5.cell 0 _ rfl
 have hr5' := rB5.cell 0 _ rfl
 refine (wpIn_wide (n := 5)).1 ?_
 refine wpIn_rangeFunc_ownF rfl (by omega) (gf := 139) (lb := #[.pointer (some ⟨xh, 0, none⟩), .pointer (some ⟨qB, 0, none⟩)]) rfl trivial (enters_of Tryz.func139 (by kernel_rfl) rfl)
  (held_subs 4 (by omega) xh qB vB pB K.sl.length K.sl K.sl[i + k] P cap A Z5.tr Z5.ha Z5.ac Z5.am hlen hsfine w5 hHV hQ9)
  (fun a b => Stay.trans a b) (fun W l o o' hl h h1 h2 => Stay.of (belowK_b (w := w5) (Nat.le_refl _) W l o o' hl h h1 h2) hQ9) (Below.refl _ _) (fun _ => rfl)
  (fun pre W => pre = [] ∧ Below w5.heap.size w5 W)
  (fun c pre W => (c = .ret ∧ ∃ (x : {x : Fin K.sl.length // inRm K.sl[i + k] K.sl[x.val].t = true}) (g j' : Nat), pre = [x] ∧ NextR K.sl g x.1.val j' ∧ W.cell? ⟨rs, 0, none⟩ = some (.int .i64 (j' : Int))) ∧ Below w.heap.size w W)
  (OwnFrom.and (fun _ _ _ _ hs _ _ => hs) (ownFrom_below (Nat.le_refl _) (Nat.le_refl _)))
  (fun c => OwnFrom.and (Own.from (fun s A B row hs hg hr => ⟨hs.1, by obtain ⟨x, g, j', e1, e2, e3⟩ := hs.2; exact ⟨x, g, j', e1, e2, cell_kept e3 hg hr⟩⟩) _) (ownFrom_below (Nat.le_refl _) bw5.size))
  ⟨rfl, Below.refl _ _⟩
  (fun x => { tmps := #[.pointer (some ⟨vB, 0, none⟩), .int .i64 (i : Int), .pointer (some ⟨xB, 0, none⟩), undef, .pointer (some ⟨rs, 0, none⟩), .int .i64 ((i + k : Nat) : Int), .int .i64 (x.1.val : Int), .pointer (some ⟨vB, 0, none⟩), .pointer (some ⟨vB, 0, none⟩), .pointer (some ⟨vB, 15, none⟩), .slice (some ⟨N, 0, none⟩) K.sl.length K.sl.length, .int .i64 (i : Int), .pointer (some ⟨N, i * 4, none⟩), .pointer (some ⟨N, (i + k) * 4, none⟩), .pointer (some ⟨N, (i + k) * 4, none⟩), .pointer (some ⟨N, (i + k) * 4, none⟩), .int .i64 ((i + k : Nat) : Int), .pointer (some ⟨vB, 0, none⟩), .int .i64 ((i + k : Nat) : Int), .func (.func 139) #[] #[.pointer (some ⟨xh, 0, none⟩), .pointer (some ⟨qB, 0, none⟩)], .int .i64 (x.1.val : Int), undef, undef, undef, undef], defers := [] }) ?assign ?body ?done ?stop
 case assign =>
  intro l x W Kp hK
  gi_wp2
  exact hK
 case body =>
  rintro l pre x W ⟨rfl, hB⟩ _
  have xW : W.cell? ⟨xB, 0, none⟩ = some (.pointer (some ⟨vB, 0, none⟩)) := (hB.cell (p := ⟨xB, 0, none⟩) xB5.lt).trans x5
  have rW := rB5.below hB
  have ZW := Z5.below hB
  have hxi := x.1.isLt
  obtain ⟨j', g, hn', _⟩ := next_all S ha hxi
  have HC : Hid _ := HRec.out x.1.val hxi (HWay.out x.1.val hxi x.2) g j' hn' W ZW
  have HW : Hid (Below w.heap.size w W) := bw5.trans (hB.mono bw5.size)
  have HN' : Hid (NextR K.sl g x.1.val j') := hn'
  have HRW : Hid _ := rW
  clear hHV hQ9 hsfine x5 hr5' ZW hB rW hn' Z5
  gi_wp2_with (refine ⟨trivial, ?_⟩; gi_at_call 47; refine (CallsIn.inRound l (callsIn_wide.2 HC.out)).mono ?_; rintro e w6 ⟨rfl, hb6⟩; have rc := (Bx.below HRW.out hb6).cell 0 _ rfl; have rz := (Bx.below HRW.out hb6).frozen 0)
  refine ⟨(keeps_below hb6).trans (KeepsOthers.setCell _ _ _), ⟨rfl, x, g, j', rfl, HN'.out, World.cell?_setCell_same' _ _ _ (by rw [rc]; rfl)⟩, (HW.out.trans (hb6.mono HW.out.size)).setCell (p := ⟨rs, 0, none⟩) (by have := HXB.out; have := HRS.out; simp; omega) _⟩
 case done =>
  rintro D ys W hD hys ⟨rfl, hB⟩ hK2
  have HE : Hid (i + k = j) := HEnd.out (inP_mid Z5.tr Z5.ha hl [] (by simpa using hys) rfl)
  have rW := rB5.below hB
  have rc := rW.cell 0 _ rfl
  have rz := rW.frozen 0
  have HW : Hid (Below w.heap.size w W) := bw5.trans (hB.mono bw5.size)
  clear hys hHV hQ9 hsfine x5 hr5' hB Z5
  go_wp2
  have hK' := (KeepsOthers.setCell W ⟨rs, 0, none⟩ (.int .i64 ((i + k : Nat) : Int))).same D _ hK2 rfl
  refine ⟨by simp, .inl ⟨_, _, rfl, run_takeDeferred hK', ?_⟩⟩
  have hc5 := cell_kept (World.cell?_setCell_same' W ⟨rs, 0, none⟩ (.int .i64 ((i + k : Nat) : Int)) (by rw [rc]; rfl)) (grownBy_putObj' _ D (.deferred none)) (fun r e => by cases e; exact ⟨_, hK', rfl⟩)
  simp only [Int.natCast_add] at hc5
  refine ⟨.int .i64 ((i + k : Nat) : Int), ?_, by rw [HE.out], (HW.out.setCell (p := ⟨rs, 0, none⟩) (by have := HXB.out; have := HRS.out; simp; omega) _).trans (belowK_b (w := w) (Nat.le_refl _) _ D _ _ (by have := bw5.size; omega) hK' rfl rfl)⟩
  simp [results, Tryz.f47, go_sem, hc5]
 case stop =>
  rintro D c' pre W hD hpre ⟨⟨rfl, x, g, j', rfl, hn', hc⟩, hB⟩ hK2
  have HE : Hid (j' = j) := HStep.out x.1.val g j' x.1.isLt (inP_head Z5.tr Z5.ha hl x.1 (by simpa using hpre)) hn'
  clear hpre hHV hQ9 hsfine x5 hr5' Z5
  gi_wp2
  refine ⟨by simp, .inl ⟨_, _, rfl, run_takeDeferred hK2, ?_⟩⟩
  have hc5 := cell_kept hc (grownBy_putObj' _ D (.deferred none)) (fun r e => by cases e; exact ⟨_, hK2, rfl⟩)
  refine ⟨.int .i64 (j' : Int), ?_, by rw [HE.out], hB.trans (belowK_b (w := w) (Nat.le_refl _) W D _ _ (by have := bw5.size; omega) hK2 rfl rfl)⟩
  simp [results, Tryz.f47, go_sem, hc5]
theorem next_any (w0 : World) (K : QK) (vB cB N uB pB : Nat) (P : Option Addr) (cap : Nat) (A : List Int) (fs : List Value) (hs : K.Short) {bits : Int} (S : Sound bits K.sl) (ha : Acyc K.sl.length (stopR K.sl)) {f i j : Nat} (hn : NextR K.sl f i j) (w : World) (Z : ZS w0 K vB cB N uB pB P cap A fs w) :
  Calls Tryz.prog 47 #[.pointer (some ⟨vB, 0, none⟩), .int .i64 (i : Int)] w fun e w' => e = .returned (.int .i64 (j : Int)) ∧ Below w.heap.size w w' := by
 refine acyc_ind (Pr := fun i => ∀ f j, NextR K.sl f i j → ∀ w, ZS w0 K vB cB N uB pB P cap A fs w → Calls Tryz.prog 47 #[.pointer (some ⟨vB, 0, none⟩), .int .i64 (i : Int)] w fun e w' => e = .returned (.int .i64 (j : Int)) ∧ Below w.heap.size w w') ha (fun x hx ih f j hn w Z => ?_) i hn.src f j hn w Z
 exact next_one w0 K vB cB N uB pB P cap A fs w hs S ha Z hn ih

end Go.Proofs.YtigpbjcmmgdiaaaGreat
/-
 The slot that goes next, by the program. Conditions: the state's rows lie in memory and are not too long; its integers are such of 64 bits; it is ok where it is asked.
-/
namespace Go.Proofs.YtigpbjcmmgdiaaaGreat
open Go.ChangeShapes Go.WideShapes Go.ChangeAt Go.RowKit Go.Shelf
set_option linter.unusedVariables false

/-- Whatever is ok lies rightly, and nothing keeps itself from going. -/
theorem prog_homes {K : QK} (h : ProgP K) : Sound K.bits K.sl ∧ ∀ i, i < K.sl.length → homeOkB K.sl i = true := ⟨sound_of h.tree h.mem ((derAll_iff K.sl).2 h.der) h.apart, h.homes⟩
theorem prog_next {K : QK} (h : ProgP K) : Sound K.bits K.sl ∧ Acyc K.sl.length (stopR K.sl) := by
 have S := sound_of h.tree h.mem ((derAll_iff K.sl).2 h.der) h.apart
 exact ⟨S, (acyc_both (bounds_bits h.bounds) S h.homes).2 h.empt⟩
theorem next_c (K : QK) (b : Bool) (x : Int) (hb : b = true ↔ ProgP K) : ∃ c, KNext K b x c := by
 cases b with
 | false => exact ⟨-1, .inl ⟨rfl, rfl⟩⟩
 | true =>
  obtain ⟨S, ha⟩ := prog_next (hb.1 rfl)
  by_cases hz : findI K.sl x < 0
  ·exact ⟨-1, .inr ⟨rfl, prog_homes (hb.1 rfl), .inl ⟨hz, rfl⟩⟩⟩
  ·obtain ⟨i, hi⟩ : ∃ i : Nat, findI K.sl x = (i : Int) := ⟨(findI K.sl x).toNat, by omega⟩
   have hlt : i < K.sl.length := by
    rw [place_find S.tree x] at hi
    cases hp : placeR K.sl K.sl.length x with
    | none => rw [hp] at hi; simp only [Option.getD_none] at hi; omega
    | some v =>
     obtain ⟨y, hy, e, _⟩ := place_at S.tree hp
     rw [hp, e] at hi
     simp only [Option.getD_some] at hi
     omega
   obtain ⟨j, f, hn, hf⟩ := next_all S ha hlt
   exact ⟨_, .inr ⟨rfl, prog_homes (hb.1 rfl), .inr ⟨i, j, f, hn.lt, hi, hn, hf, rfl⟩⟩⟩
theorem eqlNilN (a : Addr) (w : World) : (binOp .eql 73 (.pointer (some a)) (.pointer none)).run Tryz.prog w = .ok (.bool false) w := by kernel_rfl
theorem eqlNilN2 (w : World) : (binOp .eql 73 (.pointer none) (.pointer none)).run Tryz.prog w = .ok (.bool true) w := by kernel_rfl
set_option maxRecDepth 100000 in
set_option maxHeartbeats 16000000 in
theorem kernNextImpl_any (K : QK) (x : Int) (w : World) (hs : K.Short) (hcap : K.sl.length ≤ K.sc) (hcm : K.sc ≤ 9223372036854775807) (hf : K.Fits) (h : KernIn w K) (b : Bool) (hb : b = true ↔ ProgP K) (hx : FitI x) (c : Int) (hc : KNext K b x c) :
  Calls Tryz.prog 19 #[.agg #[.int .i64 K.bits, .int .i64 K.ticks, .slice K.sP K.sl.length K.sc, .slice K.tP K.tl.length K.tc, .slice K.eP K.el.length K.ec, .slice K.nP K.nl.length K.nc, .slice K.fP K.fl.length K.fc, .slice K.r0.P K.r0.l.length K.r0.c, .slice K.r1.P K.r1.l.length K.r1.c, .slice K.r2.P K.r2.l.length K.r2.c, .slice K.r3.P K.r3.l.length K.r3.c, .slice K.r4.P K.r4.l.length K.r4.c, .slice K.r5.P K.r5.l.length K.r5.c, .slice K.r6.P K.r6.l.length K.r6.c, .slice K.r7.P K.r7.l.length K.r7.c], .int .i64 x] w fun e w' => e = .returned (.int .i64 c) ∧ Below w.heap.size w w' := by
 have hb1 := KBox.new h 42
 have e1 := eqlNilN
 have e2 := eqlNilN2
 have hlen := hs.s
 have HB : Hid (b = true ↔ ProgP K) := hb
 have HX : Hid (FitI x) := hx
 have HS : Hid _ := hs
 clear h hb hx
 go_enter Tryz.func19, Tryz.ntmps19
 go_upto_region 1 with fail
 generalize (w.alloc (.cells #[.int .i64 K.bits, .int .i64 K.ticks, .slice K.sP K.sl.length K.sc, .slice K.tP K.tl.length K.tc, .slice K.eP K.el.length K.ec, .slice K.nP K.nl.length K.nc, .slice K.fP K.fl.length K.fc, .slice K.r0.P K.r0.l.length K.r0.c, .slice K.r1.P K.r1.l.length K.r1.c, .slice K.r2.P K.r2.l.length K.r2.c, .slice K.r3.P K.r3.l.length K.r3.c, .slice K.r4.P K.r4.l.length K.r4.c, .slice K.r5.P K.r5.l.length K.r5.c, .slice K.r6.P K.r6.l.length K.r6.c, .slice K.r7.P K.r7.l.length K.r7.c] 42)) = W1 at hb1 ⊢
 have HC : Hid _ := kernViewOf_any K W1 hs hcap hcm hf hb1.b
 have g0 := atV hb1.a 0 _ rfl
 have g1 := atV hb1.a 1 _ rfl
 have g2 := atV hb1.a 2 _ rfl
 have g3 := atV hb1.a 3 _ rfl
 have g4 := atV hb1.a 4 _ rfl
 have g5 := atV hb1.a 5 _ rfl
 have g6 := atV hb1.a 6 _ rfl
 have g7 := atV hb1.a 7 _ rfl
 have g8 := atV hb1.a 8 _ rfl
 have g9 := atV hb1.a 9 _ rfl
 have g10 := atV hb1.a 10 _ rfl
 have g11 := atV hb1.a 11 _ rfl
 have g12 := atV hb1.a 12 _ rfl
 have g13 := atV hb1.a 13 _ rfl
 have g14 := atV hb1.a 14 _ rfl
 have HB1 : Hid _ := hb1
 clear hb1 hs hcap hcm hf
 cases b
 ·have hcn : c = -1 := by
   rcases hc with ⟨_, e⟩ | ⟨e, _⟩
   ·exact e
   ·cases e
  subst hcn
  clear hc
  go_wp2_with (go_at_call 34; refine Calls.mono HC.out ?_; intro e w5 h5; have h6 := Or.resolve_left h5 (fun q => absurd (HB.out.2 q.1) (by decide)); obtain ⟨_, rfl, hb5⟩ := h6; clear h5)
  go_ret
  exact ⟨rfl, (HB1.out.below hb5).bw⟩
 ·have hc2 : (findI K.sl x < 0 ∧ c = -1) ∨ ∃ (i j f : Nat) (hj : j < K.sl.length), findI K.sl x = (i : Int) ∧ NextR K.sl f i j ∧ f ≤ K.sl.length ∧ c = K.sl[j].t := by
   rcases hc with ⟨e, _⟩ | ⟨_, _, e⟩
   ·cases e
   ·exact e
  obtain ⟨S, hac⟩ := prog_next (HB.out.1 rfl)
  rw [place_find S.tree x] at hc2
  have HCc : Hid _ := hc2
  have HSn : Hid _ := S
  have HAc : Hid _ := hac
  clear hc hc2 S hac
  go_upto_region 4 with (go_at_call 34; refine Calls.mono HC.out ?_; intro e w5 h5; have h6 := Or.resolve_right h5 (fun q => q.1 (HB.out.1 rfl)); obtain ⟨_, rfl, hz⟩ := h6; have HZ : Hid _ := hz; clear h5 hz)
  clear g0 g1 g2 g3 g4 g5 g6 g7 g8 g9 g10 g11 g12 g13 g14
  have hb5 := zA_bw HZ.out
  have hbb := HB1.out.below hb5
  obtain ⟨N, uB, pB, P, cap, A, m0, hB, tB, n, fs, Z, _⟩ := HZ.out
  have Zs := Z.h.o.z
  have hlk := Zs.m.look_ok HX.out
  have f18 := Zs.v.snd 3 _ Zs.f3
  have HZs : Hid _ := Zs
  have HBb : Hid _ := hbb
  clear Z HZ hb5 HB1 HC
  rcases HCc.out with ⟨hneg, hcn⟩ | ⟨i, j, f, hj, hi, hn, _, hcj⟩
  ·have hp : placeR K.sl K.sl.length x = none := by
    cases hp : placeR K.sl K.sl.length x with
    | none => rfl
    | some v =>
     obtain ⟨y, _, e, _⟩ := place_at HSn.out.tree hp
     rw [hp, e] at hneg
     simp only [Option.getD_some] at hneg
     omega
   rw [hp] at hlk
   simp only [Option.getD_none, Option.isSome_none] at hlk
   have HCn : Hid (c = -1) := hcn
   have HBw : Hid _ := hbb.bw
   clear hcn hneg hp Zs hbb HCc
   go_wp2
   go_ret
   exact ⟨ret_int HCn.out.symm, HBw.out⟩
  ·have hp : placeR K.sl K.sl.length x = some (i : Int) := by
    cases hp : placeR K.sl K.sl.length x with
    | none => rw [hp] at hi; simp only [Option.getD_none] at hi; omega
    | some v =>
     rw [hp] at hi
     simp only [Option.getD_some] at hi
     rw [hi]
   rw [hp] at hlk
   simp only [Option.getD_some, Option.isSome_some] at hlk
   have HCn : Hid (c = K.sl[j].t) := hcj
   clear hcj hi hp Zs hbb HCc
   go_upto_region 7 with fail
   have bb := HBb.out
   have hrow := bb.b.s
   obtain ⟨B, O, hP⟩ := hrow.some hj
   have g2 := cell_regrown bb.cs
   rw [hP] at g2 hrow
   have c0 := cell_regrown (hrow.cells B O rfl j hj).c0
   have hj1 : (j : Int) < (K.sl.length : Int) := by omega
   have HNx : Hid (∀ (dq : Nat) (osq : Array Obj), Calls Tryz.prog 47 #[.pointer (some ⟨W1.heap.size + 1, 0, none⟩), .int .i64 (i : Int)] (Go.«Sort».grow (redrawn w5 dq) osq) fun e w' => e = .returned (.int .i64 (j : Int)) ∧ Below (Go.«Sort».grow (redrawn w5 dq) osq).heap.size (Go.«Sort».grow (redrawn w5 dq) osq) w') := fun dq osq =>
    next_any _ K _ _ N uB pB P cap A fs HS.out HSn.out HAc.out hn _ (HZs.out.below (below_regrown _ dq osq))
   obtain ⟨tj, htj⟩ : ∃ t, K.sl[j].t = t := ⟨_, rfl⟩
   rw [htj] at c0
   have HTj : Hid (K.sl[j].t = tj) := htj
   clear hrow hP hlk f18 hn htj bb
   refine wq_region (by kernel_rfl) (by kernel_rfl) ?_
   repeat (first | (refine wq_step (fun K hK => ?_); go_simp; first | (refine hK _ ?_; clear hK K) | (apply Exists.intro; refine ⟨fun _ => ?_, hK _ ?_⟩; (first | (go_at_call 47; exact Calls.regrown_of (HNx.out _ _))); clear hK K)))
   refine wq_nil ?_
   intro _ hw'
   obtain ⟨⟨dq, osq⟩, hw''⟩ := hw'
   subst hw''
   have HBw : Hid _ := (HBb.out.below (below_regrown _ dq osq)).bw
   go_wp2
   go_ret
   exact ⟨ret_int (by rw [HCn.out, HTj.out]), HBw.out⟩

end Go.Proofs.YtigpbjcmmgdiaaaGreat
