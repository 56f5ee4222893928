/-
  Texts of the proof, put together: OgDefs, CmpImpl, ApartS, ViewN.
-/
import Derived.Test.YtigpbjcmmgdiaaaGreatBa
import Derived.Shelf.SlSortCmp.WholeK
import Derived.Test.YtigpbjcmmgdiaaaGreatRa
import Derived.Test.YtigpbjcmmgdiaaaGreatInts
import Derived.StillTailTactics
import Derived.Test.YtigpbjcmmgdiaaaGreatRc
import Derived.Test.YtigpbjcmmgdiaaaGreatRh
import Derived.Test.YtigpbjcmmgdiaaaGreatRg
import Derived.Test.YtigpbjcmmgdiaaaGreatRb
import Derived.Shelf.SlSortCmp.NoneTotal
import Derived.Ground.SlsfProg
import Derived.BigRegion
/-
 An original as the program sorts it: where it begins, how many words, what it came of; the order of the sort. Plain facts. No conditions.
-/
namespace Go.Proofs.YtigpbjcmmgdiaaaGreat
open Go.ChangeShapes Go.WideShapes Go.ChangeAt Go.RowKit Go.Sort
set_option linter.unusedVariables false

/-- An original: where it begins, how many words it has, what it came of. -/
structure Og where
 a : Int
 s : Int
 u : Int
instance : Inhabited Og := ⟨⟨0, 0, 0⟩⟩
def encO (x : Og) : List Value := [.int .u32 x.a, .int .u32 x.s, .int .i64 x.u]
def cmp3 (a b : Int) : Int := if a < b then -1 else if b < a then 1 else 0
def cmpO (x y : Og) : Int := if cmp3 x.u y.u = 0 then cmp3 x.a y.a else cmp3 x.u y.u
theorem ltO (x y : Og) : ltOf cmpO x y = decide (x.u < y.u ∨ (x.u = y.u ∧ x.a < y.a)) := by
 unfold ltOf cmpO cmp3
 rw [decide_eq_decide]
 by_cases h1 : x.u < y.u
 ·simp [h1]
 ·by_cases h2 : y.u < x.u
  ·simp [h1, h2]; omega
  ·have e : x.u = y.u := by omega
   by_cases h3 : x.a < y.a
   ·simp [e, h3]
   ·by_cases h4 : y.a < x.a
    ·simp [e, h4]; omega
    ·simp [e, h3, h4]
theorem swoO : SWO (ltOf cmpO) where
 irrefl x := by rw [ltO]; simp
 trans x y z h1 h2 := by rw [ltO] at *; simp only [decide_eq_true_eq] at *; omega
 ntrans x y z h1 h2 := by rw [ltO] at *; simp only [decide_eq_false_iff_not] at *; omega

end Go.Proofs.YtigpbjcmmgdiaaaGreat
/-
 The order of originals, by the program: cmp.Compare, cmp.Or, the function that apartOk sorts by. No conditions.
-/
namespace Go.Proofs.YtigpbjcmmgdiaaaGreat
open Go.ChangeShapes Go.WideShapes Go.ChangeAt Go.RowKit Go.Sort
set_option linter.unusedVariables false

set_option maxRecDepth 100000 in
set_option maxHeartbeats 8000000 in
theorem isNaN_i (x : Int) (w : World) : Calls Tryz.prog 162 #[.int .i64 x] w fun e w' => e = .returned (.bool false) ∧ w' = w := by
 go_enter Tryz.func162, Tryz.ntmps162
 go_wp2
 go_ret
 exact ⟨by simp, rfl⟩
set_option maxRecDepth 100000 in
set_option maxHeartbeats 8000000 in
theorem compare_i (x y : Int) (w : World) : Calls Tryz.prog 112 #[.int .i64 x, .int .i64 y] w fun e w' => e = .returned (.int .i64 (cmp3 x y)) ∧ w' = w := by
 have HN := fun x W => isNaN_i x W
 by_cases h1 : x < y
 ·have HX : Hid (cmp3 x y = -1) := by unfold Hid cmp3; rw [if_pos h1]
  go_enter Tryz.func112, Tryz.ntmps112
  go_wp2_with (go_at_call 162; refine (HN _ _).mono ?_; rintro e w' ⟨rfl, hw⟩; have hw := hw.symm; subst hw)
  go_ret
  exact ⟨by rw [HX.out]; rfl, rfl⟩
 ·by_cases h2 : y < x
  ·have HX : Hid (cmp3 x y = 1) := by unfold Hid cmp3; rw [if_neg h1, if_pos h2]
   go_enter Tryz.func112, Tryz.ntmps112
   go_wp2_with (go_at_call 162; refine (HN _ _).mono ?_; rintro e w' ⟨rfl, hw⟩; have hw := hw.symm; subst hw)
   go_ret
   exact ⟨by rw [HX.out]; rfl, rfl⟩
  ·have HX : Hid (cmp3 x y = 0) := by unfold Hid cmp3; rw [if_neg h1, if_neg h2]
   go_enter Tryz.func112, Tryz.ntmps112
   go_wp2_with (go_at_call 162; refine (HN _ _).mono ?_; rintro e w' ⟨rfl, hw⟩; have hw := hw.symm; subst hw)
   go_ret
   exact ⟨by rw [HX.out]; rfl, rfl⟩

set_option maxRecDepth 100000 in
set_option maxHeartbeats 8000000 in
theorem isNaN_u (x : Int) (w : World) : Calls Tryz.prog 163 #[.int .u32 x] w fun e w' => e = .returned (.bool false) ∧ w' = w := by
 go_enter Tryz.func163, Tryz.ntmps163
 go_wp2
 go_ret
 exact ⟨by simp, rfl⟩
set_option maxRecDepth 100000 in
set_option maxHeartbeats 8000000 in
theorem compare_u (x y : Int) (w : World) : Calls Tryz.prog 113 #[.int .u32 x, .int .u32 y] w fun e w' => e = .returned (.int .i64 (cmp3 x y)) ∧ w' = w := by
 have HN := fun x W => isNaN_u x W
 by_cases h1 : x < y
 ·have HX : Hid (cmp3 x y = -1) := by unfold Hid cmp3; rw [if_pos h1]
  go_enter Tryz.func113, Tryz.ntmps113
  go_wp2_with (go_at_call 163; refine (HN _ _).mono ?_; rintro e w' ⟨rfl, hw⟩; have hw := hw.symm; subst hw)
  go_ret
  exact ⟨by rw [HX.out]; rfl, rfl⟩
 ·by_cases h2 : y < x
  ·have HX : Hid (cmp3 x y = 1) := by unfold Hid cmp3; rw [if_neg h1, if_pos h2]
   go_enter Tryz.func113, Tryz.ntmps113
   go_wp2_with (go_at_call 163; refine (HN _ _).mono ?_; rintro e w' ⟨rfl, hw⟩; have hw := hw.symm; subst hw)
   go_ret
   exact ⟨by rw [HX.out]; rfl, rfl⟩
  ·have HX : Hid (cmp3 x y = 0) := by unfold Hid cmp3; rw [if_neg h1, if_neg h2]
   go_enter Tryz.func113, Tryz.ntmps113
   go_wp2_with (go_at_call 163; refine (HN _ _).mono ?_; rintro e w' ⟨rfl, hw⟩; have hw := hw.symm; subst hw)
   go_ret
   exact ⟨by rw [HX.out]; rfl, rfl⟩

def orInv (a b : Int) (w : World) (v : Value) (W : World) : Prop := ∃ k : Nat, k ≤ 2 ∧ v = .int .i64 (k : Int) ∧ (1 ≤ k → a = 0) ∧ (2 ≤ k → b = 0) ∧ W = w
set_option maxRecDepth 100000 in
set_option maxHeartbeats 8000000 in
theorem cmpOr_any (B : Nat) (a b : Int) (w : World) (h0 : w.cell? ⟨B, 0, none⟩ = some (.int .i64 a)) (h1 : w.cell? ⟨B, 1, none⟩ = some (.int .i64 b)) :
  Calls Tryz.prog 111 #[.slice (some ⟨B, 0, none⟩) 2 2] w fun e w' => e = .returned (.int .i64 (if a = 0 then b else a)) ∧ w' = w := by
 obtain ⟨r, hr⟩ : ∃ r, (if a = 0 then b else a) = r := ⟨_, rfl⟩
 rw [hr]
 have HR : Hid _ := hr
 clear hr
 go_enter Tryz.func111, Tryz.ntmps111
 go_wp2
 go_loopw [8] (fun v W => orInv a b w v W) (fun v W => 2 - (intOf v).toNat)
 case atStart => exact ⟨0, by omega, rfl, fun h => by omega, fun h => by omega, rfl⟩
 case round =>
  obtain ⟨k, hk, rfl, ha, hb, hw⟩ := hrel
  subst hw
  rcases (by omega : k = 0 ∨ k = 1 ∨ k = 2) with e | e | e
  ·subst e
   clear ha hb hk
   cases hz : (a == 0)
   ·have hnz : (a != 0) = true := by rw [bne, hz]; rfl
    go_wp2
    go_ret
    exact ⟨ret_int (by rw [← HR.out, if_neg (by simpa using hz)]), rfl⟩
   ·have hnz : (a != 0) = false := by rw [bne, hz]; rfl
    go_wp2
    go_roundw
    case rel => exact ⟨1, by omega, by go_num, fun _ => by simpa using hz, fun h => by omega, rfl⟩
    case measure => simp [intOf]
  ·subst e
   have HA : Hid (a = 0) := ha (by omega)
   clear ha hb hk
   cases hz : (b == 0)
   ·have hnz : (b != 0) = true := by rw [bne, hz]; rfl
    go_wp2
    go_ret
    exact ⟨ret_int (by rw [← HR.out, if_pos HA.out]), rfl⟩
   ·have hnz : (b != 0) = false := by rw [bne, hz]; rfl
    go_wp2
    go_roundw
    case rel => exact ⟨2, by omega, by go_num, fun _ => HA.out, fun h => by simpa using hz, rfl⟩
    case measure => simp [intOf]
  ·subst e
   have HA : Hid (a = 0 ∧ b = 0) := ⟨ha (by omega), hb (by omega)⟩
   clear ha hb hk
   go_wp2
   go_ret
   exact ⟨ret_int (by rw [← HR.out, if_pos HA.out.1, HA.out.2]), rfl⟩
set_option maxRecDepth 100000 in
set_option maxHeartbeats 8000000 in
theorem cmpO_any (x y : Og) (w : World) :
  Calls Tryz.prog 110 #[.agg #[.int .u32 x.a, .int .u32 x.s, .int .i64 x.u], .agg #[.int .u32 y.a, .int .u32 y.s, .int .i64 y.u]] w fun e w' => e = .returned (.int .i64 (cmpO x y)) ∧ ∃ q os', w' = grow (w.drewN q) os' := by
 have HC := fun W => compare_i x.u y.u W
 have HD := fun W => compare_u x.a y.a W
 have HE : Hid (cmpO x y = if cmp3 x.u y.u = 0 then cmp3 x.a y.a else cmp3 x.u y.u) := rfl
 generalize cmp3 x.u y.u = cu at HC HE
 generalize cmp3 x.a y.a = ca at HD HE
 have HO0 := fun B W h0 h1 => cmpOr_any B cu ca W h0 h1
 generalize (if cu = 0 then ca else cu) = r at HO0 HE
 have xB := (Bx.new w 158 [.int .u32 x.a, .int .u32 x.s, .int .i64 x.u]).alloc (.cells #[.int .u32 y.a, .int .u32 y.s, .int .i64 y.u] 158)
 have yB := Bx.newAt (w.alloc (.cells #[.int .u32 x.a, .int .u32 x.s, .int .i64 x.u] 158)) 158 [.int .u32 y.a, .int .u32 y.s, .int .i64 y.u] (c := w.heap.size + 1) (by simp)
 have HW : Hid (∀ c, (((w.alloc (.cells #[.int .u32 x.a, .int .u32 x.s, .int .i64 x.u] 158)).alloc (.cells #[.int .u32 y.a, .int .u32 y.s, .int .i64 y.u] 158)).alloc c).drew = grow (w.drewN 1) #[(.cells #[.int .u32 x.a, .int .u32 x.s, .int .i64 x.u] 158), (.cells #[.int .u32 y.a, .int .u32 y.s, .int .i64 y.u] 158), c]) := fun c => by rw [alloc_eq_grow, alloc_eq_grow, alloc_eq_grow, grow_grow, grow_grow]; rfl
 go_enter Tryz.func110, Tryz.ntmps110
 go_upto_region 1 with fail
 generalize (w.alloc (.cells #[.int .u32 x.a, .int .u32 x.s, .int .i64 x.u] 158)).alloc (.cells #[.int .u32 y.a, .int .u32 y.s, .int .i64 y.u] 158) = W0 at xB yB HW ⊢
 have xD := xB.drew
 have yD := yB.drew
 have x0 := xD.cell 0 _ rfl
 have x2 := xD.cell 2 _ rfl
 have y0 := yD.cell 0 _ rfl
 have y2 := yD.cell 2 _ rfl
 clear xB yB xD yD
 have hmx : Tryz.prog.follows .mixedOrders = true := by kernel_rfl
 refine wp_region_still_tail 12 hmx (by kernel_rfl) ?_
 simp only [List.take_succ_cons, List.take_zero, List.drop_succ_cons, List.drop_zero]
 iterate 4 still_step
 still_call (HC _)
 iterate 6 still_step
 still_call (HD _)
 refine wpStill_nil ?_
 have hcA := Bx.newAt W0.drew 3 [.int .i64 cu, .int .i64 ca] (c := W0.heap.size) rfl
 have hc0 := hcA.cell 0 _ rfl
 have hc1 := hcA.cell 1 _ rfl
 clear hcA
 go_wp2_with (go_at_call 111; refine (HO0 _ _ hc0 hc1).mono ?_; rintro e w' ⟨rfl, hw⟩; have hw := hw.symm; subst hw)
 go_ret
 exact ⟨ret_int HE.out.symm, 1, _, HW.out _⟩

end Go.Proofs.YtigpbjcmmgdiaaaGreat
/-
 Originals in the order of what they came of and of their addresses: if no two beside each other meet, none do. Plain facts. No conditions.
-/
namespace Go.Proofs.YtigpbjcmmgdiaaaGreat
open Go.ChangeShapes Go.WideShapes Go.ChangeAt Go.RowKit Go.Sort
set_option linter.unusedVariables false

def isO (L : List Sl) (i : Nat) : Bool := match L[i]? with
 | none => false
 | some s => s.o
def ogOf (L : List Sl) (i : Nat) : Og := match L[i]? with
 | none => ⟨0, 0, 0⟩
 | some s => ⟨s.e, bornSz s, cameI L i⟩
def ogs (L : List Sl) (k : Nat) : List Og := ((List.range k).filter (isO L)).map (ogOf L)
theorem ogs_zero (L : List Sl) : ogs L 0 = [] := rfl
theorem ogs_yes {L : List Sl} {k : Nat} (hk : k < L.length) (h : L[k].o = true) : ogs L (k + 1) = ogs L k ++ [⟨L[k].e, bornSz L[k], cameI L k⟩] := by
 unfold ogs
 rw [List.range_succ, List.filter_append, List.map_append]
 have : isO L k = true := by unfold isO; rw [List.getElem?_eq_getElem hk]; exact h
 simp [this, ogOf, List.getElem?_eq_getElem hk]
theorem ogs_no {L : List Sl} {k : Nat} (hk : k < L.length) (h : L[k].o = false) : ogs L (k + 1) = ogs L k := by
 unfold ogs
 rw [List.range_succ, List.filter_append, List.map_append]
 have : isO L k = false := by unfold isO; rw [List.getElem?_eq_getElem hk]; exact h
 simp [this]
theorem ogs_len (L : List Sl) (k : Nat) : (ogs L k).length ≤ k := by
 unfold ogs
 rw [List.length_map]
 have := List.length_filter_le (isO L) (List.range k)
 simpa using this
theorem ogs_mem {L : List Sl} {x : Og} (h : x ∈ ogs L L.length) : ∃ (i : Nat) (hi : i < L.length), L[i].o = true ∧ x = ⟨L[i].e, bornSz L[i], cameI L i⟩ := by
 unfold ogs at h
 obtain ⟨i, hi, rfl⟩ := List.mem_map.1 h
 rw [List.mem_filter, List.mem_range] at hi
 obtain ⟨hi, ho⟩ := hi
 refine ⟨i, hi, ?_, ?_⟩
 ·unfold isO at ho; rw [List.getElem?_eq_getElem hi] at ho; exact ho
 ·unfold ogOf; rw [List.getElem?_eq_getElem hi]
/-- Two of one origin share a word. -/
def meetO (x y : Og) : Bool := x.u == y.u && decide (x.a < y.a + y.s) && decide (y.a < x.a + x.s)
theorem meetO_sym (x y : Og) : meetO x y = meetO y x := by
 unfold meetO
 rw [Bool.eq_iff_iff]; simp only [Bool.and_eq_true, beq_iff_eq, decide_eq_true_eq]
 constructor <;> (rintro ⟨⟨h1, h2⟩, h3⟩; exact ⟨⟨h1.symm, h3⟩, h2⟩)
theorem apart_pair {L : List Sl} (hT : treeB L = true) : ApartP L ↔ (ogs L L.length).Pairwise (fun x y => meetO x y = false) := by
 have hp := fun i (hi : i < L.length) => ok_parts (tree_ok hT i hi).2.2.2
 have hm : ∀ i j (hi : i < L.length) (hj : j < L.length), (meetO ⟨L[i].e, bornSz L[i], cameI L i⟩ ⟨L[j].e, bornSz L[j], cameI L j⟩ = false ↔ (cameI L j = cameI L i → meetB L[i].e (bornSz L[i]) L[j].e (bornSz L[j]) = false)) := by
  intro i j hi hj
  have a := hp i hi
  have b := hp j hj
  have hmi := meet_iff (a := L[i].e) (s := bornSz L[i]) (b := L[j].e) (t := bornSz L[j]) (by omega) (by omega) (by omega) (by omega) (by omega) (by omega) (by omega) (by omega)
  cases hb : meetB L[i].e (bornSz L[i]) L[j].e (bornSz L[j]) with
  | true =>
   have := hmi.1 hb
   unfold meetO
   simp only [Bool.and_eq_false_iff, beq_eq_false_iff_ne, decide_eq_false_iff_not, ne_eq]
   constructor
   ·intro h e; omega
   ·intro h
    have : ¬ cameI L j = cameI L i := fun e => by cases h e
    omega
  | false =>
   have : ¬ (L[i].e < L[j].e + bornSz L[j] ∧ L[j].e < L[i].e + bornSz L[i]) := fun e => by rw [hmi.2 e] at hb; cases hb
   unfold meetO
   simp only [Bool.and_eq_false_iff, beq_eq_false_iff_ne, decide_eq_false_iff_not, ne_eq]
   constructor
   ·intro _ _; trivial
   ·intro _; omega
 unfold ogs
 rw [List.pairwise_map, List.pairwise_filter]
 constructor
 ·intro h
  have hr := List.pairwise_lt_range (n := L.length)
  refine List.Pairwise.imp_of_mem ?_ hr
  intro j i hj hi hji ho1 ho2
  have hj := List.mem_range.1 hj
  have hi := List.mem_range.1 hi
  unfold isO at ho1 ho2
  rw [List.getElem?_eq_getElem hj] at ho1
  rw [List.getElem?_eq_getElem hi] at ho2
  unfold ogOf
  rw [List.getElem?_eq_getElem hj, List.getElem?_eq_getElem hi, meetO_sym]
  exact (hm i j hi hj).2 (fun e => h i j hi hj hji ho2 ho1 e)
 ·intro h i j hi hj hji ho1 ho2 hc
  rw [List.pairwise_iff_getElem] at h
  have := h j i (by simpa using hj) (by simpa using hi) hji (by simp [isO, hj, ho2]) (by simp [isO, hi, ho1])
  simp only [List.getElem_range, ogOf, List.getElem?_eq_getElem hj, List.getElem?_eq_getElem hi] at this
  rw [meetO_sym] at this
  exact (hm i j hi hj).1 this hc
/-- In the order of the sort: those beside each other tell it all. -/
theorem adj_pairs {d : Array Og} (hs : SortedIn (ltOf cmpO) 0 d.size d) (hp : ∀ i, i < d.size → 0 < d[i]!.s) : (∀ i, i + 1 < d.size → meetO d[i]! d[i + 1]! = false) ↔ d.toList.Pairwise (fun x y => meetO x y = false) := by
 have hle : ∀ i j, i < j → j < d.size → d[i]!.u < d[j]!.u ∨ (d[i]!.u = d[j]!.u ∧ d[i]!.a ≤ d[j]!.a) := by
  intro i j hij hj
  have := hs i j (Nat.zero_le _) hij hj
  rw [ltO] at this
  simp only [decide_eq_false_iff_not] at this
  omega
 have hmo : ∀ x y : Og, meetO x y = false ↔ (x.u = y.u → ¬ (x.a < y.a + y.s ∧ y.a < x.a + x.s)) := by
  intro x y
  unfold meetO
  simp only [Bool.and_eq_false_iff, beq_eq_false_iff_ne, decide_eq_false_iff_not, ne_eq]
  omega
 rw [List.pairwise_iff_getElem]
 constructor
 ·intro h
  have key : ∀ m i, i + m + 1 < d.size → d[i]!.u = d[i + m + 1]!.u → d[i]!.a + d[i]!.s ≤ d[i + m + 1]!.a := by
   intro m
   induction m with
   | zero =>
    intro i hi hu
    have h1 := (hmo _ _).1 (h i hi) hu
    have h2 := hle i (i + 1) (by omega) hi
    have h3 := hp i (by omega)
    have h4 := hp (i + 1) (by omega)
    simp only [Nat.add_zero] at hu ⊢
    omega
   | succ m ih =>
    intro i hi hu
    have h1 := hle i (i + m + 1) (by omega) (by omega)
    have h2 := hle (i + m + 1) (i + (m + 1) + 1) (by omega) hi
    have h3 := ih i (by omega) (by omega)
    omega
  intro i j hi hj hij
  have hi' : i < d.size := by simpa using hi
  have hj' : j < d.size := by simpa using hj
  have e1 : d.toList[i] = d[i]! := by simp [hi']
  have e2 : d.toList[j] = d[j]! := by simp [hj']
  rw [e1, e2, hmo]
  intro hu
  have := key (j - i - 1) i (by omega)
  have e : i + (j - i - 1) + 1 = j := by omega
  rw [e] at this
  have := this hu
  omega
 ·intro h i hi
  have := h i (i + 1) (by simpa using (by omega : i < d.size)) (by simpa using hi) (by omega)
  have e1 : d.toList[i]'(by simpa using (by omega : i < d.size)) = d[i]! := by simp [(by omega : i < d.size)]
  have e2 : d.toList[i + 1]'(by simpa using hi) = d[i + 1]! := by simp [hi]
  rw [e1, e2] at this; exact this
theorem perm_list {d d' : Array Og} (h : PermIn 0 d.size d d') : d'.toList.Perm d.toList := by
 obtain ⟨h1, _, h3⟩ := h
 have e1 : d'.extract 0 d.size = d' := by rw [← h1]; simp
 have e2 : d.extract 0 d.size = d := by simp
 rw [e1, e2] at h3; exact h3
/-- What the program's sorted row says of the slots. -/
theorem apart_sorted {L : List Sl} (hT : treeB L = true) {d' : Array Og} (hp : PermIn 0 (ogs L L.length).toArray.size (ogs L L.length).toArray d') (hs : SortedIn (ltOf cmpO) 0 (ogs L L.length).toArray.size d') : (∀ i, i + 1 < d'.size → meetO d'[i]! d'[i + 1]! = false) ↔ ApartP L := by
 have hperm := perm_list hp
 have hsz := hp.1
 rw [adj_pairs (by rw [hsz]; exact hs), apart_pair hT]
 ·exact hperm.pairwise_iff (fun {x y} h => by rw [meetO_sym]; exact h)
 ·intro i hi
  have hm : d'[i]! ∈ d'.toList := by simp [hi]
  have := hperm.mem_iff.1 hm
  obtain ⟨j, hj, _, e⟩ := ogs_mem (L := L) (by simpa using this)
  rw [e]
  have := ok_parts (tree_ok hT j hj).2.2.2
  exact this.2.2.2.1

end Go.Proofs.YtigpbjcmmgdiaaaGreat
/-
 Whether originals that came of the same do not meet, by the program. Conditions: the view lies in memory, its slots are a tree.
-/
namespace Go.Proofs
open Go.Shelf Go.RowKit Go.Lib Go.Sort
end Go.Proofs
namespace Go.Proofs.YtigpbjcmmgdiaaaGreat
open Go.ChangeShapes Go.WideShapes Go.ChangeAt Go.RowKit Go.Sort
set_option linter.unusedVariables false

def fO : Form Og := ⟨3, encO, fun _ => rfl, by decide⟩
theorem isAggO (w : World) : (isAgg 158).run Tryz.prog w = .ok true w := by kernel_rfl
theorem sizeO (w : World) : (Go.sizeOf 158).run Tryz.prog w = .ok 3 w := by kernel_rfl
theorem infoO : (Tryz.prog.info? 158).map (fun i => (i.zero, i.size, i.bytes)) = some (some (.agg #[.int .u32 0, .int .u32 0, .int .i64 0]), 3, 16) := by kernel_rfl
theorem holds_of {w : World} {B : Nat} {L : List Og} (h : LiesG fO w (some ⟨B, 0, none⟩) L) (hz : ∀ j, w.frozen? ⟨B, j, none⟩ = false) : HoldsK encO 3 w B 0 L.toArray := by
 intro j hj
 rw [size_flatK] at hj
 have hj : j < L.length * 3 := by simpa using hj
 refine ⟨?_, hz _⟩
 rw [get_flatK _ _ _ _ (by simpa using hj)]
 have hi : j / 3 < L.length := by omega
 have := h.cells B 0 rfl (j / 3) hi (j % 3) (by show j % 3 < 3; omega)
 have e : 0 + j / 3 * fO.n + j % 3 = 0 + j := by show 0 + j / 3 * 3 + j % 3 = 0 + j; omega
 rw [e] at this
 rw [this]
 have e2 : L.toArray[j / 3]! = L[j / 3] := by simp [hi]
 rw [e2]
 show (encO L[j / 3])[j % 3]? = some (encO L[j / 3])[j % 3]!
 have e3 : j % 3 < (encO L[j / 3]).length := by show j % 3 < 3; omega
 rw [List.getElem?_eq_getElem e3, List.getElem!_eq_getElem?_getD, List.getElem?_eq_getElem e3]; rfl
theorem sortK_but (w : World) (blk m : Nat) (d : Array Og) (os : Array Obj) : But blk w (sortWorldK encO 3 w blk 0 m d os) := by
 refine ⟨rfl, rfl, rfl, by simp [sortWorldK, grow, putRowK, putRow, mapBlock, Sort.ahead], fun k hk hn => ?_⟩
 have hne : k ≠ blk := fun e => hn (by rw [e])
 simp only [sortWorldK, grow, putRowK, putRow, mapBlock, Sort.ahead]
 rw [Array.getElem?_append_left (by simpa using hk), Array.getElem?_modify, if_neg (fun e => hne e.symm)]
theorem sortOf (P : Option Addr) (cap : Nat) (L : List Og) (w : World) (h : LiesG fO w P L) (hz : ∀ B O, P = some ⟨B, O, none⟩ → B < w.heap.size ∧ O = 0 ∧ ∀ j, w.frozen? ⟨B, j, none⟩ = false) (hlen : L.length ≤ 1048576) (B0 : Nat) (hB : ∀ B O, P = some ⟨B, O, none⟩ → B = B0) :
  Calls Tryz.prog 109 #[.slice P L.length cap, .func (.func 110) #[] #[]] w fun e w' => e = .returned (.tuple #[]) ∧ But B0 w w' ∧ ∃ d' : Array Og, PermIn 0 L.toArray.size L.toArray d' ∧ SortedIn (ltOf cmpO) 0 L.toArray.size d' ∧ (∀ i, i < d'.size → ∀ B O, P = some ⟨B, O, none⟩ → w'.cell? ⟨B, i * 3, none⟩ = some (.int .u32 d'[i]!.a) ∧ w'.cell? ⟨B, i * 3 + 1, none⟩ = some (.int .u32 d'[i]!.s) ∧ w'.cell? ⟨B, i * 3 + 2, none⟩ = some (.int .i64 d'[i]!.u)) := by
 by_cases h0 : L.length = 0
 ·have hL0 : L = [] := List.length_eq_zero_iff.1 h0
  subst hL0
  have := AnyF.slices_SortFunc_none Tryz.sortO P cap (.func (.func 110) #[] #[]) w
  change Calls Tryz.prog 109 _ _ _ at this
  refine this.mono fun e w' ⟨h1, h2⟩ => ?_
  subst h2
  exact ⟨h1, But.of B0 (Below.refl _ _), #[], ⟨rfl, fun _ _ => rfl, by simp⟩, fun i j _ _ h => absurd h (Nat.not_lt_zero _), fun i hi => absurd hi (Nat.not_lt_zero _)⟩
 ·obtain ⟨B, O, rfl⟩ := h.has (i := 0) (by omega)
  obtain ⟨hlt, rfl, hf⟩ := hz B O rfl
  have hBB := hB B 0 rfl
  subst hBB
  have eg : ∀ args w, (callFunc 110 args).run Tryz.prog w = .ok (.enter 110 args) w := enters_of Tryz.func110 (by kernel_rfl) rfl
  have hH := holds_of h hf
  have := AnyQ.slices_SortFunc Tryz.sortO 3 isAggO sizeO encO (fun _ => rfl) (fun x v hv => by simp [encO] at hv; rcases hv with rfl | rfl | rfl <;> rfl) cmpO swoO 110 #[] B 0 cap L.toArray w eg (fun m os dk _ x y => cmpO_any x y _) hH hlt (by simp; omega)
  have e0 : L.toArray.size = L.length := by simp
  rw [e0] at this
  change Calls Tryz.prog 109 _ _ _ at this
  refine this.mono fun e w' ⟨h1, d', n, os, hp, hs, hw⟩ => ?_
  have hps : d'.size = L.toArray.size := by have := hp.1; rw [this]
  subst hw
  refine ⟨h1, sortK_but w B n d' os, d', by rw [e0]; exact hp, by rw [e0]; exact hs, fun i hi B' O' e => ?_⟩
  obtain ⟨rfl, rfl⟩ : B' = B ∧ O' = 0 := by injection e with e; injection e with e1 e2; exact ⟨e1.symm, e2.symm⟩
  have hK := holdsK_sortWorldK_c encO 3 w B' 0 L.toArray d' n os hH hlt hps
  have c0 := (hK.cell (i := i) (c := 0) hi (by omega)).1
  have c1 := (hK.cell (i := i) (c := 1) hi (by omega)).1
  have c2 := (hK.cell (i := i) (c := 2) hi (by omega)).1
  simp only [Nat.zero_add, Nat.add_zero] at c0 c1 c2
  exact ⟨c0, c1, c2⟩
theorem com_no {x y z t : Int} (h : ¬ (x < z + t ∧ z < x + y)) (hy : 0 < y) (ht : 0 < t) : comA x y z t = 0 ∧ comS x y z t = 0 := by
 unfold comA comS
 rw [if_pos (by omega), if_pos (by omega)]; exact ⟨rfl, rfl⟩
theorem com_yes {x y z t : Int} (h : x < z + t ∧ z < x + y) (hy : 0 < y) (ht : 0 < t) : 1 ≤ comS x y z t := by
 unfold comS
 rw [if_neg (by omega)]; omega
theorem View.grown {w0 W W' : World} {K : QK} {vB : Nat} {fs : List Value} {row : Option Nat} (h : View w0 K vB fs W) (hg : W.grownBy W' row) (hne : ∀ b, row = some b → w0.heap.size ≤ b ∧ vB ≠ b) : View w0 K vB fs W' :=
 ⟨h.x.grown hg (fun e => (hne vB e).2 rfl), h.h0, ⟨hg.os.trans h.bw.os, hg.tape.trans h.bw.tape, hg.output.trans h.bw.output, Nat.le_trans h.bw.size hg.size, fun k hk => (hg.block k (Nat.lt_of_lt_of_le hk h.bw.size) (fun e => by have := (hne k e.symm).1; omega)).trans (h.bw.block k hk)⟩, h.le⟩
theorem belowRow {n : Nat} {a w w' : World} {row : Option Nat} (h : Below n a w) (hg : w.grownBy w' row) (hne : ∀ b, row = some b → n ≤ b) (hn : n ≤ w.heap.size) : Below n a w' :=
 h.trans ⟨hg.os, hg.tape, hg.output, hg.size, fun k hk => hg.block k (by omega) (fun e => by have := hne k e.symm; omega)⟩
theorem og_fine {L : List Sl} (hT : treeB L = true) {d : Array Og} (hp : PermIn 0 (ogs L L.length).toArray.size (ogs L L.length).toArray d) : ∀ i, i < d.size → 0 ≤ d[i]!.a ∧ d[i]!.a ≤ 4096 ∧ 0 < d[i]!.s ∧ d[i]!.s ≤ 4096 := by
 intro i hi
 have hm : d[i]! ∈ d.toList := by simp [hi]
 have := (perm_list hp).mem_iff.1 hm
 obtain ⟨j, hj, _, e⟩ := ogs_mem (L := L) (by simpa using this)
 rw [e]
 have := ok_parts (tree_ok hT j hj).2.2.2
 exact ⟨this.2.2.1, this.2.2.2.2.1, this.2.2.2.1, this.2.2.2.2.2.1⟩
theorem ixO (B n cap i : Nat) (h : i < n) (W : World) : (Instr.indexAt 156 (.slice (some ⟨B, 0, none⟩) n cap) (.int .i64 (i : Int))).run Tryz.prog W = .ok (.pointer (some ⟨B, i * 3, none⟩)) W := by
 have h1 : (i : Int) < (n : Int) := by omega
 go_simp
theorem cellA {w : World} {a : Addr} {v : Value} (h : w.cell? a = some v) (o : Obj) : (w.alloc o).cell? a = some v := (((Below.refl w.heap.size w).alloc (Nat.le_refl _) o).cell (block_lt_of_cell h)).trans h
def apInv1 (w0 : World) (K : QK) (vB uB : Nat) (fs : List Value) (w : World) (lv v : Value) (W : World) : Prop :=
 ∃ k : Nat, k ≤ K.sl.length ∧ v = .int .i64 (k : Int) ∧ View w0 K vB fs W ∧ Bx W uB 3 (upsRow K.sl) ∧ OwnG fO 158 W w.heap.size lv (ogs K.sl k) ∧ Below w.heap.size w W
def apInv2 (w : World) (d : Array Og) (P : Option Addr) (v : Value) (W : World) : Prop :=
 ∃ j : Nat, j ≤ d.size ∧ v = .int .i64 ((j : Int) + 1) ∧ (∀ i, i < j → i + 1 < d.size → meetO d[i]! d[i + 1]! = false) ∧ Below w.heap.size w W ∧ (∀ i, i < d.size → ∀ B O, P = some ⟨B, O, none⟩ → W.cell? ⟨B, i * 3, none⟩ = some (.int .u32 d[i]!.a) ∧ W.cell? ⟨B, i * 3 + 1, none⟩ = some (.int .u32 d[i]!.s) ∧ W.cell? ⟨B, i * 3 + 2, none⟩ = some (.int .i64 d[i]!.u))
set_option maxRecDepth 100000 in
set_option maxHeartbeats 16000000 in
theorem apartOk_any (w0 : World) (K : QK) (vB uB : Nat) (fs : List Value) (w : World) (hs : K.Short) (hT : treeB K.sl = true) (h : View w0 K vB fs w) (hf : fs[1]? = some (.slice (some ⟨uB, 0, none⟩) K.sl.length K.sl.length)) (hu : Bx w uB 3 (upsRow K.sl)) (b : Bool) (hb : b = true ↔ ApartP K.sl) :
  Calls Tryz.prog 66 #[.pointer (some ⟨vB, 0, none⟩)] w fun e w' => e = .returned (.bool b) ∧ Below w.heap.size w w' := by
 have HBb : Hid (b = true ↔ ApartP K.sl) := hb
 clear hb
 have hlen := hs.s
 have f1 := h.snd 1 _ hf
 have hbel := Below.refl w.heap.size w
 have HT : Hid (treeB K.sl = true) := hT
 have HVl : Hid (vB < w.heap.size) := h.lt
 have HUl : Hid (uB < w.heap.size) := hu.lt
 have HW0 : Hid (w0.heap.size ≤ w.heap.size) := h.bw.size
 have hown := OwnG.nil fO 158 w w.heap.size
 rw [← ogs_zero K.sl] at hown
 clear hT hf
 go_enter Tryz.func66, Tryz.ntmps66
 go_wp2
 go_loopw [3, 15] (fun lv v W => apInv1 w0 K vB uB fs w lv v W) (fun lv v W => K.sl.length - (intOf v).toNat)
 case atStart => exact ⟨0, Nat.zero_le _, rfl, h, hu, hown, hbel⟩
 case round =>
  clear h hu hbel f1 hown
  obtain ⟨k, hk, rfl, hv, hu, ho, hbl⟩ := hrel
  by_cases hlt : k < K.sl.length
  ·have hk1 : (k : Int) < (K.sl.length : Int) := by omega
   have hrow := hv.b.s
   obtain ⟨B, O, hP⟩ := hrow.some hlt
   rw [hP] at hrow
   have hcc := hrow.cells B O rfl k hlt
   obtain ⟨s, hsl⟩ : ∃ s, K.sl[k] = s := ⟨_, rfl⟩
   rw [hsl] at hcc
   have HSl : Hid (K.sl[k] = s) := hsl
   have hos := tree_okm HT.out s (by rw [← hsl]; exact List.getElem_mem hlt)
   have g2 := hv.cs
   rw [hP] at g2
   have uc := hu.cell k _ (upsRow_at K.sl hlt)
   obtain ⟨up, hup⟩ : ∃ up, cameI K.sl k = up := ⟨_, rfl⟩
   rw [hup] at uc
   have HUP : Hid _ := hup
   obtain ⟨c0, c1, c2, c3, c4, c5, c6, c7, c8, c9, c10⟩ := hcc
   clear hsl hP hup
   go_upto_region 6 with fail
   clear g2 c0 c1 c2 c3 c4 c5 c6 c7 c8 c9 c10 uc hrow
   have b1 := (Below.refl wr.heap.size wr).alloc (Nat.le_refl _) (.cells #[.int .i64 s.k, .int .i64 s.e, .int .i64 s.b, .int .i64 s.r, .int .i64 s.d, .int .i64 s.g, .int .i64 s.q, .int .i64 s.f, .bool s.o] 33)
   have hv1 := hv.below b1
   have hu1 := hu.below b1
   have ho1 := ho.below b1
   have hbl1 := hbl.trans (b1.mono hbl.size)
   have cx := Bx.newAt wr 33 [.int .i64 s.k, .int .i64 s.e, .int .i64 s.b, .int .i64 s.r, .int .i64 s.d, .int .i64 s.g, .int .i64 s.q, .int .i64 s.f, .bool s.o] (c := wr.heap.size) rfl
   clear hv hu ho hbl b1
   generalize wr.alloc (.cells #[.int .i64 s.k, .int .i64 s.e, .int .i64 s.b, .int .i64 s.r, .int .i64 s.d, .int .i64 s.g, .int .i64 s.q, .int .i64 s.f, .bool s.o] 33) = W1 at hv1 hu1 ho1 hbl1 cx ⊢
   generalize wr.heap.size = cB at cx ⊢
   have y0 := cx.cell 0 _ rfl; have y1 := cx.cell 1 _ rfl; have y2 := cx.cell 2 _ rfl; have y3 := cx.cell 3 _ rfl; have y4 := cx.cell 4 _ rfl; have y5 := cx.cell 5 _ rfl; have y6 := cx.cell 6 _ rfl; have y7 := cx.cell 7 _ rfl; have y8 := cx.cell 8 _ rfl
   cases hoo : s.o
   ·rw [hoo] at y8
    have HX : Hid (ogs K.sl (k + 1) = ogs K.sl k) := ogs_no hlt (by rw [HSl.out]; exact hoo)
    go_wp2
    go_roundw
    case rel => exact ⟨k + 1, by omega, by go_num, hv1, hu1, by rw [HX.out]; exact ho1, hbl1⟩
    case measure => simp [intOf]; omega
   ·rw [hoo] at y8
    have HX : Hid (ogs K.sl (k + 1) = ogs K.sl k ++ [⟨s.e, bornSz s, up⟩]) := by unfold Hid; rw [ogs_yes hlt (by rw [HSl.out]; exact hoo), HSl.out, HUP.out]
    have p := ok_parts hos
    have hsp : spanI s.k s.b = bornSz s := p.2.2.2.2.2.2.2.2.1
    have HC : Hid (∀ W, Calls Tryz.prog 106 #[.agg #[.int .i64 s.k, .int .i64 s.e, .int .i64 s.b, .int .i64 s.r, .int .i64 s.d, .int .i64 s.g, .int .i64 s.q, .int .i64 s.f, .bool true]] W fun e w' => e = .returned (.agg #[.int .u32 s.e, .int .u32 (bornSz s)]) ∧ Below W.heap.size W w') := fun W => by
     have := capRange_any s.k s.e s.b s.r s.d s.g s.q s.f true W p.1 p.2.1 (by rw [hsp]; exact fineB_mk (by omega))
     rw [hsp] at this; exact this
    clear p hsp hos hoo
    obtain ⟨i0, hi0, hzz⟩ := Option.map_eq_some_iff.1 infoO
    simp only [Prod.mk.injEq] at hzz
    obtain ⟨hy1, hs0, hy0⟩ := hzz
    obtain ⟨H, hH⟩ : ∃ H, ogs K.sl k = H := ⟨_, rfl⟩
    rw [hH] at ho1
    have HHk : Hid (H.length ≤ k) := by unfold Hid; rw [← hH]; exact ogs_len _ _
    rw [hH] at HX
    clear hH
    obtain ⟨vP, vc, rfl, _⟩ := ho1.form
    generalize hq : H.length = q at *
    have HQ : Hid _ := hq
    have hle9 := HHk.out
    have hwz := hbl1.size
    clear hq
    go_wp2_with (first
     | (go_at_call 106; refine (HC.out _).mono ?_; rintro e w4 ⟨rfl, hb4⟩; have ohA := (ho1.below hb4).below ((Below.refl w4.heap.size w4).alloc (Nat.le_refl _) (.cells #[.int .u32 s.e, .int .u32 (bornSz s), .int .i64 up] 158)); have hown : (w4.alloc (.cells #[.int .u32 s.e, .int .u32 (bornSz s), .int .i64 up] 158)).ownsRow w.heap.size 158 3 (.slice vP q vc) q (cellsG fO H) := (by have := ohA; unfold OwnG at this; rw [HQ.out] at this; exact this))
     | (at_builtin; refine wpList_append_own _ rfl _ _ 156 rfl w.heap.size 158 i0 (.agg #[.int .u32 0, .int .u32 0, .int .i64 0]) 3 16 Tryz.underlying156 hi0 hy1 hs0 hy0 rfl (by decide) (.slice vP q vc) q (cellsG fO H) rfl hown ⟨w4.heap.size, 0, none⟩ 1 1 (fO.cel ⟨s.e, bornSz s, up⟩) rfl rfl (newsG (F := fO) ⟨s.e, bornSz s, up⟩ 158) (by simp [fO, encO, Value.oneCell']) (by unfold maxLen; omega) (by omega) (by have := hb4.size; simp; omega) ?_; intro v2 w5 own2 gr2 _; obtain ⟨g3, cap3, rfl⟩ := own_some own2 (by omega)))
    go_roundw
    case rel =>
     have hfar : ∀ b, (Value.slice vP q vc).ownBlock = some b → w.heap.size ≤ b := fun b e => (hown.lt b e).1
     have bA := (Below.refl w4.heap.size w4).alloc (Nat.le_refl _) (.cells #[.int .u32 s.e, .int .u32 (bornSz s), .int .i64 up] 158)
     have hvl := HVl.out
     have hul := HUl.out
     have hw0 := HW0.out
     refine ⟨k + 1, by omega, by go_num, ?_, ?_, ?_, ?_⟩
     ·exact ((hv1.below hb4).below bA).grown gr2 (fun b e => by have := hfar b e; omega)
     ·exact ((hu1.below hb4).below bA).grown gr2 (fun e => by have := hfar uB e; omega)
     ·rw [HX.out]; exact OwnG.snoc (F := fO) _ (by rw [HQ.out]) own2
     ·have q1 := hbl1.trans (hb4.mono hbl1.size)
      have q2 := q1.trans (bA.mono q1.size)
      exact belowRow q2 gr2 hfar q2.size
    case measure => simp [intOf]; omega
  ·have hk1 : ¬ (k : Int) < (K.sl.length : Int) := by omega
   have hke : k = K.sl.length := by omega
   rw [hke] at ho
   obtain ⟨H, hH⟩ : ∃ H, ogs K.sl K.sl.length = H := ⟨_, rfl⟩
   rw [hH] at ho
   have HH : Hid (ogs K.sl K.sl.length = H) := hH
   have hHl : H.length ≤ 1048576 := by have := ogs_len K.sl K.sl.length; rw [hH] at this; omega
   obtain ⟨P, cap, rfl, hli, _, _, hform, _, hob⟩ := ho.form
   obtain ⟨B0, hB1, hB2⟩ : ∃ B0, w.heap.size ≤ B0 ∧ ∀ B O, P = some ⟨B, O, none⟩ → B = B0 := by
    cases hP : P with
    | none => exact ⟨w.heap.size, Nat.le_refl _, fun B O e => by cases e⟩
    | some a =>
     obtain ⟨b, o, sh⟩ := a
     cases sh with
     | none => exact ⟨b, (hform b o hP).1, fun B O e => by injection e with e; injection e with e; exact e.symm⟩
     | some sh =>
      rcases hli.place with e | ⟨B, O, e⟩
      ·exact ⟨w.heap.size, Nat.le_refl _, fun B O e => by injection e with e; injection e with _ _ e; cases e⟩
      ·rw [hP] at e; injection e with e; injection e with _ _ e; cases e
   have HSo : Hid _ := sortOf P cap H wr hli (fun B O e => ⟨(hform B O e).2.1, (hform B O e).2.2⟩) hHl B0 hB2
   have HB1 : Hid (w.heap.size ≤ B0) := hB1
   have HLi : Hid (∀ i, i < H.length → ∃ B, P = some ⟨B, 0, none⟩) := fun i hi => by
    obtain ⟨B, O, e⟩ := hli.has hi
    obtain ⟨_, _, e2, _⟩ := hform B O e
    subst e2; exact ⟨B, e⟩
   have hHl2 : Hid (H.length ≤ 1048576) := hHl
   have HBl : Hid (Below w.heap.size w wr) := hbl
   clear hke hk hH hli hform hob hB1 hB2 ho hv hu hbl
   go_upto_region 10 with (go_at_call 109; refine Calls.mono HSo.out ?_; rintro e w2 ⟨rfl, hbut, d, hp, hsd, hcells⟩)
   have hds : d.size = H.length := by have := hp.1; simpa using this
   have HAp : Hid ((∀ i, i + 1 < d.size → meetO d[i]! d[i + 1]! = false) ↔ ApartP K.sl) := by
    unfold Hid
    rw [← HH.out] at hp hsd
    exact apart_sorted HT.out hp hsd
   have HBd : Hid (∀ i, i < d.size → 0 ≤ d[i]!.a ∧ d[i]!.a ≤ 4096 ∧ 0 < d[i]!.s ∧ d[i]!.s ≤ 4096) := by
    unfold Hid
    rw [← HH.out] at hp
    exact og_fine HT.out hp
   have hb2 : Below w.heap.size w w2 := But.below HBl.out hbut HB1.out HBl.out.size
   have HDs : Hid (d.size = H.length) := hds
   clear hp hsd hbut hds hk1 HSo
   go_wp2
   go_loopw [7] (fun v W => apInv2 w d P v W) (fun v W => d.size + 1 - (intOf v).toNat)
   case atStart => exact ⟨0, Nat.zero_le _, rfl, fun i hi => absurd hi (Nat.not_lt_zero _), hb2, hcells⟩
   case round =>
    clear hb2 hcells
    obtain ⟨j, hj, rfl, hno, hb2, hcells⟩ := hrel
    have HN : Hid _ := hno
    have HCe : Hid _ := hcells
    clear hno hcells
    by_cases hlt : j + 1 < H.length
    ·have hk1 : (j : Int) + 1 < (H.length : Int) := by omega
     obtain ⟨B, hP⟩ := HLi.out j (by omega)
     have hds := HDs.out
     have hl2 := hHl2.out
     obtain ⟨a0, a1, a2⟩ := HCe.out j (by omega) B 0 hP
     obtain ⟨e0, e1, e2⟩ := HCe.out (j + 1) (by omega) B 0 hP
     obtain ⟨p1, p2, p3, p4⟩ := HBd.out j (by omega)
     obtain ⟨q1, q2, q3, q4⟩ := HBd.out (j + 1) (by omega)
     have HMe : Hid (meetO d[j]! d[j + 1]! = (d[j]!.u == d[j + 1]!.u && decide (d[j]!.a < d[j + 1]!.a + d[j + 1]!.s) && decide (d[j + 1]!.a < d[j]!.a + d[j]!.s))) := rfl
     have hw1 : IntKind.i64.wrap ((j : Int) + 1 - 1) = (j : Int) := by rw [IntKind.wrap_i64]; omega
     have hi1 : (j : Int) < (H.length : Int) := by omega
     have hix1 : ∀ W, (Instr.indexAt 156 (.slice P H.length cap) (.int .i64 (j : Int))).run Tryz.prog W = .ok (.pointer (some ⟨B, j * 3, none⟩)) W := fun W => by rw [hP]; exact ixO B H.length cap j (by omega) W
     have hix2 : ∀ W, (Instr.indexAt 156 (.slice P H.length cap) (.int .i64 ((j : Int) + 1))).run Tryz.prog W = .ok (.pointer (some ⟨B, (j + 1) * 3, none⟩)) W := fun W => by
      have := ixO B H.length cap (j + 1) hlt W
      rw [hP]; exact this
     have HNx : Hid (meetO d[j]! d[j + 1]! = false → ∀ i, i < j + 1 → i + 1 < d.size → meetO d[i]! d[i + 1]! = false) := fun h i hi h2 => by
      by_cases e : i = j
      ·subst e; exact h
      ·exact HN.out i (by omega) h2
     have HFa : Hid (meetO d[j]! d[j + 1]! = true → b = false) := fun h => by
      cases hbb : b with
      | false => rfl
      | true => have := HAp.out.2 (HBb.out.1 hbb) j (by omega); rw [h] at this; cases this
     generalize d[j]! = x at a0 a1 a2 p1 p2 p3 p4 HMe HNx HFa
     generalize d[j + 1]! = y at e0 e1 e2 q1 q2 q3 q4 HMe HNx HFa
     obtain ⟨xa, xs, xu⟩ := x
     obtain ⟨ya, ys, yu⟩ := y
     simp only at a0 a1 a2 p1 p2 p3 p4 e0 e1 e2 q1 q2 q3 q4
     have HPs : Hid (P = some ⟨B, 0, none⟩) := hP
     clear hP hds hl2
     go_upto_region 13 with fail
     have a01 := cellA a0 (.cells #[.int .u32 0, .int .u32 0, .int .i64 0] 158); have a02 := cellA a01 (.cells #[.int .u32 0, .int .u32 0, .int .i64 0] 158); have a03 := cellA (cellA a0 (.cells #[.int .u32 xa, .int .u32 xs, .int .i64 xu] 158)) (.cells #[.int .u32 0, .int .u32 0, .int .i64 0] 158); have a04 := cellA a01 (.cells #[.int .u32 xa, .int .u32 xs, .int .i64 xu] 158); have a11 := cellA a1 (.cells #[.int .u32 0, .int .u32 0, .int .i64 0] 158); have a12 := cellA a11 (.cells #[.int .u32 0, .int .u32 0, .int .i64 0] 158); have a13 := cellA (cellA a1 (.cells #[.int .u32 xa, .int .u32 xs, .int .i64 xu] 158)) (.cells #[.int .u32 0, .int .u32 0, .int .i64 0] 158); have a14 := cellA a11 (.cells #[.int .u32 xa, .int .u32 xs, .int .i64 xu] 158); have a21 := cellA a2 (.cells #[.int .u32 0, .int .u32 0, .int .i64 0] 158); have a22 := cellA a21 (.cells #[.int .u32 0, .int .u32 0, .int .i64 0] 158); have a23 := cellA (cellA a2 (.cells #[.int .u32 xa, .int .u32 xs, .int .i64 xu] 158)) (.cells #[.int .u32 0, .int .u32 0, .int .i64 0] 158); have a24 := cellA a21 (.cells #[.int .u32 xa, .int .u32 xs, .int .i64 xu] 158); have e01 := cellA e0 (.cells #[.int .u32 0, .int .u32 0, .int .i64 0] 158); have e02 := cellA e01 (.cells #[.int .u32 0, .int .u32 0, .int .i64 0] 158); have e03 := cellA (cellA e0 (.cells #[.int .u32 xa, .int .u32 xs, .int .i64 xu] 158)) (.cells #[.int .u32 0, .int .u32 0, .int .i64 0] 158); have e04 := cellA e01 (.cells #[.int .u32 xa, .int .u32 xs, .int .i64 xu] 158); have e11 := cellA e1 (.cells #[.int .u32 0, .int .u32 0, .int .i64 0] 158); have e12 := cellA e11 (.cells #[.int .u32 0, .int .u32 0, .int .i64 0] 158); have e13 := cellA (cellA e1 (.cells #[.int .u32 xa, .int .u32 xs, .int .i64 xu] 158)) (.cells #[.int .u32 0, .int .u32 0, .int .i64 0] 158); have e14 := cellA e11 (.cells #[.int .u32 xa, .int .u32 xs, .int .i64 xu] 158); have e21 := cellA e2 (.cells #[.int .u32 0, .int .u32 0, .int .i64 0] 158); have e22 := cellA e21 (.cells #[.int .u32 0, .int .u32 0, .int .i64 0] 158); have e23 := cellA (cellA e2 (.cells #[.int .u32 xa, .int .u32 xs, .int .i64 xu] 158)) (.cells #[.int .u32 0, .int .u32 0, .int .i64 0] 158); have e24 := cellA e21 (.cells #[.int .u32 xa, .int .u32 xs, .int .i64 xu] 158)
     go_region
     ·have pA := ((Bx.new wr 158 [.int .u32 xa, .int .u32 xs, .int .i64 xu]).alloc (.cells #[.int .u32 ya, .int .u32 ys, .int .i64 yu] 158)).drew
      have pB := (Bx.newAt (wr.alloc (.cells #[.int .u32 xa, .int .u32 xs, .int .i64 xu] 158)) 158 [.int .u32 ya, .int .u32 ys, .int .i64 yu] (c := wr.heap.size + 1) (by simp)).drew
      have b9 : Below w.heap.size w ((wr.alloc (.cells #[.int .u32 xa, .int .u32 xs, .int .i64 xu] 158)).alloc (.cells #[.int .u32 ya, .int .u32 ys, .int .i64 yu] 158)).drew := ((hb2.alloc hb2.size _).alloc (by have := hb2.size; simp; omega) _).drew
      have HC9 : Hid (∀ i, i < d.size → ∀ B O, P = some ⟨B, O, none⟩ → ((wr.alloc (.cells #[.int .u32 xa, .int .u32 xs, .int .i64 xu] 158)).alloc (.cells #[.int .u32 ya, .int .u32 ys, .int .i64 yu] 158)).drew.cell? ⟨B, i * 3, none⟩ = some (.int .u32 d[i]!.a) ∧ ((wr.alloc (.cells #[.int .u32 xa, .int .u32 xs, .int .i64 xu] 158)).alloc (.cells #[.int .u32 ya, .int .u32 ys, .int .i64 yu] 158)).drew.cell? ⟨B, i * 3 + 1, none⟩ = some (.int .u32 d[i]!.s) ∧ ((wr.alloc (.cells #[.int .u32 xa, .int .u32 xs, .int .i64 xu] 158)).alloc (.cells #[.int .u32 ya, .int .u32 ys, .int .i64 yu] 158)).drew.cell? ⟨B, i * 3 + 2, none⟩ = some (.int .i64 d[i]!.u)) := fun i hi B O e => by
       obtain ⟨h1, h2, h3⟩ := HCe.out i hi B O e
       exact ⟨cellA (cellA h1 _) _, cellA (cellA h2 _) _, cellA (cellA h3 _) _⟩
      clear a0 a01 a02 a03 a04 a1 a11 a12 a13 a14 a2 a21 a22 a23 a24 e0 e01 e02 e03 e04 e1 e11 e12 e13 e14 e2 e21 e22 e23 e24 hb2 HCe hix1 hix2
      generalize ((wr.alloc (.cells #[.int .u32 xa, .int .u32 xs, .int .i64 xu] 158)).alloc (.cells #[.int .u32 ya, .int .u32 ys, .int .i64 yu] 158)).drew = W9 at pA pB b9 HC9 ⊢
      generalize wr.heap.size + 1 = cB at pB ⊢
      generalize wr.heap.size = cA at pA ⊢
      have pA0 := pA.cell 0 _ rfl; have pB0 := pB.cell 0 _ rfl; have pA1 := pA.cell 1 _ rfl; have pB1 := pB.cell 1 _ rfl; have pA2 := pA.cell 2 _ rfl; have pB2 := pB.cell 2 _ rfl
      cases hu : (xu == yu)
      ·have HX := HNx.out (by rw [HMe.out, hu]; rfl)
       have HX2 : Hid _ := HX
       clear HX
       go_wp2
       go_roundw
       case rel => exact ⟨j + 1, by have := HDs.out; omega, by go_num, HX2.out, b9, HC9.out⟩
       case measure => have := HDs.out; simp [intOf]; omega
      ·by_cases hm : xa < ya + ys ∧ ya < xa + xs
       ·have HX : Hid (meetO ⟨xa, xs, xu⟩ ⟨ya, ys, yu⟩ = true) := by unfold Hid; rw [HMe.out, hu]; simp [hm.1, hm.2]
        have hcs := com_yes hm p3 q3
        clear hm
        have HCo : Hid _ := fun W => common_any xa xs ya ys W p1 p2 (by omega) p4 q1 q2 (by omega) q4
        generalize comA xa xs ya ys = ca at hcs HCo
        generalize comS xa xs ya ys = cs at hcs HCo
        go_wp2_with (first
         | (go_at_call 114; refine (HCo.out _).mono ?_; rintro e w5 ⟨rfl, hb5⟩)
         | (go_at_call 115; refine (none_no ca cs _ hcs).mono ?_; rintro e w6 ⟨rfl, rfl⟩))
        go_ret
        have q5 := b9.trans (hb5.mono b9.size)
        exact ⟨ret_bool (HFa.out HX.out).symm, q5.alloc q5.size _⟩
       ·have HX : Hid (meetO ⟨xa, xs, xu⟩ ⟨ya, ys, yu⟩ = false) := by
         unfold Hid; rw [HMe.out, hu]
         by_cases h1 : xa < ya + ys
         ·have h2 : ¬ ya < xa + xs := fun h => hm ⟨h1, h⟩
          simp [h2]
         ·simp [h1]
        have HX2 : Hid _ := HNx.out HX.out
        obtain ⟨hca, hcs⟩ := com_no hm p3 q3
        clear hm
        have HCo : Hid (∀ W, Calls Tryz.prog 114 #[.agg #[.int .u32 xa, .int .u32 xs], .agg #[.int .u32 ya, .int .u32 ys]] W fun e w' => e = .returned (.agg #[.int .u32 0, .int .u32 0]) ∧ Below W.heap.size W w') := fun W => by
         have := common_any xa xs ya ys W p1 p2 (by omega) p4 q1 q2 (by omega) q4
         rw [hca, hcs] at this; exact this
        clear hca hcs
        go_wp2_with (first
         | (go_at_call 114; refine (HCo.out _).mono ?_; rintro e w5 ⟨rfl, hb5⟩)
         | (go_at_call 115; refine (none_yes _).mono ?_; rintro e w6 ⟨rfl, hw6⟩; have b6 : Below W9.heap.size W9 w6 := (by rw [hw6]; exact hb5.alloc hb5.size _); clear hw6))
        go_roundw
        case rel =>
         refine ⟨j + 1, by have := HDs.out; omega, by go_num, HX2.out, b9.trans (b6.mono b9.size), fun i hi B O e => ?_⟩
         obtain ⟨h1, h2, h3⟩ := HC9.out i hi B O e
         exact ⟨(b6.cell (block_lt_of_cell h1)).trans h1, (b6.cell (block_lt_of_cell h2)).trans h2, (b6.cell (block_lt_of_cell h3)).trans h3⟩
        case measure => have := HDs.out; simp [intOf]; omega
     ·have pA := ((Bx.new wr 158 [.int .u32 ya, .int .u32 ys, .int .i64 yu]).alloc (.cells #[.int .u32 xa, .int .u32 xs, .int .i64 xu] 158)).drew
      have pB := (Bx.newAt (wr.alloc (.cells #[.int .u32 ya, .int .u32 ys, .int .i64 yu] 158)) 158 [.int .u32 xa, .int .u32 xs, .int .i64 xu] (c := wr.heap.size + 1) (by simp)).drew
      have b9 : Below w.heap.size w ((wr.alloc (.cells #[.int .u32 ya, .int .u32 ys, .int .i64 yu] 158)).alloc (.cells #[.int .u32 xa, .int .u32 xs, .int .i64 xu] 158)).drew := ((hb2.alloc hb2.size _).alloc (by have := hb2.size; simp; omega) _).drew
      have HC9 : Hid (∀ i, i < d.size → ∀ B O, P = some ⟨B, O, none⟩ → ((wr.alloc (.cells #[.int .u32 ya, .int .u32 ys, .int .i64 yu] 158)).alloc (.cells #[.int .u32 xa, .int .u32 xs, .int .i64 xu] 158)).drew.cell? ⟨B, i * 3, none⟩ = some (.int .u32 d[i]!.a) ∧ ((wr.alloc (.cells #[.int .u32 ya, .int .u32 ys, .int .i64 yu] 158)).alloc (.cells #[.int .u32 xa, .int .u32 xs, .int .i64 xu] 158)).drew.cell? ⟨B, i * 3 + 1, none⟩ = some (.int .u32 d[i]!.s) ∧ ((wr.alloc (.cells #[.int .u32 ya, .int .u32 ys, .int .i64 yu] 158)).alloc (.cells #[.int .u32 xa, .int .u32 xs, .int .i64 xu] 158)).drew.cell? ⟨B, i * 3 + 2, none⟩ = some (.int .i64 d[i]!.u)) := fun i hi B O e => by
       obtain ⟨h1, h2, h3⟩ := HCe.out i hi B O e
       exact ⟨cellA (cellA h1 _) _, cellA (cellA h2 _) _, cellA (cellA h3 _) _⟩
      clear a0 a01 a02 a03 a04 a1 a11 a12 a13 a14 a2 a21 a22 a23 a24 e0 e01 e02 e03 e04 e1 e11 e12 e13 e14 e2 e21 e22 e23 e24 hb2 HCe hix1 hix2
      generalize ((wr.alloc (.cells #[.int .u32 ya, .int .u32 ys, .int .i64 yu] 158)).alloc (.cells #[.int .u32 xa, .int .u32 xs, .int .i64 xu] 158)).drew = W9 at pA pB b9 HC9 ⊢
      generalize wr.heap.size + 1 = cB at pB ⊢
      generalize wr.heap.size = cA at pA ⊢
      have pB0 := pB.cell 0 _ rfl; have pA0 := pA.cell 0 _ rfl; have pB1 := pB.cell 1 _ rfl; have pA1 := pA.cell 1 _ rfl; have pB2 := pB.cell 2 _ rfl; have pA2 := pA.cell 2 _ rfl
      cases hu : (xu == yu)
      ·have HX := HNx.out (by rw [HMe.out, hu]; rfl)
       have HX2 : Hid _ := HX
       clear HX
       go_wp2
       go_roundw
       case rel => exact ⟨j + 1, by have := HDs.out; omega, by go_num, HX2.out, b9, HC9.out⟩
       case measure => have := HDs.out; simp [intOf]; omega
      ·by_cases hm : xa < ya + ys ∧ ya < xa + xs
       ·have HX : Hid (meetO ⟨xa, xs, xu⟩ ⟨ya, ys, yu⟩ = true) := by unfold Hid; rw [HMe.out, hu]; simp [hm.1, hm.2]
        have hcs := com_yes hm p3 q3
        clear hm
        have HCo : Hid _ := fun W => common_any xa xs ya ys W p1 p2 (by omega) p4 q1 q2 (by omega) q4
        generalize comA xa xs ya ys = ca at hcs HCo
        generalize comS xa xs ya ys = cs at hcs HCo
        go_wp2_with (first
         | (go_at_call 114; refine (HCo.out _).mono ?_; rintro e w5 ⟨rfl, hb5⟩)
         | (go_at_call 115; refine (none_no ca cs _ hcs).mono ?_; rintro e w6 ⟨rfl, rfl⟩))
        go_ret
        have q5 := b9.trans (hb5.mono b9.size)
        exact ⟨ret_bool (HFa.out HX.out).symm, q5.alloc q5.size _⟩
       ·have HX : Hid (meetO ⟨xa, xs, xu⟩ ⟨ya, ys, yu⟩ = false) := by
         unfold Hid; rw [HMe.out, hu]
         by_cases h1 : xa < ya + ys
         ·have h2 : ¬ ya < xa + xs := fun h => hm ⟨h1, h⟩
          simp [h2]
         ·simp [h1]
        have HX2 : Hid _ := HNx.out HX.out
        obtain ⟨hca, hcs⟩ := com_no hm p3 q3
        clear hm
        have HCo : Hid (∀ W, Calls Tryz.prog 114 #[.agg #[.int .u32 xa, .int .u32 xs], .agg #[.int .u32 ya, .int .u32 ys]] W fun e w' => e = .returned (.agg #[.int .u32 0, .int .u32 0]) ∧ Below W.heap.size W w') := fun W => by
         have := common_any xa xs ya ys W p1 p2 (by omega) p4 q1 q2 (by omega) q4
         rw [hca, hcs] at this; exact this
        clear hca hcs
        go_wp2_with (first
         | (go_at_call 114; refine (HCo.out _).mono ?_; rintro e w5 ⟨rfl, hb5⟩)
         | (go_at_call 115; refine (none_yes _).mono ?_; rintro e w6 ⟨rfl, hw6⟩; have b6 : Below W9.heap.size W9 w6 := (by rw [hw6]; exact hb5.alloc hb5.size _); clear hw6))
        go_roundw
        case rel =>
         refine ⟨j + 1, by have := HDs.out; omega, by go_num, HX2.out, b9.trans (b6.mono b9.size), fun i hi B O e => ?_⟩
         obtain ⟨h1, h2, h3⟩ := HC9.out i hi B O e
         exact ⟨(b6.cell (block_lt_of_cell h1)).trans h1, (b6.cell (block_lt_of_cell h2)).trans h2, (b6.cell (block_lt_of_cell h3)).trans h3⟩
        case measure => have := HDs.out; simp [intOf]; omega
    ·have hk1 : ¬ (j : Int) + 1 < (H.length : Int) := by omega
     have HX : Hid (ApartP K.sl) := HAp.out.1 (fun i hi => HN.out i (by have := HDs.out; omega) hi)
     go_wp2
     go_ret
     exact ⟨ret_bool (HBb.out.2 HX.out).symm, hb2⟩

end Go.Proofs.YtigpbjcmmgdiaaaGreat
