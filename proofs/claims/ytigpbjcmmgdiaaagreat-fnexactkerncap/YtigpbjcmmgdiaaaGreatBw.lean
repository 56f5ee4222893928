/-
  Texts of the proof, put together: FindImpl, Links, Walks, EndSpec, EndImpl, Climb, Ups, UpImpl, UpSpec.
-/
import Derived.Test.YtigpbjcmmgdiaaaGreatBt
import Derived.Test.YtigpbjcmmgdiaaaGreatTreeOkSpec
import Derived.Laws.MakeOwn
import Derived.RangeFuncBox
import Derived.RangeFuncNested
import Derived.RangeFuncBound
import Derived.RangeFuncCalls
import Derived.RangeFuncLeaves
import Derived.RangeFuncFrom
import Derived.Shelf.Abstract
import Derived.Shelf.RegionOpen
import Derived.WalkKit
import Derived.OwnWalkIn
import Derived.TacticsInMore
import Derived.LoopNIn
import Derived.LoopIn
import Derived.Sort.QuietTacIn
import Derived.Deep.QuietTactic
import Derived.BigQuiet
/-
 What TreeFind of the specification and of the program answer.
-/
namespace Go.Proofs.YtigpbjcmmgdiaaaGreat
open Go.ChangeShapes Go.WideShapes Go.ChangeAt Go.RowKit
set_option linter.unusedVariables false

theorem treeOkSpec_to (P : Option Addr) (n c : Nat) (L : List Sl) (x : Bool) (w : World) (hn : n = L.length) (hl : n ≤ 1048576) (hcap : n ≤ c) (hcm : c ≤ 9223372036854775807) (h : Lies w P L) (ht : treeB L = x) :
  Calls Tryz.prog 52 #[.slice P n c] w fun e w' => e = .returned (.bool x) ∧ Below w.heap.size w w' := by
 have := treeOkSpec_any P n c L w hn hl hcap hcm h; rw [ht] at this; exact this
theorem treeOkImpl_to (P : Option Addr) (n c : Nat) (L : List Sl) (x : Bool) (w : World) (hn : n = L.length) (hl : n ≤ 1048576) (hcap : n ≤ c) (hcm : c ≤ 9223372036854775807) (h : Lies w P L) (hfit : ∀ s ∈ L, s.Fit) (ht : treeB L = x) :
  Calls Tryz.prog 153 #[.slice P n c] w fun e w' => e = .returned (.bool x) ∧ Below w.heap.size w w' := by
 have := treeOkImpl_any P n c L w hn hl hcap hcm h hfit; rw [ht] at this; exact this

end Go.Proofs.YtigpbjcmmgdiaaaGreat
/-
 The places of a tree, linked both ways: what treeLinks and treeLinkAt of the program answer.
-/
namespace Go.Proofs.YtigpbjcmmgdiaaaGreat
open Go.ChangeShapes Go.WideShapes Go.ChangeAt Go.RowKit
set_option linter.unusedVariables false

/-- A block of cells none of which is frozen by its block. -/
def Plain (W : World) (N : Nat) : Prop := ∃ c t, W.heap[N]? = some (.cells c t (0, 0))
theorem Plain.new (w : World) (c : Array Value) (T : TypeId) : Plain (w.alloc (.cells c T)) w.heap.size := ⟨c, T, World.alloc_heap_new w _⟩
theorem Plain.below {W W' : World} {n₀ N : Nat} (h : Plain W N) (hb : Below n₀ W W') (hN : N < n₀) : Plain W' N := by
 obtain ⟨c, t, h⟩ := h
 exact ⟨c, t, (hb.block N hN).trans h⟩
theorem Plain.set {W : World} {N : Nat} (h : Plain W N) (B o : Nat) (v : Value) : Plain (W.setCell ⟨B, o, none⟩ v) N := by
 obtain ⟨c, t, h⟩ := h
 by_cases e : B = N
 ·subst e
  obtain ⟨hlt, hk⟩ := Array.getElem?_eq_some_iff.1 h
  refine ⟨c.setIfInBounds o v, t, ?_⟩
  show (W.heap.modify B _)[B]? = _
  rw [Array.getElem?_eq_getElem (by rw [Array.size_modify]; exact hlt), Array.getElem_modify_self, hk]
  rfl
 ·exact ⟨c, t, (Below.heap_setCell W ⟨B, o, none⟩ v N (fun h => e (by simpa using h.symm))).trans h⟩

/-- The first k places are linked. -/
structure Links (W : World) (N : Nat) (L : List Sl) (k : Nat) : Prop where
 place : ∀ i, i < k → i < L.length → W.cell? ⟨N, i * 4, none⟩ = some (.int .i64 (i : Nat))
 depth : ∀ i (h : i < L.length), i < k → W.cell? ⟨N, i * 4 + 1, none⟩ = some (.int .i64 L[i].p)
 ahead : ∀ i, i < L.length → W.cell? ⟨N, i * 4 + 2, none⟩ = some (.pointer (if i = 0 ∨ k ≤ i then none else some ⟨N, (i - 1) * 4, none⟩))
 behind : ∀ i, i < L.length → W.cell? ⟨N, i * 4 + 3, none⟩ = some (.pointer (if i + 1 < k then some ⟨N, (i + 1) * 4, none⟩ else none))
 room : ∀ j, j < L.length * 4 → (W.cell? ⟨N, j, none⟩).isSome = true
 z : ∀ j, W.frozen? ⟨N, j, none⟩ = false
 lt : N < W.heap.size
 blk : Plain W N

theorem Links.below {W W' : World} {N n₀ : Nat} {L : List Sl} {k : Nat} (h : Links W N L k) (hb : Below n₀ W W') (hN : N < n₀) : Links W' N L k := by
 have hc : ∀ o, W'.cell? ⟨N, o, none⟩ = W.cell? ⟨N, o, none⟩ := fun o => hb.cell (p := ⟨N, o, none⟩) hN
 have hf : ∀ o, W'.frozen? ⟨N, o, none⟩ = W.frozen? ⟨N, o, none⟩ := fun o => hb.frozen (p := ⟨N, o, none⟩) hN
 exact ⟨fun i h1 h2 => (hc _).trans (h.place i h1 h2), fun i h1 h2 => (hc _).trans (h.depth i h1 h2), fun i h1 => (hc _).trans (h.ahead i h1), fun i h1 => (hc _).trans (h.behind i h1),
  fun j hj => by rw [hc]; exact h.room j hj, fun j => by rw [hf]; exact h.z j, Nat.lt_of_lt_of_le h.lt hb.size, h.blk.below hb hN⟩

theorem get_set {W : World} {N o' : Nat} {v : Value} (h : (W.cell? ⟨N, o', none⟩).isSome = true) (o : Nat) : (W.setCell ⟨N, o', none⟩ v).cell? ⟨N, o, none⟩ = if o = o' then some v else W.cell? ⟨N, o, none⟩ := by
 by_cases e : o = o'
 ·subst e; rw [if_pos rfl]; exact World.cell?_setCell_same' _ _ _ h
 ·rw [if_neg e]; apply World.cell?_setCell_other; intro hh; exact e (congrArg Addr.off hh).symm
theorem some_set {W : World} {N o' : Nat} {v : Value} (h : (W.cell? ⟨N, o', none⟩).isSome = true) (o : Nat) (ho : (W.cell? ⟨N, o, none⟩).isSome = true) : ((W.setCell ⟨N, o', none⟩ v).cell? ⟨N, o, none⟩).isSome = true := by
 rw [get_set h]; split
 ·rfl
 ·exact ho

theorem Links.first {W : World} {N : Nat} {L : List Sl} (h : Links W N L 0) (hL : 0 < L.length) : Links ((W.setCell ⟨N, 0, none⟩ (.int .i64 0)).setCell ⟨N, 1, none⟩ (.int .i64 L[0].p)) N L 1 := by
 have e0 := h.room 0 (by omega)
 have e1 := some_set (v := .int .i64 0) e0 1 (h.room 1 (by omega))
 have hg : ∀ o, ((W.setCell ⟨N, 0, none⟩ (.int .i64 0)).setCell ⟨N, 1, none⟩ (.int .i64 L[0].p)).cell? ⟨N, o, none⟩ = if o = 1 then some (.int .i64 L[0].p) else if o = 0 then some (.int .i64 0) else W.cell? ⟨N, o, none⟩ := fun o => by
  rw [get_set e1, get_set e0]
 refine ⟨fun i h1 h2 => ?_, fun i h1 h2 => ?_, fun i h1 => ?_, fun i h1 => ?_, fun j hj => ?_, fun j => ?_, ?_, (h.blk.set _ _ _).set _ _ _⟩
 ·obtain rfl : i = 0 := by omega
  rw [hg]; rfl
 ·obtain rfl : i = 0 := by omega
  rw [hg]; rfl
 ·rw [hg, if_neg (by omega), if_neg (by omega), h.ahead i h1, if_pos (by omega), if_pos (by omega)]
 ·rw [hg, if_neg (by omega), if_neg (by omega), h.behind i h1, if_neg (by omega), if_neg (by omega)]
 ·exact some_set e1 j (some_set e0 j (h.room j hj))
 ·rw [World.frozen?_setCell, World.frozen?_setCell]; exact h.z j
 ·simpa using h.lt

theorem Links.next {W : World} {N m : Nat} {L : List Sl} (h : Links W N L (m + 1)) (hL : m + 1 < L.length) :
  Links ((((W.setCell ⟨N, (m + 1) * 4, none⟩ (.int .i64 ((m + 1 : Nat) : Int))).setCell ⟨N, (m + 1) * 4 + 1, none⟩ (.int .i64 L[m + 1].p)).setCell ⟨N, (m + 1) * 4 + 2, none⟩ (.pointer (some ⟨N, m * 4, none⟩))).setCell ⟨N, m * 4 + 3, none⟩ (.pointer (some ⟨N, (m + 1) * 4, none⟩))) N L (m + 1 + 1) := by
 have e0 := h.room ((m + 1) * 4) (by omega)
 have e1 := some_set (v := .int .i64 ((m + 1 : Nat) : Int)) e0 ((m + 1) * 4 + 1) (h.room _ (by omega))
 have e2 := some_set (v := .int .i64 L[m + 1].p) e1 ((m + 1) * 4 + 2) (some_set e0 _ (h.room _ (by omega)))
 have e3 := some_set (v := .pointer (some ⟨N, m * 4, none⟩)) e2 (m * 4 + 3) (some_set e1 _ (some_set e0 _ (h.room _ (by omega))))
 have hg : ∀ o, ((((W.setCell ⟨N, (m + 1) * 4, none⟩ (.int .i64 ((m + 1 : Nat) : Int))).setCell ⟨N, (m + 1) * 4 + 1, none⟩ (.int .i64 L[m + 1].p)).setCell ⟨N, (m + 1) * 4 + 2, none⟩ (.pointer (some ⟨N, m * 4, none⟩))).setCell ⟨N, m * 4 + 3, none⟩ (.pointer (some ⟨N, (m + 1) * 4, none⟩))).cell? ⟨N, o, none⟩ =
   if o = m * 4 + 3 then some (.pointer (some ⟨N, (m + 1) * 4, none⟩)) else if o = (m + 1) * 4 + 2 then some (.pointer (some ⟨N, m * 4, none⟩)) else if o = (m + 1) * 4 + 1 then some (.int .i64 L[m + 1].p) else if o = (m + 1) * 4 then some (.int .i64 ((m + 1 : Nat) : Int)) else W.cell? ⟨N, o, none⟩ := fun o => by
  rw [get_set e3, get_set e2, get_set e1, get_set e0]
 refine ⟨fun i h1 h2 => ?_, fun i h1 h2 => ?_, fun i h1 => ?_, fun i h1 => ?_, fun j hj => ?_, fun j => ?_, ?_, (((h.blk.set _ _ _).set _ _ _).set _ _ _).set _ _ _⟩
 ·rw [hg, if_neg (by omega), if_neg (by omega), if_neg (by omega)]
  by_cases e : i = m + 1
  ·subst e; rw [if_pos rfl]
  ·rw [if_neg (by omega)]; exact h.place i (by omega) h2
 ·rw [hg, if_neg (by omega), if_neg (by omega)]
  by_cases e : i = m + 1
  ·subst e; rw [if_pos rfl]
  ·rw [if_neg (by omega), if_neg (by omega)]; exact h.depth i h1 (by omega)
 ·rw [hg, if_neg (by omega)]
  by_cases e : i = m + 1
  ·subst e; rw [if_pos rfl, if_neg (by omega)]; simp
  ·rw [if_neg (by omega), if_neg (by omega), if_neg (by omega), h.ahead i h1]
   by_cases e2 : i = 0 ∨ m + 1 ≤ i
   ·rw [if_pos e2, if_pos (by omega)]
   ·rw [if_neg e2, if_neg (by omega)]
 ·rw [hg]
  by_cases e : i = m
  ·subst e; rw [if_pos rfl, if_pos (by omega)]
  ·rw [if_neg (by omega), if_neg (by omega), if_neg (by omega), if_neg (by omega), h.behind i h1]
   by_cases e2 : i + 1 < m + 1
   ·rw [if_pos e2, if_pos (by omega)]
   ·rw [if_neg e2, if_neg (by omega)]
 ·exact some_set e3 j (some_set e2 j (some_set e1 j (some_set e0 j (h.room j hj))))
 ·rw [World.frozen?_setCell, World.frozen?_setCell, World.frozen?_setCell, World.frozen?_setCell]; exact h.z j
 ·simpa using h.lt

/-- The cells of new links. -/
def linkCells (n : Nat) : Array Value := madeCells #[.int .i64 0, .int .i64 0, .pointer none, .pointer none] (n * 4)

theorem linkInfo : (Tryz.prog.info? 131).map (fun i => (i.zero, i.size, i.bytes)) = some (some (.agg #[.int .i64 0, .int .i64 0, .pointer none, .pointer none]), 4, 32) := by kernel_rfl

theorem makeLinks (n : Nat) (hn : n ≤ 1048577) (w : World) :
  (Instr.makeSlice 87 (.int .i64 (n : Int)) (.int .i64 (n : Int))).run Tryz.prog w = .ok (.slice (some ⟨w.heap.size, 0, none⟩) n n) (w.alloc (.cells (linkCells n) 131)) := by
 obtain ⟨i, hi, hzz⟩ := Option.map_eq_some_iff.1 linkInfo
 simp only [Prod.mk.injEq] at hzz
 obtain ⟨hz, hs, hb⟩ := hzz
 have := run_make (P := Tryz.prog) w 87 131 i _ Tryz.underlying87 hi hz .i64 .i64 n n (by omega) (Int.le_refl _) (by rw [hb]; omega) (by omega)
 rw [hs] at this
 exact this

theorem linkCells_at (n j : Nat) (hj : j < n * 4) : (linkCells n)[j]? = some (#[Value.int .i64 0, .int .i64 0, .pointer none, .pointer none][j % 4]!) := by
 unfold linkCells madeCells
 rw [Array.getElem?_map, Array.getElem?_range]
 simp [hj]

theorem Links.new (w : World) (L : List Sl) (T : Nat) : Links (w.alloc (.cells (linkCells L.length) T)) w.heap.size L 0 := by
 have hc : ∀ j, (w.alloc (.cells (linkCells L.length) T)).cell? ⟨w.heap.size, j, none⟩ = (linkCells L.length)[j]? := fun j => World.cell?_alloc_at _ _ _ _ rfl
 refine ⟨fun i h1 _ => absurd h1 (by omega), fun i _ h1 => absurd h1 (by omega), fun i h1 => ?_, fun i h1 => ?_, fun j hj => ?_, fun j => by go_simp, by simp, Plain.new _ _ _⟩
 ·rw [hc, linkCells_at _ _ (by omega), if_pos (by omega), show (i * 4 + 2) % 4 = 2 by omega]; rfl
 ·rw [hc, linkCells_at _ _ (by omega), if_neg (by omega), show (i * 4 + 3) % 4 = 3 by omega]; rfl
 ·rw [hc, linkCells_at _ _ hj]; rfl

/-- What stands between two rounds. -/
def linkInv (w : World) (P : Option Addr) (N : Nat) (L : List Sl) (i : Value) (w' : World) : Prop :=
 ∃ k : Nat, k ≤ L.length ∧ i = .int .i64 k ∧ Lies w' P L ∧ Links w' N L k ∧ Below w.heap.size w w'

set_option maxRecDepth 100000 in
set_option maxHeartbeats 1000000 in
theorem links_no (P : Option Addr) (c : Nat) (L : List Sl) (w : World) (hl : L.length ≤ 1048576) (hcap : L.length ≤ c) (hcm : c ≤ 9223372036854775807) (h : Lies w P L) (hfit : ∀ s ∈ L, s.Fit) (ht : treeB L = false) :
  Calls Tryz.prog 100 #[.slice P L.length c] w fun e w' => e = .returned (.slice none 0 0) ∧ Below w.heap.size w w' := by
 go_enter Tryz.func100, Tryz.ntmps100
 go_wp2_with (first
  | (go_at_call 153; refine (treeOkImpl_to _ _ _ L _ _ rfl hl hcap hcm h hfit ht).mono ?_; rintro e w1 ⟨rfl, hb1⟩))
 go_ret
 exact ⟨rfl, hb1⟩

set_option maxRecDepth 100000 in
set_option maxHeartbeats 1000000 in
theorem links_yes (P : Option Addr) (c : Nat) (L : List Sl) (w : World) (hl : L.length ≤ 1048576) (hcap : L.length ≤ c) (hcm : c ≤ 9223372036854775807) (h : Lies w P L) (hfit : ∀ s ∈ L, s.Fit) (ht : treeB L = true) :
  Calls Tryz.prog 100 #[.slice P L.length c] w fun e w' => ∃ N, w.heap.size ≤ N ∧ e = .returned (.slice (some ⟨N, 0, none⟩) L.length L.length) ∧ Links w' N L L.length ∧ Below w.heap.size w w' := by
 have hmk := makeLinks L.length (by omega)
 go_enter Tryz.func100, Tryz.ntmps100
 go_wp2_with (first
  | (go_at_call 153; refine (treeOkImpl_to _ _ _ L _ _ rfl hl hcap hcm h hfit ht).mono ?_; rintro e w1 ⟨rfl, hb1⟩))
 have hN : w.heap.size ≤ w1.heap.size := hb1.size
 have hb2 : Below w.heap.size w (w1.alloc (.cells (linkCells L.length) 131)) := hb1.alloc hb1.size _
 have h1 := h.below hb2
 have hK := Links.new w1 L 131
 clear hmk
 generalize hNN : w1.heap.size = N at hN hK ⊢
 generalize hW : w1.alloc (.cells (linkCells L.length) 131) = W1 at hb2 h1 hK ⊢
 clear hW hNN hb1
 go_loopw [13] (fun i w' => linkInv w P N L i w') (fun i w' => L.length - (intOf i).toNat)
 case atStart => exact ⟨0, Nat.zero_le _, rfl, h1, hK, hb2⟩
 case round =>
  clear h1 hK hb2
  obtain ⟨k, hk, rfl, hL, hK, hB⟩ := hrel
  by_cases hlt : k < L.length
  ·obtain ⟨B, O, rfl⟩ := hL.some hlt
   have hc := (hL.cells B O rfl k hlt).c10
   have hne : ¬ B = N := by have := (h.cells B O rfl k hlt).lt; omega
   have hz := hK.z
   by_cases hk0 : k = 0
   ·subst hk0
    obtain ⟨v0, e0⟩ := Option.isSome_iff_exists.1 (hK.room 0 (by omega))
    obtain ⟨v1, e1⟩ := Option.isSome_iff_exists.1 (hK.room 1 (by omega))
    rw [Nat.zero_mul, Nat.add_zero] at hc
    go_wp2
    go_roundw
    case rel => exact ⟨1, by omega, rfl, liesSet (liesSet hL _ _ _ (fun B' O' e => by cases e; exact hne)) _ _ _ (fun B' O' e => by cases e; exact hne), hK.first hlt, (hB.setCell hN _).setCell hN _⟩
    case measure => simp [intOf]; omega
   ·obtain ⟨m, hm⟩ : ∃ m, k = m + 1 := ⟨k - 1, by omega⟩
    have hm1 : (k : Int) - 1 = (m : Int) := by omega
    have hk1 : 0 < k := by omega
    have hm2 : m < L.length := by omega
    obtain ⟨v0, e0⟩ := Option.isSome_iff_exists.1 (hK.room (k * 4) (by omega))
    obtain ⟨v1, e1⟩ := Option.isSome_iff_exists.1 (hK.room (k * 4 + 1) (by omega))
    obtain ⟨v2, e2⟩ := Option.isSome_iff_exists.1 (hK.room (k * 4 + 2) (by omega))
    obtain ⟨v3, e3⟩ := Option.isSome_iff_exists.1 (hK.room (m * 4 + 3) (by omega))
    have o1 : ¬ m * 4 + 3 = k * 4 := by omega
    have o2 : ¬ m * 4 + 3 = k * 4 + 1 := by omega
    have o3 : ¬ m * 4 + 3 = k * 4 + 2 := by omega
    have HM : Hid _ := hm
    clear hm
    go_wp2
    go_roundw
    case rel =>
     have hm := HM.out
     clear o1 o2 o3 e0 e1 e2 e3 hm1 HM
     subst hm
     exact ⟨m + 1 + 1, by omega, by go_num, liesSet (liesSet (liesSet (liesSet hL _ _ _ (fun B' O' e => by cases e; exact hne)) _ _ _ (fun B' O' e => by cases e; exact hne)) _ _ _ (fun B' O' e => by cases e; exact hne)) _ _ _ (fun B' O' e => by cases e; exact hne), hK.next hlt, (((hB.setCell hN _).setCell hN _).setCell hN _).setCell hN _⟩
    case measure => simp [intOf]; omega
  ·go_wp2
   go_ret
   obtain rfl : k = L.length := by omega
   exact ⟨N, hN, rfl, hK, hB⟩

end Go.Proofs.YtigpbjcmmgdiaaaGreat
/-
 The walk through what came of a slot: an iterator over the links.
-/
namespace Go.Proofs.YtigpbjcmmgdiaaaGreat
open Go.RowKit Go.Shelf
set_option linter.unusedVariables false

attribute [local go_sem] Oper.semAt_some

/-- How many of a list, from its head on, are deeper. -/
def runN (d : Int) : List Sl → Nat
 | [] => 0
 | s :: L => if d < s.p then runN d L + 1 else 0

theorem runN_le (d : Int) : ∀ L : List Sl, runN d L ≤ L.length
 | [] => Nat.le_refl _
 | s :: L => by
  have := runN_le d L
  unfold runN
  split
  ·simp; omega
  ·simp
theorem runN_in (d : Int) : ∀ (L : List Sl) (k : Nat), k < runN d L → ∃ h : k < L.length, d < L[k].p
 | [], k, h => absurd h (by simp [runN])
 | s :: L, 0, h => by
  unfold runN at h
  split at h
  ·exact ⟨by simp, by simpa using ‹_›⟩
  ·exact absurd h (by omega)
 | s :: L, k + 1, h => by
  unfold runN at h
  split at h
  ·obtain ⟨h1, h2⟩ := runN_in d L k (by omega)
   exact ⟨by simpa using h1, by simpa using h2⟩
  ·exact absurd h (by omega)
theorem runN_stop (d : Int) : ∀ (L : List Sl), ∀ h : runN d L < L.length, L[runN d L].p ≤ d
 | [], h => absurd h (by simp)
 | s :: L, h => by
  by_cases e : d < s.p
  ·have e1 : runN d (s :: L) = runN d L + 1 := by rw [runN, if_pos e]
   have h' : runN d L < L.length := by rw [e1] at h; simpa using h
   have := runN_stop d L h'
   simp only [e1, List.getElem_cons_succ]
   exact this
  ·have e1 : runN d (s :: L) = 0 := by rw [runN, if_neg e]
   simp only [e1, List.getElem_cons_zero]
   omega

/-- The link to a place, if it is one. -/
def nextP (N n j : Nat) : Option Addr := if j < n then some ⟨N, j * 4, none⟩ else none
theorem nextP_some {N n j : Nat} (h : j < n) : nextP N n j = some ⟨N, j * 4, none⟩ := if_pos h
theorem nextP_none {N n j : Nat} (h : ¬ j < n) : nextP N n j = none := if_neg h
/-- The link to the place ahead of one, if there is one. -/
def prevP (N i : Nat) : Option Addr := if i = 0 then none else some ⟨N, (i - 1) * 4, none⟩
/-- The places of a tree, linked. -/
structure Linked (W : World) (N : Nat) (L : List Sl) : Prop where
 place : ∀ i, i < L.length → W.cell? ⟨N, i * 4, none⟩ = some (.int .i64 (i : Nat))
 depth : ∀ i (h : i < L.length), W.cell? ⟨N, i * 4 + 1, none⟩ = some (.int .i64 L[i].p)
 ahead : ∀ i, i < L.length → W.cell? ⟨N, i * 4 + 2, none⟩ = some (.pointer (prevP N i))
 behind : ∀ i, i < L.length → W.cell? ⟨N, i * 4 + 3, none⟩ = some (.pointer (nextP N L.length (i + 1)))

theorem Links.linked {W : World} {N : Nat} {L : List Sl} (h : Links W N L L.length) : Linked W N L := by
 refine ⟨fun i hi => h.place i hi hi, fun i hi => h.depth i hi hi, fun i hi => ?_, fun i hi => h.behind i hi⟩
 have := h.ahead i hi
 by_cases e : i = 0
 ·rw [if_pos (Or.inl e)] at this; rw [prevP, if_pos e]; exact this
 ·rw [if_neg (by omega)] at this; rw [prevP, if_neg e]; exact this

/-- What a round keeps: the links, and the box of where the walk began. -/
def Keep2 (N Bn : Nat) (W W' : World) : Prop := ∀ o, W'.cell? ⟨N, o, none⟩ = W.cell? ⟨N, o, none⟩ ∧ W'.cell? ⟨Bn, o, none⟩ = W.cell? ⟨Bn, o, none⟩

theorem Keep2.trans {N Bn : Nat} {A B C : World} (h : Keep2 N Bn A B) (k : Keep2 N Bn B C) : Keep2 N Bn A C := fun o => ⟨(k o).1.trans (h o).1, (k o).2.trans (h o).2⟩
theorem keep2_below {N Bn n₀ : Nat} {W W' : World} (hb : Below n₀ W W') (hN : N < n₀) (hB : Bn < n₀) : Keep2 N Bn W W' := fun o => ⟨hb.cell (p := ⟨N, o, none⟩) hN, hb.cell (p := ⟨Bn, o, none⟩) hB⟩
theorem Linked.keep {N Bn : Nat} {W W' : World} {L : List Sl} (h : Linked W N L) (k : Keep2 N Bn W W') : Linked W' N L :=
 ⟨fun i hi => (k _).1.trans (h.place i hi), fun i hi => (k _).1.trans (h.depth i hi), fun i hi => (k _).1.trans (h.ahead i hi), fun i hi => (k _).1.trans (h.behind i hi)⟩

theorem grown_drewN (w : World) (n : Nat) (row : Option Nat) : w.grownBy (w.drewN n) row := ⟨rfl, rfl, rfl, Nat.le_refl _, fun _ _ _ => rfl⟩

/-- How far a pointer is from the end. -/
def ptrLeft (n : Nat) : Value → Nat
 | .pointer (some a) => n * 4 + 4 - a.off
 | _ => 0

/-- What stands between two rounds of the walk down. -/
def belowInv (N Bn i : Nat) (L : List Sl) (d : Int) (J : List (Fin L.length) → World → Prop) (p : Value) (wr : World) : Prop :=
 ∃ (k : Nat) (pre : List (Fin L.length)), k ≤ runN d (L.drop (i + 1)) ∧ p = .pointer (nextP N L.length (i + 1 + k)) ∧ pre.map Fin.val = List.range' (i + 1) k ∧
  wr.cell? ⟨Bn, 0, none⟩ = some (.pointer (some ⟨N, i * 4, none⟩)) ∧ Linked wr N L ∧ J pre wr

set_option maxRecDepth 100000 in
set_option maxHeartbeats 2000000 in
theorem below1_in (n : Nat) (hn : 1 ≤ n) (l Bn N i B0 : Nat) (L : List Sl) (hi : i < L.length) (J Jx : List (Fin L.length) → World → Prop) (hab : AbidesFrom B0 J)
  (hY : ∀ pre x W, J pre W → pre.length < L.length → YieldAt Fence.wide (n - 1) Tryz.prog l #[.pointer (some ⟨N, x.val * 4, none⟩)] W fun e W' =>
   (e = .returned (.bool true) ∧ J (pre ++ [x]) W' ∧ Keep2 N Bn W W') ∨ (e = .returned (.bool false) ∧ Jx (pre ++ [x]) W'))
  (W : World) (hBn : W.cell? ⟨Bn, 0, none⟩ = some (.pointer (some ⟨N, i * 4, none⟩))) (hL : Linked W N L) (h0 : J [] W) :
  CallsIn Fence.wide n Tryz.prog 168 #[.func (.yield l) #[] #[], .pointer (some ⟨Bn, 0, none⟩)] W fun e W' => (∃ v, e = .returned v) ∧
   ((∃ ys : List (Fin L.length), ys.map Fin.val = List.range' (i + 1) (runN L[i].p (L.drop (i + 1))) ∧ J ys W') ∨ (∃ pre : List (Fin L.length), pre.map Fin.val <+: List.range' (i + 1) (runN L[i].p (L.drop (i + 1))) ∧ Jx pre W')) := by
 have hb0 := hL.behind i hi
 obtain ⟨d, hd⟩ : ∃ d, L[i].p = d := ⟨_, rfl⟩
 rw [hd]
 refine callsIn_of_wp Tryz.func168 rfl trivial ?_ rfl
 simp only [Tryz.ntmps168, List.size_toArray, List.length_cons, List.length_nil, Nat.reduceAdd, Nat.reduceSub, Array.replicate_succ, Array.replicate_zero, List.push_toArray, List.append_toArray, List.nil_append, List.cons_append]
 gi_wp2
 gi_loopw [3] (fun p wr => belowInv N Bn i L d J p wr) (fun p wr => ptrLeft L.length p)
 case atStart =>
  exact ⟨0, [], Nat.zero_le _, rfl, rfl, hBn, hL, h0⟩
 case round =>
  clear hb0 hBn hL h0
  obtain ⟨k, pre, hk, rfl, hpre, hB, hL, hJ⟩ := hrel
  have hr := runN_le d (L.drop (i + 1))
  simp only [List.length_drop] at hr
  have hdi := hL.depth i hi
  rw [hd] at hdi
  have hlen : pre.length = k := by have := congrArg List.length hpre; simpa using this
  by_cases hj : i + 1 + k < L.length
  ·obtain ⟨x, hx⟩ : ∃ x : Fin L.length, x.val = i + 1 + k := ⟨⟨i + 1 + k, hj⟩, rfl⟩
   have hdj := hL.depth (i + 1 + k) hj
   rw [nextP_some hj]
   have hdx : (L.drop (i + 1))[k]? = some L[i + 1 + k] := by rw [List.getElem?_drop, List.getElem?_eq_getElem hj]
   obtain ⟨q, hq⟩ : ∃ q, L[i + 1 + k].p = q := ⟨_, rfl⟩
   rw [hq] at hdj
   by_cases hlt : d < q
   ·have hkr : k < runN d (L.drop (i + 1)) := by
     rcases Nat.lt_or_ge k (runN d (L.drop (i + 1))) with h | h
     ·exact h
     ·have e : runN d (L.drop (i + 1)) = k := by omega
      have := runN_stop d (L.drop (i + 1)) (by rw [e, List.length_drop]; omega)
      simp only [e, List.getElem_drop, hq] at this
      omega
    have g : decide (d < q) = true := by simpa using hlt
    gi_wp2
    gi_quiet_th (fail)
    have hJ1 : J pre (wr.drewN nq) := hab _ _ _ none hJ (grown_drewN _ _ _) (fun r e => by cases e)
    obtain ⟨fn, tmps, assign, body, hy, hR⟩ := hY pre x (wr.drewN nq) hJ1 (by omega)
    rw [hx] at hy
    have hL1 : Linked (wr.drewN nq) N L := hL.keep (Bn := Bn) (fun o => ⟨rfl, rfl⟩)
    have hB1 : (wr.drewN nq).cell? ⟨Bn, 0, none⟩ = some (.pointer (some ⟨N, i * 4, none⟩)) := hB
    gi_wp2
    refine hR.mono ?_
    rintro e W3 (⟨rfl, hJ3, hk3⟩ | ⟨rfl, hJx3⟩)
    ·have hL3 := hL1.keep hk3
     have hb3 := hL3.behind (i + 1 + k) hj
     have hB3 := ((hk3 0).2).trans hB1
     gi_wp2
     go_roundw
     case rel => exact ⟨k + 1, pre ++ [x], by omega, rfl, by rw [List.map_append, hpre, List.range'_concat]; simp [hx], hB3, hL3, hJ3⟩
     case measure =>
      by_cases h2 : i + 1 + k + 1 < L.length
      ·rw [nextP_some h2]; simp [ptrLeft]; omega
      ·rw [nextP_none h2]; simp [ptrLeft]; omega
    ·gi_wp2
     refine bodyPost_ret (results_none rfl _ _ _) rfl ?_
     exact ⟨⟨_, rfl⟩, .inr ⟨pre ++ [x], by
      rw [List.map_append, hpre]
      have e : List.range' (i + 1) k ++ List.map Fin.val [x] = List.range' (i + 1) (k + 1) := by rw [List.range'_concat]; simp [hx]
      rw [e]
      exact ⟨List.range' (i + 1 + (k + 1)) (runN d (L.drop (i + 1)) - (k + 1)), by
       rw [List.range'_append_1]; congr 1; omega⟩, hJx3⟩⟩
   ·have hkr : runN d (L.drop (i + 1)) = k := by
     rcases Nat.lt_or_ge k (runN d (L.drop (i + 1))) with h | h
     ·obtain ⟨h1, h2⟩ := runN_in d _ k h
      simp only [List.getElem_drop, hq] at h2
      omega
     ·omega
    have g : decide (d < q) = false := by simpa using hlt
    gi_wp2
    gi_quiet_th (fail)
    gi_wp2
    go_end0
    exact ⟨⟨_, rfl⟩, .inl ⟨pre, by rw [hpre, hkr], hab _ _ _ none hJ (grown_drewN _ _ _) (fun r e => by cases e)⟩⟩
  ·rw [nextP_none hj]
   have hkr : runN d (L.drop (i + 1)) = k := by omega
   gi_wp2
   gi_quiet_th (fail)
   gi_wp2
   go_end0
   exact ⟨⟨_, rfl⟩, .inl ⟨pre, by rw [hpre, hkr], hab _ _ _ none hJ (grown_drewN _ _ _) (fun r e => by cases e)⟩⟩

set_option maxRecDepth 100000 in
set_option maxHeartbeats 1000000 in
theorem below_in (n : Nat) (p0 : Option Addr) (w : World) :
  CallsIn Fence.wide n Tryz.prog 137 #[.pointer p0] w fun e w' => e = .returned (.func (.func 168) #[] #[.pointer (some ⟨w.heap.size, 0, none⟩)]) ∧ w' = w.alloc (.cells #[.pointer p0] 129) := by
 refine callsIn_of_wp Tryz.func137 rfl trivial ?_ rfl
 simp only [Tryz.ntmps137, List.size_toArray, List.length_cons, List.length_nil, Nat.reduceAdd, Nat.reduceSub, Array.replicate_succ, Array.replicate_zero, List.push_toArray, List.append_toArray, List.nil_append, List.cons_append]
 gi_wp2
 go_ret
 exact ⟨rfl, rfl⟩

theorem below_stops (n : Nat) (hn : 1 ≤ n) (Bn N i : Nat) (L : List Sl) (hi : i < L.length) (w : World) (hBn : Bn < w.heap.size) (hN : N < w.heap.size)
  (hc : w.cell? ⟨Bn, 0, none⟩ = some (.pointer (some ⟨N, i * 4, none⟩))) (hL : Linked w N L) :
  SeqStopsK Fence.wide n Tryz.prog 168 #[.pointer (some ⟨Bn, 0, none⟩)] (fun x : Fin L.length => #[Value.pointer (some ⟨N, x.val * 4, none⟩)]) (Keep2 N Bn)
   (fun ys => ys.map Fin.val = List.range' (i + 1) (runN L[i].p (L.drop (i + 1)))) (fun pre => pre.map Fin.val <+: List.range' (i + 1) (runN L[i].p (L.drop (i + 1)))) L.length w := fun l J Jx W hW hab _ hY h0 =>
 below1_in n hn l Bn N i W.heap.size L hi J Jx hab hY W ((hW.cell (p := ⟨Bn, 0, none⟩) hBn).trans hc) (hL.keep (keep2_below hW hN hBn)) h0

theorem keep2_put {N Bn n₀ : Nat} {w : World} (hn : n₀ ≤ w.heap.size) (hN : N < n₀) (hB : Bn < n₀) (W : World) (l : Nat) (o o' : Obj) (hl : w.heap.size ≤ l) (h : W.heap[l]? = some o) (h1 : o.isCells = false) (h2 : o.isWalk = false) : Keep2 N Bn W (W.putObj l o') :=
 keep2_below (belowK_b hn W l o o' hl h h1 h2) hN hB

end Go.Proofs.YtigpbjcmmgdiaaaGreat
/-
 What l3In, l3End, TreeEnd of the specification answer.
-/
namespace Go.Proofs.YtigpbjcmmgdiaaaGreat
open Go.ChangeShapes Go.WideShapes Go.ChangeAt Go.RowKit
set_option linter.unusedVariables false

theorem runN_next {d : Int} {L : List Sl} {i k j : Nat} (hk : k ≤ runN d (L.drop (i + 1))) (hj : i + 1 + k = j) (hlt : j < L.length) (h : d < L[j].p) : k < runN d (L.drop (i + 1)) := by
 subst hj
 rcases Nat.lt_or_ge k (runN d (L.drop (i + 1))) with h1 | h1
 ·exact h1
 ·have e : runN d (L.drop (i + 1)) = k := by omega
  have := runN_stop d (L.drop (i + 1)) (by rw [e, List.length_drop]; omega)
  simp only [e, List.getElem_drop] at this
  omega
theorem runN_halt {d : Int} {L : List Sl} {i k j : Nat} (hk : k ≤ runN d (L.drop (i + 1))) (hj : i + 1 + k = j) (h : ∀ hlt : j < L.length, ¬ d < L[j].p) : runN d (L.drop (i + 1)) = k := by
 subst hj
 rcases Nat.lt_or_ge k (runN d (L.drop (i + 1))) with h1 | h1
 ·obtain ⟨h2, h3⟩ := runN_in d _ k h1
  simp only [List.getElem_drop] at h3
  exact absurd h3 (h (by rw [List.length_drop] at h2; omega))
 ·omega

/-- What stands between two rounds. -/
def endInv (w : World) (i : Nat) (L : List Sl) (d : Int) (v : Value) (w' : World) : Prop :=
 ∃ k : Nat, k ≤ runN d (L.drop (i + 1)) ∧ v = .int .i64 ((i + 1 + k : Nat) : Int) ∧ ∃ n, w' = w.drewN n

set_option maxRecDepth 100000 in
set_option maxHeartbeats 1000000 in
theorem endSpec_any (P : Option Addr) (c i : Nat) (L : List Sl) (w : World) (hl : L.length ≤ 1048576) (h : Lies w P L) (hi : i < L.length) (r : Nat) (hr : runN L[i].p (L.drop (i + 1)) = r) :
  Calls Tryz.prog 94 #[.slice P L.length c, .int .i64 (i : Int)] w fun e w' => e = .returned (.int .i64 ((i + r + 1 : Nat) : Int)) ∧ Below w.heap.size w w' := by
 obtain ⟨B, O, rfl⟩ := h.some hi
 have ci := (h.cells B O rfl i hi).c10
 obtain ⟨d, hd⟩ : ∃ d, L[i].p = d := ⟨_, rfl⟩
 rw [hd] at ci hr
 have hle := runN_le d (L.drop (i + 1))
 rw [List.length_drop] at hle
 have hii : (i : Int) < (L.length : Int) := by omega
 have HR : Hid _ := hr
 clear hr
 go_enter Tryz.func94, Tryz.ntmps94
 go_wp2
 go_loopw [5] (fun v w' => endInv w i L d v w') (fun v w' => L.length - (intOf v).toNat)
 case atStart => exact ⟨0, Nat.zero_le _, by go_num, 0, rfl⟩
 case round =>
  obtain ⟨k, hk, rfl, m, rfl⟩ := hrel
  obtain ⟨j, hj⟩ : ∃ j, i + 1 + k = j := ⟨_, rfl⟩
  rw [hj]
  by_cases hlt : j < L.length
  ·have cj := (h.cells B O rfl j hlt).c10
   obtain ⟨q, hq⟩ : ∃ q, L[j].p = q := ⟨_, rfl⟩
   rw [hq] at cj
   have hjj : (j : Int) < (L.length : Int) := by omega
   by_cases hdq : d < q
   ·have hkr : k < runN d (L.drop (i + 1)) := runN_next hk hj hlt (by rw [hq]; exact hdq)
    have g : decide (d < q) = true := by simpa using hdq
    have HJ : Hid _ := hj
    clear hj
    go_upto_region 2 with fail
    go_quiet (fail)
    go_wp2
    go_roundw
    case rel => exact ⟨k + 1, by omega, by have := HJ.out; go_num, _, rfl⟩
    case measure => simp [intOf]; omega
   ·have hkr : runN d (L.drop (i + 1)) = k := runN_halt hk hj (fun _ => by rw [hq]; exact hdq)
    have g : decide (d < q) = false := by simpa using hdq
    have HJ : Hid _ := hj
    have HK : Hid _ := hkr
    clear hj hkr
    go_upto_region 2 with fail
    go_quiet (fail)
    go_wp2
    go_ret
    exact ⟨ret_int (by have := HJ.out; have := HK.out; have := HR.out; omega), below_drewN (Below.refl _ _) _⟩
  ·have hkr : runN d (L.drop (i + 1)) = k := by omega
   have HJ : Hid _ := hj
   have HK : Hid _ := hkr
   have hjj : ¬ (j : Int) < (L.length : Int) := by omega
   clear hj hkr
   go_upto_region 2 with fail
   go_quiet (fail)
   go_wp2
   go_ret
   exact ⟨ret_int (by have := HJ.out; have := HK.out; have := HR.out; omega), below_drewN (Below.refl _ _) _⟩

end Go.Proofs.YtigpbjcmmgdiaaaGreat
/-
 What TreeEnd of the program answers.
-/
namespace Go.Proofs.YtigpbjcmmgdiaaaGreat
open Go.RowKit Go.Shelf
set_option linter.unusedVariables false

attribute [local go_sem] Oper.semAt_some

/-- The last that has come, or where the walk began. -/
def lastN (i : Nat) (pre : List Nat) : Nat := pre.getLast?.getD i
theorem lastN_snoc (i : Nat) (pre : List Nat) (x : Nat) : lastN i (pre ++ [x]) = x := by simp [lastN]
theorem lastN_range (i r : Nat) : lastN i (List.range' (i + 1) r) = i + r := by
 cases r with
 | zero => rfl
 | succ r => rw [List.range'_concat, lastN_snoc]; omega

theorem cell_new (W : World) (v : Value) (t : TypeId) : (W.alloc (.cells #[v] t)).cell? ⟨W.heap.size, 0, none⟩ = some v ∧ (W.alloc (.cells #[v] t)).frozen? ⟨W.heap.size, 0, none⟩ = false := by
 constructor <;> go_simp

end Go.Proofs.YtigpbjcmmgdiaaaGreat
/-
 The first slot from which nothing came: the plain facts.
-/
namespace Go.Proofs.YtigpbjcmmgdiaaaGreat
set_option linter.unusedVariables false

/-- The depth at a place. -/
def depN (L : List Sl) (j : Nat) : Int := ((L[j]?).map Sl.p).getD 0
theorem depN_at {L : List Sl} {j : Nat} (h : j < L.length) : depN L j = L[j].p := by simp [depN, List.getElem?_eq_getElem h]

/-- Each is deeper than the one ahead of it. -/
def climbs (f : Nat → Int) : Nat → List Nat → Prop
 | _, [] => True
 | a, x :: xs => f a < f x ∧ climbs f x xs
theorem climbs_snoc (f : Nat → Int) : ∀ (xs : List Nat) (a x : Nat), climbs f a (xs ++ [x]) ↔ climbs f a xs ∧ f (lastN a xs) < f x
 | [], a, x => by simp [climbs, lastN]
 | y :: ys, a, x => by
  have ih := climbs_snoc f ys y x
  have e : lastN a (y :: ys) = lastN y ys := by
   cases ys with
   | nil => rfl
   | cons z zs => simp [lastN, List.getLast?_cons]
  simp only [List.cons_append, climbs, ih, e, and_assoc]
theorem climbs_range (f : Nat → Int) (i : Nat) : ∀ k, climbs f i (List.range' (i + 1) k) ↔ ∀ t, t < k → f (i + t) < f (i + t + 1)
 | 0 => by simp [climbs]
 | k + 1 => by
  rw [List.range'_concat, climbs_snoc, climbs_range f i k, lastN_range]
  constructor
  ·rintro ⟨h1, h2⟩ t ht
   rcases Nat.lt_succ_iff_lt_or_eq.1 ht with h | h
   ·exact h1 t h
   ·subst h
    have e : i + 1 + 1 * t = i + t + 1 := by omega
    rw [e] at h2
    exact h2
  ·intro h
   refine ⟨fun t ht => h t (by omega), ?_⟩
   have e : i + 1 + 1 * k = i + k + 1 := by omega
   rw [e]
   exact h k (by omega)

/-- The first leaf is this many places on. -/
structure IsLeaf (L : List Sl) (i k : Nat) : Prop where
 up : ∀ t, t < k → depN L (i + t) < depN L (i + t + 1)
 inn : i + k < L.length
 top : i + k + 1 < L.length → depN L (i + k + 1) ≤ depN L (i + k)

theorem isLeaf_ex (L : List Sl) (i : Nat) (hi : i < L.length) : ∃ k, IsLeaf L i k := by
 suffices H : ∀ n k, i + k + n = L.length → 0 < n → (∀ t, t < k → depN L (i + t) < depN L (i + t + 1)) → ∃ k, IsLeaf L i k from H (L.length - i) 0 (by omega) (by omega) (fun t ht => absurd ht (by omega))
 intro n
 induction n with
 | zero => intro k _ h _; omega
 | succ n ih =>
  intro k hk _ hup
  by_cases h1 : i + k + 1 < L.length
  ·by_cases h2 : depN L (i + k) < depN L (i + k + 1)
   ·refine ih (k + 1) (by omega) (by omega) (fun t ht => ?_)
    rcases Nat.lt_succ_iff_lt_or_eq.1 ht with h | h
    ·exact hup t h
    ·subst h; exact h2
   ·exact ⟨k, hup, by omega, fun _ => by omega⟩
  ·exact ⟨k, hup, by omega, fun h => absurd h h1⟩

theorem climb_trans {f : Nat → Int} {i : Nat} : ∀ {k : Nat}, (∀ t, t < k → f (i + t) < f (i + t + 1)) → 0 < k → f i < f (i + k)
 | 0, _, h => absurd h (by omega)
 | 1, h, _ => h 0 (by omega)
 | k + 2, h, _ => by
  have h1 := climb_trans (k := k + 1) (fun t ht => h t (by omega)) (by omega)
  have h2 := h (k + 1) (by omega)
  exact Int.lt_trans h1 h2

/-- Where the walk ran out. -/
theorem leaf_done {L : List Sl} {i k r : Nat} (h : IsLeaf L i k) (hi : i < L.length) (hr : runN L[i].p (L.drop (i + 1)) = r) (hc : climbs (depN L) i (List.range' (i + 1) r)) : k = r := by
 rw [climbs_range] at hc
 have hle := runN_le L[i].p (L.drop (i + 1))
 rw [List.length_drop, hr] at hle
 rcases Nat.lt_trichotomy k r with hlt | heq | hgt
 ·have h1 := hc k hlt
  have h2 := h.top (by omega)
  omega
 ·exact heq
 ·have hlen : r < (L.drop (i + 1)).length := by rw [List.length_drop]; have := h.inn; omega
  have hs := runN_stop L[i].p (L.drop (i + 1)) (by rw [hr]; exact hlen)
  simp only [hr, List.getElem_drop] at hs
  have h1 := climb_trans (f := depN L) (i := i) (k := r + 1) (fun t ht => h.up t (by omega)) (by omega)
  have hj : i + 1 + r < L.length := by rw [List.length_drop] at hlen; omega
  rw [show i + (r + 1) = i + 1 + r by omega, depN_at hi, depN_at hj] at h1
  omega

/-- Where the walk was left. -/
theorem leaf_stop {L : List Sl} {i k m : Nat} (h : IsLeaf L i k) (hc : climbs (depN L) i (List.range' (i + 1) m)) (hn : ¬ depN L (i + m) < depN L (i + m + 1)) (hm : i + m + 1 < L.length) : k = m := by
 rw [climbs_range] at hc
 rcases Nat.lt_trichotomy k m with hlt | heq | hgt
 ·have h1 := hc k hlt
  have h2 := h.top (by omega)
  omega
 ·exact heq
 ·exact absurd (h.up m hgt) hn

theorem prefix_range' : ∀ (l : List Nat) (i r : Nat), l <+: List.range' i r → l = List.range' i l.length
 | [], _, _, _ => rfl
 | a :: t, i, 0, h => by simp at h
 | a :: t, i, r + 1, h => by
  rw [List.range'_succ] at h
  obtain ⟨h1, h2⟩ := List.cons_prefix_cons.1 h
  have := prefix_range' t (i + 1) r h2
  rw [List.length_cons, List.range'_succ, ← this, h1]
theorem prefix_snoc {i r : Nat} {ps : List Nat} {x : Nat} (h : ps ++ [x] <+: List.range' (i + 1) r) : ps = List.range' (i + 1) ps.length ∧ x = i + ps.length + 1 := by
 have e := prefix_range' _ _ _ h
 rw [List.length_append, List.length_singleton, List.range'_concat] at e
 obtain ⟨e1, e2⟩ := List.append_inj' e rfl
 refine ⟨e1, ?_⟩
 have := List.singleton_inj.1 e2
 omega

end Go.Proofs.YtigpbjcmmgdiaaaGreat
/-
 What a slot came of, what that came of, and so on: the plain facts, and the walk through them.
-/
namespace Go.Proofs.YtigpbjcmmgdiaaaGreat
open Go.RowKit Go.Shelf
set_option linter.unusedVariables false

attribute [local go_sem] Oper.semAt_some

/-- Going back from a place: each that is less deep than all that were met. -/
def ups (f : Nat → Int) (d : Int) : Nat → List Nat
 | 0 => []
 | j + 1 => if f j < d then j :: ups f (f j) j else ups f d j
theorem ups_zero (f : Nat → Int) (d : Int) : ups f d 0 = [] := rfl
theorem ups_yes {f : Nat → Int} {d : Int} {j : Nat} (h : f j < d) : ups f d (j + 1) = j :: ups f (f j) j := by rw [ups, if_pos h]
theorem ups_no {f : Nat → Int} {d : Int} {j : Nat} (h : ¬ f j < d) : ups f d (j + 1) = ups f d j := by rw [ups, if_neg h]
/-- It begins with what the slot came of, and goes on from there. -/
theorem ups_head (f : Nat → Int) (d : Int) : ∀ j, ups f d j = [] ∨ ∃ u, u < j ∧ ups f d j = u :: ups f (f u) u
 | 0 => .inl rfl
 | j + 1 => by
  by_cases h : f j < d
  ·exact .inr ⟨j, by omega, ups_yes h⟩
  ·rw [ups_no h]
   rcases ups_head f d j with e | ⟨u, hu, e⟩
   ·exact .inl e
   ·exact .inr ⟨u, by omega, e⟩
end Go.Proofs.YtigpbjcmmgdiaaaGreat
/-
 What TreeUp of the program answers.
-/
namespace Go.Proofs.YtigpbjcmmgdiaaaGreat
open Go.RowKit Go.Shelf
set_option linter.unusedVariables false

attribute [local go_sem] Oper.semAt_some

/-- What a slot came of: the first of those, or -1. -/
def headI : List Nat → Int
 | [] => -1
 | x :: _ => (x : Int)

end Go.Proofs.YtigpbjcmmgdiaaaGreat
/-
 What l3Up, TreeUp and TreeAbove of the specification answer.
-/
namespace Go.Proofs.YtigpbjcmmgdiaaaGreat
open Go.ChangeShapes Go.WideShapes Go.ChangeAt Go.RowKit
set_option linter.unusedVariables false

theorem lies_dep2 {W : World} {B O : Nat} {L : List Sl} (h : Lies W (some ⟨B, O, none⟩) L) {j : Nat} (hj : j < L.length) : W.cell? ⟨B, O + j * 11 + 10, none⟩ = some (.int .i64 (depN L j)) := by
 rw [depN_at hj]; exact (h.cells B O rfl j hj).c10

/-- What stands between two rounds: the next place to look at is one less than j. -/
def upInv (w : World) (i : Nat) (L : List Sl) (v : Value) (w' : World) : Prop :=
 ∃ j : Nat, j ≤ i ∧ v = .int .i64 ((j : Int) - 1) ∧ ups (depN L) (depN L i) j = ups (depN L) (depN L i) i ∧ ∃ n, w' = w.drewN n

set_option maxRecDepth 100000 in
set_option maxHeartbeats 1000000 in
theorem l3UpSpec_any (P : Option Addr) (c i : Nat) (L : List Sl) (w : World) (hl : L.length ≤ 1048576) (h : Lies w P L) (hi : i < L.length) :
  Calls Tryz.prog 149 #[.slice P L.length c, .int .i64 (i : Int)] w fun e w' => e = .returned (.int .i64 (headI (ups (depN L) (depN L i) i))) ∧ Below w.heap.size w w' := by
 obtain ⟨B, O, rfl⟩ := h.some hi
 have ci := lies_dep2 h hi
 obtain ⟨d, hd⟩ : ∃ d, depN L i = d := ⟨_, rfl⟩
 rw [hd] at ci
 have HD : Hid _ := hd
 clear hd
 have hii : (i : Int) < (L.length : Int) := by omega
 go_enter Tryz.func149, Tryz.ntmps149
 go_wp2
 go_loopw [5] (fun v w' => upInv w i L v w') (fun v w' => (intOf v + 1).toNat)
 case atStart => exact ⟨i, Nat.le_refl _, rfl, rfl, 0, rfl⟩
 case round =>
  obtain ⟨j, hji, rfl, hu, m, rfl⟩ := hrel
  rw [HD.out] at hu
  cases j with
  | zero =>
   have HU : Hid _ := hu
   clear hu
   go_wp2
   go_ret
   exact ⟨ret_int (by rw [HD.out, ← HU.out, ups_zero]; rfl), below_drewN (Below.refl _ _) _⟩
  | succ k =>
   have hk : k < L.length := by omega
   have ck := lies_dep2 h hk
   have hkk : (k : Int) < (L.length : Int) := by omega
   have e1 : (((k + 1 : Nat) : Int) - 1) = (k : Int) := by omega
   rw [e1]
   obtain ⟨q, hq⟩ : ∃ q, depN L k = q := ⟨_, rfl⟩
   rw [hq] at ck
   have hk0 : (0 : Int) ≤ (k : Int) := by omega
   by_cases hlt : q < d
   ·have g : decide (q < d) = true := by simpa using hlt
    have HU : Hid (ups (depN L) d i = k :: ups (depN L) q k) := by rw [← hq, ← ups_yes (by rw [hq]; exact hlt)]; exact hu.symm
    clear hu e1
    go_upto_region 4 with fail
    go_quiet (fail)
    go_wp2
    go_ret
    exact ⟨ret_int (by rw [HD.out, HU.out]; rfl), by first | exact below_drewN (Below.refl _ _) _ | exact below_drewN (below_drewN (Below.refl _ _) _) _⟩
   ·have g : decide (q < d) = false := by simpa using hlt
    have HU : Hid (ups (depN L) d k = ups (depN L) d i) := by rw [← ups_no (by rw [hq]; exact hlt)]; exact hu
    clear hu e1
    go_upto_region 4 with fail
    go_quiet (fail)
    go_wp2
    go_roundw
    case rel => exact ⟨k, by omega, rfl, by rw [HD.out]; exact HU.out, _, rfl⟩
    case measure => simp [intOf]

end Go.Proofs.YtigpbjcmmgdiaaaGreat
