/-
  The places of a tree, linked both ways: what treeLinks and treeLinkAt of the program answer.
-/
import Derived.Test.YtalncgmncafhjaaFindImpl
import Derived.Laws.MakeOwn
import Derived.RangeFuncBox
namespace Go.Proofs.Ytalncgmncafhjaa
open Go.ChangeShapes Go.WideShapes Go.ChangeAt Go.RowKit
set_option linter.unusedVariables false

/-- A block of cells none of which is frozen by its block. -/
def Plain (W : World) (N : Nat) : Prop := ∃ c t, W.heap[N]? = some (.cells c t (0, 0))
theorem Plain.new (w : World) (c : Array Value) (T : TypeId) : Plain (w.alloc (.cells c T)) w.heap.size := ⟨c, T, World.alloc_heap_new w _⟩
theorem Plain.below {W W' : World} {n₀ N : Nat} (h : Plain W N) (hb : Below n₀ W W') (hN : N < n₀) : Plain W' N := by
  obtain ⟨c, t, h⟩ := h
  exact ⟨c, t, (hb.block N hN).trans h⟩
theorem Plain.set {W : World} {N : Nat} (h : Plain W N) (B o : Nat) (v : Value) : Plain (W.setCell ⟨B, o, none⟩ v) N := by
  obtain ⟨c, t, h⟩ := h
  by_cases e : B = N
  · subst e
    obtain ⟨hlt, hk⟩ := Array.getElem?_eq_some_iff.1 h
    refine ⟨c.setIfInBounds o v, t, ?_⟩
    show (W.heap.modify B _)[B]? = _
    rw [Array.getElem?_eq_getElem (by rw [Array.size_modify]; exact hlt), Array.getElem_modify_self, hk]
    rfl
  · exact ⟨c, t, (Below.heap_setCell W ⟨B, o, none⟩ v N (fun h => e (by simpa using h.symm))).trans h⟩

/-- The first k places are linked. -/
structure Links (W : World) (N : Nat) (L : List Sl) (k : Nat) : Prop where
  place : ∀ i, i < k → i < L.length → W.cell? ⟨N, i * 4, none⟩ = some (.int .i64 (i : Nat))
  depth : ∀ i (h : i < L.length), i < k → W.cell? ⟨N, i * 4 + 1, none⟩ = some (.int .i64 L[i].p)
  ahead : ∀ i, i < L.length → W.cell? ⟨N, i * 4 + 2, none⟩ = some (.pointer (if i = 0 ∨ k ≤ i then none else some ⟨N, (i - 1) * 4, none⟩))
  behind : ∀ i, i < L.length → W.cell? ⟨N, i * 4 + 3, none⟩ = some (.pointer (if i + 1 < k then some ⟨N, (i + 1) * 4, none⟩ else none))
  room : ∀ j, j < L.length * 4 → (W.cell? ⟨N, j, none⟩).isSome = true
  z : ∀ j, W.frozen? ⟨N, j, none⟩ = false
  lt : N < W.heap.size
  blk : Plain W N

theorem Links.below {W W' : World} {N n₀ : Nat} {L : List Sl} {k : Nat} (h : Links W N L k) (hb : Below n₀ W W') (hN : N < n₀) : Links W' N L k := by
  have hc : ∀ o, W'.cell? ⟨N, o, none⟩ = W.cell? ⟨N, o, none⟩ := fun o => hb.cell (p := ⟨N, o, none⟩) hN
  have hf : ∀ o, W'.frozen? ⟨N, o, none⟩ = W.frozen? ⟨N, o, none⟩ := fun o => hb.frozen (p := ⟨N, o, none⟩) hN
  exact ⟨fun i h1 h2 => (hc _).trans (h.place i h1 h2), fun i h1 h2 => (hc _).trans (h.depth i h1 h2), fun i h1 => (hc _).trans (h.ahead i h1), fun i h1 => (hc _).trans (h.behind i h1),
    fun j hj => by rw [hc]; exact h.room j hj, fun j => by rw [hf]; exact h.z j, Nat.lt_of_lt_of_le h.lt hb.size, h.blk.below hb hN⟩

theorem get_set {W : World} {N o' : Nat} {v : Value} (h : (W.cell? ⟨N, o', none⟩).isSome = true) (o : Nat) : (W.setCell ⟨N, o', none⟩ v).cell? ⟨N, o, none⟩ = if o = o' then some v else W.cell? ⟨N, o, none⟩ := by
  by_cases e : o = o'
  · subst e; rw [if_pos rfl]; exact World.cell?_setCell_same' _ _ _ h
  · rw [if_neg e]; apply World.cell?_setCell_other; intro hh; exact e (congrArg Addr.off hh).symm
theorem some_set {W : World} {N o' : Nat} {v : Value} (h : (W.cell? ⟨N, o', none⟩).isSome = true) (o : Nat) (ho : (W.cell? ⟨N, o, none⟩).isSome = true) : ((W.setCell ⟨N, o', none⟩ v).cell? ⟨N, o, none⟩).isSome = true := by
  rw [get_set h]; split
  · rfl
  · exact ho

theorem Links.first {W : World} {N : Nat} {L : List Sl} (h : Links W N L 0) (hL : 0 < L.length) : Links ((W.setCell ⟨N, 0, none⟩ (.int .i64 0)).setCell ⟨N, 1, none⟩ (.int .i64 L[0].p)) N L 1 := by
  have e0 := h.room 0 (by omega)
  have e1 := some_set (v := .int .i64 0) e0 1 (h.room 1 (by omega))
  have hg : ∀ o, ((W.setCell ⟨N, 0, none⟩ (.int .i64 0)).setCell ⟨N, 1, none⟩ (.int .i64 L[0].p)).cell? ⟨N, o, none⟩ = if o = 1 then some (.int .i64 L[0].p) else if o = 0 then some (.int .i64 0) else W.cell? ⟨N, o, none⟩ := fun o => by
    rw [get_set e1, get_set e0]
  refine ⟨fun i h1 h2 => ?_, fun i h1 h2 => ?_, fun i h1 => ?_, fun i h1 => ?_, fun j hj => ?_, fun j => ?_, ?_, (h.blk.set _ _ _).set _ _ _⟩
  · obtain rfl : i = 0 := by omega
    rw [hg]; rfl
  · obtain rfl : i = 0 := by omega
    rw [hg]; rfl
  · rw [hg, if_neg (by omega), if_neg (by omega), h.ahead i h1, if_pos (by omega), if_pos (by omega)]
  · rw [hg, if_neg (by omega), if_neg (by omega), h.behind i h1, if_neg (by omega), if_neg (by omega)]
  · exact some_set e1 j (some_set e0 j (h.room j hj))
  · rw [World.frozen?_setCell, World.frozen?_setCell]; exact h.z j
  · simpa using h.lt

theorem Links.next {W : World} {N m : Nat} {L : List Sl} (h : Links W N L (m + 1)) (hL : m + 1 < L.length) :
    Links ((((W.setCell ⟨N, (m + 1) * 4, none⟩ (.int .i64 ((m + 1 : Nat) : Int))).setCell ⟨N, (m + 1) * 4 + 1, none⟩ (.int .i64 L[m + 1].p)).setCell ⟨N, (m + 1) * 4 + 2, none⟩ (.pointer (some ⟨N, m * 4, none⟩))).setCell ⟨N, m * 4 + 3, none⟩ (.pointer (some ⟨N, (m + 1) * 4, none⟩))) N L (m + 1 + 1) := by
  have e0 := h.room ((m + 1) * 4) (by omega)
  have e1 := some_set (v := .int .i64 ((m + 1 : Nat) : Int)) e0 ((m + 1) * 4 + 1) (h.room _ (by omega))
  have e2 := some_set (v := .int .i64 L[m + 1].p) e1 ((m + 1) * 4 + 2) (some_set e0 _ (h.room _ (by omega)))
  have e3 := some_set (v := .pointer (some ⟨N, m * 4, none⟩)) e2 (m * 4 + 3) (some_set e1 _ (some_set e0 _ (h.room _ (by omega))))
  have hg : ∀ o, ((((W.setCell ⟨N, (m + 1) * 4, none⟩ (.int .i64 ((m + 1 : Nat) : Int))).setCell ⟨N, (m + 1) * 4 + 1, none⟩ (.int .i64 L[m + 1].p)).setCell ⟨N, (m + 1) * 4 + 2, none⟩ (.pointer (some ⟨N, m * 4, none⟩))).setCell ⟨N, m * 4 + 3, none⟩ (.pointer (some ⟨N, (m + 1) * 4, none⟩))).cell? ⟨N, o, none⟩ =
      if o = m * 4 + 3 then some (.pointer (some ⟨N, (m + 1) * 4, none⟩)) else if o = (m + 1) * 4 + 2 then some (.pointer (some ⟨N, m * 4, none⟩)) else if o = (m + 1) * 4 + 1 then some (.int .i64 L[m + 1].p) else if o = (m + 1) * 4 then some (.int .i64 ((m + 1 : Nat) : Int)) else W.cell? ⟨N, o, none⟩ := fun o => by
    rw [get_set e3, get_set e2, get_set e1, get_set e0]
  refine ⟨fun i h1 h2 => ?_, fun i h1 h2 => ?_, fun i h1 => ?_, fun i h1 => ?_, fun j hj => ?_, fun j => ?_, ?_, (((h.blk.set _ _ _).set _ _ _).set _ _ _).set _ _ _⟩
  · rw [hg, if_neg (by omega), if_neg (by omega), if_neg (by omega)]
    by_cases e : i = m + 1
    · subst e; rw [if_pos rfl]
    · rw [if_neg (by omega)]; exact h.place i (by omega) h2
  · rw [hg, if_neg (by omega), if_neg (by omega)]
    by_cases e : i = m + 1
    · subst e; rw [if_pos rfl]
    · rw [if_neg (by omega), if_neg (by omega)]; exact h.depth i h1 (by omega)
  · rw [hg, if_neg (by omega)]
    by_cases e : i = m + 1
    · subst e; rw [if_pos rfl, if_neg (by omega)]; simp
    · rw [if_neg (by omega), if_neg (by omega), if_neg (by omega), h.ahead i h1]
      by_cases e2 : i = 0 ∨ m + 1 ≤ i
      · rw [if_pos e2, if_pos (by omega)]
      · rw [if_neg e2, if_neg (by omega)]
  · rw [hg]
    by_cases e : i = m
    · subst e; rw [if_pos rfl, if_pos (by omega)]
    · rw [if_neg (by omega), if_neg (by omega), if_neg (by omega), if_neg (by omega), h.behind i h1]
      by_cases e2 : i + 1 < m + 1
      · rw [if_pos e2, if_pos (by omega)]
      · rw [if_neg e2, if_neg (by omega)]
  · exact some_set e3 j (some_set e2 j (some_set e1 j (some_set e0 j (h.room j hj))))
  · rw [World.frozen?_setCell, World.frozen?_setCell, World.frozen?_setCell, World.frozen?_setCell]; exact h.z j
  · simpa using h.lt

/-- The cells of new links. -/
def linkCells (n : Nat) : Array Value := madeCells #[.int .i64 0, .int .i64 0, .pointer none, .pointer none] (n * 4)

theorem linkInfo : (Try.prog.info? 60).map (fun i => (i.zero, i.size, i.bytes)) = some (some (.agg #[.int .i64 0, .int .i64 0, .pointer none, .pointer none]), 4, 32) := by kernel_rfl

theorem makeLinks (n : Nat) (hn : n ≤ 1048577) (w : World) :
    (Instr.makeSlice 62 (.int .i64 (n : Int)) (.int .i64 (n : Int))).run Try.prog w = .ok (.slice (some ⟨w.heap.size, 0, none⟩) n n) (w.alloc (.cells (linkCells n) 60)) := by
  obtain ⟨i, hi, hzz⟩ := Option.map_eq_some_iff.1 linkInfo
  simp only [Prod.mk.injEq] at hzz
  obtain ⟨hz, hs, hb⟩ := hzz
  have := run_make (P := Try.prog) w 62 60 i _ Try.underlying62 hi hz .i64 .i64 n n (by omega) (Int.le_refl _) (by rw [hb]; omega) (by omega)
  rw [hs] at this
  exact this

theorem linkCells_at (n j : Nat) (hj : j < n * 4) : (linkCells n)[j]? = some (#[Value.int .i64 0, .int .i64 0, .pointer none, .pointer none][j % 4]!) := by
  unfold linkCells madeCells
  rw [Array.getElem?_map, Array.getElem?_range]
  simp [hj]

theorem Links.new (w : World) (L : List Sl) (T : Nat) : Links (w.alloc (.cells (linkCells L.length) T)) w.heap.size L 0 := by
  have hc : ∀ j, (w.alloc (.cells (linkCells L.length) T)).cell? ⟨w.heap.size, j, none⟩ = (linkCells L.length)[j]? := fun j => World.cell?_alloc_at _ _ _ _ rfl
  refine ⟨fun i h1 _ => absurd h1 (by omega), fun i _ h1 => absurd h1 (by omega), fun i h1 => ?_, fun i h1 => ?_, fun j hj => ?_, fun j => by go_simp, by simp, Plain.new _ _ _⟩
  · rw [hc, linkCells_at _ _ (by omega), if_pos (by omega), show (i * 4 + 2) % 4 = 2 by omega]; rfl
  · rw [hc, linkCells_at _ _ (by omega), if_neg (by omega), show (i * 4 + 3) % 4 = 3 by omega]; rfl
  · rw [hc, linkCells_at _ _ hj]; rfl

/-- What stands between two rounds. -/
def linkInv (w : World) (P : Option Addr) (N : Nat) (L : List Sl) (i : Value) (w' : World) : Prop :=
  ∃ k : Nat, k ≤ L.length ∧ i = .int .i64 k ∧ Lies w' P L ∧ Links w' N L k ∧ Below w.heap.size w w'

set_option maxRecDepth 100000 in
set_option maxHeartbeats 1000000 in
theorem links_no (P : Option Addr) (c : Nat) (L : List Sl) (w : World) (hl : L.length ≤ 1048576) (hcap : L.length ≤ c) (hcm : c ≤ 9223372036854775807) (h : Lies w P L) (hfit : ∀ s ∈ L, s.Fit) (ht : treeB L = false) :
    Calls Try.prog 34 #[.slice P L.length c] w fun e w' => e = .returned (.slice none 0 0) ∧ Below w.heap.size w w' := by
  go_enter Try.func34, Try.ntmps34
  go_wp2_with (first
    | (go_at_call 11; refine (treeOkImpl_to _ _ _ L _ _ rfl hl hcap hcm h hfit ht).mono ?_; rintro e w1 ⟨rfl, hb1⟩))
  go_ret
  exact ⟨rfl, hb1⟩

set_option maxRecDepth 100000 in
set_option maxHeartbeats 1000000 in
theorem links_yes (P : Option Addr) (c : Nat) (L : List Sl) (w : World) (hl : L.length ≤ 1048576) (hcap : L.length ≤ c) (hcm : c ≤ 9223372036854775807) (h : Lies w P L) (hfit : ∀ s ∈ L, s.Fit) (ht : treeB L = true) :
    Calls Try.prog 34 #[.slice P L.length c] w fun e w' => ∃ N, w.heap.size ≤ N ∧ e = .returned (.slice (some ⟨N, 0, none⟩) L.length L.length) ∧ Links w' N L L.length ∧ Below w.heap.size w w' := by
  have hmk := makeLinks L.length (by omega)
  go_enter Try.func34, Try.ntmps34
  go_wp2_with (first
    | (go_at_call 11; refine (treeOkImpl_to _ _ _ L _ _ rfl hl hcap hcm h hfit ht).mono ?_; rintro e w1 ⟨rfl, hb1⟩))
  have hN : w.heap.size ≤ w1.heap.size := hb1.size
  have hb2 : Below w.heap.size w (w1.alloc (.cells (linkCells L.length) 60)) := hb1.alloc hb1.size _
  have h1 := h.below hb2
  have hK := Links.new w1 L 60
  clear hmk
  generalize hNN : w1.heap.size = N at hN hK ⊢
  generalize hW : w1.alloc (.cells (linkCells L.length) 60) = W1 at hb2 h1 hK ⊢
  clear hW hNN hb1
  go_loopw [13] (fun i w' => linkInv w P N L i w') (fun i w' => L.length - (intOf i).toNat)
  case atStart => exact ⟨0, Nat.zero_le _, rfl, h1, hK, hb2⟩
  case round =>
    clear h1 hK hb2
    obtain ⟨k, hk, rfl, hL, hK, hB⟩ := hrel
    by_cases hlt : k < L.length
    · obtain ⟨B, O, rfl⟩ := hL.some hlt
      have hc := (hL.cells B O rfl k hlt).c10
      have hne : ¬ B = N := by have := (h.cells B O rfl k hlt).lt; omega
      have hz := hK.z
      by_cases hk0 : k = 0
      · subst hk0
        obtain ⟨v0, e0⟩ := Option.isSome_iff_exists.1 (hK.room 0 (by omega))
        obtain ⟨v1, e1⟩ := Option.isSome_iff_exists.1 (hK.room 1 (by omega))
        rw [Nat.zero_mul, Nat.add_zero] at hc
        go_wp2
        go_roundw
        case rel => exact ⟨1, by omega, rfl, liesSet (liesSet hL _ _ _ (fun B' O' e => by cases e; exact hne)) _ _ _ (fun B' O' e => by cases e; exact hne), hK.first hlt, (hB.setCell hN _).setCell hN _⟩
        case measure => simp [intOf]; omega
      · obtain ⟨m, hm⟩ : ∃ m, k = m + 1 := ⟨k - 1, by omega⟩
        have hm1 : (k : Int) - 1 = (m : Int) := by omega
        have hk1 : 0 < k := by omega
        have hm2 : m < L.length := by omega
        obtain ⟨v0, e0⟩ := Option.isSome_iff_exists.1 (hK.room (k * 4) (by omega))
        obtain ⟨v1, e1⟩ := Option.isSome_iff_exists.1 (hK.room (k * 4 + 1) (by omega))
        obtain ⟨v2, e2⟩ := Option.isSome_iff_exists.1 (hK.room (k * 4 + 2) (by omega))
        obtain ⟨v3, e3⟩ := Option.isSome_iff_exists.1 (hK.room (m * 4 + 3) (by omega))
        have o1 : ¬ m * 4 + 3 = k * 4 := by omega
        have o2 : ¬ m * 4 + 3 = k * 4 + 1 := by omega
        have o3 : ¬ m * 4 + 3 = k * 4 + 2 := by omega
        have HM : Hid _ := hm
        clear hm
        go_wp2
        go_roundw
        case rel =>
          have hm := HM.out
          clear o1 o2 o3 e0 e1 e2 e3 hm1 HM
          subst hm
          exact ⟨m + 1 + 1, by omega, by go_num, liesSet (liesSet (liesSet (liesSet hL _ _ _ (fun B' O' e => by cases e; exact hne)) _ _ _ (fun B' O' e => by cases e; exact hne)) _ _ _ (fun B' O' e => by cases e; exact hne)) _ _ _ (fun B' O' e => by cases e; exact hne), hK.next hlt, (((hB.setCell hN _).setCell hN _).setCell hN _).setCell hN _⟩
        case measure => simp [intOf]; omega
    · go_wp2
      go_ret
      obtain rfl : k = L.length := by omega
      exact ⟨N, hN, rfl, hK, hB⟩

/-- A place of a list of this length. -/
def placeB (n i : Int) : Bool := decide (0 ≤ i ∧ i < n)

set_option maxRecDepth 100000 in
theorem placeOk_any (n : Nat) (i : Int) (w : World) (hn : n ≤ 1048576) :
    Calls Try.prog 23 #[.int .i64 (n : Int), .int .i64 i] w fun e w' => e = .returned (.bool (placeB n i)) ∧ w = w' := by
  go_enter Try.func23, Try.ntmps23
  go_wp2_with (first
    | (go_at_call 31; refine (within_any _ _ _ _).mono ?_; rintro e w1 ⟨rfl, rfl⟩))
  go_ret
  exact ⟨ret_bool (by unfold withinB placeB; rw [Bool.eq_iff_iff]; simp only [decide_eq_true_eq]; omega), rfl⟩

theorem placeOk_to (n : Nat) (i : Int) (x : Bool) (w : World) (hn : n ≤ 1048576) (h : placeB n i = x) :
    Calls Try.prog 23 #[.int .i64 (n : Int), .int .i64 i] w fun e w' => e = .returned (.bool x) ∧ w = w' := by
  have := placeOk_any n i w hn; rw [h] at this; exact this

set_option maxRecDepth 100000 in
set_option maxHeartbeats 1000000 in
theorem linkAt_none (P : Option Addr) (c : Nat) (i : Int) (L : List Sl) (w : World) (hl : L.length ≤ 1048576) (hcap : L.length ≤ c) (hcm : c ≤ 9223372036854775807) (h : Lies w P L) (hfit : ∀ s ∈ L, s.Fit) (ht : (treeB L && placeB L.length i) = false) :
    Calls Try.prog 27 #[.slice P L.length c, .int .i64 i] w fun e w' => e = .returned (.pointer none) ∧ Below w.heap.size w w' := by
  cases hT : treeB L
  · have hp : placeB ((0 : Nat) : Int) i = false := by unfold placeB; simp only [decide_eq_false_iff_not]; omega
    go_enter Try.func27, Try.ntmps27
    go_wp2_with (first
      | (go_at_call 34; refine (links_no _ _ L _ hl hcap hcm h hfit hT).mono ?_; rintro e w1 ⟨rfl, hb1⟩)
      | (go_at_call 23; refine (placeOk_to 0 _ _ _ (by omega) hp).mono ?_; rintro e w2 ⟨rfl, rfl⟩))
    go_ret
    exact ⟨rfl, hb1⟩
  · have hp : placeB L.length i = false := by rw [hT] at ht; simpa using ht
    go_enter Try.func27, Try.ntmps27
    go_wp2_with (first
      | (go_at_call 34; refine (links_yes _ _ L _ hl hcap hcm h hfit hT).mono ?_; rintro e w1 ⟨N, hN, rfl, hK, hb1⟩)
      | (go_at_call 23; refine (placeOk_to _ _ _ _ hl hp).mono ?_; rintro e w2 ⟨rfl, rfl⟩))
    go_ret
    exact ⟨rfl, hb1⟩

set_option maxRecDepth 100000 in
set_option maxHeartbeats 1000000 in
theorem linkAt_some (P : Option Addr) (c i : Nat) (L : List Sl) (w : World) (hl : L.length ≤ 1048576) (hcap : L.length ≤ c) (hcm : c ≤ 9223372036854775807) (h : Lies w P L) (hfit : ∀ s ∈ L, s.Fit) (ht : treeB L = true) (hi : i < L.length) :
    Calls Try.prog 27 #[.slice P L.length c, .int .i64 (i : Int)] w fun e w' => ∃ N, w.heap.size ≤ N ∧ e = .returned (.pointer (some ⟨N, i * 4, none⟩)) ∧ Links w' N L L.length ∧ Below w.heap.size w w' := by
  have hp : placeB L.length i = true := by unfold placeB; simp only [decide_eq_true_eq]; omega
  go_enter Try.func27, Try.ntmps27
  go_wp2_with (first
    | (go_at_call 34; refine (links_yes _ _ L _ hl hcap hcm h hfit ht).mono ?_; rintro e w1 ⟨N, hN, rfl, hK, hb1⟩)
    | (go_at_call 23; refine (placeOk_to _ _ _ _ hl hp).mono ?_; rintro e w2 ⟨rfl, rfl⟩))
  go_ret
  exact ⟨N, hN, rfl, hK, hb1⟩

end Go.Proofs.Ytalncgmncafhjaa
