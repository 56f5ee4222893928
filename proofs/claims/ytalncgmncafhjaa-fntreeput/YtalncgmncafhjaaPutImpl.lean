/-
  What TreePut of the program answers.
-/
import Derived.Test.YtalncgmncafhjaaCopy11
import Derived.Test.YtalncgmncafhjaaTreeOkImpl
import Derived.Test.YtalncgmncafhjaaLinks
import Derived.Test.YtalncgmncafhjaaPutSpec
namespace Go.Proofs.Ytalncgmncafhjaa
open Go.ChangeShapes Go.WideShapes Go.ChangeAt Go.RowKit
set_option linter.unusedVariables false

/-- The depth of a slot in memory, written anew. -/
theorem at11_depth {W : World} {B : Nat} {s : Sl} (h : At11 W B 0 s) (d : Int) : At11 (W.setCell ⟨B, 10, none⟩ (.int .i64 d)) B 0 (s.at d) := by
  obtain ⟨c0, c1, c2, c3, c4, c5, c6, c7, c8, c9, c10⟩ := h
  simp only [Nat.zero_add] at c0 c1 c2 c3 c4 c5 c6 c7 c8 c9 c10
  constructor <;> simp only [Nat.zero_add, Sl.at] <;> go_simp

/-- A list with one more slot ahead of a place. -/
def putJ (L : List Sl) (J : Nat) (x : Sl) : List Sl := L.take J ++ ([x] ++ L.drop J)

/-- Where a slot may be put. -/
def putB (L : List Sl) (i : Int) : Bool := treeB L && (decide (i = -1) || placeB L.length i)

set_option maxRecDepth 100000 in
set_option maxHeartbeats 2000000 in
theorem treePutImpl_none (P : Option Addr) (c : Nat) (i : Int) (L : List Sl) (s : Sl) (w : World) (hl : L.length ≤ 1048576) (hcap : L.length ≤ c) (hcm : c ≤ 9223372036854775807) (h : Lies w P L) (hfit : ∀ s ∈ L, s.Fit) (ht : putB L i = false) :
    Calls Try.prog 6 #[.slice P L.length c, .int .i64 i, .agg #[.int .i64 s.t, .int .i64 s.k, .int .i64 s.e, .int .i64 s.b, .int .i64 s.r, .int .i64 s.d, .int .i64 s.g, .int .i64 s.q, .int .i64 s.f, .bool s.o, .int .i64 s.p]] w fun e w' => e = .returned (.tuple #[.slice none 0 0, .bool false]) ∧ Below w.heap.size w w' := by
  have h0 := h.below ((Below.refl _ w).alloc (Nat.le_refl _) (.cells #[.int .i64 s.t, .int .i64 s.k, .int .i64 s.e, .int .i64 s.b, .int .i64 s.r, .int .i64 s.d, .int .i64 s.g, .int .i64 s.q, .int .i64 s.f, .bool s.o, .int .i64 s.p] 27))
  have hB0 : Below w.heap.size w (w.alloc (.cells #[.int .i64 s.t, .int .i64 s.k, .int .i64 s.e, .int .i64 s.b, .int .i64 s.r, .int .i64 s.d, .int .i64 s.g, .int .i64 s.q, .int .i64 s.f, .bool s.o, .int .i64 s.p] 27)) := (Below.refl _ w).alloc (Nat.le_refl _) _
  unfold putB at ht
  cases hT : treeB L
  · have HC : Hid _ := (fun w1 (h1 : Lies w1 P L) => hT ▸ treeOkImpl_any P L.length c L w1 rfl hl hcap hcm h1 hfit)
    clear ht hT
    go_enter Try.func6, Try.ntmps6
    go_wp2_with ((go_at_call 11; refine (HC.out _ h0).mono ?_; rintro e w1 ⟨rfl, hb1⟩))
    go_ret2
    exact ⟨rfl, hB0.trans (hb1.mono hB0.size)⟩
  · have HC : Hid _ := (fun w1 (h1 : Lies w1 P L) => hT ▸ treeOkImpl_any P L.length c L w1 rfl hl hcap hcm h1 hfit)
    rw [hT, Bool.true_and, Bool.or_eq_false_iff] at ht
    obtain ⟨h1, h2⟩ := ht
    have h3 : ¬ i = -1 := by simpa using h1
    have HP : Hid _ := (fun w1 => h2 ▸ placeOk_any L.length i w1 hl)
    clear hT h1 h2
    go_enter Try.func6, Try.ntmps6
    go_wp2_with (first
      | (go_at_call 11; refine (HC.out _ h0).mono ?_; rintro e w1 ⟨rfl, hb1⟩)
      | (go_at_call 23; refine (HP.out _).mono ?_; rintro e w2 ⟨rfl, rfl⟩))
    go_ret2
    exact ⟨rfl, hB0.trans (hb1.mono hB0.size)⟩

set_option maxRecDepth 100000 in
set_option maxHeartbeats 2000000 in
theorem treePutImpl_last (B O c J : Nat) (i : Int) (L : List Sl) (s : Sl) (w : World) (hl : L.length ≤ 1048576) (hcap : L.length ≤ c) (hcm : c ≤ 9223372036854775807) (h : Lies w (some ⟨B, O, none⟩) L) (hBlt : B < w.heap.size) (hfit : ∀ s ∈ L, s.Fit) (hsfit : (s.at 0).Fit) (hT : treeB L = true) (h300 : L.length ≤ 300) (hi : i = -1) (hJ : J = L.length) :
    Calls Try.prog 6 #[.slice (some ⟨B, O, none⟩) L.length c, .int .i64 i, .agg #[.int .i64 s.t, .int .i64 s.k, .int .i64 s.e, .int .i64 s.b, .int .i64 s.r, .int .i64 s.d, .int .i64 s.g, .int .i64 s.q, .int .i64 s.f, .bool s.o, .int .i64 s.p]] w fun e w' => (treeB (putJ L J (s.at 0)) = false ∧ e = .returned (.tuple #[.slice none 0 0, .bool false]) ∧ Below w.heap.size w w') ∨ (treeB (putJ L J (s.at 0)) = true ∧ ∃ G, e = .returned (.tuple #[.slice (some ⟨G, 0, none⟩) (L.length + 1) (L.length + 1), .bool true]) ∧ w.heap.size ≤ G ∧ Room w' G (L.length + 1) ∧ Lies w' (some ⟨G, 0, none⟩) (putJ L J (s.at 0)) ∧ Below w.heap.size w w') := by
  subst hi
  have hJL : J ≤ L.length := by omega
  have hJL' : L.length ≤ J := by omega
  have hJc : J ≤ c := by omega
  have hJi : (L.length : Int) = (J : Int) := by omega
  obtain ⟨M, hM⟩ : ∃ M, L.length + 1 = M := ⟨_, rfl⟩
  obtain ⟨K, hK⟩ : ∃ K, J + 1 = K := ⟨_, rfl⟩
  have hM1 : (L.length : Int) + 1 = (M : Int) := by omega
  have hM2 : (J : Int) + 1 = (M : Int) := by omega
  have HM : Hid _ := hM
  have HK : Hid _ := hK
  clear hM hK hJ
  have h0 := h.below ((Below.refl _ w).alloc (Nat.le_refl _) (.cells #[.int .i64 s.t, .int .i64 s.k, .int .i64 s.e, .int .i64 s.b, .int .i64 s.r, .int .i64 s.d, .int .i64 s.g, .int .i64 s.q, .int .i64 s.f, .bool s.o, .int .i64 s.p] 27))
  have HC0 : Hid _ := (fun w1 (h1 : Lies w1 (some ⟨B, O, none⟩) L) => hT ▸ treeOkImpl_any (some ⟨B, O, none⟩) L.length c L w1 rfl hl hcap hcm h1 hfit)
  clear hT
  go_enter Try.func6, Try.ntmps6
  go_upto_region 3 with ((go_at_call 11; refine (HC0.out _ h0).mono ?_; rintro e w1 ⟨rfl, hb1⟩))
  have hS1 : At11 w1 w.heap.size 0 s := (At11.alloc w s 27).of fun j => (bcell hb1).1 _ _ (by simp)
  have hf1 : ∀ j, w1.frozen? ⟨w.heap.size, j, none⟩ = false := fun j => ((bcell hb1).2 _ _ (by simp)).trans (by go_simp)
  have hL1 : Lies w1 (some ⟨B, O, none⟩) L := h0.below hb1
  have hB1 : Below w.heap.size w w1 := ((Below.refl _ w).alloc (Nat.le_refl _) _).trans (hb1.mono (by simp))
  have hz1 : w.heap.size < w1.heap.size := hS1.lt
  have hLb : Lies (w1.setCell ⟨w.heap.size, 10, none⟩ (.int .i64 0)) (some ⟨B, O, none⟩) L := liesSet hL1 _ _ _ (fun B' O' e => by cases e; omega)
  have hSb : At11 (w1.setCell ⟨w.heap.size, 10, none⟩ (.int .i64 0)) w.heap.size 0 (s.at 0) := at11_depth hS1 0
  have hBb : Below w.heap.size w (w1.setCell ⟨w.heap.size, 10, none⟩ (.int .i64 0)) := hB1.setCell (p := ⟨w.heap.size, 10, none⟩) (Nat.le_refl _) _
  have hbl : w.heap.size < (w1.setCell ⟨w.heap.size, 10, none⟩ (.int .i64 0)).heap.size := hSb.lt
  have c10 := hS1.c10
  simp only [Nat.zero_add] at c10
  clear hb1 h0 hS1 hL1 hB1
  go_upto_region 8 with fail
  generalize hWb : w1.setCell ⟨w.heap.size, 10, none⟩ (.int .i64 0) = Wb at hLb hSb hBb hbl ⊢
  clear hWb c10 hf1 hz1
  have hmk := makeSlots M (by have := HM.out; omega)
  have hBa : Below Wb.heap.size Wb (Wb.alloc (.cells (roomCells M) 27)) := (Below.refl _ _).alloc (Nat.le_refl _) _
  have hRa := Room.new Wb M 27
  have hLa := hLb.below hBa
  have hlen := cellsAll_length (L.take J)
  rw [List.length_take, Nat.min_eq_left hJL] at hlen
  have hJM : J ≤ M := by have := HM.out; omega
  have hBb' : B < Wb.heap.size := by have := hBb.size; omega
  have hcp1 := run_copy11 (Wb.alloc (.cells (roomCells M) 27)) 3 Wb.heap.size 0 M M ⟨B, O, none⟩ J c J (cellsAll (L.take J)) (Nat.min_eq_left hJM).symm hlen (lies_news (hLa.take J)) (fun j hj => by rw [Nat.zero_add]; exact hRa.c j (by omega)) (fun j hj => hRa.z _) (cellsAll_one' _)
  have hR1 : Room ((Wb.alloc (.cells (roomCells M) 27)).setCells Wb.heap.size 0 (cellsAll (L.take J))) Wb.heap.size M := room_setAll hRa (by omega)
  have hA1 : Lies ((Wb.alloc (.cells (roomCells M) 27)).setCells Wb.heap.size 0 (cellsAll (L.take J))) (some ⟨Wb.heap.size, 0, none⟩) (L.take J) := by
    have := lies_copy (A := []) (C := L.take J) (Lies.nil _ _) hRa (by rw [List.length_take]; simp; omega)
    simpa using this
  have hL1 : Lies ((Wb.alloc (.cells (roomCells M) 27)).setCells Wb.heap.size 0 (cellsAll (L.take J))) (some ⟨B, O, none⟩) L := lies_far hLa (by omega)
  have hS1 : At11 ((Wb.alloc (.cells (roomCells M) 27)).setCells Wb.heap.size 0 (cellsAll (L.take J))) w.heap.size 0 (s.at 0) :=
    hSb.of fun j => (World.cell?_setCells_out _ _ _ _ _ (fun e => by have : w.heap.size = Wb.heap.size := e; omega)).trans ((bcell hBa).1 _ _ hbl)
  have hB1 : Below w.heap.size w ((Wb.alloc (.cells (roomCells M) 27)).setCells Wb.heap.size 0 (cellsAll (L.take J))) := below_setAll (hBb.alloc hBb.size _) hBb.size
  have hs1 : Wb.heap.size < ((Wb.alloc (.cells (roomCells M) 27)).setCells Wb.heap.size 0 (cellsAll (L.take J))).heap.size := hR1.lt
  go_upto_region 10 with fail
  generalize hWx : (Wb.alloc (.cells (roomCells M) 27)).setCells Wb.heap.size 0 (cellsAll (L.take J)) = Wx at hR1 hA1 hL1 hS1 hB1 hs1 ⊢
  generalize hG : Wb.heap.size = G at hR1 hA1 hs1 hbl hBb' ⊢
  clear hWx hG hcp1 hRa hLa hBa hmk hLb hSb hBb
  have hsz : w.heap.size ≤ G := by omega
  have zz := hR1.z
  obtain ⟨v0, e0⟩ := Option.isSome_iff_exists.1 (hR1.c (J * 11) (by have := HM.out; omega))
  obtain ⟨v1, e1⟩ := Option.isSome_iff_exists.1 (hR1.c (J * 11 + 1) (by have := HM.out; omega))
  obtain ⟨v2, e2⟩ := Option.isSome_iff_exists.1 (hR1.c (J * 11 + 2) (by have := HM.out; omega))
  obtain ⟨v3, e3⟩ := Option.isSome_iff_exists.1 (hR1.c (J * 11 + 3) (by have := HM.out; omega))
  obtain ⟨v4, e4⟩ := Option.isSome_iff_exists.1 (hR1.c (J * 11 + 4) (by have := HM.out; omega))
  obtain ⟨v5, e5⟩ := Option.isSome_iff_exists.1 (hR1.c (J * 11 + 5) (by have := HM.out; omega))
  obtain ⟨v6, e6⟩ := Option.isSome_iff_exists.1 (hR1.c (J * 11 + 6) (by have := HM.out; omega))
  obtain ⟨v7, e7⟩ := Option.isSome_iff_exists.1 (hR1.c (J * 11 + 7) (by have := HM.out; omega))
  obtain ⟨v8, e8⟩ := Option.isSome_iff_exists.1 (hR1.c (J * 11 + 8) (by have := HM.out; omega))
  obtain ⟨v9, e9⟩ := Option.isSome_iff_exists.1 (hR1.c (J * 11 + 9) (by have := HM.out; omega))
  obtain ⟨v10, e10⟩ := Option.isSome_iff_exists.1 (hR1.c (J * 11 + 10) (by have := HM.out; omega))
  obtain ⟨d0, d1, d2, d3, d4, d5, d6, d7, d8, d9, d10⟩ := hS1
  simp only [Nat.zero_add, Sl.at] at d0 d1 d2 d3 d4 d5 d6 d7 d8 d9 d10
  have hR2 : Room (((((((((((Wx.setCell ⟨G, J * 11, none⟩ (.int .i64 s.t)).setCell ⟨G, J * 11 + 1, none⟩ (.int .i64 s.k)).setCell ⟨G, J * 11 + 2, none⟩ (.int .i64 s.e)).setCell ⟨G, J * 11 + 3, none⟩ (.int .i64 s.b)).setCell ⟨G, J * 11 + 4, none⟩ (.int .i64 s.r)).setCell ⟨G, J * 11 + 5, none⟩ (.int .i64 s.d)).setCell ⟨G, J * 11 + 6, none⟩ (.int .i64 s.g)).setCell ⟨G, J * 11 + 7, none⟩ (.int .i64 s.q)).setCell ⟨G, J * 11 + 8, none⟩ (.int .i64 s.f)).setCell ⟨G, J * 11 + 9, none⟩ (.bool s.o)).setCell ⟨G, J * 11 + 10, none⟩ (.int .i64 0)) G M := hR1.set (s.at 0) (O := J * 11) (by have := HM.out; omega)
  have hA2 : Lies (((((((((((Wx.setCell ⟨G, J * 11, none⟩ (.int .i64 s.t)).setCell ⟨G, J * 11 + 1, none⟩ (.int .i64 s.k)).setCell ⟨G, J * 11 + 2, none⟩ (.int .i64 s.e)).setCell ⟨G, J * 11 + 3, none⟩ (.int .i64 s.b)).setCell ⟨G, J * 11 + 4, none⟩ (.int .i64 s.r)).setCell ⟨G, J * 11 + 5, none⟩ (.int .i64 s.d)).setCell ⟨G, J * 11 + 6, none⟩ (.int .i64 s.g)).setCell ⟨G, J * 11 + 7, none⟩ (.int .i64 s.q)).setCell ⟨G, J * 11 + 8, none⟩ (.int .i64 s.f)).setCell ⟨G, J * 11 + 9, none⟩ (.bool s.o)).setCell ⟨G, J * 11 + 10, none⟩ (.int .i64 0)) (some ⟨G, 0, none⟩) (L.take J ++ [s.at 0]) := by
    have e := lies_copy (C := [s.at 0]) hA1 hR1 (by rw [List.length_take, Nat.min_eq_left hJL]; have := HM.out; simp; omega)
    rw [List.length_take, Nat.min_eq_left hJL, cellsAll_one] at e
    exact e
  have hL2 : Lies (((((((((((Wx.setCell ⟨G, J * 11, none⟩ (.int .i64 s.t)).setCell ⟨G, J * 11 + 1, none⟩ (.int .i64 s.k)).setCell ⟨G, J * 11 + 2, none⟩ (.int .i64 s.e)).setCell ⟨G, J * 11 + 3, none⟩ (.int .i64 s.b)).setCell ⟨G, J * 11 + 4, none⟩ (.int .i64 s.r)).setCell ⟨G, J * 11 + 5, none⟩ (.int .i64 s.d)).setCell ⟨G, J * 11 + 6, none⟩ (.int .i64 s.g)).setCell ⟨G, J * 11 + 7, none⟩ (.int .i64 s.q)).setCell ⟨G, J * 11 + 8, none⟩ (.int .i64 s.f)).setCell ⟨G, J * 11 + 9, none⟩ (.bool s.o)).setCell ⟨G, J * 11 + 10, none⟩ (.int .i64 0)) (some ⟨B, O, none⟩) L := hL1.apart (s.at 0) (fun b o e => by cases e; omega) (O := J * 11)
  have hB2 : Below w.heap.size w (((((((((((Wx.setCell ⟨G, J * 11, none⟩ (.int .i64 s.t)).setCell ⟨G, J * 11 + 1, none⟩ (.int .i64 s.k)).setCell ⟨G, J * 11 + 2, none⟩ (.int .i64 s.e)).setCell ⟨G, J * 11 + 3, none⟩ (.int .i64 s.b)).setCell ⟨G, J * 11 + 4, none⟩ (.int .i64 s.r)).setCell ⟨G, J * 11 + 5, none⟩ (.int .i64 s.d)).setCell ⟨G, J * 11 + 6, none⟩ (.int .i64 s.g)).setCell ⟨G, J * 11 + 7, none⟩ (.int .i64 s.q)).setCell ⟨G, J * 11 + 8, none⟩ (.int .i64 s.f)).setCell ⟨G, J * 11 + 9, none⟩ (.bool s.o)).setCell ⟨G, J * 11 + 10, none⟩ (.int .i64 0)) := below_setCells hB1 hsz (s.at 0) (O := J * 11)
  have hJM1 : (J : Int) < (M : Int) := by have := HM.out; omega
  have hJM2 : J < M := by omega
  go_upto_region 11 with fail
  generalize hWy : (((((((((((Wx.setCell ⟨G, J * 11, none⟩ (.int .i64 s.t)).setCell ⟨G, J * 11 + 1, none⟩ (.int .i64 s.k)).setCell ⟨G, J * 11 + 2, none⟩ (.int .i64 s.e)).setCell ⟨G, J * 11 + 3, none⟩ (.int .i64 s.b)).setCell ⟨G, J * 11 + 4, none⟩ (.int .i64 s.r)).setCell ⟨G, J * 11 + 5, none⟩ (.int .i64 s.d)).setCell ⟨G, J * 11 + 6, none⟩ (.int .i64 s.g)).setCell ⟨G, J * 11 + 7, none⟩ (.int .i64 s.q)).setCell ⟨G, J * 11 + 8, none⟩ (.int .i64 s.f)).setCell ⟨G, J * 11 + 9, none⟩ (.bool s.o)).setCell ⟨G, J * 11 + 10, none⟩ (.int .i64 0)) = Wy at hR2 hA2 hL2 hB2 ⊢
  clear hWy hR1 hA1 hL1 hB1 hs1 zz e0 e1 e2 e3 e4 e5 e6 e7 e8 e9 e10 d0 d1 d2 d3 d4 d5 d6 d7 d8 d9 d10
  have hKJ : Hid (J + 1 = K) := HK
  have hq5 : (K : Int) ≤ (M : Int) := by have := HM.out; have := HK.out; omega
  have hq6 : K ≤ M := by omega
  have hq7 : IntKind.i64.wrap ((J : Int) + 1) = (K : Int) := by rw [wrap_in (by omega) (by omega)]; have := HK.out; omega
  have hq8 : (J : Int) + 1 = (K : Int) := by have := HK.out; omega
  have hq9 : IntKind.i64.wrap (K : Int) = (K : Int) := wrap_in (by omega) (by omega)
  have hq10 : (J : Int) ≤ (L.length : Int) := by omega
  have hq11 : (0 : Int) ≤ (J : Int) := by omega
  have hq12 : (0 : Int) ≤ (K : Int) := by omega
  have hfR : ∀ x ∈ putJ L J (s.at 0), x.Fit := by
    intro x hx
    rcases List.mem_append.1 hx with hx | hx
    · exact hfit x (List.mem_of_mem_take hx)
    · rcases List.mem_append.1 hx with hx | hx
      · rw [List.mem_singleton.1 hx]; exact hsfit
      · exact hfit x (List.mem_of_mem_drop hx)
  have hlR : (putJ L J (s.at 0)).length = M := by rw [← HM.out]; simp [putJ]; omega
  by_cases hcJ : c ≤ J
  · have hq0 : M - K = 0 := by have := HM.out; have := HK.out; omega
    have hq1 : (M : Int) - (K : Int) = 0 := by have := HM.out; have := HK.out; omega
    have hLJ : L.length - J = 0 := by omega
    have hLJ1 : (L.length : Int) - (J : Int) = 0 := by omega
    have hp0 : c - J = 0 := by omega
    have hp1 : (c : Int) - (J : Int) = 0 := by omega
    have hcp2 := run_copy11 Wy.drew 3 G 0 0 0 ⟨B, O, none⟩ 0 0 0 [] rfl rfl (fun j v hj => by simp at hj) (fun j hj => by simp at hj) (fun j hj => by simp at hj) (fun v hv => by simp at hv)
    simp only [World.setCells] at hcp2
    have yL : Lies Wy.drew (some ⟨G, 0, none⟩) (putJ L J (s.at 0)) := by
      rw [putJ, List.drop_eq_nil_of_le (by omega), List.append_nil]
      exact ⟨hA2.place, fun B O e i hi => (hA2.cells B O e i hi).of fun _ => rfl⟩
    have yR : Room Wy.drew G M := ⟨fun j hj => hR2.c j hj, fun j => hR2.z j, hR2.lt⟩
    have yB : Below w.heap.size w Wy.drew := hB2.drew
    generalize hRR : putJ L J (s.at 0) = R at yL hfR hlR ⊢
    have HRR : Hid _ := hRR
    clear hRR hL2 hA2
    go_wp2
    go_region

    generalize hYY : Wy.drew = Y at yL yR yB ⊢
    clear hYY hcp2
    have HC : Hid _ := (fun w1 (h1 : Lies w1 (some ⟨G, 0, none⟩) R) => treeOkImpl_any (some ⟨G, 0, none⟩) M M R w1 hlR.symm (by have := HM.out; omega) (Nat.le_refl _) (by have := HM.out; omega) h1 hfR)
    have hyz := yR.lt
    cases hTR : treeB R
    · rw [hTR] at HC
      go_wp2_with ((go_at_call 11; refine (HC.out _ yL).mono ?_; rintro e w5 ⟨rfl, hb5⟩))
      go_ret2
      exact .inl ⟨by rw [HRR.out]; exact hTR, rfl, yB.trans (hb5.mono yB.size)⟩
    · rw [hTR] at HC
      go_wp2_with ((go_at_call 11; refine (HC.out _ yL).mono ?_; rintro e w5 ⟨rfl, hb5⟩))
      go_ret2
      exact .inr ⟨by rw [HRR.out]; exact hTR, G, by have e := HM.out; subst e; rfl, hsz, by rw [HM.out]; exact yR.below hb5, by rw [HRR.out]; exact yL.below hb5, yB.trans (hb5.mono yB.size)⟩
  · have hq0 : M - K = 0 := by have := HM.out; have := HK.out; omega
    have hq1 : (M : Int) - (K : Int) = 0 := by have := HM.out; have := HK.out; omega
    have hLJ : L.length - J = 0 := by omega
    have hLJ1 : (L.length : Int) - (J : Int) = 0 := by omega
    have hp0 : ¬ c - J = 0 := by omega
    have hp1 : ¬ (c : Int) - (J : Int) = 0 := by omega
    have hp2 : ¬ c = J := by omega
    have hcp2 := run_copy11 Wy.drew 3 G 0 0 0 ⟨B, O + J * 11, none⟩ 0 (c - J) 0 [] rfl rfl (fun j v hj => by simp at hj) (fun j hj => by simp at hj) (fun j hj => by simp at hj) (fun v hv => by simp at hv)
    simp only [World.setCells] at hcp2
    have yL : Lies Wy.drew (some ⟨G, 0, none⟩) (putJ L J (s.at 0)) := by
      rw [putJ, List.drop_eq_nil_of_le (by omega), List.append_nil]
      exact ⟨hA2.place, fun B O e i hi => (hA2.cells B O e i hi).of fun _ => rfl⟩
    have yR : Room Wy.drew G M := ⟨fun j hj => hR2.c j hj, fun j => hR2.z j, hR2.lt⟩
    have yB : Below w.heap.size w Wy.drew := hB2.drew
    generalize hRR : putJ L J (s.at 0) = R at yL hfR hlR ⊢
    have HRR : Hid _ := hRR
    clear hRR hL2 hA2
    go_wp2
    go_region

    generalize hYY : Wy.drew = Y at yL yR yB ⊢
    clear hYY hcp2
    have HC : Hid _ := (fun w1 (h1 : Lies w1 (some ⟨G, 0, none⟩) R) => treeOkImpl_any (some ⟨G, 0, none⟩) M M R w1 hlR.symm (by have := HM.out; omega) (Nat.le_refl _) (by have := HM.out; omega) h1 hfR)
    have hyz := yR.lt
    cases hTR : treeB R
    · rw [hTR] at HC
      go_wp2_with ((go_at_call 11; refine (HC.out _ yL).mono ?_; rintro e w5 ⟨rfl, hb5⟩))
      go_ret2
      exact .inl ⟨by rw [HRR.out]; exact hTR, rfl, yB.trans (hb5.mono yB.size)⟩
    · rw [hTR] at HC
      go_wp2_with ((go_at_call 11; refine (HC.out _ yL).mono ?_; rintro e w5 ⟨rfl, hb5⟩))
      go_ret2
      exact .inr ⟨by rw [HRR.out]; exact hTR, G, by have e := HM.out; subst e; rfl, hsz, by rw [HM.out]; exact yR.below hb5, by rw [HRR.out]; exact yL.below hb5, yB.trans (hb5.mono yB.size)⟩

set_option maxRecDepth 100000 in
set_option maxHeartbeats 2000000 in
theorem treePutImpl_at (B O c J k : Nat) (d : Int) (L : List Sl) (s : Sl) (w : World) (hl : L.length ≤ 1048576) (hcap : L.length ≤ c) (hcm : c ≤ 9223372036854775807) (h : Lies w (some ⟨B, O, none⟩) L) (hfit : ∀ s ∈ L, s.Fit) (hsfit : (s.at d).Fit) (hT : treeB L = true) (h300 : L.length ≤ 300) (hk : k < L.length) (hJ : J = k + 1) (p : Int) (hp : L[k].p = p) (hd : p + 1 = d) (hd0 : 0 ≤ p) (hd1 : p ≤ 100) :
    Calls Try.prog 6 #[.slice (some ⟨B, O, none⟩) L.length c, .int .i64 (k : Int), .agg #[.int .i64 s.t, .int .i64 s.k, .int .i64 s.e, .int .i64 s.b, .int .i64 s.r, .int .i64 s.d, .int .i64 s.g, .int .i64 s.q, .int .i64 s.f, .bool s.o, .int .i64 s.p]] w fun e w' => (treeB (putJ L J (s.at d)) = false ∧ e = .returned (.tuple #[.slice none 0 0, .bool false]) ∧ Below w.heap.size w w') ∨ (treeB (putJ L J (s.at d)) = true ∧ ∃ G, e = .returned (.tuple #[.slice (some ⟨G, 0, none⟩) (L.length + 1) (L.length + 1), .bool true]) ∧ w.heap.size ≤ G ∧ Room w' G (L.length + 1) ∧ Lies w' (some ⟨G, 0, none⟩) (putJ L J (s.at d)) ∧ Below w.heap.size w w') := by
  have hBlt : B < w.heap.size := (h.cells B O rfl k hk).lt
  have hJL : J ≤ L.length := by omega
  have hJc : J ≤ c := by omega
  have hJi : (k : Int) + 1 = (J : Int) := by omega
  have hJw : IntKind.i64.wrap ((k : Int) + 1) = (J : Int) := by rw [wrap_in (by omega) (by omega)]; exact hJi
  have hJw2 : IntKind.i64.wrap (J : Int) = (J : Int) := wrap_in (by omega) (by omega)
  have hk1 : ¬ (k : Int) = -1 := by omega
  have hk2 : (k : Int) < (L.length : Int) := by omega
  have hk3 : (0 : Int) ≤ (k : Int) := by omega
  obtain ⟨M, hM⟩ : ∃ M, L.length + 1 = M := ⟨_, rfl⟩
  obtain ⟨K, hK⟩ : ∃ K, J + 1 = K := ⟨_, rfl⟩
  have hM1 : (L.length : Int) + 1 = (M : Int) := by omega
  have HM : Hid _ := hM
  have HK : Hid _ := hK
  have HJ : Hid _ := hJ
  have hpw : IntKind.i64.wrap (p + 1) = d := by rw [wrap_in (by omega) (by omega)]; exact hd
  have hdw : IntKind.i64.wrap d = d := wrap_in (by omega) (by omega)
  have hpl : placeB L.length (k : Int) = true := by simp [placeB]; omega
  have HP : Hid _ := (fun w1 => hpl ▸ placeOk_any L.length (k : Int) w1 hl)
  clear hM hK hJ hpl
  have h0 := h.below ((Below.refl _ w).alloc (Nat.le_refl _) (.cells #[.int .i64 s.t, .int .i64 s.k, .int .i64 s.e, .int .i64 s.b, .int .i64 s.r, .int .i64 s.d, .int .i64 s.g, .int .i64 s.q, .int .i64 s.f, .bool s.o, .int .i64 s.p] 27))
  have HC0 : Hid _ := (fun w1 (h1 : Lies w1 (some ⟨B, O, none⟩) L) => hT ▸ treeOkImpl_any (some ⟨B, O, none⟩) L.length c L w1 rfl hl hcap hcm h1 hfit)
  clear hT
  go_enter Try.func6, Try.ntmps6
  go_upto_region 3 with (first
    | (go_at_call 11; refine (HC0.out _ h0).mono ?_; rintro e w1 ⟨rfl, hb1⟩)
    | (go_at_call 23; refine (HP.out _).mono ?_; rintro e w2 ⟨rfl, rfl⟩))
  have hS1 : At11 w1 w.heap.size 0 s := (At11.alloc w s 27).of fun j => (bcell hb1).1 _ _ (by simp)
  have hf1 : ∀ j, w1.frozen? ⟨w.heap.size, j, none⟩ = false := fun j => ((bcell hb1).2 _ _ (by simp)).trans (by go_simp)
  have hL1 : Lies w1 (some ⟨B, O, none⟩) L := h0.below hb1
  have hB1 : Below w.heap.size w w1 := ((Below.refl _ w).alloc (Nat.le_refl _) _).trans (hb1.mono (by simp))
  have hz1 : w.heap.size < w1.heap.size := hS1.lt
  have ck := (hL1.cells B O rfl k hk).c10
  rw [hp] at ck
  have hLb : Lies ((w1.setCell ⟨w.heap.size, 10, none⟩ (.int .i64 0)).setCell ⟨w.heap.size, 10, none⟩ (.int .i64 d)) (some ⟨B, O, none⟩) L := liesSet (liesSet hL1 _ _ _ (fun B' O' e => by cases e; omega)) _ _ _ (fun B' O' e => by cases e; omega)
  have hSb : At11 ((w1.setCell ⟨w.heap.size, 10, none⟩ (.int .i64 0)).setCell ⟨w.heap.size, 10, none⟩ (.int .i64 d)) w.heap.size 0 (s.at d) := at11_depth (at11_depth hS1 0) d
  have hBb : Below w.heap.size w ((w1.setCell ⟨w.heap.size, 10, none⟩ (.int .i64 0)).setCell ⟨w.heap.size, 10, none⟩ (.int .i64 d)) := (hB1.setCell (p := ⟨w.heap.size, 10, none⟩) (Nat.le_refl _) _).setCell (p := ⟨w.heap.size, 10, none⟩) (Nat.le_refl _) _
  have hbl : w.heap.size < ((w1.setCell ⟨w.heap.size, 10, none⟩ (.int .i64 0)).setCell ⟨w.heap.size, 10, none⟩ (.int .i64 d)).heap.size := hSb.lt
  have c10 := hS1.c10
  simp only [Nat.zero_add] at c10
  have hne : ¬ B = w.heap.size := by omega
  clear hb1 h0 hS1 hL1 hB1 hd hp
  go_upto_region 8 with fail
  generalize hWb : (w1.setCell ⟨w.heap.size, 10, none⟩ (.int .i64 0)).setCell ⟨w.heap.size, 10, none⟩ (.int .i64 d) = Wb at hLb hSb hBb hbl ⊢
  clear hWb c10 hf1 hz1 ck hJi hJw
  have hmk := makeSlots M (by have := HM.out; omega)
  have hBa : Below Wb.heap.size Wb (Wb.alloc (.cells (roomCells M) 27)) := (Below.refl _ _).alloc (Nat.le_refl _) _
  have hRa := Room.new Wb M 27
  have hLa := hLb.below hBa
  have hlen := cellsAll_length (L.take J)
  rw [List.length_take, Nat.min_eq_left hJL] at hlen
  have hJM : J ≤ M := by have := HM.out; omega
  have hBb' : B < Wb.heap.size := by have := hBb.size; omega
  have hcp1 := run_copy11 (Wb.alloc (.cells (roomCells M) 27)) 3 Wb.heap.size 0 M M ⟨B, O, none⟩ J c J (cellsAll (L.take J)) (Nat.min_eq_left hJM).symm hlen (lies_news (hLa.take J)) (fun j hj => by rw [Nat.zero_add]; exact hRa.c j (by omega)) (fun j hj => hRa.z _) (cellsAll_one' _)
  have hR1 : Room ((Wb.alloc (.cells (roomCells M) 27)).setCells Wb.heap.size 0 (cellsAll (L.take J))) Wb.heap.size M := room_setAll hRa (by omega)
  have hA1 : Lies ((Wb.alloc (.cells (roomCells M) 27)).setCells Wb.heap.size 0 (cellsAll (L.take J))) (some ⟨Wb.heap.size, 0, none⟩) (L.take J) := by
    have := lies_copy (A := []) (C := L.take J) (Lies.nil _ _) hRa (by rw [List.length_take]; simp; omega)
    simpa using this
  have hL1 : Lies ((Wb.alloc (.cells (roomCells M) 27)).setCells Wb.heap.size 0 (cellsAll (L.take J))) (some ⟨B, O, none⟩) L := lies_far hLa (by omega)
  have hS1 : At11 ((Wb.alloc (.cells (roomCells M) 27)).setCells Wb.heap.size 0 (cellsAll (L.take J))) w.heap.size 0 (s.at d) :=
    hSb.of fun j => (World.cell?_setCells_out _ _ _ _ _ (fun e => by have : w.heap.size = Wb.heap.size := e; omega)).trans ((bcell hBa).1 _ _ hbl)
  have hB1 : Below w.heap.size w ((Wb.alloc (.cells (roomCells M) 27)).setCells Wb.heap.size 0 (cellsAll (L.take J))) := below_setAll (hBb.alloc hBb.size _) hBb.size
  have hs1 : Wb.heap.size < ((Wb.alloc (.cells (roomCells M) 27)).setCells Wb.heap.size 0 (cellsAll (L.take J))).heap.size := hR1.lt
  go_upto_region 10 with fail
  generalize hWx : (Wb.alloc (.cells (roomCells M) 27)).setCells Wb.heap.size 0 (cellsAll (L.take J)) = Wx at hR1 hA1 hL1 hS1 hB1 hs1 ⊢
  generalize hG : Wb.heap.size = G at hR1 hA1 hs1 hbl hBb' ⊢
  clear hWx hG hcp1 hRa hLa hBa hmk hLb hSb hBb
  have hsz : w.heap.size ≤ G := by omega
  have zz := hR1.z
  obtain ⟨v0, e0⟩ := Option.isSome_iff_exists.1 (hR1.c (J * 11) (by have := HM.out; omega))
  obtain ⟨v1, e1⟩ := Option.isSome_iff_exists.1 (hR1.c (J * 11 + 1) (by have := HM.out; omega))
  obtain ⟨v2, e2⟩ := Option.isSome_iff_exists.1 (hR1.c (J * 11 + 2) (by have := HM.out; omega))
  obtain ⟨v3, e3⟩ := Option.isSome_iff_exists.1 (hR1.c (J * 11 + 3) (by have := HM.out; omega))
  obtain ⟨v4, e4⟩ := Option.isSome_iff_exists.1 (hR1.c (J * 11 + 4) (by have := HM.out; omega))
  obtain ⟨v5, e5⟩ := Option.isSome_iff_exists.1 (hR1.c (J * 11 + 5) (by have := HM.out; omega))
  obtain ⟨v6, e6⟩ := Option.isSome_iff_exists.1 (hR1.c (J * 11 + 6) (by have := HM.out; omega))
  obtain ⟨v7, e7⟩ := Option.isSome_iff_exists.1 (hR1.c (J * 11 + 7) (by have := HM.out; omega))
  obtain ⟨v8, e8⟩ := Option.isSome_iff_exists.1 (hR1.c (J * 11 + 8) (by have := HM.out; omega))
  obtain ⟨v9, e9⟩ := Option.isSome_iff_exists.1 (hR1.c (J * 11 + 9) (by have := HM.out; omega))
  obtain ⟨v10, e10⟩ := Option.isSome_iff_exists.1 (hR1.c (J * 11 + 10) (by have := HM.out; omega))
  obtain ⟨d0, d1, d2, d3, d4, d5, d6, d7, d8, d9, d10⟩ := hS1
  simp only [Nat.zero_add, Sl.at] at d0 d1 d2 d3 d4 d5 d6 d7 d8 d9 d10
  have hR2 : Room (((((((((((Wx.setCell ⟨G, J * 11, none⟩ (.int .i64 s.t)).setCell ⟨G, J * 11 + 1, none⟩ (.int .i64 s.k)).setCell ⟨G, J * 11 + 2, none⟩ (.int .i64 s.e)).setCell ⟨G, J * 11 + 3, none⟩ (.int .i64 s.b)).setCell ⟨G, J * 11 + 4, none⟩ (.int .i64 s.r)).setCell ⟨G, J * 11 + 5, none⟩ (.int .i64 s.d)).setCell ⟨G, J * 11 + 6, none⟩ (.int .i64 s.g)).setCell ⟨G, J * 11 + 7, none⟩ (.int .i64 s.q)).setCell ⟨G, J * 11 + 8, none⟩ (.int .i64 s.f)).setCell ⟨G, J * 11 + 9, none⟩ (.bool s.o)).setCell ⟨G, J * 11 + 10, none⟩ (.int .i64 d)) G M := hR1.set (s.at d) (O := J * 11) (by have := HM.out; omega)
  have hA2 : Lies (((((((((((Wx.setCell ⟨G, J * 11, none⟩ (.int .i64 s.t)).setCell ⟨G, J * 11 + 1, none⟩ (.int .i64 s.k)).setCell ⟨G, J * 11 + 2, none⟩ (.int .i64 s.e)).setCell ⟨G, J * 11 + 3, none⟩ (.int .i64 s.b)).setCell ⟨G, J * 11 + 4, none⟩ (.int .i64 s.r)).setCell ⟨G, J * 11 + 5, none⟩ (.int .i64 s.d)).setCell ⟨G, J * 11 + 6, none⟩ (.int .i64 s.g)).setCell ⟨G, J * 11 + 7, none⟩ (.int .i64 s.q)).setCell ⟨G, J * 11 + 8, none⟩ (.int .i64 s.f)).setCell ⟨G, J * 11 + 9, none⟩ (.bool s.o)).setCell ⟨G, J * 11 + 10, none⟩ (.int .i64 d)) (some ⟨G, 0, none⟩) (L.take J ++ [s.at d]) := by
    have e := lies_copy (C := [s.at d]) hA1 hR1 (by rw [List.length_take, Nat.min_eq_left hJL]; have := HM.out; simp; omega)
    rw [List.length_take, Nat.min_eq_left hJL, cellsAll_one] at e
    exact e
  have hL2 : Lies (((((((((((Wx.setCell ⟨G, J * 11, none⟩ (.int .i64 s.t)).setCell ⟨G, J * 11 + 1, none⟩ (.int .i64 s.k)).setCell ⟨G, J * 11 + 2, none⟩ (.int .i64 s.e)).setCell ⟨G, J * 11 + 3, none⟩ (.int .i64 s.b)).setCell ⟨G, J * 11 + 4, none⟩ (.int .i64 s.r)).setCell ⟨G, J * 11 + 5, none⟩ (.int .i64 s.d)).setCell ⟨G, J * 11 + 6, none⟩ (.int .i64 s.g)).setCell ⟨G, J * 11 + 7, none⟩ (.int .i64 s.q)).setCell ⟨G, J * 11 + 8, none⟩ (.int .i64 s.f)).setCell ⟨G, J * 11 + 9, none⟩ (.bool s.o)).setCell ⟨G, J * 11 + 10, none⟩ (.int .i64 d)) (some ⟨B, O, none⟩) L := hL1.apart (s.at d) (fun b o e => by cases e; omega) (O := J * 11)
  have hB2 : Below w.heap.size w (((((((((((Wx.setCell ⟨G, J * 11, none⟩ (.int .i64 s.t)).setCell ⟨G, J * 11 + 1, none⟩ (.int .i64 s.k)).setCell ⟨G, J * 11 + 2, none⟩ (.int .i64 s.e)).setCell ⟨G, J * 11 + 3, none⟩ (.int .i64 s.b)).setCell ⟨G, J * 11 + 4, none⟩ (.int .i64 s.r)).setCell ⟨G, J * 11 + 5, none⟩ (.int .i64 s.d)).setCell ⟨G, J * 11 + 6, none⟩ (.int .i64 s.g)).setCell ⟨G, J * 11 + 7, none⟩ (.int .i64 s.q)).setCell ⟨G, J * 11 + 8, none⟩ (.int .i64 s.f)).setCell ⟨G, J * 11 + 9, none⟩ (.bool s.o)).setCell ⟨G, J * 11 + 10, none⟩ (.int .i64 d)) := below_setCells hB1 hsz (s.at d) (O := J * 11)
  have hJM1 : (J : Int) < (M : Int) := by have := HM.out; omega
  have hJM2 : J < M := by omega
  go_upto_region 11 with fail
  generalize hWy : (((((((((((Wx.setCell ⟨G, J * 11, none⟩ (.int .i64 s.t)).setCell ⟨G, J * 11 + 1, none⟩ (.int .i64 s.k)).setCell ⟨G, J * 11 + 2, none⟩ (.int .i64 s.e)).setCell ⟨G, J * 11 + 3, none⟩ (.int .i64 s.b)).setCell ⟨G, J * 11 + 4, none⟩ (.int .i64 s.r)).setCell ⟨G, J * 11 + 5, none⟩ (.int .i64 s.d)).setCell ⟨G, J * 11 + 6, none⟩ (.int .i64 s.g)).setCell ⟨G, J * 11 + 7, none⟩ (.int .i64 s.q)).setCell ⟨G, J * 11 + 8, none⟩ (.int .i64 s.f)).setCell ⟨G, J * 11 + 9, none⟩ (.bool s.o)).setCell ⟨G, J * 11 + 10, none⟩ (.int .i64 d)) = Wy at hR2 hA2 hL2 hB2 ⊢
  clear hWy hR1 hA1 hL1 hB1 hs1 zz e0 e1 e2 e3 e4 e5 e6 e7 e8 e9 e10 d0 d1 d2 d3 d4 d5 d6 d7 d8 d9 d10
  have hKJ : Hid (J + 1 = K) := HK
  have hq5 : (K : Int) ≤ (M : Int) := by have := HM.out; have := HK.out; omega
  have hq6 : K ≤ M := by omega
  have hq7 : IntKind.i64.wrap ((J : Int) + 1) = (K : Int) := by rw [wrap_in (by omega) (by omega)]; have := HK.out; omega
  have hq8 : (J : Int) + 1 = (K : Int) := by have := HK.out; omega
  have hq9 : IntKind.i64.wrap (K : Int) = (K : Int) := wrap_in (by omega) (by omega)
  have hq10 : (J : Int) ≤ (L.length : Int) := by omega
  have hq11 : (0 : Int) ≤ (J : Int) := by omega
  have hq12 : (0 : Int) ≤ (K : Int) := by omega
  have hfR : ∀ x ∈ putJ L J (s.at d), x.Fit := by
    intro x hx
    rcases List.mem_append.1 hx with hx | hx
    · exact hfit x (List.mem_of_mem_take hx)
    · rcases List.mem_append.1 hx with hx | hx
      · rw [List.mem_singleton.1 hx]; exact hsfit
      · exact hfit x (List.mem_of_mem_drop hx)
  have hlR : (putJ L J (s.at d)).length = M := by rw [← HM.out]; simp [putJ]; omega
  by_cases hlast : J < L.length
  · have hq0 : ¬ M - K = 0 := by have := HM.out; have := HK.out; omega
    have hq1 : ¬ (M : Int) - (K : Int) = 0 := by have := HM.out; have := HK.out; omega
    have hq2 : ¬ M = K := by have := HM.out; have := HK.out; omega
    have hq3 : ¬ M ≤ K := by have := HM.out; have := HK.out; omega
    have hp0 : ¬ c - J = 0 := by omega
    have hp1 : ¬ (c : Int) - (J : Int) = 0 := by omega
    have hp2 : ¬ c = J := by omega
    have hp3 : ¬ c ≤ J := by omega
    have hdl := cellsAll_length (L.drop J)
    rw [List.length_drop] at hdl
    have hMK : M - K = L.length - J := by have := HM.out; have := HK.out; omega
    have hcp2 := run_copy11 Wy.drew 3 G (K * 11) (M - K) (M - K) ⟨B, O + J * 11, none⟩ (L.length - J) (c - J) (M - K) (cellsAll (L.drop J)) (by rw [hMK]; exact (Nat.min_self _).symm) (by rw [hMK]; exact hdl) (fun j v hj => lies_news (lies_drop hL2 J) j v hj) (fun j hj => hR2.c _ (by omega)) (fun j hj => hR2.z _) (cellsAll_one' _)
    have yL : Lies (Wy.drew.setCells G (K * 11) (cellsAll (L.drop J))) (some ⟨G, 0, none⟩) (putJ L J (s.at d)) := by
      have e := lies_copy (W := Wy.drew) (n := M) (A := L.take J ++ [s.at d]) (C := L.drop J) ⟨hA2.place, fun B O e i hi => (hA2.cells B O e i hi).of fun _ => rfl⟩ ⟨fun j hj => hR2.c j hj, fun j => hR2.z j, hR2.lt⟩ (by rw [List.length_append, List.length_take, List.length_drop]; have := HM.out; simp; omega)
      rw [List.length_append, List.length_take, Nat.min_eq_left hJL, show J + [s.at d].length = K from HK.out, List.append_assoc] at e
      exact e
    have yR : Room (Wy.drew.setCells G (K * 11) (cellsAll (L.drop J))) G M := room_setAll ⟨fun j hj => hR2.c j hj, fun j => hR2.z j, hR2.lt⟩ (by omega)
    have yB : Below w.heap.size w (Wy.drew.setCells G (K * 11) (cellsAll (L.drop J))) := below_setAll hB2.drew hsz
    generalize hRR : putJ L J (s.at d) = R at yL hfR hlR ⊢
    have HRR : Hid _ := hRR
    clear hRR hMK hdl hL2 hA2
    go_wp2
    go_region

    generalize hYY : Wy.drew.setCells G (K * 11) (cellsAll (L.drop J)) = Y at yL yR yB ⊢
    clear hYY hcp2
    have HC : Hid _ := (fun w1 (h1 : Lies w1 (some ⟨G, 0, none⟩) R) => treeOkImpl_any (some ⟨G, 0, none⟩) M M R w1 hlR.symm (by have := HM.out; omega) (Nat.le_refl _) (by have := HM.out; omega) h1 hfR)
    have hyz := yR.lt
    cases hTR : treeB R
    · rw [hTR] at HC
      go_wp2_with ((go_at_call 11; refine (HC.out _ yL).mono ?_; rintro e w5 ⟨rfl, hb5⟩))
      go_ret2
      exact .inl ⟨by rw [HRR.out]; exact hTR, rfl, yB.trans (hb5.mono yB.size)⟩
    · rw [hTR] at HC
      go_wp2_with ((go_at_call 11; refine (HC.out _ yL).mono ?_; rintro e w5 ⟨rfl, hb5⟩))
      go_ret2
      exact .inr ⟨by rw [HRR.out]; exact hTR, G, by have e := HM.out; subst e; rfl, hsz, by rw [HM.out]; exact yR.below hb5, by rw [HRR.out]; exact yL.below hb5, yB.trans (hb5.mono yB.size)⟩
  · by_cases hcJ : c ≤ J
    · have hq0 : M - K = 0 := by have := HM.out; have := HK.out; omega
      have hq1 : (M : Int) - (K : Int) = 0 := by have := HM.out; have := HK.out; omega
      have hLJ : L.length - J = 0 := by omega
      have hLJ1 : (L.length : Int) - (J : Int) = 0 := by omega
      have hp0 : c - J = 0 := by omega
      have hp1 : (c : Int) - (J : Int) = 0 := by omega
      have hcp2 := run_copy11 Wy.drew 3 G 0 0 0 ⟨B, O, none⟩ 0 0 0 [] rfl rfl (fun j v hj => by simp at hj) (fun j hj => by simp at hj) (fun j hj => by simp at hj) (fun v hv => by simp at hv)
      simp only [World.setCells] at hcp2
      have yL : Lies Wy.drew (some ⟨G, 0, none⟩) (putJ L J (s.at d)) := by
        rw [putJ, List.drop_eq_nil_of_le (by omega), List.append_nil]
        exact ⟨hA2.place, fun B O e i hi => (hA2.cells B O e i hi).of fun _ => rfl⟩
      have yR : Room Wy.drew G M := ⟨fun j hj => hR2.c j hj, fun j => hR2.z j, hR2.lt⟩
      have yB : Below w.heap.size w Wy.drew := hB2.drew
      generalize hRR : putJ L J (s.at d) = R at yL hfR hlR ⊢
      have HRR : Hid _ := hRR
      clear hRR hL2 hA2
      go_wp2
      go_region

      generalize hYY : Wy.drew = Y at yL yR yB ⊢
      clear hYY hcp2
      have HC : Hid _ := (fun w1 (h1 : Lies w1 (some ⟨G, 0, none⟩) R) => treeOkImpl_any (some ⟨G, 0, none⟩) M M R w1 hlR.symm (by have := HM.out; omega) (Nat.le_refl _) (by have := HM.out; omega) h1 hfR)
      have hyz := yR.lt
      cases hTR : treeB R
      · rw [hTR] at HC
        go_wp2_with ((go_at_call 11; refine (HC.out _ yL).mono ?_; rintro e w5 ⟨rfl, hb5⟩))
        go_ret2
        exact .inl ⟨by rw [HRR.out]; exact hTR, rfl, yB.trans (hb5.mono yB.size)⟩
      · rw [hTR] at HC
        go_wp2_with ((go_at_call 11; refine (HC.out _ yL).mono ?_; rintro e w5 ⟨rfl, hb5⟩))
        go_ret2
        exact .inr ⟨by rw [HRR.out]; exact hTR, G, by have e := HM.out; subst e; rfl, hsz, by rw [HM.out]; exact yR.below hb5, by rw [HRR.out]; exact yL.below hb5, yB.trans (hb5.mono yB.size)⟩

    · have hq0 : M - K = 0 := by have := HM.out; have := HK.out; omega
      have hq1 : (M : Int) - (K : Int) = 0 := by have := HM.out; have := HK.out; omega
      have hLJ : L.length - J = 0 := by omega
      have hLJ1 : (L.length : Int) - (J : Int) = 0 := by omega
      have hp0 : ¬ c - J = 0 := by omega
      have hp1 : ¬ (c : Int) - (J : Int) = 0 := by omega
      have hp2 : ¬ c = J := by omega
      have hcp2 := run_copy11 Wy.drew 3 G 0 0 0 ⟨B, O + J * 11, none⟩ 0 (c - J) 0 [] rfl rfl (fun j v hj => by simp at hj) (fun j hj => by simp at hj) (fun j hj => by simp at hj) (fun v hv => by simp at hv)
      simp only [World.setCells] at hcp2
      have yL : Lies Wy.drew (some ⟨G, 0, none⟩) (putJ L J (s.at d)) := by
        rw [putJ, List.drop_eq_nil_of_le (by omega), List.append_nil]
        exact ⟨hA2.place, fun B O e i hi => (hA2.cells B O e i hi).of fun _ => rfl⟩
      have yR : Room Wy.drew G M := ⟨fun j hj => hR2.c j hj, fun j => hR2.z j, hR2.lt⟩
      have yB : Below w.heap.size w Wy.drew := hB2.drew
      generalize hRR : putJ L J (s.at d) = R at yL hfR hlR ⊢
      have HRR : Hid _ := hRR
      clear hRR hL2 hA2
      go_wp2
      go_region

      generalize hYY : Wy.drew = Y at yL yR yB ⊢
      clear hYY hcp2
      have HC : Hid _ := (fun w1 (h1 : Lies w1 (some ⟨G, 0, none⟩) R) => treeOkImpl_any (some ⟨G, 0, none⟩) M M R w1 hlR.symm (by have := HM.out; omega) (Nat.le_refl _) (by have := HM.out; omega) h1 hfR)
      have hyz := yR.lt
      cases hTR : treeB R
      · rw [hTR] at HC
        go_wp2_with ((go_at_call 11; refine (HC.out _ yL).mono ?_; rintro e w5 ⟨rfl, hb5⟩))
        go_ret2
        exact .inl ⟨by rw [HRR.out]; exact hTR, rfl, yB.trans (hb5.mono yB.size)⟩
      · rw [hTR] at HC
        go_wp2_with ((go_at_call 11; refine (HC.out _ yL).mono ?_; rintro e w5 ⟨rfl, hb5⟩))
        go_ret2
        exact .inr ⟨by rw [HRR.out]; exact hTR, G, by have e := HM.out; subst e; rfl, hsz, by rw [HM.out]; exact yR.below hb5, by rw [HRR.out]; exact yL.below hb5, yB.trans (hb5.mono yB.size)⟩

end Go.Proofs.Ytalncgmncafhjaa
