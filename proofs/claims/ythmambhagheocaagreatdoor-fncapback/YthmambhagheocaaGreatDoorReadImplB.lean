/-
  The parts of CapRead of the program: the pieces of a text, its star, what stands behind a kind, one part read into a capability.
-/
import Derived.Test.YthmambhagheocaaGreatDoorReadImplA
import Derived.Lib.SplitLaws
namespace Go.Proofs.YthmambhagheocaaGreatDoor
open Go.ChangeShapes Go.WideShapes Go.ChangeAt Go.RowKit
set_option linter.unusedVariables false

def strV (l : List UInt8) : Value := .string ⟨l.toArray⟩
theorem pieces_is (s : List UInt8) : (Lib.splitB ⟨#[32]⟩ 0 (Lib.countB ⟨s.toArray⟩ ⟨#[32]⟩) ⟨s.toArray⟩).map Value.string = (cutL s).map strV := by
  have h := Lib.splitB_data ⟨#[32]⟩ 0 (Lib.countB ⟨s.toArray⟩ ⟨#[32]⟩) ⟨s.toArray⟩
  have h2 : Lib.splitK (⟨#[32]⟩ : ByteArray).data.toList 0 (Lib.countB ⟨s.toArray⟩ ⟨#[32]⟩) (⟨s.toArray⟩ : ByteArray).data.toList = cutL s := split_cut s.length s (Nat.le_refl _)
  rw [h2] at h
  rw [← h, List.map_map]
  apply List.map_congr_left
  intro x _
  rfl
theorem pieces_len (s : List UInt8) : Lib.countB ⟨s.toArray⟩ ⟨#[32]⟩ + 1 = (cutL s).length := by
  have h := Lib.splitB_all ⟨#[32]⟩ (by decide) 0 _ ⟨s.toArray⟩ rfl
  have h2 := congrArg List.length (pieces_is s)
  rw [List.length_map, List.length_map, h] at h2
  exact h2
theorem split_any (s : List UInt8) (w : World) (hl : s.length < 4294967281) (hL : Laid w) :
    Calls Tryz.prog 18 #[.string ⟨s.toArray⟩, .string ⟨#[32]⟩] w fun e w' => e = .returned (.slice (some ⟨w.heap.size, 0, none⟩) (cutL s).length (cutL s).length) ∧ w' = w.alloc (.cells ((cutL s).map strV).toArray 9) := by
  obtain ⟨m, hm⟩ := hL.max
  refine (Tryz.strings_Split ⟨s.toArray⟩ ⟨#[32]⟩ m w (by simpa [ByteArray.size] using hl) hm (by decide)).mono ?_
  rintro e w' ⟨rfl, rfl⟩
  rw [pieces_is, pieces_len]
  exact ⟨rfl, rfl⟩

theorem star_is (l : List UInt8) : (Lib.trimSuffix l [42], Lib.hasSuffix l [42]) = cutStar l := by
  unfold Lib.trimSuffix Lib.hasSuffix cutStar
  by_cases h : l.getLast? = some 42
  · rw [if_pos h]
    obtain ⟨t, rfl⟩ : ∃ t, l = t ++ [42] := by
      have hne : l ≠ [] := by intro e; subst e; simp at h
      rw [List.getLast?_eq_some_getLast hne] at h
      have := List.dropLast_concat_getLast hne
      rw [Option.some.inj h] at this
      exact ⟨_, this.symm⟩
    have hs : [42].isSuffixOf (t ++ [42]) = true := by rw [List.isSuffixOf_iff_suffix]; exact ⟨t, rfl⟩
    rw [hs, if_pos rfl]
    simp
  · rw [if_neg h]
    have hs : [42].isSuffixOf l = false := by
      rw [Bool.eq_false_iff]; intro e
      rw [List.isSuffixOf_iff_suffix] at e
      obtain ⟨t, rfl⟩ := e
      apply h; simp
    rw [hs]; rfl
theorem star_any (l : List UInt8) (w : World) (hl : l.length ≤ 9223372036854775807) :
    Calls Tryz.prog 19 #[.string ⟨l.toArray⟩, .string ⟨#[42]⟩] w fun e w' => e = .returned (.tuple #[strV (cutStar l).1, .bool (cutStar l).2]) ∧ w' = w := by
  refine (Tryz.strings_CutSuffix ⟨l.toArray⟩ ⟨#[42]⟩ w (by simpa [ByteArray.size] using hl)).mono ?_
  rintro e w' ⟨rfl, rfl⟩
  have h : (Lib.trimSuffix (⟨l.toArray⟩ : ByteArray).data.toList (⟨#[42]⟩ : ByteArray).data.toList, Lib.hasSuffix (⟨l.toArray⟩ : ByteArray).data.toList (⟨#[42]⟩ : ByteArray).data.toList) = cutStar l := star_is l
  rw [← h]
  exact ⟨rfl, rfl⟩

theorem partsOf_any (k : Int) (w : World) (h0 : 1 ≤ k) (h1 : k ≤ 7) :
    Calls Tryz.prog 21 #[kindV k] w fun e w' => e = .returned (.slice (some ⟨w.heap.size, 0, none⟩) (partsI k).length (partsI k).length) ∧ w' = w.alloc (.cells ((partsI k).map (Value.int .i64)).toArray 53) := by
  rcases seven h0 h1 with h | h | h | h | h | h | h <;> subst h
  · exact parts_1 w
  · exact parts_2 w
  · exact parts_3 w
  · exact parts_4 w
  · exact parts_5 w
  · exact parts_6 w
  · exact parts_7 w

theorem below_set9m {n m : Nat} {w W : World} (h : Below n w W) (hm : n ≤ m) (v0 v1 v2 v3 v4 v5 v6 v7 v8 : Value) :
    Below n w (((((((((W.setCell ⟨m, 0, none⟩ v0).setCell ⟨m, 1, none⟩ v1).setCell ⟨m, 2, none⟩ v2).setCell ⟨m, 3, none⟩ v3).setCell ⟨m, 4, none⟩ v4).setCell ⟨m, 5, none⟩ v5).setCell ⟨m, 6, none⟩ v6).setCell ⟨m, 7, none⟩ v7).setCell ⟨m, 8, none⟩ v8) :=
  ((((((((h.setCell (p := ⟨m, 0, none⟩) hm v0).setCell (p := ⟨m, 1, none⟩) hm v1).setCell (p := ⟨m, 2, none⟩) hm v2).setCell (p := ⟨m, 3, none⟩) hm v3).setCell (p := ⟨m, 4, none⟩) hm v4).setCell (p := ⟨m, 5, none⟩) hm v5).setCell (p := ⟨m, 6, none⟩) hm v6).setCell (p := ⟨m, 7, none⟩) hm v7).setCell (p := ⟨m, 8, none⟩) hm v8

set_option maxRecDepth 100000 in
set_option maxHeartbeats 2000000 in
theorem withPart_0 (c : CQ) (t : List UInt8) (w : World) (hl : t.length ≤ 281474976710656) (hL : Laid w) :
    Calls Tryz.prog 22 #[.agg #[.int .i64 c.k, .int .i64 c.a, .int .i64 c.b, .int .i64 c.r, .int .i64 c.d, .int .i64 c.g, .int .i64 c.q, .int .i64 c.f, .bool c.o], .int .i64 0, .string ⟨t.toArray⟩] w fun e w' => (∃ c' : CQ, e = .returned (.tuple #[.agg #[.int .i64 c'.k, .int .i64 c'.a, .int .i64 c'.b, .int .i64 c'.r, .int .i64 c'.d, .int .i64 c'.g, .int .i64 c'.q, .int .i64 c'.f, .bool c'.o], .bool (partI 0 t).isSome]) ∧ ∀ m, partI 0 t = some m → c' = setPart c 0 m) ∧ Below w.heap.size w w' := by
  obtain ⟨ck, ca, cb, cr, cd, cg, cq, cf, co⟩ := c
  have hp : partI 0 t = numI t := by unfold partI; rw [if_neg (by decide)]
  rw [hp]
  have x0 : Bx ((w.alloc (.cells #[.int .i64 ck, .int .i64 ca, .int .i64 cb, .int .i64 cr, .int .i64 cd, .int .i64 cg, .int .i64 cq, .int .i64 cf, .bool co] 24)).alloc (.cells #[.int .i64 0, .int .i64 0, .int .i64 0, .int .i64 0, .int .i64 0, .int .i64 0, .int .i64 0, .int .i64 0, .bool false] 24)) w.heap.size 24 [.int .i64 ck, .int .i64 ca, .int .i64 cb, .int .i64 cr, .int .i64 cd, .int .i64 cg, .int .i64 cq, .int .i64 cf, .bool co] := (Bx.new w 24 [.int .i64 ck, .int .i64 ca, .int .i64 cb, .int .i64 cr, .int .i64 cd, .int .i64 cg, .int .i64 cq, .int .i64 cf, .bool co]).alloc _
  have x1 : Bx ((w.alloc (.cells #[.int .i64 ck, .int .i64 ca, .int .i64 cb, .int .i64 cr, .int .i64 cd, .int .i64 cg, .int .i64 cq, .int .i64 cf, .bool co] 24)).alloc (.cells #[.int .i64 0, .int .i64 0, .int .i64 0, .int .i64 0, .int .i64 0, .int .i64 0, .int .i64 0, .int .i64 0, .bool false] 24)) (w.heap.size + 1) 24 [.int .i64 0, .int .i64 0, .int .i64 0, .int .i64 0, .int .i64 0, .int .i64 0, .int .i64 0, .int .i64 0, .bool false] := Bx.newAt _ 24 [.int .i64 0, .int .i64 0, .int .i64 0, .int .i64 0, .int .i64 0, .int .i64 0, .int .i64 0, .int .i64 0, .bool false] (by simp)
  have b0 : Below w.heap.size w ((w.alloc (.cells #[.int .i64 ck, .int .i64 ca, .int .i64 cb, .int .i64 cr, .int .i64 cd, .int .i64 cg, .int .i64 cq, .int .i64 cf, .bool co] 24)).alloc (.cells #[.int .i64 0, .int .i64 0, .int .i64 0, .int .i64 0, .int .i64 0, .int .i64 0, .int .i64 0, .int .i64 0, .bool false] 24)) := ((Below.refl _ _).alloc (Nat.le_refl _) _).alloc (by simp) _
  go_enter Tryz.func22, Tryz.ntmps22
  go_upto_region 18 with (go_at_call 51; refine Calls.mono (number_any t _ hl (hL.below b0)) ?_; rintro e w1 ⟨⟨n, rfl, hn⟩, hb1⟩; replace x0 := x0.below hb1; replace x1 := x1.below hb1; replace b0 := b0.trans (hb1.mono b0.size); have z0 := x0.cell 1 _ rfl; have zz := x0.frozen 1)
  replace x0 := x0.set 1 (.int .i64 n)
  replace x1 := x1.far (c := w.heap.size) (k := 1) (.int .i64 n) (by omega)
  replace b0 := b0.setCell (p := ⟨w.heap.size, 1, none⟩) (Nat.le_refl _) (.int .i64 n)
  simp only [List.set] at x0
  have HN : Hid _ := hn
  clear hn z0 zz hb1
  generalize w1.setCell ⟨w.heap.size, 1, none⟩ (.int .i64 n) = w2 at x0 x1 b0 ⊢
  have g0 := x0.cell 0 _ rfl; have g1 := x0.cell 1 _ rfl; have g2 := x0.cell 2 _ rfl; have g3 := x0.cell 3 _ rfl; have g4 := x0.cell 4 _ rfl; have g5 := x0.cell 5 _ rfl; have g6 := x0.cell 6 _ rfl; have g7 := x0.cell 7 _ rfl; have g8 := x0.cell 8 _ rfl
  have q0 := x1.cell 0 _ rfl; have q1 := x1.cell 1 _ rfl; have q2 := x1.cell 2 _ rfl; have q3 := x1.cell 3 _ rfl; have q4 := x1.cell 4 _ rfl; have q5 := x1.cell 5 _ rfl; have q6 := x1.cell 6 _ rfl; have q7 := x1.cell 7 _ rfl; have q8 := x1.cell 8 _ rfl
  have qz := x1.frozen
  generalize hok : (numI t).isSome = ok at *
  go_wp2_with fail
  refine bodyPost_ret (v := .tuple #[.agg #[.int .i64 ck, .int .i64 n, .int .i64 cb, .int .i64 cr, .int .i64 cd, .int .i64 cg, .int .i64 cq, .int .i64 cf, .bool co], .bool ok]) (by simp [results, Tryz.results22, go_sem, *]) rfl ⟨⟨⟨ck, n, cb, cr, cd, cg, cq, cf, co⟩, by rw [hok], fun m hm => ?_⟩, below_set9m b0 (by omega) _ _ _ _ _ _ _ _ _⟩
  have e := HN.out m hm
  subst e
  rfl

set_option maxRecDepth 100000 in
set_option maxHeartbeats 2000000 in
theorem withPart_1 (c : CQ) (t : List UInt8) (w : World) (hl : t.length ≤ 281474976710656) (hL : Laid w) :
    Calls Tryz.prog 22 #[.agg #[.int .i64 c.k, .int .i64 c.a, .int .i64 c.b, .int .i64 c.r, .int .i64 c.d, .int .i64 c.g, .int .i64 c.q, .int .i64 c.f, .bool c.o], .int .i64 1, .string ⟨t.toArray⟩] w fun e w' => (∃ c' : CQ, e = .returned (.tuple #[.agg #[.int .i64 c'.k, .int .i64 c'.a, .int .i64 c'.b, .int .i64 c'.r, .int .i64 c'.d, .int .i64 c'.g, .int .i64 c'.q, .int .i64 c'.f, .bool c'.o], .bool (partI 1 t).isSome]) ∧ ∀ m, partI 1 t = some m → c' = setPart c 1 m) ∧ Below w.heap.size w w' := by
  obtain ⟨ck, ca, cb, cr, cd, cg, cq, cf, co⟩ := c
  have hp : partI 1 t = numI t := by unfold partI; rw [if_neg (by decide)]
  rw [hp]
  have x0 : Bx ((w.alloc (.cells #[.int .i64 ck, .int .i64 ca, .int .i64 cb, .int .i64 cr, .int .i64 cd, .int .i64 cg, .int .i64 cq, .int .i64 cf, .bool co] 24)).alloc (.cells #[.int .i64 0, .int .i64 0, .int .i64 0, .int .i64 0, .int .i64 0, .int .i64 0, .int .i64 0, .int .i64 0, .bool false] 24)) w.heap.size 24 [.int .i64 ck, .int .i64 ca, .int .i64 cb, .int .i64 cr, .int .i64 cd, .int .i64 cg, .int .i64 cq, .int .i64 cf, .bool co] := (Bx.new w 24 [.int .i64 ck, .int .i64 ca, .int .i64 cb, .int .i64 cr, .int .i64 cd, .int .i64 cg, .int .i64 cq, .int .i64 cf, .bool co]).alloc _
  have x1 : Bx ((w.alloc (.cells #[.int .i64 ck, .int .i64 ca, .int .i64 cb, .int .i64 cr, .int .i64 cd, .int .i64 cg, .int .i64 cq, .int .i64 cf, .bool co] 24)).alloc (.cells #[.int .i64 0, .int .i64 0, .int .i64 0, .int .i64 0, .int .i64 0, .int .i64 0, .int .i64 0, .int .i64 0, .bool false] 24)) (w.heap.size + 1) 24 [.int .i64 0, .int .i64 0, .int .i64 0, .int .i64 0, .int .i64 0, .int .i64 0, .int .i64 0, .int .i64 0, .bool false] := Bx.newAt _ 24 [.int .i64 0, .int .i64 0, .int .i64 0, .int .i64 0, .int .i64 0, .int .i64 0, .int .i64 0, .int .i64 0, .bool false] (by simp)
  have b0 : Below w.heap.size w ((w.alloc (.cells #[.int .i64 ck, .int .i64 ca, .int .i64 cb, .int .i64 cr, .int .i64 cd, .int .i64 cg, .int .i64 cq, .int .i64 cf, .bool co] 24)).alloc (.cells #[.int .i64 0, .int .i64 0, .int .i64 0, .int .i64 0, .int .i64 0, .int .i64 0, .int .i64 0, .int .i64 0, .bool false] 24)) := ((Below.refl _ _).alloc (Nat.le_refl _) _).alloc (by simp) _
  go_enter Tryz.func22, Tryz.ntmps22
  go_upto_region 18 with (go_at_call 51; refine Calls.mono (number_any t _ hl (hL.below b0)) ?_; rintro e w1 ⟨⟨n, rfl, hn⟩, hb1⟩; replace x0 := x0.below hb1; replace x1 := x1.below hb1; replace b0 := b0.trans (hb1.mono b0.size); have z0 := x0.cell 2 _ rfl; have zz := x0.frozen 2)
  replace x0 := x0.set 2 (.int .i64 n)
  replace x1 := x1.far (c := w.heap.size) (k := 2) (.int .i64 n) (by omega)
  replace b0 := b0.setCell (p := ⟨w.heap.size, 2, none⟩) (Nat.le_refl _) (.int .i64 n)
  simp only [List.set] at x0
  have HN : Hid _ := hn
  clear hn z0 zz hb1
  generalize w1.setCell ⟨w.heap.size, 2, none⟩ (.int .i64 n) = w2 at x0 x1 b0 ⊢
  have g0 := x0.cell 0 _ rfl; have g1 := x0.cell 1 _ rfl; have g2 := x0.cell 2 _ rfl; have g3 := x0.cell 3 _ rfl; have g4 := x0.cell 4 _ rfl; have g5 := x0.cell 5 _ rfl; have g6 := x0.cell 6 _ rfl; have g7 := x0.cell 7 _ rfl; have g8 := x0.cell 8 _ rfl
  have q0 := x1.cell 0 _ rfl; have q1 := x1.cell 1 _ rfl; have q2 := x1.cell 2 _ rfl; have q3 := x1.cell 3 _ rfl; have q4 := x1.cell 4 _ rfl; have q5 := x1.cell 5 _ rfl; have q6 := x1.cell 6 _ rfl; have q7 := x1.cell 7 _ rfl; have q8 := x1.cell 8 _ rfl
  have qz := x1.frozen
  generalize hok : (numI t).isSome = ok at *
  go_wp2_with fail
  refine bodyPost_ret (v := .tuple #[.agg #[.int .i64 ck, .int .i64 ca, .int .i64 n, .int .i64 cr, .int .i64 cd, .int .i64 cg, .int .i64 cq, .int .i64 cf, .bool co], .bool ok]) (by simp [results, Tryz.results22, go_sem, *]) rfl ⟨⟨⟨ck, ca, n, cr, cd, cg, cq, cf, co⟩, by rw [hok], fun m hm => ?_⟩, below_set9m b0 (by omega) _ _ _ _ _ _ _ _ _⟩
  have e := HN.out m hm
  subst e
  rfl

set_option maxRecDepth 100000 in
set_option maxHeartbeats 2000000 in
theorem withPart_2 (c : CQ) (t : List UInt8) (w : World) (hl : t.length ≤ 281474976710656) (hL : Laid w) :
    Calls Tryz.prog 22 #[.agg #[.int .i64 c.k, .int .i64 c.a, .int .i64 c.b, .int .i64 c.r, .int .i64 c.d, .int .i64 c.g, .int .i64 c.q, .int .i64 c.f, .bool c.o], .int .i64 2, .string ⟨t.toArray⟩] w fun e w' => (∃ c' : CQ, e = .returned (.tuple #[.agg #[.int .i64 c'.k, .int .i64 c'.a, .int .i64 c'.b, .int .i64 c'.r, .int .i64 c'.d, .int .i64 c'.g, .int .i64 c'.q, .int .i64 c'.f, .bool c'.o], .bool (partI 2 t).isSome]) ∧ ∀ m, partI 2 t = some m → c' = setPart c 2 m) ∧ Below w.heap.size w w' := by
  obtain ⟨ck, ca, cb, cr, cd, cg, cq, cf, co⟩ := c
  have hp : partI 2 t = rightsI t := by unfold partI; rw [if_pos rfl]
  rw [hp]
  have x0 : Bx ((w.alloc (.cells #[.int .i64 ck, .int .i64 ca, .int .i64 cb, .int .i64 cr, .int .i64 cd, .int .i64 cg, .int .i64 cq, .int .i64 cf, .bool co] 24)).alloc (.cells #[.int .i64 0, .int .i64 0, .int .i64 0, .int .i64 0, .int .i64 0, .int .i64 0, .int .i64 0, .int .i64 0, .bool false] 24)) w.heap.size 24 [.int .i64 ck, .int .i64 ca, .int .i64 cb, .int .i64 cr, .int .i64 cd, .int .i64 cg, .int .i64 cq, .int .i64 cf, .bool co] := (Bx.new w 24 [.int .i64 ck, .int .i64 ca, .int .i64 cb, .int .i64 cr, .int .i64 cd, .int .i64 cg, .int .i64 cq, .int .i64 cf, .bool co]).alloc _
  have x1 : Bx ((w.alloc (.cells #[.int .i64 ck, .int .i64 ca, .int .i64 cb, .int .i64 cr, .int .i64 cd, .int .i64 cg, .int .i64 cq, .int .i64 cf, .bool co] 24)).alloc (.cells #[.int .i64 0, .int .i64 0, .int .i64 0, .int .i64 0, .int .i64 0, .int .i64 0, .int .i64 0, .int .i64 0, .bool false] 24)) (w.heap.size + 1) 24 [.int .i64 0, .int .i64 0, .int .i64 0, .int .i64 0, .int .i64 0, .int .i64 0, .int .i64 0, .int .i64 0, .bool false] := Bx.newAt _ 24 [.int .i64 0, .int .i64 0, .int .i64 0, .int .i64 0, .int .i64 0, .int .i64 0, .int .i64 0, .int .i64 0, .bool false] (by simp)
  have b0 : Below w.heap.size w ((w.alloc (.cells #[.int .i64 ck, .int .i64 ca, .int .i64 cb, .int .i64 cr, .int .i64 cd, .int .i64 cg, .int .i64 cq, .int .i64 cf, .bool co] 24)).alloc (.cells #[.int .i64 0, .int .i64 0, .int .i64 0, .int .i64 0, .int .i64 0, .int .i64 0, .int .i64 0, .int .i64 0, .bool false] 24)) := ((Below.refl _ _).alloc (Nat.le_refl _) _).alloc (by simp) _
  go_enter Tryz.func22, Tryz.ntmps22
  go_upto_region 4 with (go_at_call 50; refine Calls.mono (rightsI_any t _) ?_; rintro e w1 ⟨rfl, hb1⟩; simp only [optV]; replace x0 := x0.below hb1; replace x1 := x1.below hb1; replace b0 := b0.trans (hb1.mono b0.size); have z0 := x0.cell 3 _ rfl; have zz := x0.frozen 3)
  have hn : ∀ m, rightsI t = some m → (rightsI t).getD 0 = m := fun m hm => by rw [hm]; rfl
  generalize (rightsI t).getD 0 = n at hn ⊢
  replace x0 := x0.set 3 (.int .i64 n)
  replace x1 := x1.far (c := w.heap.size) (k := 3) (.int .i64 n) (by omega)
  replace b0 := b0.setCell (p := ⟨w.heap.size, 3, none⟩) (Nat.le_refl _) (.int .i64 n)
  simp only [List.set] at x0
  have HN : Hid _ := hn
  clear hn z0 zz hb1
  generalize w1.setCell ⟨w.heap.size, 3, none⟩ (.int .i64 n) = w2 at x0 x1 b0 ⊢
  have g0 := x0.cell 0 _ rfl; have g1 := x0.cell 1 _ rfl; have g2 := x0.cell 2 _ rfl; have g3 := x0.cell 3 _ rfl; have g4 := x0.cell 4 _ rfl; have g5 := x0.cell 5 _ rfl; have g6 := x0.cell 6 _ rfl; have g7 := x0.cell 7 _ rfl; have g8 := x0.cell 8 _ rfl
  have q0 := x1.cell 0 _ rfl; have q1 := x1.cell 1 _ rfl; have q2 := x1.cell 2 _ rfl; have q3 := x1.cell 3 _ rfl; have q4 := x1.cell 4 _ rfl; have q5 := x1.cell 5 _ rfl; have q6 := x1.cell 6 _ rfl; have q7 := x1.cell 7 _ rfl; have q8 := x1.cell 8 _ rfl
  have qz := x1.frozen
  generalize hok : (rightsI t).isSome = ok at *
  go_wp2_with fail
  refine bodyPost_ret (v := .tuple #[.agg #[.int .i64 ck, .int .i64 ca, .int .i64 cb, .int .i64 n, .int .i64 cd, .int .i64 cg, .int .i64 cq, .int .i64 cf, .bool co], .bool ok]) (by simp [results, Tryz.results22, go_sem, *]) rfl ⟨⟨⟨ck, ca, cb, n, cd, cg, cq, cf, co⟩, by rw [hok], fun m hm => ?_⟩, below_set9m b0 (by omega) _ _ _ _ _ _ _ _ _⟩
  have e := HN.out m hm
  subst e
  rfl

set_option maxRecDepth 100000 in
set_option maxHeartbeats 2000000 in
theorem withPart_3 (c : CQ) (t : List UInt8) (w : World) (hl : t.length ≤ 281474976710656) (hL : Laid w) :
    Calls Tryz.prog 22 #[.agg #[.int .i64 c.k, .int .i64 c.a, .int .i64 c.b, .int .i64 c.r, .int .i64 c.d, .int .i64 c.g, .int .i64 c.q, .int .i64 c.f, .bool c.o], .int .i64 3, .string ⟨t.toArray⟩] w fun e w' => (∃ c' : CQ, e = .returned (.tuple #[.agg #[.int .i64 c'.k, .int .i64 c'.a, .int .i64 c'.b, .int .i64 c'.r, .int .i64 c'.d, .int .i64 c'.g, .int .i64 c'.q, .int .i64 c'.f, .bool c'.o], .bool (partI 3 t).isSome]) ∧ ∀ m, partI 3 t = some m → c' = setPart c 3 m) ∧ Below w.heap.size w w' := by
  obtain ⟨ck, ca, cb, cr, cd, cg, cq, cf, co⟩ := c
  have hp : partI 3 t = numI t := by unfold partI; rw [if_neg (by decide)]
  rw [hp]
  have x0 : Bx ((w.alloc (.cells #[.int .i64 ck, .int .i64 ca, .int .i64 cb, .int .i64 cr, .int .i64 cd, .int .i64 cg, .int .i64 cq, .int .i64 cf, .bool co] 24)).alloc (.cells #[.int .i64 0, .int .i64 0, .int .i64 0, .int .i64 0, .int .i64 0, .int .i64 0, .int .i64 0, .int .i64 0, .bool false] 24)) w.heap.size 24 [.int .i64 ck, .int .i64 ca, .int .i64 cb, .int .i64 cr, .int .i64 cd, .int .i64 cg, .int .i64 cq, .int .i64 cf, .bool co] := (Bx.new w 24 [.int .i64 ck, .int .i64 ca, .int .i64 cb, .int .i64 cr, .int .i64 cd, .int .i64 cg, .int .i64 cq, .int .i64 cf, .bool co]).alloc _
  have x1 : Bx ((w.alloc (.cells #[.int .i64 ck, .int .i64 ca, .int .i64 cb, .int .i64 cr, .int .i64 cd, .int .i64 cg, .int .i64 cq, .int .i64 cf, .bool co] 24)).alloc (.cells #[.int .i64 0, .int .i64 0, .int .i64 0, .int .i64 0, .int .i64 0, .int .i64 0, .int .i64 0, .int .i64 0, .bool false] 24)) (w.heap.size + 1) 24 [.int .i64 0, .int .i64 0, .int .i64 0, .int .i64 0, .int .i64 0, .int .i64 0, .int .i64 0, .int .i64 0, .bool false] := Bx.newAt _ 24 [.int .i64 0, .int .i64 0, .int .i64 0, .int .i64 0, .int .i64 0, .int .i64 0, .int .i64 0, .int .i64 0, .bool false] (by simp)
  have b0 : Below w.heap.size w ((w.alloc (.cells #[.int .i64 ck, .int .i64 ca, .int .i64 cb, .int .i64 cr, .int .i64 cd, .int .i64 cg, .int .i64 cq, .int .i64 cf, .bool co] 24)).alloc (.cells #[.int .i64 0, .int .i64 0, .int .i64 0, .int .i64 0, .int .i64 0, .int .i64 0, .int .i64 0, .int .i64 0, .bool false] 24)) := ((Below.refl _ _).alloc (Nat.le_refl _) _).alloc (by simp) _
  go_enter Tryz.func22, Tryz.ntmps22
  go_upto_region 18 with (go_at_call 51; refine Calls.mono (number_any t _ hl (hL.below b0)) ?_; rintro e w1 ⟨⟨n, rfl, hn⟩, hb1⟩; replace x0 := x0.below hb1; replace x1 := x1.below hb1; replace b0 := b0.trans (hb1.mono b0.size); have z0 := x0.cell 4 _ rfl; have zz := x0.frozen 4)
  replace x0 := x0.set 4 (.int .i64 n)
  replace x1 := x1.far (c := w.heap.size) (k := 4) (.int .i64 n) (by omega)
  replace b0 := b0.setCell (p := ⟨w.heap.size, 4, none⟩) (Nat.le_refl _) (.int .i64 n)
  simp only [List.set] at x0
  have HN : Hid _ := hn
  clear hn z0 zz hb1
  generalize w1.setCell ⟨w.heap.size, 4, none⟩ (.int .i64 n) = w2 at x0 x1 b0 ⊢
  have g0 := x0.cell 0 _ rfl; have g1 := x0.cell 1 _ rfl; have g2 := x0.cell 2 _ rfl; have g3 := x0.cell 3 _ rfl; have g4 := x0.cell 4 _ rfl; have g5 := x0.cell 5 _ rfl; have g6 := x0.cell 6 _ rfl; have g7 := x0.cell 7 _ rfl; have g8 := x0.cell 8 _ rfl
  have q0 := x1.cell 0 _ rfl; have q1 := x1.cell 1 _ rfl; have q2 := x1.cell 2 _ rfl; have q3 := x1.cell 3 _ rfl; have q4 := x1.cell 4 _ rfl; have q5 := x1.cell 5 _ rfl; have q6 := x1.cell 6 _ rfl; have q7 := x1.cell 7 _ rfl; have q8 := x1.cell 8 _ rfl
  have qz := x1.frozen
  generalize hok : (numI t).isSome = ok at *
  go_wp2_with fail
  refine bodyPost_ret (v := .tuple #[.agg #[.int .i64 ck, .int .i64 ca, .int .i64 cb, .int .i64 cr, .int .i64 n, .int .i64 cg, .int .i64 cq, .int .i64 cf, .bool co], .bool ok]) (by simp [results, Tryz.results22, go_sem, *]) rfl ⟨⟨⟨ck, ca, cb, cr, n, cg, cq, cf, co⟩, by rw [hok], fun m hm => ?_⟩, below_set9m b0 (by omega) _ _ _ _ _ _ _ _ _⟩
  have e := HN.out m hm
  subst e
  rfl

set_option maxRecDepth 100000 in
set_option maxHeartbeats 2000000 in
theorem withPart_4 (c : CQ) (t : List UInt8) (w : World) (hl : t.length ≤ 281474976710656) (hL : Laid w) :
    Calls Tryz.prog 22 #[.agg #[.int .i64 c.k, .int .i64 c.a, .int .i64 c.b, .int .i64 c.r, .int .i64 c.d, .int .i64 c.g, .int .i64 c.q, .int .i64 c.f, .bool c.o], .int .i64 4, .string ⟨t.toArray⟩] w fun e w' => (∃ c' : CQ, e = .returned (.tuple #[.agg #[.int .i64 c'.k, .int .i64 c'.a, .int .i64 c'.b, .int .i64 c'.r, .int .i64 c'.d, .int .i64 c'.g, .int .i64 c'.q, .int .i64 c'.f, .bool c'.o], .bool (partI 4 t).isSome]) ∧ ∀ m, partI 4 t = some m → c' = setPart c 4 m) ∧ Below w.heap.size w w' := by
  obtain ⟨ck, ca, cb, cr, cd, cg, cq, cf, co⟩ := c
  have hp : partI 4 t = numI t := by unfold partI; rw [if_neg (by decide)]
  rw [hp]
  have x0 : Bx ((w.alloc (.cells #[.int .i64 ck, .int .i64 ca, .int .i64 cb, .int .i64 cr, .int .i64 cd, .int .i64 cg, .int .i64 cq, .int .i64 cf, .bool co] 24)).alloc (.cells #[.int .i64 0, .int .i64 0, .int .i64 0, .int .i64 0, .int .i64 0, .int .i64 0, .int .i64 0, .int .i64 0, .bool false] 24)) w.heap.size 24 [.int .i64 ck, .int .i64 ca, .int .i64 cb, .int .i64 cr, .int .i64 cd, .int .i64 cg, .int .i64 cq, .int .i64 cf, .bool co] := (Bx.new w 24 [.int .i64 ck, .int .i64 ca, .int .i64 cb, .int .i64 cr, .int .i64 cd, .int .i64 cg, .int .i64 cq, .int .i64 cf, .bool co]).alloc _
  have x1 : Bx ((w.alloc (.cells #[.int .i64 ck, .int .i64 ca, .int .i64 cb, .int .i64 cr, .int .i64 cd, .int .i64 cg, .int .i64 cq, .int .i64 cf, .bool co] 24)).alloc (.cells #[.int .i64 0, .int .i64 0, .int .i64 0, .int .i64 0, .int .i64 0, .int .i64 0, .int .i64 0, .int .i64 0, .bool false] 24)) (w.heap.size + 1) 24 [.int .i64 0, .int .i64 0, .int .i64 0, .int .i64 0, .int .i64 0, .int .i64 0, .int .i64 0, .int .i64 0, .bool false] := Bx.newAt _ 24 [.int .i64 0, .int .i64 0, .int .i64 0, .int .i64 0, .int .i64 0, .int .i64 0, .int .i64 0, .int .i64 0, .bool false] (by simp)
  have b0 : Below w.heap.size w ((w.alloc (.cells #[.int .i64 ck, .int .i64 ca, .int .i64 cb, .int .i64 cr, .int .i64 cd, .int .i64 cg, .int .i64 cq, .int .i64 cf, .bool co] 24)).alloc (.cells #[.int .i64 0, .int .i64 0, .int .i64 0, .int .i64 0, .int .i64 0, .int .i64 0, .int .i64 0, .int .i64 0, .bool false] 24)) := ((Below.refl _ _).alloc (Nat.le_refl _) _).alloc (by simp) _
  go_enter Tryz.func22, Tryz.ntmps22
  go_upto_region 18 with (go_at_call 51; refine Calls.mono (number_any t _ hl (hL.below b0)) ?_; rintro e w1 ⟨⟨n, rfl, hn⟩, hb1⟩; replace x0 := x0.below hb1; replace x1 := x1.below hb1; replace b0 := b0.trans (hb1.mono b0.size); have z0 := x0.cell 5 _ rfl; have zz := x0.frozen 5)
  replace x0 := x0.set 5 (.int .i64 n)
  replace x1 := x1.far (c := w.heap.size) (k := 5) (.int .i64 n) (by omega)
  replace b0 := b0.setCell (p := ⟨w.heap.size, 5, none⟩) (Nat.le_refl _) (.int .i64 n)
  simp only [List.set] at x0
  have HN : Hid _ := hn
  clear hn z0 zz hb1
  generalize w1.setCell ⟨w.heap.size, 5, none⟩ (.int .i64 n) = w2 at x0 x1 b0 ⊢
  have g0 := x0.cell 0 _ rfl; have g1 := x0.cell 1 _ rfl; have g2 := x0.cell 2 _ rfl; have g3 := x0.cell 3 _ rfl; have g4 := x0.cell 4 _ rfl; have g5 := x0.cell 5 _ rfl; have g6 := x0.cell 6 _ rfl; have g7 := x0.cell 7 _ rfl; have g8 := x0.cell 8 _ rfl
  have q0 := x1.cell 0 _ rfl; have q1 := x1.cell 1 _ rfl; have q2 := x1.cell 2 _ rfl; have q3 := x1.cell 3 _ rfl; have q4 := x1.cell 4 _ rfl; have q5 := x1.cell 5 _ rfl; have q6 := x1.cell 6 _ rfl; have q7 := x1.cell 7 _ rfl; have q8 := x1.cell 8 _ rfl
  have qz := x1.frozen
  generalize hok : (numI t).isSome = ok at *
  go_wp2_with fail
  refine bodyPost_ret (v := .tuple #[.agg #[.int .i64 ck, .int .i64 ca, .int .i64 cb, .int .i64 cr, .int .i64 cd, .int .i64 n, .int .i64 cq, .int .i64 cf, .bool co], .bool ok]) (by simp [results, Tryz.results22, go_sem, *]) rfl ⟨⟨⟨ck, ca, cb, cr, cd, n, cq, cf, co⟩, by rw [hok], fun m hm => ?_⟩, below_set9m b0 (by omega) _ _ _ _ _ _ _ _ _⟩
  have e := HN.out m hm
  subst e
  rfl

set_option maxRecDepth 100000 in
set_option maxHeartbeats 2000000 in
theorem withPart_5 (c : CQ) (t : List UInt8) (w : World) (hl : t.length ≤ 281474976710656) (hL : Laid w) :
    Calls Tryz.prog 22 #[.agg #[.int .i64 c.k, .int .i64 c.a, .int .i64 c.b, .int .i64 c.r, .int .i64 c.d, .int .i64 c.g, .int .i64 c.q, .int .i64 c.f, .bool c.o], .int .i64 5, .string ⟨t.toArray⟩] w fun e w' => (∃ c' : CQ, e = .returned (.tuple #[.agg #[.int .i64 c'.k, .int .i64 c'.a, .int .i64 c'.b, .int .i64 c'.r, .int .i64 c'.d, .int .i64 c'.g, .int .i64 c'.q, .int .i64 c'.f, .bool c'.o], .bool (partI 5 t).isSome]) ∧ ∀ m, partI 5 t = some m → c' = setPart c 5 m) ∧ Below w.heap.size w w' := by
  obtain ⟨ck, ca, cb, cr, cd, cg, cq, cf, co⟩ := c
  have hp : partI 5 t = numI t := by unfold partI; rw [if_neg (by decide)]
  rw [hp]
  have x0 : Bx ((w.alloc (.cells #[.int .i64 ck, .int .i64 ca, .int .i64 cb, .int .i64 cr, .int .i64 cd, .int .i64 cg, .int .i64 cq, .int .i64 cf, .bool co] 24)).alloc (.cells #[.int .i64 0, .int .i64 0, .int .i64 0, .int .i64 0, .int .i64 0, .int .i64 0, .int .i64 0, .int .i64 0, .bool false] 24)) w.heap.size 24 [.int .i64 ck, .int .i64 ca, .int .i64 cb, .int .i64 cr, .int .i64 cd, .int .i64 cg, .int .i64 cq, .int .i64 cf, .bool co] := (Bx.new w 24 [.int .i64 ck, .int .i64 ca, .int .i64 cb, .int .i64 cr, .int .i64 cd, .int .i64 cg, .int .i64 cq, .int .i64 cf, .bool co]).alloc _
  have x1 : Bx ((w.alloc (.cells #[.int .i64 ck, .int .i64 ca, .int .i64 cb, .int .i64 cr, .int .i64 cd, .int .i64 cg, .int .i64 cq, .int .i64 cf, .bool co] 24)).alloc (.cells #[.int .i64 0, .int .i64 0, .int .i64 0, .int .i64 0, .int .i64 0, .int .i64 0, .int .i64 0, .int .i64 0, .bool false] 24)) (w.heap.size + 1) 24 [.int .i64 0, .int .i64 0, .int .i64 0, .int .i64 0, .int .i64 0, .int .i64 0, .int .i64 0, .int .i64 0, .bool false] := Bx.newAt _ 24 [.int .i64 0, .int .i64 0, .int .i64 0, .int .i64 0, .int .i64 0, .int .i64 0, .int .i64 0, .int .i64 0, .bool false] (by simp)
  have b0 : Below w.heap.size w ((w.alloc (.cells #[.int .i64 ck, .int .i64 ca, .int .i64 cb, .int .i64 cr, .int .i64 cd, .int .i64 cg, .int .i64 cq, .int .i64 cf, .bool co] 24)).alloc (.cells #[.int .i64 0, .int .i64 0, .int .i64 0, .int .i64 0, .int .i64 0, .int .i64 0, .int .i64 0, .int .i64 0, .bool false] 24)) := ((Below.refl _ _).alloc (Nat.le_refl _) _).alloc (by simp) _
  go_enter Tryz.func22, Tryz.ntmps22
  go_upto_region 18 with (go_at_call 51; refine Calls.mono (number_any t _ hl (hL.below b0)) ?_; rintro e w1 ⟨⟨n, rfl, hn⟩, hb1⟩; replace x0 := x0.below hb1; replace x1 := x1.below hb1; replace b0 := b0.trans (hb1.mono b0.size); have z0 := x0.cell 6 _ rfl; have zz := x0.frozen 6)
  replace x0 := x0.set 6 (.int .i64 n)
  replace x1 := x1.far (c := w.heap.size) (k := 6) (.int .i64 n) (by omega)
  replace b0 := b0.setCell (p := ⟨w.heap.size, 6, none⟩) (Nat.le_refl _) (.int .i64 n)
  simp only [List.set] at x0
  have HN : Hid _ := hn
  clear hn z0 zz hb1
  generalize w1.setCell ⟨w.heap.size, 6, none⟩ (.int .i64 n) = w2 at x0 x1 b0 ⊢
  have g0 := x0.cell 0 _ rfl; have g1 := x0.cell 1 _ rfl; have g2 := x0.cell 2 _ rfl; have g3 := x0.cell 3 _ rfl; have g4 := x0.cell 4 _ rfl; have g5 := x0.cell 5 _ rfl; have g6 := x0.cell 6 _ rfl; have g7 := x0.cell 7 _ rfl; have g8 := x0.cell 8 _ rfl
  have q0 := x1.cell 0 _ rfl; have q1 := x1.cell 1 _ rfl; have q2 := x1.cell 2 _ rfl; have q3 := x1.cell 3 _ rfl; have q4 := x1.cell 4 _ rfl; have q5 := x1.cell 5 _ rfl; have q6 := x1.cell 6 _ rfl; have q7 := x1.cell 7 _ rfl; have q8 := x1.cell 8 _ rfl
  have qz := x1.frozen
  generalize hok : (numI t).isSome = ok at *
  go_wp2_with fail
  refine bodyPost_ret (v := .tuple #[.agg #[.int .i64 ck, .int .i64 ca, .int .i64 cb, .int .i64 cr, .int .i64 cd, .int .i64 cg, .int .i64 n, .int .i64 cf, .bool co], .bool ok]) (by simp [results, Tryz.results22, go_sem, *]) rfl ⟨⟨⟨ck, ca, cb, cr, cd, cg, n, cf, co⟩, by rw [hok], fun m hm => ?_⟩, below_set9m b0 (by omega) _ _ _ _ _ _ _ _ _⟩
  have e := HN.out m hm
  subst e
  rfl

set_option maxRecDepth 100000 in
set_option maxHeartbeats 2000000 in
theorem withPart_6 (c : CQ) (t : List UInt8) (w : World) (hl : t.length ≤ 281474976710656) (hL : Laid w) :
    Calls Tryz.prog 22 #[.agg #[.int .i64 c.k, .int .i64 c.a, .int .i64 c.b, .int .i64 c.r, .int .i64 c.d, .int .i64 c.g, .int .i64 c.q, .int .i64 c.f, .bool c.o], .int .i64 6, .string ⟨t.toArray⟩] w fun e w' => (∃ c' : CQ, e = .returned (.tuple #[.agg #[.int .i64 c'.k, .int .i64 c'.a, .int .i64 c'.b, .int .i64 c'.r, .int .i64 c'.d, .int .i64 c'.g, .int .i64 c'.q, .int .i64 c'.f, .bool c'.o], .bool (partI 6 t).isSome]) ∧ ∀ m, partI 6 t = some m → c' = setPart c 6 m) ∧ Below w.heap.size w w' := by
  obtain ⟨ck, ca, cb, cr, cd, cg, cq, cf, co⟩ := c
  have hp : partI 6 t = numI t := by unfold partI; rw [if_neg (by decide)]
  rw [hp]
  have x0 : Bx ((w.alloc (.cells #[.int .i64 ck, .int .i64 ca, .int .i64 cb, .int .i64 cr, .int .i64 cd, .int .i64 cg, .int .i64 cq, .int .i64 cf, .bool co] 24)).alloc (.cells #[.int .i64 0, .int .i64 0, .int .i64 0, .int .i64 0, .int .i64 0, .int .i64 0, .int .i64 0, .int .i64 0, .bool false] 24)) w.heap.size 24 [.int .i64 ck, .int .i64 ca, .int .i64 cb, .int .i64 cr, .int .i64 cd, .int .i64 cg, .int .i64 cq, .int .i64 cf, .bool co] := (Bx.new w 24 [.int .i64 ck, .int .i64 ca, .int .i64 cb, .int .i64 cr, .int .i64 cd, .int .i64 cg, .int .i64 cq, .int .i64 cf, .bool co]).alloc _
  have x1 : Bx ((w.alloc (.cells #[.int .i64 ck, .int .i64 ca, .int .i64 cb, .int .i64 cr, .int .i64 cd, .int .i64 cg, .int .i64 cq, .int .i64 cf, .bool co] 24)).alloc (.cells #[.int .i64 0, .int .i64 0, .int .i64 0, .int .i64 0, .int .i64 0, .int .i64 0, .int .i64 0, .int .i64 0, .bool false] 24)) (w.heap.size + 1) 24 [.int .i64 0, .int .i64 0, .int .i64 0, .int .i64 0, .int .i64 0, .int .i64 0, .int .i64 0, .int .i64 0, .bool false] := Bx.newAt _ 24 [.int .i64 0, .int .i64 0, .int .i64 0, .int .i64 0, .int .i64 0, .int .i64 0, .int .i64 0, .int .i64 0, .bool false] (by simp)
  have b0 : Below w.heap.size w ((w.alloc (.cells #[.int .i64 ck, .int .i64 ca, .int .i64 cb, .int .i64 cr, .int .i64 cd, .int .i64 cg, .int .i64 cq, .int .i64 cf, .bool co] 24)).alloc (.cells #[.int .i64 0, .int .i64 0, .int .i64 0, .int .i64 0, .int .i64 0, .int .i64 0, .int .i64 0, .int .i64 0, .bool false] 24)) := ((Below.refl _ _).alloc (Nat.le_refl _) _).alloc (by simp) _
  go_enter Tryz.func22, Tryz.ntmps22
  go_upto_region 18 with (go_at_call 51; refine Calls.mono (number_any t _ hl (hL.below b0)) ?_; rintro e w1 ⟨⟨n, rfl, hn⟩, hb1⟩; replace x0 := x0.below hb1; replace x1 := x1.below hb1; replace b0 := b0.trans (hb1.mono b0.size); have z0 := x0.cell 7 _ rfl; have zz := x0.frozen 7)
  replace x0 := x0.set 7 (.int .i64 n)
  replace x1 := x1.far (c := w.heap.size) (k := 7) (.int .i64 n) (by omega)
  replace b0 := b0.setCell (p := ⟨w.heap.size, 7, none⟩) (Nat.le_refl _) (.int .i64 n)
  simp only [List.set] at x0
  have HN : Hid _ := hn
  clear hn z0 zz hb1
  generalize w1.setCell ⟨w.heap.size, 7, none⟩ (.int .i64 n) = w2 at x0 x1 b0 ⊢
  have g0 := x0.cell 0 _ rfl; have g1 := x0.cell 1 _ rfl; have g2 := x0.cell 2 _ rfl; have g3 := x0.cell 3 _ rfl; have g4 := x0.cell 4 _ rfl; have g5 := x0.cell 5 _ rfl; have g6 := x0.cell 6 _ rfl; have g7 := x0.cell 7 _ rfl; have g8 := x0.cell 8 _ rfl
  have q0 := x1.cell 0 _ rfl; have q1 := x1.cell 1 _ rfl; have q2 := x1.cell 2 _ rfl; have q3 := x1.cell 3 _ rfl; have q4 := x1.cell 4 _ rfl; have q5 := x1.cell 5 _ rfl; have q6 := x1.cell 6 _ rfl; have q7 := x1.cell 7 _ rfl; have q8 := x1.cell 8 _ rfl
  have qz := x1.frozen
  generalize hok : (numI t).isSome = ok at *
  go_wp2_with fail
  refine bodyPost_ret (v := .tuple #[.agg #[.int .i64 ck, .int .i64 ca, .int .i64 cb, .int .i64 cr, .int .i64 cd, .int .i64 cg, .int .i64 cq, .int .i64 n, .bool co], .bool ok]) (by simp [results, Tryz.results22, go_sem, *]) rfl ⟨⟨⟨ck, ca, cb, cr, cd, cg, cq, n, co⟩, by rw [hok], fun m hm => ?_⟩, below_set9m b0 (by omega) _ _ _ _ _ _ _ _ _⟩
  have e := HN.out m hm
  subst e
  rfl

theorem withPart_any (p : Int) (c : CQ) (t : List UInt8) (w : World) (h0 : 0 ≤ p) (h1 : p ≤ 6) (hl : t.length ≤ 281474976710656) (hL : Laid w) :
    Calls Tryz.prog 22 #[.agg #[.int .i64 c.k, .int .i64 c.a, .int .i64 c.b, .int .i64 c.r, .int .i64 c.d, .int .i64 c.g, .int .i64 c.q, .int .i64 c.f, .bool c.o], .int .i64 p, .string ⟨t.toArray⟩] w fun e w' => (∃ c' : CQ, e = .returned (.tuple #[.agg #[.int .i64 c'.k, .int .i64 c'.a, .int .i64 c'.b, .int .i64 c'.r, .int .i64 c'.d, .int .i64 c'.g, .int .i64 c'.q, .int .i64 c'.f, .bool c'.o], .bool (partI p t).isSome]) ∧ ∀ m, partI p t = some m → c' = setPart c p m) ∧ Below w.heap.size w w' := by
  have h : p = 0 ∨ p = 1 ∨ p = 2 ∨ p = 3 ∨ p = 4 ∨ p = 5 ∨ p = 6 := by omega
  rcases h with h | h | h | h | h | h | h <;> subst h
  · exact withPart_0 c t w hl hL
  · exact withPart_1 c t w hl hL
  · exact withPart_2 c t w hl hL
  · exact withPart_3 c t w hl hL
  · exact withPart_4 c t w hl hL
  · exact withPart_5 c t w hl hL
  · exact withPart_6 c t w hl hL

end Go.Proofs.YthmambhagheocaaGreatDoor
