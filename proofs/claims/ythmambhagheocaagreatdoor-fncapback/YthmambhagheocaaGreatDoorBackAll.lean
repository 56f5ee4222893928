/-
  Texts of the proof, put together: ReadImplB, ReadImplC, BackDraw, Unpack, BackFacts, Slots, Held, QuietFast, EqSlots, ReadLaw, BackLaw.
-/
import Derived.Test.YthmambhagheocaaGreatDoorReadImplA
import Derived.Lib.SplitLaws
import Derived.Test.YthmambhagheocaaGreatDoorReadSpecE
import Derived.Test.YthmambhagheocaaGreatDoorPairDrawn
import Derived.Test.YthmambhagheocaaGreatDoorPack
import Derived.Test.YthmambhagheocaaGreatDoorTexts
import Derived.Test.YthmambhagheocaaGreatDoorMem
import Derived.Deep.Cut
import Derived.Test.YthmambhagheocaaGreatDoorReadImpP
import Derived.Test.YthmambhagheocaaGreatDoorOkay
import Derived.Lib.QuietBelow
import Derived.Test.YthmambhagheocaaGreatDoorCapIn
import Derived.Deep.DeepCutAuto
/-
  The parts of CapRead of the program: the pieces of a text, its star, what stands behind a kind, one part read into a capability.
-/
namespace Go.Proofs.YthmambhagheocaaGreatDoor
open Go.ChangeShapes Go.WideShapes Go.ChangeAt Go.RowKit
set_option linter.unusedVariables false

def strV (l : List UInt8) : Value := .string ⟨l.toArray⟩
theorem pieces_is (s : List UInt8) : (Lib.splitB ⟨#[32]⟩ 0 (Lib.countB ⟨s.toArray⟩ ⟨#[32]⟩) ⟨s.toArray⟩).map Value.string = (cutL s).map strV := by
  have h := Lib.splitB_data ⟨#[32]⟩ 0 (Lib.countB ⟨s.toArray⟩ ⟨#[32]⟩) ⟨s.toArray⟩
  have h2 : Lib.splitK (⟨#[32]⟩ : ByteArray).data.toList 0 (Lib.countB ⟨s.toArray⟩ ⟨#[32]⟩) (⟨s.toArray⟩ : ByteArray).data.toList = cutL s := split_cut s.length s (Nat.le_refl _)
  rw [h2] at h
  rw [← h, List.map_map]
  apply List.map_congr_left
  intro x _
  rfl
theorem pieces_len (s : List UInt8) : Lib.countB ⟨s.toArray⟩ ⟨#[32]⟩ + 1 = (cutL s).length := by
  have h := Lib.splitB_all ⟨#[32]⟩ (by decide) 0 _ ⟨s.toArray⟩ rfl
  have h2 := congrArg List.length (pieces_is s)
  rw [List.length_map, List.length_map, h] at h2
  exact h2
theorem split_any (s : List UInt8) (w : World) (hl : s.length < 4294967281) (hL : Laid w) :
    Calls Tryz.prog 18 #[.string ⟨s.toArray⟩, .string ⟨#[32]⟩] w fun e w' => e = .returned (.slice (some ⟨w.heap.size, 0, none⟩) (cutL s).length (cutL s).length) ∧ w' = w.alloc (.cells ((cutL s).map strV).toArray 9) := by
  obtain ⟨m, hm⟩ := hL.max
  refine (Tryz.strings_Split ⟨s.toArray⟩ ⟨#[32]⟩ m w (by simpa [ByteArray.size] using hl) hm (by decide)).mono ?_
  rintro e w' ⟨rfl, rfl⟩
  rw [pieces_is, pieces_len]
  exact ⟨rfl, rfl⟩

theorem star_is (l : List UInt8) : (Lib.trimSuffix l [42], Lib.hasSuffix l [42]) = cutStar l := by
  unfold Lib.trimSuffix Lib.hasSuffix cutStar
  by_cases h : l.getLast? = some 42
  · rw [if_pos h]
    obtain ⟨t, rfl⟩ : ∃ t, l = t ++ [42] := by
      have hne : l ≠ [] := by intro e; subst e; simp at h
      rw [List.getLast?_eq_some_getLast hne] at h
      have := List.dropLast_concat_getLast hne
      rw [Option.some.inj h] at this
      exact ⟨_, this.symm⟩
    have hs : [42].isSuffixOf (t ++ [42]) = true := by rw [List.isSuffixOf_iff_suffix]; exact ⟨t, rfl⟩
    rw [hs, if_pos rfl]
    simp
  · rw [if_neg h]
    have hs : [42].isSuffixOf l = false := by
      rw [Bool.eq_false_iff]; intro e
      rw [List.isSuffixOf_iff_suffix] at e
      obtain ⟨t, rfl⟩ := e
      apply h; simp
    rw [hs]; rfl
theorem star_any (l : List UInt8) (w : World) (hl : l.length ≤ 9223372036854775807) :
    Calls Tryz.prog 19 #[.string ⟨l.toArray⟩, .string ⟨#[42]⟩] w fun e w' => e = .returned (.tuple #[strV (cutStar l).1, .bool (cutStar l).2]) ∧ w' = w := by
  refine (Tryz.strings_CutSuffix ⟨l.toArray⟩ ⟨#[42]⟩ w (by simpa [ByteArray.size] using hl)).mono ?_
  rintro e w' ⟨rfl, rfl⟩
  have h : (Lib.trimSuffix (⟨l.toArray⟩ : ByteArray).data.toList (⟨#[42]⟩ : ByteArray).data.toList, Lib.hasSuffix (⟨l.toArray⟩ : ByteArray).data.toList (⟨#[42]⟩ : ByteArray).data.toList) = cutStar l := star_is l
  rw [← h]
  exact ⟨rfl, rfl⟩

theorem partsOf_any (k : Int) (w : World) (h0 : 1 ≤ k) (h1 : k ≤ 7) :
    Calls Tryz.prog 21 #[kindV k] w fun e w' => e = .returned (.slice (some ⟨w.heap.size, 0, none⟩) (partsI k).length (partsI k).length) ∧ w' = w.alloc (.cells ((partsI k).map (Value.int .i64)).toArray 53) := by
  rcases seven h0 h1 with h | h | h | h | h | h | h <;> subst h
  · exact parts_1 w
  · exact parts_2 w
  · exact parts_3 w
  · exact parts_4 w
  · exact parts_5 w
  · exact parts_6 w
  · exact parts_7 w

theorem below_set9m {n m : Nat} {w W : World} (h : Below n w W) (hm : n ≤ m) (v0 v1 v2 v3 v4 v5 v6 v7 v8 : Value) :
    Below n w (((((((((W.setCell ⟨m, 0, none⟩ v0).setCell ⟨m, 1, none⟩ v1).setCell ⟨m, 2, none⟩ v2).setCell ⟨m, 3, none⟩ v3).setCell ⟨m, 4, none⟩ v4).setCell ⟨m, 5, none⟩ v5).setCell ⟨m, 6, none⟩ v6).setCell ⟨m, 7, none⟩ v7).setCell ⟨m, 8, none⟩ v8) :=
  ((((((((h.setCell (p := ⟨m, 0, none⟩) hm v0).setCell (p := ⟨m, 1, none⟩) hm v1).setCell (p := ⟨m, 2, none⟩) hm v2).setCell (p := ⟨m, 3, none⟩) hm v3).setCell (p := ⟨m, 4, none⟩) hm v4).setCell (p := ⟨m, 5, none⟩) hm v5).setCell (p := ⟨m, 6, none⟩) hm v6).setCell (p := ⟨m, 7, none⟩) hm v7).setCell (p := ⟨m, 8, none⟩) hm v8

set_option maxRecDepth 100000 in
set_option maxHeartbeats 2000000 in
theorem withPart_0 (c : CQ) (t : List UInt8) (w : World) (hl : t.length ≤ 281474976710656) (hL : Laid w) :
    Calls Tryz.prog 22 #[.agg #[.int .i64 c.k, .int .i64 c.a, .int .i64 c.b, .int .i64 c.r, .int .i64 c.d, .int .i64 c.g, .int .i64 c.q, .int .i64 c.f, .bool c.o], .int .i64 0, .string ⟨t.toArray⟩] w fun e w' => (∃ c' : CQ, e = .returned (.tuple #[.agg #[.int .i64 c'.k, .int .i64 c'.a, .int .i64 c'.b, .int .i64 c'.r, .int .i64 c'.d, .int .i64 c'.g, .int .i64 c'.q, .int .i64 c'.f, .bool c'.o], .bool (partI 0 t).isSome]) ∧ ∀ m, partI 0 t = some m → c' = setPart c 0 m) ∧ Below w.heap.size w w' := by
  obtain ⟨ck, ca, cb, cr, cd, cg, cq, cf, co⟩ := c
  have hp : partI 0 t = numI t := by unfold partI; rw [if_neg (by decide)]
  rw [hp]
  have x0 : Bx ((w.alloc (.cells #[.int .i64 ck, .int .i64 ca, .int .i64 cb, .int .i64 cr, .int .i64 cd, .int .i64 cg, .int .i64 cq, .int .i64 cf, .bool co] 24)).alloc (.cells #[.int .i64 0, .int .i64 0, .int .i64 0, .int .i64 0, .int .i64 0, .int .i64 0, .int .i64 0, .int .i64 0, .bool false] 24)) w.heap.size 24 [.int .i64 ck, .int .i64 ca, .int .i64 cb, .int .i64 cr, .int .i64 cd, .int .i64 cg, .int .i64 cq, .int .i64 cf, .bool co] := (Bx.new w 24 [.int .i64 ck, .int .i64 ca, .int .i64 cb, .int .i64 cr, .int .i64 cd, .int .i64 cg, .int .i64 cq, .int .i64 cf, .bool co]).alloc _
  have x1 : Bx ((w.alloc (.cells #[.int .i64 ck, .int .i64 ca, .int .i64 cb, .int .i64 cr, .int .i64 cd, .int .i64 cg, .int .i64 cq, .int .i64 cf, .bool co] 24)).alloc (.cells #[.int .i64 0, .int .i64 0, .int .i64 0, .int .i64 0, .int .i64 0, .int .i64 0, .int .i64 0, .int .i64 0, .bool false] 24)) (w.heap.size + 1) 24 [.int .i64 0, .int .i64 0, .int .i64 0, .int .i64 0, .int .i64 0, .int .i64 0, .int .i64 0, .int .i64 0, .bool false] := Bx.newAt _ 24 [.int .i64 0, .int .i64 0, .int .i64 0, .int .i64 0, .int .i64 0, .int .i64 0, .int .i64 0, .int .i64 0, .bool false] (by simp)
  have b0 : Below w.heap.size w ((w.alloc (.cells #[.int .i64 ck, .int .i64 ca, .int .i64 cb, .int .i64 cr, .int .i64 cd, .int .i64 cg, .int .i64 cq, .int .i64 cf, .bool co] 24)).alloc (.cells #[.int .i64 0, .int .i64 0, .int .i64 0, .int .i64 0, .int .i64 0, .int .i64 0, .int .i64 0, .int .i64 0, .bool false] 24)) := ((Below.refl _ _).alloc (Nat.le_refl _) _).alloc (by simp) _
  go_enter Tryz.func22, Tryz.ntmps22
  go_upto_region 18 with (go_at_call 51; refine Calls.mono (number_any t _ hl (hL.below b0)) ?_; rintro e w1 ⟨⟨n, rfl, hn⟩, hb1⟩; replace x0 := x0.below hb1; replace x1 := x1.below hb1; replace b0 := b0.trans (hb1.mono b0.size); have z0 := x0.cell 1 _ rfl; have zz := x0.frozen 1)
  replace x0 := x0.set 1 (.int .i64 n)
  replace x1 := x1.far (c := w.heap.size) (k := 1) (.int .i64 n) (by omega)
  replace b0 := b0.setCell (p := ⟨w.heap.size, 1, none⟩) (Nat.le_refl _) (.int .i64 n)
  simp only [List.set] at x0
  have HN : Hid _ := hn
  clear hn z0 zz hb1
  generalize w1.setCell ⟨w.heap.size, 1, none⟩ (.int .i64 n) = w2 at x0 x1 b0 ⊢
  have g0 := x0.cell 0 _ rfl; have g1 := x0.cell 1 _ rfl; have g2 := x0.cell 2 _ rfl; have g3 := x0.cell 3 _ rfl; have g4 := x0.cell 4 _ rfl; have g5 := x0.cell 5 _ rfl; have g6 := x0.cell 6 _ rfl; have g7 := x0.cell 7 _ rfl; have g8 := x0.cell 8 _ rfl
  have q0 := x1.cell 0 _ rfl; have q1 := x1.cell 1 _ rfl; have q2 := x1.cell 2 _ rfl; have q3 := x1.cell 3 _ rfl; have q4 := x1.cell 4 _ rfl; have q5 := x1.cell 5 _ rfl; have q6 := x1.cell 6 _ rfl; have q7 := x1.cell 7 _ rfl; have q8 := x1.cell 8 _ rfl
  have qz := x1.frozen
  generalize hok : (numI t).isSome = ok at *
  go_wp2_with fail
  refine bodyPost_ret (v := .tuple #[.agg #[.int .i64 ck, .int .i64 n, .int .i64 cb, .int .i64 cr, .int .i64 cd, .int .i64 cg, .int .i64 cq, .int .i64 cf, .bool co], .bool ok]) (by simp [results, Tryz.results22, go_sem, *]) rfl ⟨⟨⟨ck, n, cb, cr, cd, cg, cq, cf, co⟩, by rw [hok], fun m hm => ?_⟩, below_set9m b0 (by omega) _ _ _ _ _ _ _ _ _⟩
  have e := HN.out m hm
  subst e
  rfl

set_option maxRecDepth 100000 in
set_option maxHeartbeats 2000000 in
theorem withPart_1 (c : CQ) (t : List UInt8) (w : World) (hl : t.length ≤ 281474976710656) (hL : Laid w) :
    Calls Tryz.prog 22 #[.agg #[.int .i64 c.k, .int .i64 c.a, .int .i64 c.b, .int .i64 c.r, .int .i64 c.d, .int .i64 c.g, .int .i64 c.q, .int .i64 c.f, .bool c.o], .int .i64 1, .string ⟨t.toArray⟩] w fun e w' => (∃ c' : CQ, e = .returned (.tuple #[.agg #[.int .i64 c'.k, .int .i64 c'.a, .int .i64 c'.b, .int .i64 c'.r, .int .i64 c'.d, .int .i64 c'.g, .int .i64 c'.q, .int .i64 c'.f, .bool c'.o], .bool (partI 1 t).isSome]) ∧ ∀ m, partI 1 t = some m → c' = setPart c 1 m) ∧ Below w.heap.size w w' := by
  obtain ⟨ck, ca, cb, cr, cd, cg, cq, cf, co⟩ := c
  have hp : partI 1 t = numI t := by unfold partI; rw [if_neg (by decide)]
  rw [hp]
  have x0 : Bx ((w.alloc (.cells #[.int .i64 ck, .int .i64 ca, .int .i64 cb, .int .i64 cr, .int .i64 cd, .int .i64 cg, .int .i64 cq, .int .i64 cf, .bool co] 24)).alloc (.cells #[.int .i64 0, .int .i64 0, .int .i64 0, .int .i64 0, .int .i64 0, .int .i64 0, .int .i64 0, .int .i64 0, .bool false] 24)) w.heap.size 24 [.int .i64 ck, .int .i64 ca, .int .i64 cb, .int .i64 cr, .int .i64 cd, .int .i64 cg, .int .i64 cq, .int .i64 cf, .bool co] := (Bx.new w 24 [.int .i64 ck, .int .i64 ca, .int .i64 cb, .int .i64 cr, .int .i64 cd, .int .i64 cg, .int .i64 cq, .int .i64 cf, .bool co]).alloc _
  have x1 : Bx ((w.alloc (.cells #[.int .i64 ck, .int .i64 ca, .int .i64 cb, .int .i64 cr, .int .i64 cd, .int .i64 cg, .int .i64 cq, .int .i64 cf, .bool co] 24)).alloc (.cells #[.int .i64 0, .int .i64 0, .int .i64 0, .int .i64 0, .int .i64 0, .int .i64 0, .int .i64 0, .int .i64 0, .bool false] 24)) (w.heap.size + 1) 24 [.int .i64 0, .int .i64 0, .int .i64 0, .int .i64 0, .int .i64 0, .int .i64 0, .int .i64 0, .int .i64 0, .bool false] := Bx.newAt _ 24 [.int .i64 0, .int .i64 0, .int .i64 0, .int .i64 0, .int .i64 0, .int .i64 0, .int .i64 0, .int .i64 0, .bool false] (by simp)
  have b0 : Below w.heap.size w ((w.alloc (.cells #[.int .i64 ck, .int .i64 ca, .int .i64 cb, .int .i64 cr, .int .i64 cd, .int .i64 cg, .int .i64 cq, .int .i64 cf, .bool co] 24)).alloc (.cells #[.int .i64 0, .int .i64 0, .int .i64 0, .int .i64 0, .int .i64 0, .int .i64 0, .int .i64 0, .int .i64 0, .bool false] 24)) := ((Below.refl _ _).alloc (Nat.le_refl _) _).alloc (by simp) _
  go_enter Tryz.func22, Tryz.ntmps22
  go_upto_region 18 with (go_at_call 51; refine Calls.mono (number_any t _ hl (hL.below b0)) ?_; rintro e w1 ⟨⟨n, rfl, hn⟩, hb1⟩; replace x0 := x0.below hb1; replace x1 := x1.below hb1; replace b0 := b0.trans (hb1.mono b0.size); have z0 := x0.cell 2 _ rfl; have zz := x0.frozen 2)
  replace x0 := x0.set 2 (.int .i64 n)
  replace x1 := x1.far (c := w.heap.size) (k := 2) (.int .i64 n) (by omega)
  replace b0 := b0.setCell (p := ⟨w.heap.size, 2, none⟩) (Nat.le_refl _) (.int .i64 n)
  simp only [List.set] at x0
  have HN : Hid _ := hn
  clear hn z0 zz hb1
  generalize w1.setCell ⟨w.heap.size, 2, none⟩ (.int .i64 n) = w2 at x0 x1 b0 ⊢
  have g0 := x0.cell 0 _ rfl; have g1 := x0.cell 1 _ rfl; have g2 := x0.cell 2 _ rfl; have g3 := x0.cell 3 _ rfl; have g4 := x0.cell 4 _ rfl; have g5 := x0.cell 5 _ rfl; have g6 := x0.cell 6 _ rfl; have g7 := x0.cell 7 _ rfl; have g8 := x0.cell 8 _ rfl
  have q0 := x1.cell 0 _ rfl; have q1 := x1.cell 1 _ rfl; have q2 := x1.cell 2 _ rfl; have q3 := x1.cell 3 _ rfl; have q4 := x1.cell 4 _ rfl; have q5 := x1.cell 5 _ rfl; have q6 := x1.cell 6 _ rfl; have q7 := x1.cell 7 _ rfl; have q8 := x1.cell 8 _ rfl
  have qz := x1.frozen
  generalize hok : (numI t).isSome = ok at *
  go_wp2_with fail
  refine bodyPost_ret (v := .tuple #[.agg #[.int .i64 ck, .int .i64 ca, .int .i64 n, .int .i64 cr, .int .i64 cd, .int .i64 cg, .int .i64 cq, .int .i64 cf, .bool co], .bool ok]) (by simp [results, Tryz.results22, go_sem, *]) rfl ⟨⟨⟨ck, ca, n, cr, cd, cg, cq, cf, co⟩, by rw [hok], fun m hm => ?_⟩, below_set9m b0 (by omega) _ _ _ _ _ _ _ _ _⟩
  have e := HN.out m hm
  subst e
  rfl

set_option maxRecDepth 100000 in
set_option maxHeartbeats 2000000 in
theorem withPart_2 (c : CQ) (t : List UInt8) (w : World) (hl : t.length ≤ 281474976710656) (hL : Laid w) :
    Calls Tryz.prog 22 #[.agg #[.int .i64 c.k, .int .i64 c.a, .int .i64 c.b, .int .i64 c.r, .int .i64 c.d, .int .i64 c.g, .int .i64 c.q, .int .i64 c.f, .bool c.o], .int .i64 2, .string ⟨t.toArray⟩] w fun e w' => (∃ c' : CQ, e = .returned (.tuple #[.agg #[.int .i64 c'.k, .int .i64 c'.a, .int .i64 c'.b, .int .i64 c'.r, .int .i64 c'.d, .int .i64 c'.g, .int .i64 c'.q, .int .i64 c'.f, .bool c'.o], .bool (partI 2 t).isSome]) ∧ ∀ m, partI 2 t = some m → c' = setPart c 2 m) ∧ Below w.heap.size w w' := by
  obtain ⟨ck, ca, cb, cr, cd, cg, cq, cf, co⟩ := c
  have hp : partI 2 t = rightsI t := by unfold partI; rw [if_pos rfl]
  rw [hp]
  have x0 : Bx ((w.alloc (.cells #[.int .i64 ck, .int .i64 ca, .int .i64 cb, .int .i64 cr, .int .i64 cd, .int .i64 cg, .int .i64 cq, .int .i64 cf, .bool co] 24)).alloc (.cells #[.int .i64 0, .int .i64 0, .int .i64 0, .int .i64 0, .int .i64 0, .int .i64 0, .int .i64 0, .int .i64 0, .bool false] 24)) w.heap.size 24 [.int .i64 ck, .int .i64 ca, .int .i64 cb, .int .i64 cr, .int .i64 cd, .int .i64 cg, .int .i64 cq, .int .i64 cf, .bool co] := (Bx.new w 24 [.int .i64 ck, .int .i64 ca, .int .i64 cb, .int .i64 cr, .int .i64 cd, .int .i64 cg, .int .i64 cq, .int .i64 cf, .bool co]).alloc _
  have x1 : Bx ((w.alloc (.cells #[.int .i64 ck, .int .i64 ca, .int .i64 cb, .int .i64 cr, .int .i64 cd, .int .i64 cg, .int .i64 cq, .int .i64 cf, .bool co] 24)).alloc (.cells #[.int .i64 0, .int .i64 0, .int .i64 0, .int .i64 0, .int .i64 0, .int .i64 0, .int .i64 0, .int .i64 0, .bool false] 24)) (w.heap.size + 1) 24 [.int .i64 0, .int .i64 0, .int .i64 0, .int .i64 0, .int .i64 0, .int .i64 0, .int .i64 0, .int .i64 0, .bool false] := Bx.newAt _ 24 [.int .i64 0, .int .i64 0, .int .i64 0, .int .i64 0, .int .i64 0, .int .i64 0, .int .i64 0, .int .i64 0, .bool false] (by simp)
  have b0 : Below w.heap.size w ((w.alloc (.cells #[.int .i64 ck, .int .i64 ca, .int .i64 cb, .int .i64 cr, .int .i64 cd, .int .i64 cg, .int .i64 cq, .int .i64 cf, .bool co] 24)).alloc (.cells #[.int .i64 0, .int .i64 0, .int .i64 0, .int .i64 0, .int .i64 0, .int .i64 0, .int .i64 0, .int .i64 0, .bool false] 24)) := ((Below.refl _ _).alloc (Nat.le_refl _) _).alloc (by simp) _
  go_enter Tryz.func22, Tryz.ntmps22
  go_upto_region 4 with (go_at_call 50; refine Calls.mono (rightsI_any t _) ?_; rintro e w1 ⟨rfl, hb1⟩; simp only [optV]; replace x0 := x0.below hb1; replace x1 := x1.below hb1; replace b0 := b0.trans (hb1.mono b0.size); have z0 := x0.cell 3 _ rfl; have zz := x0.frozen 3)
  have hn : ∀ m, rightsI t = some m → (rightsI t).getD 0 = m := fun m hm => by rw [hm]; rfl
  generalize (rightsI t).getD 0 = n at hn ⊢
  replace x0 := x0.set 3 (.int .i64 n)
  replace x1 := x1.far (c := w.heap.size) (k := 3) (.int .i64 n) (by omega)
  replace b0 := b0.setCell (p := ⟨w.heap.size, 3, none⟩) (Nat.le_refl _) (.int .i64 n)
  simp only [List.set] at x0
  have HN : Hid _ := hn
  clear hn z0 zz hb1
  generalize w1.setCell ⟨w.heap.size, 3, none⟩ (.int .i64 n) = w2 at x0 x1 b0 ⊢
  have g0 := x0.cell 0 _ rfl; have g1 := x0.cell 1 _ rfl; have g2 := x0.cell 2 _ rfl; have g3 := x0.cell 3 _ rfl; have g4 := x0.cell 4 _ rfl; have g5 := x0.cell 5 _ rfl; have g6 := x0.cell 6 _ rfl; have g7 := x0.cell 7 _ rfl; have g8 := x0.cell 8 _ rfl
  have q0 := x1.cell 0 _ rfl; have q1 := x1.cell 1 _ rfl; have q2 := x1.cell 2 _ rfl; have q3 := x1.cell 3 _ rfl; have q4 := x1.cell 4 _ rfl; have q5 := x1.cell 5 _ rfl; have q6 := x1.cell 6 _ rfl; have q7 := x1.cell 7 _ rfl; have q8 := x1.cell 8 _ rfl
  have qz := x1.frozen
  generalize hok : (rightsI t).isSome = ok at *
  go_wp2_with fail
  refine bodyPost_ret (v := .tuple #[.agg #[.int .i64 ck, .int .i64 ca, .int .i64 cb, .int .i64 n, .int .i64 cd, .int .i64 cg, .int .i64 cq, .int .i64 cf, .bool co], .bool ok]) (by simp [results, Tryz.results22, go_sem, *]) rfl ⟨⟨⟨ck, ca, cb, n, cd, cg, cq, cf, co⟩, by rw [hok], fun m hm => ?_⟩, below_set9m b0 (by omega) _ _ _ _ _ _ _ _ _⟩
  have e := HN.out m hm
  subst e
  rfl

set_option maxRecDepth 100000 in
set_option maxHeartbeats 2000000 in
theorem withPart_3 (c : CQ) (t : List UInt8) (w : World) (hl : t.length ≤ 281474976710656) (hL : Laid w) :
    Calls Tryz.prog 22 #[.agg #[.int .i64 c.k, .int .i64 c.a, .int .i64 c.b, .int .i64 c.r, .int .i64 c.d, .int .i64 c.g, .int .i64 c.q, .int .i64 c.f, .bool c.o], .int .i64 3, .string ⟨t.toArray⟩] w fun e w' => (∃ c' : CQ, e = .returned (.tuple #[.agg #[.int .i64 c'.k, .int .i64 c'.a, .int .i64 c'.b, .int .i64 c'.r, .int .i64 c'.d, .int .i64 c'.g, .int .i64 c'.q, .int .i64 c'.f, .bool c'.o], .bool (partI 3 t).isSome]) ∧ ∀ m, partI 3 t = some m → c' = setPart c 3 m) ∧ Below w.heap.size w w' := by
  obtain ⟨ck, ca, cb, cr, cd, cg, cq, cf, co⟩ := c
  have hp : partI 3 t = numI t := by unfold partI; rw [if_neg (by decide)]
  rw [hp]
  have x0 : Bx ((w.alloc (.cells #[.int .i64 ck, .int .i64 ca, .int .i64 cb, .int .i64 cr, .int .i64 cd, .int .i64 cg, .int .i64 cq, .int .i64 cf, .bool co] 24)).alloc (.cells #[.int .i64 0, .int .i64 0, .int .i64 0, .int .i64 0, .int .i64 0, .int .i64 0, .int .i64 0, .int .i64 0, .bool false] 24)) w.heap.size 24 [.int .i64 ck, .int .i64 ca, .int .i64 cb, .int .i64 cr, .int .i64 cd, .int .i64 cg, .int .i64 cq, .int .i64 cf, .bool co] := (Bx.new w 24 [.int .i64 ck, .int .i64 ca, .int .i64 cb, .int .i64 cr, .int .i64 cd, .int .i64 cg, .int .i64 cq, .int .i64 cf, .bool co]).alloc _
  have x1 : Bx ((w.alloc (.cells #[.int .i64 ck, .int .i64 ca, .int .i64 cb, .int .i64 cr, .int .i64 cd, .int .i64 cg, .int .i64 cq, .int .i64 cf, .bool co] 24)).alloc (.cells #[.int .i64 0, .int .i64 0, .int .i64 0, .int .i64 0, .int .i64 0, .int .i64 0, .int .i64 0, .int .i64 0, .bool false] 24)) (w.heap.size + 1) 24 [.int .i64 0, .int .i64 0, .int .i64 0, .int .i64 0, .int .i64 0, .int .i64 0, .int .i64 0, .int .i64 0, .bool false] := Bx.newAt _ 24 [.int .i64 0, .int .i64 0, .int .i64 0, .int .i64 0, .int .i64 0, .int .i64 0, .int .i64 0, .int .i64 0, .bool false] (by simp)
  have b0 : Below w.heap.size w ((w.alloc (.cells #[.int .i64 ck, .int .i64 ca, .int .i64 cb, .int .i64 cr, .int .i64 cd, .int .i64 cg, .int .i64 cq, .int .i64 cf, .bool co] 24)).alloc (.cells #[.int .i64 0, .int .i64 0, .int .i64 0, .int .i64 0, .int .i64 0, .int .i64 0, .int .i64 0, .int .i64 0, .bool false] 24)) := ((Below.refl _ _).alloc (Nat.le_refl _) _).alloc (by simp) _
  go_enter Tryz.func22, Tryz.ntmps22
  go_upto_region 18 with (go_at_call 51; refine Calls.mono (number_any t _ hl (hL.below b0)) ?_; rintro e w1 ⟨⟨n, rfl, hn⟩, hb1⟩; replace x0 := x0.below hb1; replace x1 := x1.below hb1; replace b0 := b0.trans (hb1.mono b0.size); have z0 := x0.cell 4 _ rfl; have zz := x0.frozen 4)
  replace x0 := x0.set 4 (.int .i64 n)
  replace x1 := x1.far (c := w.heap.size) (k := 4) (.int .i64 n) (by omega)
  replace b0 := b0.setCell (p := ⟨w.heap.size, 4, none⟩) (Nat.le_refl _) (.int .i64 n)
  simp only [List.set] at x0
  have HN : Hid _ := hn
  clear hn z0 zz hb1
  generalize w1.setCell ⟨w.heap.size, 4, none⟩ (.int .i64 n) = w2 at x0 x1 b0 ⊢
  have g0 := x0.cell 0 _ rfl; have g1 := x0.cell 1 _ rfl; have g2 := x0.cell 2 _ rfl; have g3 := x0.cell 3 _ rfl; have g4 := x0.cell 4 _ rfl; have g5 := x0.cell 5 _ rfl; have g6 := x0.cell 6 _ rfl; have g7 := x0.cell 7 _ rfl; have g8 := x0.cell 8 _ rfl
  have q0 := x1.cell 0 _ rfl; have q1 := x1.cell 1 _ rfl; have q2 := x1.cell 2 _ rfl; have q3 := x1.cell 3 _ rfl; have q4 := x1.cell 4 _ rfl; have q5 := x1.cell 5 _ rfl; have q6 := x1.cell 6 _ rfl; have q7 := x1.cell 7 _ rfl; have q8 := x1.cell 8 _ rfl
  have qz := x1.frozen
  generalize hok : (numI t).isSome = ok at *
  go_wp2_with fail
  refine bodyPost_ret (v := .tuple #[.agg #[.int .i64 ck, .int .i64 ca, .int .i64 cb, .int .i64 cr, .int .i64 n, .int .i64 cg, .int .i64 cq, .int .i64 cf, .bool co], .bool ok]) (by simp [results, Tryz.results22, go_sem, *]) rfl ⟨⟨⟨ck, ca, cb, cr, n, cg, cq, cf, co⟩, by rw [hok], fun m hm => ?_⟩, below_set9m b0 (by omega) _ _ _ _ _ _ _ _ _⟩
  have e := HN.out m hm
  subst e
  rfl

set_option maxRecDepth 100000 in
set_option maxHeartbeats 2000000 in
theorem withPart_4 (c : CQ) (t : List UInt8) (w : World) (hl : t.length ≤ 281474976710656) (hL : Laid w) :
    Calls Tryz.prog 22 #[.agg #[.int .i64 c.k, .int .i64 c.a, .int .i64 c.b, .int .i64 c.r, .int .i64 c.d, .int .i64 c.g, .int .i64 c.q, .int .i64 c.f, .bool c.o], .int .i64 4, .string ⟨t.toArray⟩] w fun e w' => (∃ c' : CQ, e = .returned (.tuple #[.agg #[.int .i64 c'.k, .int .i64 c'.a, .int .i64 c'.b, .int .i64 c'.r, .int .i64 c'.d, .int .i64 c'.g, .int .i64 c'.q, .int .i64 c'.f, .bool c'.o], .bool (partI 4 t).isSome]) ∧ ∀ m, partI 4 t = some m → c' = setPart c 4 m) ∧ Below w.heap.size w w' := by
  obtain ⟨ck, ca, cb, cr, cd, cg, cq, cf, co⟩ := c
  have hp : partI 4 t = numI t := by unfold partI; rw [if_neg (by decide)]
  rw [hp]
  have x0 : Bx ((w.alloc (.cells #[.int .i64 ck, .int .i64 ca, .int .i64 cb, .int .i64 cr, .int .i64 cd, .int .i64 cg, .int .i64 cq, .int .i64 cf, .bool co] 24)).alloc (.cells #[.int .i64 0, .int .i64 0, .int .i64 0, .int .i64 0, .int .i64 0, .int .i64 0, .int .i64 0, .int .i64 0, .bool false] 24)) w.heap.size 24 [.int .i64 ck, .int .i64 ca, .int .i64 cb, .int .i64 cr, .int .i64 cd, .int .i64 cg, .int .i64 cq, .int .i64 cf, .bool co] := (Bx.new w 24 [.int .i64 ck, .int .i64 ca, .int .i64 cb, .int .i64 cr, .int .i64 cd, .int .i64 cg, .int .i64 cq, .int .i64 cf, .bool co]).alloc _
  have x1 : Bx ((w.alloc (.cells #[.int .i64 ck, .int .i64 ca, .int .i64 cb, .int .i64 cr, .int .i64 cd, .int .i64 cg, .int .i64 cq, .int .i64 cf, .bool co] 24)).alloc (.cells #[.int .i64 0, .int .i64 0, .int .i64 0, .int .i64 0, .int .i64 0, .int .i64 0, .int .i64 0, .int .i64 0, .bool false] 24)) (w.heap.size + 1) 24 [.int .i64 0, .int .i64 0, .int .i64 0, .int .i64 0, .int .i64 0, .int .i64 0, .int .i64 0, .int .i64 0, .bool false] := Bx.newAt _ 24 [.int .i64 0, .int .i64 0, .int .i64 0, .int .i64 0, .int .i64 0, .int .i64 0, .int .i64 0, .int .i64 0, .bool false] (by simp)
  have b0 : Below w.heap.size w ((w.alloc (.cells #[.int .i64 ck, .int .i64 ca, .int .i64 cb, .int .i64 cr, .int .i64 cd, .int .i64 cg, .int .i64 cq, .int .i64 cf, .bool co] 24)).alloc (.cells #[.int .i64 0, .int .i64 0, .int .i64 0, .int .i64 0, .int .i64 0, .int .i64 0, .int .i64 0, .int .i64 0, .bool false] 24)) := ((Below.refl _ _).alloc (Nat.le_refl _) _).alloc (by simp) _
  go_enter Tryz.func22, Tryz.ntmps22
  go_upto_region 18 with (go_at_call 51; refine Calls.mono (number_any t _ hl (hL.below b0)) ?_; rintro e w1 ⟨⟨n, rfl, hn⟩, hb1⟩; replace x0 := x0.below hb1; replace x1 := x1.below hb1; replace b0 := b0.trans (hb1.mono b0.size); have z0 := x0.cell 5 _ rfl; have zz := x0.frozen 5)
  replace x0 := x0.set 5 (.int .i64 n)
  replace x1 := x1.far (c := w.heap.size) (k := 5) (.int .i64 n) (by omega)
  replace b0 := b0.setCell (p := ⟨w.heap.size, 5, none⟩) (Nat.le_refl _) (.int .i64 n)
  simp only [List.set] at x0
  have HN : Hid _ := hn
  clear hn z0 zz hb1
  generalize w1.setCell ⟨w.heap.size, 5, none⟩ (.int .i64 n) = w2 at x0 x1 b0 ⊢
  have g0 := x0.cell 0 _ rfl; have g1 := x0.cell 1 _ rfl; have g2 := x0.cell 2 _ rfl; have g3 := x0.cell 3 _ rfl; have g4 := x0.cell 4 _ rfl; have g5 := x0.cell 5 _ rfl; have g6 := x0.cell 6 _ rfl; have g7 := x0.cell 7 _ rfl; have g8 := x0.cell 8 _ rfl
  have q0 := x1.cell 0 _ rfl; have q1 := x1.cell 1 _ rfl; have q2 := x1.cell 2 _ rfl; have q3 := x1.cell 3 _ rfl; have q4 := x1.cell 4 _ rfl; have q5 := x1.cell 5 _ rfl; have q6 := x1.cell 6 _ rfl; have q7 := x1.cell 7 _ rfl; have q8 := x1.cell 8 _ rfl
  have qz := x1.frozen
  generalize hok : (numI t).isSome = ok at *
  go_wp2_with fail
  refine bodyPost_ret (v := .tuple #[.agg #[.int .i64 ck, .int .i64 ca, .int .i64 cb, .int .i64 cr, .int .i64 cd, .int .i64 n, .int .i64 cq, .int .i64 cf, .bool co], .bool ok]) (by simp [results, Tryz.results22, go_sem, *]) rfl ⟨⟨⟨ck, ca, cb, cr, cd, n, cq, cf, co⟩, by rw [hok], fun m hm => ?_⟩, below_set9m b0 (by omega) _ _ _ _ _ _ _ _ _⟩
  have e := HN.out m hm
  subst e
  rfl

set_option maxRecDepth 100000 in
set_option maxHeartbeats 2000000 in
theorem withPart_5 (c : CQ) (t : List UInt8) (w : World) (hl : t.length ≤ 281474976710656) (hL : Laid w) :
    Calls Tryz.prog 22 #[.agg #[.int .i64 c.k, .int .i64 c.a, .int .i64 c.b, .int .i64 c.r, .int .i64 c.d, .int .i64 c.g, .int .i64 c.q, .int .i64 c.f, .bool c.o], .int .i64 5, .string ⟨t.toArray⟩] w fun e w' => (∃ c' : CQ, e = .returned (.tuple #[.agg #[.int .i64 c'.k, .int .i64 c'.a, .int .i64 c'.b, .int .i64 c'.r, .int .i64 c'.d, .int .i64 c'.g, .int .i64 c'.q, .int .i64 c'.f, .bool c'.o], .bool (partI 5 t).isSome]) ∧ ∀ m, partI 5 t = some m → c' = setPart c 5 m) ∧ Below w.heap.size w w' := by
  obtain ⟨ck, ca, cb, cr, cd, cg, cq, cf, co⟩ := c
  have hp : partI 5 t = numI t := by unfold partI; rw [if_neg (by decide)]
  rw [hp]
  have x0 : Bx ((w.alloc (.cells #[.int .i64 ck, .int .i64 ca, .int .i64 cb, .int .i64 cr, .int .i64 cd, .int .i64 cg, .int .i64 cq, .int .i64 cf, .bool co] 24)).alloc (.cells #[.int .i64 0, .int .i64 0, .int .i64 0, .int .i64 0, .int .i64 0, .int .i64 0, .int .i64 0, .int .i64 0, .bool false] 24)) w.heap.size 24 [.int .i64 ck, .int .i64 ca, .int .i64 cb, .int .i64 cr, .int .i64 cd, .int .i64 cg, .int .i64 cq, .int .i64 cf, .bool co] := (Bx.new w 24 [.int .i64 ck, .int .i64 ca, .int .i64 cb, .int .i64 cr, .int .i64 cd, .int .i64 cg, .int .i64 cq, .int .i64 cf, .bool co]).alloc _
  have x1 : Bx ((w.alloc (.cells #[.int .i64 ck, .int .i64 ca, .int .i64 cb, .int .i64 cr, .int .i64 cd, .int .i64 cg, .int .i64 cq, .int .i64 cf, .bool co] 24)).alloc (.cells #[.int .i64 0, .int .i64 0, .int .i64 0, .int .i64 0, .int .i64 0, .int .i64 0, .int .i64 0, .int .i64 0, .bool false] 24)) (w.heap.size + 1) 24 [.int .i64 0, .int .i64 0, .int .i64 0, .int .i64 0, .int .i64 0, .int .i64 0, .int .i64 0, .int .i64 0, .bool false] := Bx.newAt _ 24 [.int .i64 0, .int .i64 0, .int .i64 0, .int .i64 0, .int .i64 0, .int .i64 0, .int .i64 0, .int .i64 0, .bool false] (by simp)
  have b0 : Below w.heap.size w ((w.alloc (.cells #[.int .i64 ck, .int .i64 ca, .int .i64 cb, .int .i64 cr, .int .i64 cd, .int .i64 cg, .int .i64 cq, .int .i64 cf, .bool co] 24)).alloc (.cells #[.int .i64 0, .int .i64 0, .int .i64 0, .int .i64 0, .int .i64 0, .int .i64 0, .int .i64 0, .int .i64 0, .bool false] 24)) := ((Below.refl _ _).alloc (Nat.le_refl _) _).alloc (by simp) _
  go_enter Tryz.func22, Tryz.ntmps22
  go_upto_region 18 with (go_at_call 51; refine Calls.mono (number_any t _ hl (hL.below b0)) ?_; rintro e w1 ⟨⟨n, rfl, hn⟩, hb1⟩; replace x0 := x0.below hb1; replace x1 := x1.below hb1; replace b0 := b0.trans (hb1.mono b0.size); have z0 := x0.cell 6 _ rfl; have zz := x0.frozen 6)
  replace x0 := x0.set 6 (.int .i64 n)
  replace x1 := x1.far (c := w.heap.size) (k := 6) (.int .i64 n) (by omega)
  replace b0 := b0.setCell (p := ⟨w.heap.size, 6, none⟩) (Nat.le_refl _) (.int .i64 n)
  simp only [List.set] at x0
  have HN : Hid _ := hn
  clear hn z0 zz hb1
  generalize w1.setCell ⟨w.heap.size, 6, none⟩ (.int .i64 n) = w2 at x0 x1 b0 ⊢
  have g0 := x0.cell 0 _ rfl; have g1 := x0.cell 1 _ rfl; have g2 := x0.cell 2 _ rfl; have g3 := x0.cell 3 _ rfl; have g4 := x0.cell 4 _ rfl; have g5 := x0.cell 5 _ rfl; have g6 := x0.cell 6 _ rfl; have g7 := x0.cell 7 _ rfl; have g8 := x0.cell 8 _ rfl
  have q0 := x1.cell 0 _ rfl; have q1 := x1.cell 1 _ rfl; have q2 := x1.cell 2 _ rfl; have q3 := x1.cell 3 _ rfl; have q4 := x1.cell 4 _ rfl; have q5 := x1.cell 5 _ rfl; have q6 := x1.cell 6 _ rfl; have q7 := x1.cell 7 _ rfl; have q8 := x1.cell 8 _ rfl
  have qz := x1.frozen
  generalize hok : (numI t).isSome = ok at *
  go_wp2_with fail
  refine bodyPost_ret (v := .tuple #[.agg #[.int .i64 ck, .int .i64 ca, .int .i64 cb, .int .i64 cr, .int .i64 cd, .int .i64 cg, .int .i64 n, .int .i64 cf, .bool co], .bool ok]) (by simp [results, Tryz.results22, go_sem, *]) rfl ⟨⟨⟨ck, ca, cb, cr, cd, cg, n, cf, co⟩, by rw [hok], fun m hm => ?_⟩, below_set9m b0 (by omega) _ _ _ _ _ _ _ _ _⟩
  have e := HN.out m hm
  subst e
  rfl

set_option maxRecDepth 100000 in
set_option maxHeartbeats 2000000 in
theorem withPart_6 (c : CQ) (t : List UInt8) (w : World) (hl : t.length ≤ 281474976710656) (hL : Laid w) :
    Calls Tryz.prog 22 #[.agg #[.int .i64 c.k, .int .i64 c.a, .int .i64 c.b, .int .i64 c.r, .int .i64 c.d, .int .i64 c.g, .int .i64 c.q, .int .i64 c.f, .bool c.o], .int .i64 6, .string ⟨t.toArray⟩] w fun e w' => (∃ c' : CQ, e = .returned (.tuple #[.agg #[.int .i64 c'.k, .int .i64 c'.a, .int .i64 c'.b, .int .i64 c'.r, .int .i64 c'.d, .int .i64 c'.g, .int .i64 c'.q, .int .i64 c'.f, .bool c'.o], .bool (partI 6 t).isSome]) ∧ ∀ m, partI 6 t = some m → c' = setPart c 6 m) ∧ Below w.heap.size w w' := by
  obtain ⟨ck, ca, cb, cr, cd, cg, cq, cf, co⟩ := c
  have hp : partI 6 t = numI t := by unfold partI; rw [if_neg (by decide)]
  rw [hp]
  have x0 : Bx ((w.alloc (.cells #[.int .i64 ck, .int .i64 ca, .int .i64 cb, .int .i64 cr, .int .i64 cd, .int .i64 cg, .int .i64 cq, .int .i64 cf, .bool co] 24)).alloc (.cells #[.int .i64 0, .int .i64 0, .int .i64 0, .int .i64 0, .int .i64 0, .int .i64 0, .int .i64 0, .int .i64 0, .bool false] 24)) w.heap.size 24 [.int .i64 ck, .int .i64 ca, .int .i64 cb, .int .i64 cr, .int .i64 cd, .int .i64 cg, .int .i64 cq, .int .i64 cf, .bool co] := (Bx.new w 24 [.int .i64 ck, .int .i64 ca, .int .i64 cb, .int .i64 cr, .int .i64 cd, .int .i64 cg, .int .i64 cq, .int .i64 cf, .bool co]).alloc _
  have x1 : Bx ((w.alloc (.cells #[.int .i64 ck, .int .i64 ca, .int .i64 cb, .int .i64 cr, .int .i64 cd, .int .i64 cg, .int .i64 cq, .int .i64 cf, .bool co] 24)).alloc (.cells #[.int .i64 0, .int .i64 0, .int .i64 0, .int .i64 0, .int .i64 0, .int .i64 0, .int .i64 0, .int .i64 0, .bool false] 24)) (w.heap.size + 1) 24 [.int .i64 0, .int .i64 0, .int .i64 0, .int .i64 0, .int .i64 0, .int .i64 0, .int .i64 0, .int .i64 0, .bool false] := Bx.newAt _ 24 [.int .i64 0, .int .i64 0, .int .i64 0, .int .i64 0, .int .i64 0, .int .i64 0, .int .i64 0, .int .i64 0, .bool false] (by simp)
  have b0 : Below w.heap.size w ((w.alloc (.cells #[.int .i64 ck, .int .i64 ca, .int .i64 cb, .int .i64 cr, .int .i64 cd, .int .i64 cg, .int .i64 cq, .int .i64 cf, .bool co] 24)).alloc (.cells #[.int .i64 0, .int .i64 0, .int .i64 0, .int .i64 0, .int .i64 0, .int .i64 0, .int .i64 0, .int .i64 0, .bool false] 24)) := ((Below.refl _ _).alloc (Nat.le_refl _) _).alloc (by simp) _
  go_enter Tryz.func22, Tryz.ntmps22
  go_upto_region 18 with (go_at_call 51; refine Calls.mono (number_any t _ hl (hL.below b0)) ?_; rintro e w1 ⟨⟨n, rfl, hn⟩, hb1⟩; replace x0 := x0.below hb1; replace x1 := x1.below hb1; replace b0 := b0.trans (hb1.mono b0.size); have z0 := x0.cell 7 _ rfl; have zz := x0.frozen 7)
  replace x0 := x0.set 7 (.int .i64 n)
  replace x1 := x1.far (c := w.heap.size) (k := 7) (.int .i64 n) (by omega)
  replace b0 := b0.setCell (p := ⟨w.heap.size, 7, none⟩) (Nat.le_refl _) (.int .i64 n)
  simp only [List.set] at x0
  have HN : Hid _ := hn
  clear hn z0 zz hb1
  generalize w1.setCell ⟨w.heap.size, 7, none⟩ (.int .i64 n) = w2 at x0 x1 b0 ⊢
  have g0 := x0.cell 0 _ rfl; have g1 := x0.cell 1 _ rfl; have g2 := x0.cell 2 _ rfl; have g3 := x0.cell 3 _ rfl; have g4 := x0.cell 4 _ rfl; have g5 := x0.cell 5 _ rfl; have g6 := x0.cell 6 _ rfl; have g7 := x0.cell 7 _ rfl; have g8 := x0.cell 8 _ rfl
  have q0 := x1.cell 0 _ rfl; have q1 := x1.cell 1 _ rfl; have q2 := x1.cell 2 _ rfl; have q3 := x1.cell 3 _ rfl; have q4 := x1.cell 4 _ rfl; have q5 := x1.cell 5 _ rfl; have q6 := x1.cell 6 _ rfl; have q7 := x1.cell 7 _ rfl; have q8 := x1.cell 8 _ rfl
  have qz := x1.frozen
  generalize hok : (numI t).isSome = ok at *
  go_wp2_with fail
  refine bodyPost_ret (v := .tuple #[.agg #[.int .i64 ck, .int .i64 ca, .int .i64 cb, .int .i64 cr, .int .i64 cd, .int .i64 cg, .int .i64 cq, .int .i64 n, .bool co], .bool ok]) (by simp [results, Tryz.results22, go_sem, *]) rfl ⟨⟨⟨ck, ca, cb, cr, cd, cg, cq, n, co⟩, by rw [hok], fun m hm => ?_⟩, below_set9m b0 (by omega) _ _ _ _ _ _ _ _ _⟩
  have e := HN.out m hm
  subst e
  rfl

theorem withPart_any (p : Int) (c : CQ) (t : List UInt8) (w : World) (h0 : 0 ≤ p) (h1 : p ≤ 6) (hl : t.length ≤ 281474976710656) (hL : Laid w) :
    Calls Tryz.prog 22 #[.agg #[.int .i64 c.k, .int .i64 c.a, .int .i64 c.b, .int .i64 c.r, .int .i64 c.d, .int .i64 c.g, .int .i64 c.q, .int .i64 c.f, .bool c.o], .int .i64 p, .string ⟨t.toArray⟩] w fun e w' => (∃ c' : CQ, e = .returned (.tuple #[.agg #[.int .i64 c'.k, .int .i64 c'.a, .int .i64 c'.b, .int .i64 c'.r, .int .i64 c'.d, .int .i64 c'.g, .int .i64 c'.q, .int .i64 c'.f, .bool c'.o], .bool (partI p t).isSome]) ∧ ∀ m, partI p t = some m → c' = setPart c p m) ∧ Below w.heap.size w w' := by
  have h : p = 0 ∨ p = 1 ∨ p = 2 ∨ p = 3 ∨ p = 4 ∨ p = 5 ∨ p = 6 := by omega
  rcases h with h | h | h | h | h | h | h <;> subst h
  · exact withPart_0 c t w hl hL
  · exact withPart_1 c t w hl hL
  · exact withPart_2 c t w hl hL
  · exact withPart_3 c t w hl hL
  · exact withPart_4 c t w hl hL
  · exact withPart_5 c t w hl hL
  · exact withPart_6 c t w hl hL

end Go.Proofs.YthmambhagheocaaGreatDoor
/-
  CapRead of the program, at every text: what the plain reading says.
-/
namespace Go.Proofs.YthmambhagheocaaGreatDoor
open Go.ChangeShapes Go.WideShapes Go.ChangeAt Go.RowKit
set_option linter.unusedVariables false

theorem read_is {s f0 wd : List UInt8} {F : List (List UInt8)} {o : Bool} (hc : cutL s = f0 :: F) (hs : cutStar f0 = (wd, o)) : readI s = if namedI wd = 0 then none else readK (namedI wd) o F := by
  unfold readI; rw [hc]; simp only [hs]
theorem named_mem (w : List UInt8) (h : namedI w ≠ 0) : 1 ≤ namedI w ∧ namedI w ≤ 7 := by
  have := (named_some (l := [1, 2, 3, 4, 5, 6, 7]) h).2
  change namedI w ∈ [1, 2, 3, 4, 5, 6, 7] at this
  simp only [List.mem_cons, List.not_mem_nil, or_false] at this
  omega
theorem rights_mem {t : List UInt8} : ∀ {l : List Int} {r : Int}, rightsFrom t l = some r → r ∈ l
  | [], _, h => by cases h
  | x :: l, r, h => by
    rw [rightsFrom] at h
    split at h
    · cases h; exact List.mem_cons_self ..
    · exact List.mem_cons_of_mem _ (rights_mem h)
theorem setPart_r {c : CQ} {p n : Int} {t : List UInt8} (h : partI p t = some n) (hr : 0 ≤ c.r ∧ c.r ≤ 7) (h0 : 0 ≤ p) (h6 : p ≤ 6) : 0 ≤ (setPart c p n).r ∧ (setPart c p n).r ≤ 7 := by
  have hp : p = 0 ∨ p = 1 ∨ p = 2 ∨ p = 3 ∨ p = 4 ∨ p = 5 ∨ p = 6 := by omega
  rcases hp with e | e | e | e | e | e | e <;> subst e
  · exact hr
  · exact hr
  · have h2 : rightsI t = some n := by rw [partI, if_pos rfl] at h; exact h
    have := rights_mem (l := [0, 1, 2, 3, 4, 5, 6, 7]) h2
    simp only [List.mem_cons, List.not_mem_nil, or_false] at this
    show 0 ≤ n ∧ n ≤ 7
    omega
  · exact hr
  · exact hr
  · exact hr
  · exact hr
theorem partsI_mem {k p : Int} (h : p ∈ partsI k) : 0 ≤ p ∧ p ≤ 6 := by
  unfold partsI at h
  repeat' split at h
  all_goals (simp only [List.mem_cons, List.not_mem_nil, or_false] at h; omega)
theorem readParts_none {c : CQ} {p : Int} {ps : List Int} {t : List UInt8} {ts : List (List UInt8)} (h : partI p t = none) : readParts c (p :: ps) (t :: ts) = none := by
  rw [readParts, h]
theorem readParts_some {c : CQ} {p n : Int} {ps : List Int} {t : List UInt8} {ts : List (List UInt8)} (h : partI p t = some n) : readParts c (p :: ps) (t :: ts) = readParts (setPart c p n) ps ts := by
  rw [readParts, h]
theorem drop_get {α : Type} {l : List α} {j : Nat} (h : j < l.length) : l.drop j = l[j] :: l.drop (j + 1) := List.drop_eq_getElem_cons h

theorem far9 {W : World} {b m : Nat} {T : TypeId} {L : List Value} (h : Bx W b T L) (hne : b ≠ m) (v0 v1 v2 v3 v4 v5 v6 v7 v8 : Value) : Bx (((((((((W.setCell ⟨m, 0, none⟩ v0).setCell ⟨m, 1, none⟩ v1).setCell ⟨m, 2, none⟩ v2).setCell ⟨m, 3, none⟩ v3).setCell ⟨m, 4, none⟩ v4).setCell ⟨m, 5, none⟩ v5).setCell ⟨m, 6, none⟩ v6).setCell ⟨m, 7, none⟩ v7).setCell ⟨m, 8, none⟩ v8) b T L := (((((((((h.far (c := m) (k := 0) v0 hne).far (c := m) (k := 1) v1 hne).far (c := m) (k := 2) v2 hne).far (c := m) (k := 3) v3 hne).far (c := m) (k := 4) v4 hne).far (c := m) (k := 5) v5 hne).far (c := m) (k := 6) v6 hne).far (c := m) (k := 7) v7 hne).far (c := m) (k := 8) v8 hne)
theorem set9 {W : World} {m : Nat} {T : TypeId} {a0 a1 a2 a3 a4 a5 a6 a7 a8 : Value} (h : Bx W m T [a0, a1, a2, a3, a4, a5, a6, a7, a8]) (v0 v1 v2 v3 v4 v5 v6 v7 v8 : Value) : Bx (((((((((W.setCell ⟨m, 0, none⟩ v0).setCell ⟨m, 1, none⟩ v1).setCell ⟨m, 2, none⟩ v2).setCell ⟨m, 3, none⟩ v3).setCell ⟨m, 4, none⟩ v4).setCell ⟨m, 5, none⟩ v5).setCell ⟨m, 6, none⟩ v6).setCell ⟨m, 7, none⟩ v7).setCell ⟨m, 8, none⟩ v8) m T [v0, v1, v2, v3, v4, v5, v6, v7, v8] := by
  have h9 := (((((((((h.set 0 v0).set 1 v1).set 2 v2).set 3 v3).set 4 v4).set 5 v5).set 6 v6).set 7 v7).set 8 v8)
  simpa only [List.set] using h9
/-- Between two rounds. -/
structure RdI (w : World) (W : World) (fB pB cB : Nat) (F : List (List UInt8)) (f0 : List UInt8) (ps : List Int) (c0 c : CQ) (j : Nat) : Prop where
  rr : Bx W w.heap.size 24 [.int .i64 0, .int .i64 0, .int .i64 0, .int .i64 0, .int .i64 0, .int .i64 0, .int .i64 0, .int .i64 0, .bool false]
  rf : Bx W fB 9 ((f0 :: F).map strV)
  rp : Bx W pB 53 (ps.map (Value.int .i64))
  rc : Bx W cB 24 [.int .i64 c.k, .int .i64 c.a, .int .i64 c.b, .int .i64 c.r, .int .i64 c.d, .int .i64 c.g, .int .i64 c.q, .int .i64 c.f, .bool c.o]
  bw : Below w.heap.size w W
  hj : j ≤ ps.length
  ho : w.heap.size + 1 < cB
  hr : 0 ≤ c.r ∧ c.r ≤ 7
  go : readParts c0 ps F = readParts c (ps.drop j) (F.drop j)

/-- Behind one part: what it left, at a block of its own. -/
structure RdC (w : World) (W : World) (fB pB cB : Nat) (F : List (List UInt8)) (f0 : List UInt8) (ps : List Int) (c c' : CQ) (b : Nat) : Prop where
  rr : Bx W w.heap.size 24 [.int .i64 0, .int .i64 0, .int .i64 0, .int .i64 0, .int .i64 0, .int .i64 0, .int .i64 0, .int .i64 0, .bool false]
  rf : Bx W fB 9 ((f0 :: F).map strV)
  rp : Bx W pB 53 (ps.map (Value.int .i64))
  rc : Bx W cB 24 [.int .i64 c.k, .int .i64 c.a, .int .i64 c.b, .int .i64 c.r, .int .i64 c.d, .int .i64 c.g, .int .i64 c.q, .int .i64 c.f, .bool c.o]
  rx : Bx W b 24 [.int .i64 c'.k, .int .i64 c'.a, .int .i64 c'.b, .int .i64 c'.r, .int .i64 c'.d, .int .i64 c'.g, .int .i64 c'.q, .int .i64 c'.f, .bool c'.o]
  bw : Below w.heap.size w W
  hb : b ≠ cB

set_option maxRecDepth 100000 in
set_option maxHeartbeats 8000000 in
theorem capReadI_any (s : List UInt8) (w : World) (hl : s.length ≤ 1048576) (hL : Laid w) :
    Calls Tryz.prog 7 #[.string ⟨s.toArray⟩] w fun e w' => e = .returned (rdV (readI s)) ∧ Below w.heap.size w w' := by
  obtain ⟨f0, F, hcut⟩ : ∃ f0 F, cutL s = f0 :: F := by
    cases e : cutL s with
    | nil => exact absurd e (cutL_ne s)
    | cons a b => exact ⟨a, b, rfl⟩
  obtain ⟨wd, o, hst⟩ : ∃ wd o, cutStar f0 = (wd, o) := ⟨_, _, rfl⟩
  have HR : Hid _ := read_is hcut hst
  have hFl : F.length ≤ 1048576 := by have := cutL_length s; rw [hcut] at this; simp at this; omega
  have hpl : ∀ t ∈ f0 :: F, t.length ≤ 1048576 := fun t ht => by have := cut_len s t (by rw [hcut]; exact ht); omega
  have r0 := Bx.new w 24 [.int .i64 0, .int .i64 0, .int .i64 0, .int .i64 0, .int .i64 0, .int .i64 0, .int .i64 0, .int .i64 0, .bool false]
  have b0 : Below w.heap.size w (w.alloc (.cells #[.int .i64 0, .int .i64 0, .int .i64 0, .int .i64 0, .int .i64 0, .int .i64 0, .int .i64 0, .int .i64 0, .bool false] 24)) := (Below.refl _ _).alloc (Nat.le_refl _) _
  have HS : Hid _ := split_any s (w.alloc (.cells #[.int .i64 0, .int .i64 0, .int .i64 0, .int .i64 0, .int .i64 0, .int .i64 0, .int .i64 0, .int .i64 0, .bool false] 24)) (by omega) (hL.below b0)
  have HW := fun W (h : Laid W) => star_any f0 W (by have := hpl f0 (List.mem_cons_self ..); omega)
  rw [hcut] at HS
  rw [hst] at HW
  obtain ⟨n, hn⟩ : ∃ n, (f0 :: F).length = n := ⟨_, rfl⟩
  rw [hn] at HS
  have hn1 : n ≤ F.length + 1 := by rw [← hn]; simp
  have hn2 : F.length + 1 ≤ n := by rw [← hn]; simp
  have hn0 : (0 : Int) < (n : Int) := by omega
  have HWd : Hid _ := HW
  clear HW hst hcut hn
  go_enter Tryz.func7, Tryz.ntmps7
  go_upto_region 2 with (go_at_call 18; refine Calls.mono HS.out ?_; rintro e w1 ⟨rfl, hw⟩; have fx : Bx w1 (w.heap.size + 1) 9 ((f0 :: F).map strV) := (by rw [hw]; exact Bx.newAt _ _ _ (by simp)); have r1 : Bx w1 w.heap.size 24 [.int .i64 0, .int .i64 0, .int .i64 0, .int .i64 0, .int .i64 0, .int .i64 0, .int .i64 0, .int .i64 0, .bool false] := (by rw [hw]; exact r0.alloc _); have b1 : Below w.heap.size w w1 := (by rw [hw]; exact b0.alloc (by simp) _); clear hw)
  clear HS r0 b0
  have L1 := hL.below b1
  have k0 := fx.cell 0 (.string ⟨f0.toArray⟩) rfl
  go_upto_region 3 with (go_at_call 19; refine Calls.mono (HWd.out _ L1) ?_; rintro e w2 ⟨rfl, hw⟩; have hw := hw.symm; subst hw)
  clear HWd k0
  have HNd : Hid _ := fun W => named_any wd W
  have hmem := named_mem wd
  generalize namedI wd = kk at HNd HR hmem
  go_upto_region 4 with (go_at_call 20; refine Calls.mono (HNd.out _) ?_; rintro e w2 ⟨rfl, hb2⟩; simp only [strV])
  clear HNd
  have r2 := (r1.below hb2).alloc (.cells #[.int .i64 kk, .int .i64 0, .int .i64 0, .int .i64 0, .int .i64 0, .int .i64 0, .int .i64 0, .int .i64 0, .bool o] 24)
  have f2 := (fx.below hb2).alloc (.cells #[.int .i64 kk, .int .i64 0, .int .i64 0, .int .i64 0, .int .i64 0, .int .i64 0, .int .i64 0, .int .i64 0, .bool o] 24)
  have b2 := (b1.trans (hb2.mono b1.size)).alloc (b1.trans (hb2.mono b1.size)).size (.cells #[.int .i64 kk, .int .i64 0, .int .i64 0, .int .i64 0, .int .i64 0, .int .i64 0, .int .i64 0, .int .i64 0, .bool o] 24)
  have x2 := Bx.newAt w2 24 [.int .i64 kk, .int .i64 0, .int .i64 0, .int .i64 0, .int .i64 0, .int .i64 0, .int .i64 0, .int .i64 0, .bool o] rfl
  have hcB : w.heap.size + 1 < w2.heap.size := (fx.below hb2).lt
  generalize w2.heap.size = cB at *
  generalize w2.alloc (.cells #[.int .i64 kk, .int .i64 0, .int .i64 0, .int .i64 0, .int .i64 0, .int .i64 0, .int .i64 0, .int .i64 0, .bool o] 24) = W at *
  clear r1 fx b1 L1 hb2
  have g0 := x2.cell 0 _ rfl
  by_cases hk : kk = 0
  · have HK : Hid (readI s = none) := by unfold Hid; rw [HR.out, if_pos hk]
    subst hk
    clear HR hmem
    have q0 := r2.cell 0 _ rfl; have q1 := r2.cell 1 _ rfl; have q2 := r2.cell 2 _ rfl; have q3 := r2.cell 3 _ rfl; have q4 := r2.cell 4 _ rfl; have q5 := r2.cell 5 _ rfl; have q6 := r2.cell 6 _ rfl; have q7 := r2.cell 7 _ rfl; have q8 := r2.cell 8 _ rfl; have qz := r2.frozen
    go_wp2
    refine bodyPost_ret (v := rdV none) (by simp [results, Tryz.results7, go_sem, rdV, CQ.zero, *]) rfl ⟨by rw [HK.out], below_set9 b2 _ _ _ _ _ _ _ _ _⟩
  · obtain ⟨h1, h7⟩ := hmem hk
    have HR2 : Hid (readI s = readK kk o F) := by unfold Hid; rw [HR.out, if_neg hk]
    have hkb : (kk == 0) = false := by simpa using hk
    clear HR hmem
    have HPt : Hid _ := fun W => partsOf_any kk W h1 h7
    have hpm : ∀ p ∈ partsI kk, 0 ≤ p ∧ p ≤ 6 := fun p hp => partsI_mem hp
    have hml : (partsI kk).length ≤ 4 := by unfold partsI; repeat' split
                                            all_goals decide
    unfold readK at HR2
    generalize partsI kk = ps at HPt hpm hml HR2
    obtain ⟨m, hm⟩ : ∃ m, ps.length = m := ⟨_, rfl⟩
    rw [hm] at HPt hml HR2
    have hw1 : IntKind.i64.wrap ((m : Int) + 1) = (m : Int) + 1 := by rw [IntKind.wrap_i64]; omega
    go_upto_region 7 with (first
      | (go_at_call 17; refine (kindOf_any _ _).mono ?_; rintro e w3 ⟨rfl, hw⟩; have hw := hw.symm; subst hw)
      | (go_at_call 21; refine Calls.mono (HPt.out _) ?_; rintro e w3 ⟨rfl, hw⟩; have p3 : Bx w3 W.heap.size 53 (ps.map (Value.int .i64)) := (by rw [hw]; exact Bx.newAt _ _ _ rfl); have r3 : Bx w3 w.heap.size 24 [.int .i64 0, .int .i64 0, .int .i64 0, .int .i64 0, .int .i64 0, .int .i64 0, .int .i64 0, .int .i64 0, .bool false] := (by rw [hw]; exact r2.alloc _); have f3 : Bx w3 (w.heap.size + 1) 9 ((f0 :: F).map strV) := (by rw [hw]; exact f2.alloc _); have x3 : Bx w3 cB 24 [.int .i64 kk, .int .i64 0, .int .i64 0, .int .i64 0, .int .i64 0, .int .i64 0, .int .i64 0, .int .i64 0, .bool o] := (by rw [hw]; exact x2.alloc _); have b3 : Below w.heap.size w w3 := (by rw [hw]; exact b2.alloc b2.size _); clear hw))
    have hpB : cB < W.heap.size := x2.lt
    clear r2 f2 x2 b2 HPt g0
    generalize W.heap.size = pB at *
    by_cases hfl : F.length = m
    · have hq : ((n : Int) != (m : Int) + 1) = false := by simp; omega
      have hq2 : (n : Int) = (m : Int) + 1 := by omega
      rw [if_pos hfl] at HR2
      have L3 : Laid w3 := hL.below b3
      clear L3
      go_wp2
      go_loopw [43] (fun i W => ∃ (j : Nat) (c : CQ), i = .int .i64 (j : Int) ∧ RdI w W (w.heap.size + 1) pB cB F f0 ps ⟨kk, 0, 0, 0, 0, 0, 0, 0, o⟩ c j) (fun i W => m - (intOf i).toNat)
      case atStart => exact ⟨0, _, rfl, ⟨r3, f3, p3, x3, b3, Nat.zero_le _, hcB, ⟨Int.le_refl 0, show (0 : Int) ≤ 7 by decide⟩, rfl⟩⟩
      case round =>
        clear r3 f3 p3 x3 b3
        obtain ⟨j, c, rfl, I⟩ := hrel
        by_cases hlt : j < m
        · have hjp : j < ps.length := by omega
          have hjF : j < F.length := by omega
          have hp := hpm ps[j] (List.getElem_mem hjp)
          have kt := I.rf.cell (j + 1) (.string ⟨F[j].toArray⟩) (by simp [strV, hjF])
          have hkt : Hid (((f0 :: F).map strV)[j + 1]? = some (.string ⟨F[j].toArray⟩)) := by unfold Hid; simp [strV, hjF]
          have kp := I.rp.cell j (.int .i64 ps[j]) (by simp [hjp])
          have hgo := I.go
          rw [drop_get hjp, drop_get hjF] at hgo
          have hwj : IntKind.i64.wrap ((j : Int) + 1) = (j : Int) + 1 := by rw [IntKind.wrap_i64]; omega
          have hjm : (j : Int) < (m : Int) := by omega
          have hjn : (j : Int) + 1 < (n : Int) := by omega
          have hjn0 : (0 : Int) ≤ (j : Int) + 1 := by omega
          have htn : ((j : Int) + 1).toNat = j + 1 := by omega
          have hsl : F[j].length ≤ 281474976710656 := by have := hpl F[j] (List.mem_cons_of_mem _ (List.getElem_mem hjF)); omega
          generalize ps[j] = p at hp kp hgo
          generalize F[j] = t at kt hgo hsl hkt
          have HGo : Hid _ := hgo
          have HP : Hid _ := fun W (hW : Laid W) => withPart_any p c t W hp.1 hp.2 hsl hW
          have HSr : Hid _ := fun (nn : Int) (h : partI p t = some nn) => setPart_r (c := c) h I.hr hp.1 hp.2
          clear hgo hsl hp
          go_upto_region 12 with fail
          go_cut [11, 12, 43] (fun a ok i wx => ∃ (b : Nat) (c' : CQ), a = .pointer (some ⟨b, 0, none⟩) ∧ ok = .bool (partI p t).isSome ∧ i = .int .i64 (j : Int) ∧ RdC w wx (w.heap.size + 1) pB cB F f0 ps c c' b ∧ ∀ nn, partI p t = some nn → c' = setPart c p nn)
          case first =>
            have y0 := I.rc.cell 0 _ rfl; have y1 := I.rc.cell 1 _ rfl; have y2 := I.rc.cell 2 _ rfl; have y3 := I.rc.cell 3 _ rfl; have y4 := I.rc.cell 4 _ rfl; have y5 := I.rc.cell 5 _ rfl; have y6 := I.rc.cell 6 _ rfl; have y7 := I.rc.cell 7 _ rfl; have y8 := I.rc.cell 8 _ rfl
            have I2 := I.rf.alloc (.cells #[.int .i64 0, .int .i64 0, .int .i64 0, .int .i64 0, .int .i64 0, .int .i64 0, .int .i64 0, .int .i64 0, .bool false] 24)
            have kt2 := I2.cell (j + 1) (.string ⟨t.toArray⟩) hkt.out
            have C2 := I.rc.alloc (.cells #[.int .i64 0, .int .i64 0, .int .i64 0, .int .i64 0, .int .i64 0, .int .i64 0, .int .i64 0, .int .i64 0, .bool false] 24)
            have e0 := C2.cell 0 _ rfl; have e1 := C2.cell 1 _ rfl; have e2 := C2.cell 2 _ rfl; have e3 := C2.cell 3 _ rfl; have e4 := C2.cell 4 _ rfl; have e5 := C2.cell 5 _ rfl; have e6 := C2.cell 6 _ rfl; have e7 := C2.cell 7 _ rfl; have e8 := C2.cell 8 _ rfl
            have bA := I.bw.alloc I.bw.size (.cells #[.int .i64 0, .int .i64 0, .int .i64 0, .int .i64 0, .int .i64 0, .int .i64 0, .int .i64 0, .int .i64 0, .bool false] 24)
            have zN := Bx.newAt wr 24 [.int .i64 0, .int .i64 0, .int .i64 0, .int .i64 0, .int .i64 0, .int .i64 0, .int .i64 0, .int .i64 0, .bool false] (c := wr.heap.size) rfl
            go_region_with (go_at_call 22; (first | (refine Calls.mono (HP.out wr.drew (hL.below I.bw.drew)) ?_; rintro e w5 ⟨⟨c', rfl, hc'⟩, hb5⟩) | (refine Calls.mono (HP.out _ (hL.below bA.drew)) ?_; rintro e w5 ⟨⟨c', rfl, hc'⟩, hb5⟩; have z := zN.drew.below hb5; have z0 := z.cell 0 _ rfl; have z1 := z.cell 1 _ rfl; have z2 := z.cell 2 _ rfl; have z3 := z.cell 3 _ rfl; have z4 := z.cell 4 _ rfl; have z5 := z.cell 5 _ rfl; have z6 := z.cell 6 _ rfl; have z7 := z.cell 7 _ rfl; have z8 := z.cell 8 _ rfl; have zz := z.frozen)))
            all_goals (go_wp2_with fail; go_meet)
            all_goals (case rel =>
              have s1 := I.rr.lt
              have s2 := I.rf.lt
              have s3 := I.rp.lt
              have s4 := I.rc.lt
              have s5 := I.ho
              first
              | exact ⟨w5.heap.size, c', rfl, rfl, rfl, ⟨(I.rr.drew.below hb5).alloc _, (I.rf.drew.below hb5).alloc _, (I.rp.drew.below hb5).alloc _, (I.rc.drew.below hb5).alloc _, Bx.newAt w5 _ _ rfl, (I.bw.drew.trans (hb5.mono I.bw.size)).alloc (I.bw.drew.trans (hb5.mono I.bw.size)).size _, by have := hb5.size; simp only [World.drew] at this; omega⟩, hc'⟩
              | exact ⟨wr.heap.size, c', rfl, rfl, rfl, ⟨far9 ((I.rr.alloc _).drew.below hb5) (by omega) _ _ _ _ _ _ _ _ _, far9 ((I.rf.alloc _).drew.below hb5) (by omega) _ _ _ _ _ _ _ _ _, far9 ((I.rp.alloc _).drew.below hb5) (by omega) _ _ _ _ _ _ _ _ _, far9 ((I.rc.alloc _).drew.below hb5) (by omega) _ _ _ _ _ _ _ _ _, set9 (zN.drew.below hb5) _ _ _ _ _ _ _ _ _, below_set9m (bA.drew.trans (hb5.mono bA.size)) (by omega) _ _ _ _ _ _ _ _ _, by omega⟩, hc'⟩)
          case rest =>
            obtain ⟨b, c', rfl, rfl, rfl, X, hc'⟩ := hcut
            cases hpt : partI p t with
            | none =>
              have HK : Hid (readI s = none) := by unfold Hid; rw [HR2.out, HGo.out, readParts_none hpt]; rfl
              simp only [Option.isSome_none]
              have q0 := X.rr.cell 0 _ rfl; have q1 := X.rr.cell 1 _ rfl; have q2 := X.rr.cell 2 _ rfl; have q3 := X.rr.cell 3 _ rfl; have q4 := X.rr.cell 4 _ rfl; have q5 := X.rr.cell 5 _ rfl; have q6 := X.rr.cell 6 _ rfl; have q7 := X.rr.cell 7 _ rfl; have q8 := X.rr.cell 8 _ rfl; have qz := X.rr.frozen
              go_wp2
              refine bodyPost_ret (v := rdV none) (by simp [results, Tryz.results7, go_sem, rdV, CQ.zero, *]) rfl ⟨by rw [HK.out], below_set9 X.bw _ _ _ _ _ _ _ _ _⟩
            | some nn =>
              have HC := hc' nn hpt
              have HG2 : Hid _ := HGo.out.trans (readParts_some hpt)
              have HS2 : Hid _ := HSr.out nn hpt
              rw [← HC] at HG2 HS2
              clear HC hc'
              simp only [Option.isSome_some]
              have y0 := X.rx.cell 0 _ rfl; have y1 := X.rx.cell 1 _ rfl; have y2 := X.rx.cell 2 _ rfl; have y3 := X.rx.cell 3 _ rfl; have y4 := X.rx.cell 4 _ rfl; have y5 := X.rx.cell 5 _ rfl; have y6 := X.rx.cell 6 _ rfl; have y7 := X.rx.cell 7 _ rfl; have y8 := X.rx.cell 8 _ rfl
              have q0 := X.rc.cell 0 _ rfl; have q1 := X.rc.cell 1 _ rfl; have q2 := X.rc.cell 2 _ rfl; have q3 := X.rc.cell 3 _ rfl; have q4 := X.rc.cell 4 _ rfl; have q5 := X.rc.cell 5 _ rfl; have q6 := X.rc.cell 6 _ rfl; have q7 := X.rc.cell 7 _ rfl; have q8 := X.rc.cell 8 _ rfl
              have qz := X.rc.frozen
              go_wp2
              go_roundw
              case rel =>
                have s1 := I.ho
                exact ⟨j + 1, c', by go_num, ⟨far9 X.rr (by omega) _ _ _ _ _ _ _ _ _, far9 X.rf (by omega) _ _ _ _ _ _ _ _ _, far9 X.rp (by omega) _ _ _ _ _ _ _ _ _, set9 X.rc _ _ _ _ _ _ _ _ _, below_set9m X.bw (by omega) _ _ _ _ _ _ _ _ _, by omega, I.ho, HS2.out, HG2.out⟩⟩
              case measure => simp [intOf]; omega
        · have hjm : ¬ (j : Int) < (m : Int) := by omega
          have hgo := I.go
          rw [List.drop_eq_nil_of_le (show ps.length ≤ j by omega)] at hgo
          have HG : Hid (readI s = if c.ok = true then some c else none) := by unfold Hid; rw [HR2.out, hgo]; rfl
          clear hgo
          have HO : Hid _ := fun W => okImpl_any c.k c.a c.b c.r c.d c.g c.q c.f c.o W (by have := I.hr; omega) (by have := I.hr; omega)
          have y0 := I.rc.cell 0 _ rfl; have y1 := I.rc.cell 1 _ rfl; have y2 := I.rc.cell 2 _ rfl; have y3 := I.rc.cell 3 _ rfl; have y4 := I.rc.cell 4 _ rfl; have y5 := I.rc.cell 5 _ rfl; have y6 := I.rc.cell 6 _ rfl; have y7 := I.rc.cell 7 _ rfl; have y8 := I.rc.cell 8 _ rfl
          have hok : c.ok = okB c.k c.a c.b c.r c.d c.g c.q c.f c.o := rfl
          rw [hok] at HG
          clear hok
          cases hx : okB c.k c.a c.b c.r c.d c.g c.q c.f c.o
          · rw [hx] at HG HO
            have HK : Hid (readI s = none) := HG
            clear HG
            go_upto_region 18 with (go_at_call 14; refine Calls.mono (HO.out _) ?_; rintro e w5 ⟨rfl, hb5⟩)
            have r5 := I.rr.below (hb5)
            have b5 := I.bw.trans (hb5.mono I.bw.size)
            have q0 := r5.cell 0 _ rfl; have q1 := r5.cell 1 _ rfl; have q2 := r5.cell 2 _ rfl; have q3 := r5.cell 3 _ rfl; have q4 := r5.cell 4 _ rfl; have q5 := r5.cell 5 _ rfl; have q6 := r5.cell 6 _ rfl; have q7 := r5.cell 7 _ rfl; have q8 := r5.cell 8 _ rfl; have qz := r5.frozen
            go_wp2
            refine bodyPost_ret (v := rdV none) (by simp [results, Tryz.results7, go_sem, rdV, CQ.zero, *]) rfl ⟨by rw [HK.out], below_set9 b5 _ _ _ _ _ _ _ _ _⟩
          · rw [hx] at HG HO
            have HK : Hid (readI s = some c) := HG
            clear HG
            go_wp2_with (go_at_call 14; refine Calls.mono (HO.out _) ?_; rintro e w5 ⟨rfl, hb5⟩; have r5 := I.rr.below (hb5); have c5 := I.rc.below (hb5); have b5 := I.bw.trans (hb5.mono I.bw.size); clear y0 y1 y2 y3 y4 y5 y6 y7 y8; have q0 := r5.cell 0 _ rfl; have q1 := r5.cell 1 _ rfl; have q2 := r5.cell 2 _ rfl; have q3 := r5.cell 3 _ rfl; have q4 := r5.cell 4 _ rfl; have q5 := r5.cell 5 _ rfl; have q6 := r5.cell 6 _ rfl; have q7 := r5.cell 7 _ rfl; have q8 := r5.cell 8 _ rfl; have qz := r5.frozen; have y0 := c5.cell 0 _ rfl; have y1 := c5.cell 1 _ rfl; have y2 := c5.cell 2 _ rfl; have y3 := c5.cell 3 _ rfl; have y4 := c5.cell 4 _ rfl; have y5 := c5.cell 5 _ rfl; have y6 := c5.cell 6 _ rfl; have y7 := c5.cell 7 _ rfl; have y8 := c5.cell 8 _ rfl)
            refine bodyPost_ret (v := rdV (some c)) (by simp [results, Tryz.results7, go_sem, rdV, CQ.zero, *]) rfl ⟨by rw [HK.out], below_set9 b5 _ _ _ _ _ _ _ _ _⟩
    · have hq : ((n : Int) != (m : Int) + 1) = true := by simp; omega
      have hq2 : ¬ (n : Int) = (m : Int) + 1 := by omega
      have HK : Hid (readI s = none) := by unfold Hid; rw [HR2.out, if_neg hfl]
      have q0 := r3.cell 0 _ rfl; have q1 := r3.cell 1 _ rfl; have q2 := r3.cell 2 _ rfl; have q3 := r3.cell 3 _ rfl; have q4 := r3.cell 4 _ rfl; have q5 := r3.cell 5 _ rfl; have q6 := r3.cell 6 _ rfl; have q7 := r3.cell 7 _ rfl; have q8 := r3.cell 8 _ rfl; have qz := r3.frozen
      go_wp2
      refine bodyPost_ret (v := rdV none) (by simp [results, Tryz.results7, go_sem, rdV, CQ.zero, *]) rfl ⟨by rw [HK.out], below_set9 b3 _ _ _ _ _ _ _ _ _⟩

end Go.Proofs.YthmambhagheocaaGreatDoor
/-
  What the drawing of a capability, of two words, and of a text answers: some capability with few rights; some two words; some short text.
-/
namespace Go.Proofs.YthmambhagheocaaGreatDoor
open Go.ChangeShapes Go.WideShapes Go.ChangeAt Go.RowKit
set_option linter.unusedVariables false

theorem u64_range (x : Int) : 0 ≤ IntKind.u64.wrap x ∧ IntKind.u64.wrap x ≤ 18446744073709551615 := by
  rw [IntKind.wrap_u64]; omega
theorem u32_range (x : Int) : 0 ≤ IntKind.u32.wrap x ∧ IntKind.u32.wrap x ≤ 4294967295 := by
  rw [IntKind.wrap_u32]; omega

set_option maxRecDepth 100000 in
set_option maxHeartbeats 2000000 in
theorem word64_fr (p n k : Nat) (w : World) (h : Reads w p n k) (hk : k ≤ 2900) (hp : p < w.heap.size) :
    Calls Tryz.prog 34 #[.pointer (some ⟨p, 0, none⟩)] w fun e w' => ∃ x : Int, e = .returned (.int .u64 x) ∧ (∃ j, j ≤ k + 8 ∧ Reads w' p n j) ∧ Fr p w w' := by
  go_enter Tryz.func34, Tryz.ntmps34
  go_wp2
  go_loopw [3, 4] (fun v i w' => ∃ (j : Nat) (x : Int), j ≤ 8 ∧ v = .int .u64 x ∧ i = .int .i64 (j : Int) ∧ Reads w' p n (k + j) ∧ Fr p w w') (fun v i w' => 8 - (intOf i).toNat)
  case atStart => exact ⟨0, 0, by omega, rfl, rfl, h, Fr.refl p w⟩
  case round =>
    obtain ⟨j, x, hj, rfl, rfl, hr, F⟩ := hrel
    by_cases hlt : j < 8
    · have hj1 : (j : Int) < 8 := by omega
      go_wp2_with (go_at_call 32; refine (pick_fr p n (k + j) _ _ hr (by omega) (by omega) (by omega)).mono ?_; rintro e w1 ⟨y, rfl, hy, hr1, F1⟩)
      go_roundw
      case rel => exact ⟨j + 1, _, by omega, rfl, by go_num, hr1, F.trans F1⟩
      case measure => simp [intOf]; omega
    · have hj1 : ¬ (j : Int) < 8 := by omega
      go_wp2
      go_ret
      exact ⟨⟨_, rfl⟩, ⟨k + j, by omega, hr⟩, F⟩

theorem of_fr (p n k q L Cc : Nat) (w : World) (h : Reads w p n k) (hk : k ≤ 3000) (hL : 1 ≤ L) (hL1 : L ≤ 300) (hq : q ≠ p)
    (hc : ∀ j, j < L → ∃ s : List UInt8, w.cell? ⟨q, j, none⟩ = some (.string ⟨s.toArray⟩) ∧ s.length ≤ 100) :
    Calls Tryz.prog 36 #[.pointer (some ⟨p, 0, none⟩), .slice (some ⟨q, 0, none⟩) L Cc] w fun e w' => ∃ s : List UInt8, e = .returned (.string ⟨s.toArray⟩) ∧ s.length ≤ 100 ∧ Reads w' p n (k + 1) ∧ Fr p w w' := by
  go_enter Tryz.func36, Tryz.ntmps36
  go_wp2_with (go_at_call 32; refine (pick_any p n k _ _ h hk (by omega) (by omega)).mono ?_; rintro e w1 ⟨x, rfl, hx0, hx1, hr, ht⟩; obtain ⟨m, rfl⟩ : ∃ m : Nat, x = m := ⟨x.toNat, by omega⟩; obtain ⟨v, hv, hv0⟩ := hc m (by omega); have hv1' : w1.cell? ⟨q, m, none⟩ = some (.string ⟨v.toArray⟩) := (by rw [ht.1 _ _ hq]; exact hv))
  go_ret
  exact ⟨v, rfl, hv0, hr, Fr.of_turned ht⟩

/-- The cells of a list of texts that was just made. -/
theorem made_strs (w : World) (T : Nat) (L : List (List UInt8)) (hz : ∀ z ∈ L, z.length ≤ 100) (j : Nat) (hj : j < L.length) :
    ∃ s : List UInt8, (w.alloc (.cells (L.map strV).toArray T)).cell? ⟨w.heap.size, j, none⟩ = some (.string ⟨s.toArray⟩) ∧ s.length ≤ 100 := by
  refine ⟨L[j], ?_, hz _ (List.getElem_mem hj)⟩
  simp [go_sem, hj, strV]

theorem reads_below {w w' : World} {p n k : Nat} (h : Reads w p n k) (hp : p < w.heap.size) (hb : Below w.heap.size w w') : Reads w' p n k := by
  obtain ⟨a, c, g0, g1, g2, g3, g4⟩ := id h
  exact h.later ((hb.cell (p := ⟨p, 1, none⟩) hp).trans g1) ((hb.frozen (p := ⟨p, 1, none⟩) hp).trans g2) (hb.cell (p := ⟨p, 0, none⟩) hp) (fun b o1 hbp => hb.cell (p := ⟨b, o1, none⟩) (Nat.lt_trans hbp hp))
theorem word_range (k a b r d g q f : Int) (o : Bool) : (0 ≤ wordA k a b r d g q f o ∧ wordA k a b r d g q f o ≤ 4294967295) ∧ (0 ≤ wordB k a b r d g q f o ∧ wordB k a b r d g q f o ≤ 4294967295) := by
  unfold wordA wordB
  by_cases h : okB k a b r d g q f o = true
  · rw [if_pos h, if_pos h]
    obtain ⟨⟨k0, k1⟩, ⟨a0, a1⟩, ⟨b0, b1⟩, ⟨r0, r1⟩, ⟨d0, d1⟩, ⟨g0, g1⟩, ⟨q0, q1⟩, ⟨f0, f1⟩, hd⟩ := ok_bounds h
    unfold packA packB oI
    cases o <;> simp <;> omega
  · rw [if_neg h, if_neg h]; omega
theorem textOr_len (k a b r d g q f : Int) (o : Bool) : (textOr k a b r d g q f o).length ≤ 100 := by
  unfold textOr
  by_cases h : okB k a b r d g q f o = true
  · rw [if_pos h]; exact (text_len (c := ⟨k, a, b, r, d, g, q, f, o⟩) h).1
  · rw [if_neg h]; simp

set_option maxHeartbeats 2000000 in
theorem drawPack_any (a : Option Addr) (n c : Nat) (w : World) (h : Bytes w a n c) (hn : n ≤ 1048576) :
    Calls Tryz.prog 4 #[.slice a n c] w fun e w' => ∃ (k' a' b' r' d' g' q' f' : Int) (o' : Bool), e = .returned (.agg #[.int .i64 k', .int .i64 a', .int .i64 b', .int .i64 r', .int .i64 d', .int .i64 g', .int .i64 q', .int .i64 f', .bool o']) ∧ (-10 ≤ r' ∧ r' ≤ 10) ∧ Below w.heap.size w w' := by
  go_enter Tryz.func4, Tryz.ntmps4
  go_wp2_with fail
  have r0 := Bx.new w 24 [.int .i64 0, .int .i64 0, .int .i64 0, .int .i64 0, .int .i64 0, .int .i64 0, .int .i64 0, .int .i64 0, .bool false]
  have hB0 : Below w.heap.size w (w.alloc (.cells #[.int .i64 0, .int .i64 0, .int .i64 0, .int .i64 0, .int .i64 0, .int .i64 0, .int .i64 0, .int .i64 0, .bool false] 24)) := (Below.refl _ _).alloc (Nat.le_refl _) _
  refine (open_any a n c _ (h.alloc _) hn).mono ?_
  rintro e W ⟨rfl, ⟨l, hr⟩, hb, hsz⟩
  have r1 := r0.below hb
  have hB := hB0.trans (hb.mono hB0.size)
  have hs0 : w.heap.size < (w.alloc (.cells #[.int .i64 0, .int .i64 0, .int .i64 0, .int .i64 0, .int .i64 0, .int .i64 0, .int .i64 0, .int .i64 0, .bool false] 24)).heap.size := r0.lt
  generalize (w.alloc (.cells #[.int .i64 0, .int .i64 0, .int .i64 0, .int .i64 0, .int .i64 0, .int .i64 0, .int .i64 0, .int .i64 0, .bool false] 24)).heap.size = p at hr hsz hs0 ⊢
  go_wp2_with fail
  refine (half_any p l 0 _ hr (by omega) (by omega)).mono ?_
  rintro e W1 ⟨k', a', b', r', d', g', q', f', o', rfl, hrt, _, F⟩
  have r2 : Bx W1 w.heap.size 24 [.int .i64 0, .int .i64 0, .int .i64 0, .int .i64 0, .int .i64 0, .int .i64 0, .int .i64 0, .int .i64 0, .bool false] := r1.same (F.obj _ (by omega) (by omega))
  have hB1 : Below w.heap.size w W1 := hB.trans (F.bel.mono (by omega))
  have q0 := r2.cell 0 _ rfl; have q1 := r2.cell 1 _ rfl; have q2 := r2.cell 2 _ rfl; have q3 := r2.cell 3 _ rfl; have q4 := r2.cell 4 _ rfl; have q5 := r2.cell 5 _ rfl; have q6 := r2.cell 6 _ rfl; have q7 := r2.cell 7 _ rfl; have q8 := r2.cell 8 _ rfl
  have qz := r2.frozen
  go_wp2_with fail
  refine bodyPost_ret (v := .agg #[.int .i64 k', .int .i64 a', .int .i64 b', .int .i64 r', .int .i64 d', .int .i64 g', .int .i64 q', .int .i64 f', .bool o']) (by simp [results, Tryz.results4, go_sem, *]) rfl ⟨_, _, _, _, _, _, _, _, _, rfl, hrt, below_set9 hB1 _ _ _ _ _ _ _ _ _⟩

set_option maxRecDepth 100000 in
set_option maxHeartbeats 4000000 in
theorem drawUnpack_any (a : Option Addr) (n c : Nat) (w : World) (h : Bytes w a n c) (hn : n ≤ 1048576) :
    Calls Tryz.prog 10 #[.slice a n c] w fun e w' => ∃ x y : Int, e = .returned (.tuple #[.int .u32 x, .int .u32 y]) ∧ (0 ≤ x ∧ x ≤ 4294967295) ∧ (0 ≤ y ∧ y ≤ 4294967295) ∧ Below w.heap.size w w' := by
  go_enter Tryz.func10, Tryz.ntmps10
  go_wp2_with fail
  refine (open_any a n c _ h hn).mono ?_
  rintro e W ⟨rfl, ⟨l, hr⟩, hb, hsz⟩
  obtain ⟨p, hp⟩ : ∃ p, p = w.heap.size := ⟨_, rfl⟩
  rw [← hp] at hr hsz hb ⊢
  have HPz : Hid (p = w.heap.size) := hp
  clear hp
  go_wp2_with fail
  refine (cap_any p l 0 _ hr (by omega) (by omega)).mono ?_
  rintro e W1 ⟨k', a', b', r', d', g', q', f', o', rfl, hrt, ⟨j, hj, hr1⟩, F1⟩
  go_wp2_with fail
  refine (packSpec_any k' a' b' r' d' g' q' f' o' _).mono ?_
  rintro e W2 ⟨rfl, hb2⟩
  obtain ⟨hx, hy⟩ := word_range k' a' b' r' d' g' q' f' o'
  generalize wordA k' a' b' r' d' g' q' f' o' = x at hx ⊢
  generalize wordB k' a' b' r' d' g' q' f' o' = y at hy ⊢
  have hs1 : p < W1.heap.size := by have := F1.siz; omega
  have hr2 : Reads W2 p l j := reads_below hr1 hs1 hb2
  have B1 : Below p w W1 := hb.trans (F1.bel)
  have B2 : Below p w W2 := B1.trans (hb2.mono (by omega))
  have hs2 : p < W2.heap.size := by have := hb2.size; omega
  clear hr hb hsz F1 hr1 hb2 B1 hs1
  go_wp2_with fail
  refine (pick_fr p l j 6 _ hr2 (by omega) (by omega) (by omega)).mono ?_
  rintro e W3 ⟨z, rfl, hz, hr3, F3⟩
  have B3 : Below p w W3 := B2.trans F3.bel
  have hs3 : p < W3.heap.size := by have := F3.siz; omega
  clear hr2 F3 B2 hs2
  cases e0 : (z == 0)
  · cases e1 : (z == 1)
    · cases e2 : (z == 2)
      · go_wp2_with fail
        go_ret2
        exact ⟨x, y, rfl, hx, hy, by rw [← HPz.out]; exact B3⟩
      · go_wp2_with fail
        refine (word64_fr p l (j + 1) _ hr3 (by omega) hs3).mono ?_
        rintro e W4 ⟨u, rfl, ⟨j4, hj4, hr4⟩, F4⟩
        go_wp2_with fail
        refine (word64_fr p l j4 _ hr4 (by omega) (by have := F4.siz; omega)).mono ?_
        rintro e W5 ⟨v, rfl, ⟨j5, hj5, hr5⟩, F5⟩
        go_wp2_with fail
        go_ret2
        exact ⟨_, _, rfl, u32_range _, u32_range _, by rw [← HPz.out]; exact (B3.trans F4.bel).trans F5.bel⟩
    · go_wp2_with fail
      refine (num_fr p l (j + 1) _ _ _ 0 2147483648 _ (reads_alloc hr3 hs3 _) (by omega) (by omega) (by omega) (by omega) (fun j hj => by have := made_cells W3 3 [1, 4, 65536, 8192, 2147483648] (0) (2147483648) (by intro z hz; simp at hz; omega) j (by simpa using hj); simpa using this)).mono ?_
      rintro e W4 ⟨u, rfl, hu, hr4, F4⟩
      go_wp2_with fail
      go_ret2
      exact ⟨_, _, rfl, hx, u32_range _, by rw [← HPz.out]; exact (B3.alloc (by omega) _).trans F4.bel⟩
  · go_wp2_with fail
    refine (num_fr p l (j + 1) _ _ _ 0 2147483648 _ (reads_alloc hr3 hs3 _) (by omega) (by omega) (by omega) (by omega) (fun j hj => by have := made_cells W3 3 [1, 16, 32, 256, 4096, 65536, 2147483648] (0) (2147483648) (by intro z hz; simp at hz; omega) j (by simpa using hj); simpa using this)).mono ?_
    rintro e W4 ⟨u, rfl, hu, hr4, F4⟩
    go_wp2_with fail
    go_ret2
    exact ⟨_, _, rfl, u32_range _, hy, by rw [← HPz.out]; exact (B3.alloc (by omega) _).trans F4.bel⟩

set_option maxRecDepth 100000 in
set_option maxHeartbeats 4000000 in
theorem drawRead_any (a : Option Addr) (n c : Nat) (w : World) (h : Bytes w a n c) (hn : n ≤ 1048576) :
    Calls Tryz.prog 12 #[.slice a n c] w fun e w' => ∃ s : List UInt8, e = .returned (.string ⟨s.toArray⟩) ∧ s.length ≤ 1000 ∧ Below w.heap.size w w' := by
  go_enter Tryz.func12, Tryz.ntmps12
  go_wp2_with fail
  refine (open_any a n c _ h hn).mono ?_
  rintro e W ⟨rfl, ⟨l, hr⟩, hb, hsz⟩
  obtain ⟨p, hp⟩ : ∃ p, p = w.heap.size := ⟨_, rfl⟩
  rw [← hp] at hr hsz hb ⊢
  have HPz : Hid (p = w.heap.size) := hp
  clear hp
  go_wp2_with fail
  refine (cap_any p l 0 _ hr (by omega) (by omega)).mono ?_
  rintro e W1 ⟨k', a', b', r', d', g', q', f', o', rfl, hrt, ⟨j, hj, hr1⟩, F1⟩
  go_wp2_with fail
  refine (textSpec_any k' a' b' r' d' g' q' f' o' _).mono ?_
  rintro e W2 ⟨rfl, hb2⟩
  have hx := textOr_len k' a' b' r' d' g' q' f' o'
  generalize textOr k' a' b' r' d' g' q' f' o' = t at hx ⊢
  have hs1 : p < W1.heap.size := by have := F1.siz; omega
  have hr2 : Reads W2 p l j := reads_below hr1 hs1 hb2
  have B1 : Below p w W1 := hb.trans (F1.bel)
  have B2 : Below p w W2 := B1.trans (hb2.mono (by omega))
  have hs2 : p < W2.heap.size := by have := hb2.size; omega
  clear hr hb hsz F1 hr1 hb2 B1 hs1
  go_wp2_with fail
  refine (pick_fr p l j 9 _ hr2 (by omega) (by omega) (by omega)).mono ?_
  rintro e W3 ⟨z, rfl, hz, hr3, F3⟩
  have B3 : Below p w W3 := B2.trans F3.bel
  have hs3 : p < W3.heap.size := by have := F3.siz; omega
  clear hr2 F3 B2 hs2
  cases e0 : (z == 0)
  · cases e1 : (z == 1)
    · cases e2 : (z == 2)
      · go_wp2_with fail
        go_ret
        exact ⟨t, rfl, by omega, by rw [← HPz.out]; exact B3⟩
      · go_wp2_with fail
        refine (of_fr p l (j + 1) _ _ _ _ (reads_alloc hr3 hs3 _) (by omega) (by omega) (by omega) (by omega) (fun j hj => by have := made_strs W3 9 [[32], [120], [42]] (by decide) j (by simpa using hj); simpa [strV] using this)).mono ?_
        rintro e W4 ⟨s, rfl, hs, hr4, F4⟩
        have happ := bytes_app s t
        go_wp2_with fail
        go_ret
        exact ⟨s ++ t, by simp, by simp; omega, by rw [← HPz.out]; exact (B3.alloc (by omega) _).trans F4.bel⟩
    · go_wp2_with fail
      refine (of_fr p l (j + 1) _ _ _ _ (reads_alloc hr3 hs3 _) (by omega) (by omega) (by omega) (by omega) (fun j hj => by have := made_strs W3 9 [[48], [32], [32, 48], [114]] (by decide) j (by simpa using hj); simpa [strV] using this)).mono ?_
      rintro e W4 ⟨s, rfl, hs, hr4, F4⟩
      have happ := bytes_app t s
      go_wp2_with fail
      go_ret
      exact ⟨t ++ s, by simp, by simp; omega, by rw [← HPz.out]; exact (B3.alloc (by omega) _).trans F4.bel⟩
  · go_wp2_with fail
    refine (of_fr p l (j + 1) _ _ _ _ (reads_alloc hr3 hs3 _) (by omega) (by omega) (by omega) (by omega) (fun j hj => by have := made_strs W3 9 [[], [101, 110, 100], [101, 110, 100, 32, 52], [101, 110, 100, 32, 52, 32, 114, 119], [101, 110, 100, 32, 52, 32, 119, 114, 32, 48], [101, 110, 100, 32, 52, 32, 45, 32, 48], [101, 110, 100, 42, 32, 49, 50, 56, 32, 114, 119, 103, 32, 48], [101, 110, 100, 32, 52, 32, 114, 119, 32, 48, 49], [117, 110, 116, 121, 112, 101, 100, 32, 49, 50, 56, 32, 54, 32, 48], [117, 110, 116, 121, 112, 101, 100, 42, 32, 49, 50, 56, 32, 54, 32, 48], [114, 101, 112, 108, 121, 42, 32, 49, 50, 56], [114, 101, 112, 108, 121, 32, 49, 50, 56], [110, 111, 100, 101, 32, 49, 50, 56, 32, 51, 32, 48, 32, 48, 32, 48], [110, 111, 100, 101, 32, 49, 50, 56, 32, 51, 32, 49, 32, 48], [116, 104, 114, 101, 97, 100, 32, 32, 49, 50, 56], [84, 104, 114, 101, 97, 100, 32, 49, 50, 56], [102, 114, 97, 109, 101, 32, 49, 51, 48, 32, 50, 32, 114, 119], [110, 111, 116, 101, 32, 49, 50, 56, 32, 114, 119, 103, 32, 48], [110, 111, 116, 101, 42, 32, 49, 50, 56, 32, 114, 119, 32, 54, 53, 53, 51, 54], [116, 104, 114, 101, 97, 100, 32, 49, 50, 56, 32]] (by decide) j (by simpa using hj); simpa [strV] using this)).mono ?_
    rintro e W4 ⟨s, rfl, hs, hr4, F4⟩
    go_wp2_with fail
    go_ret
    exact ⟨s, rfl, by omega, by rw [← HPz.out]; exact (B3.alloc (by omega) _).trans F4.bel⟩

end Go.Proofs.YthmambhagheocaaGreatDoor
/-
  What CapUnpack of the program and of the specification answer, at every two words.
-/
namespace Go.Proofs.YthmambhagheocaaGreatDoor
open Go.ChangeShapes Go.WideShapes Go.ChangeAt Go.RowKit
set_option linter.unusedVariables false

theorem maskN (n : Nat) (hn : n ≤ 16) {x c s : Int} (hc : c = ((2 ^ n - 1 : Nat) : Int)) (hs : s = ((2 ^ n : Nat) : Int)) (h0 : 0 ≤ x) (h1 : x ≤ 4294967295) : bits BinOp.and IntKind.u32 x c = x % s := by
  obtain ⟨X, rfl⟩ := Int.eq_ofNat_of_zero_le h0
  have hp : 2 ^ n ≤ 2 ^ 16 := Nat.pow_le_pow_right (by omega) hn
  subst hc hs
  rw [u32_and_nat _ _ (by omega) (by omega), Nat.and_two_pow_sub_one_eq_mod X n]
  exact Int.natCast_emod X (2 ^ n)

theorem ta_nil (w : World) : (Instr.typeAssert .nilIface 42 45 true).run Tryz.prog w = .ok (.tuple #[.agg #[], .bool false]) w := by kernel_rfl

theorem ta_node (k : Int) (x : Bool) (h : (k == 2) = x) (w : World) : (Instr.typeAssert (kindV k) 42 45 true).run Tryz.prog w = .ok (.tuple #[.agg #[], .bool x]) w := by
  rcases kind_cases k with (e | e | e | e | e | e | e) | ⟨h1, h2, h3, h4, h5, h6, h7⟩
  · subst e; subst h; rw [kindV_1]; exact ta_1_2 w
  · subst e; subst h; rw [kindV_2]; exact ta_2_2 w
  · subst e; subst h; rw [kindV_3]; exact ta_3_2 w
  · subst e; subst h; rw [kindV_4]; exact ta_4_2 w
  · subst e; subst h; rw [kindV_5]; exact ta_5_2 w
  · subst e; subst h; rw [kindV_6]; exact ta_6_2 w
  · subst e; subst h; rw [kindV_7]; exact ta_7_2 w
  · have : x = false := by rw [← h]; simpa using h2
    subst this
    rw [kindV_none h1 h2 h3 h4 h5 h6 h7]; exact ta_nil w

/-- The fields of two words. -/
structure Fields (a b K A B R Q F H : Int) (O : Bool) : Prop where
  kk : a % 16 = K
  aa : b % 65536 = A
  bb : a / 256 % 16 = B
  rr : a / 32 % 8 = R
  qq : a / 4096 % 16 = Q
  ff : a / 65536 = F
  hh : b / 65536 = H
  oo : (a / 16 % 2 == 1) = O

theorem words_back {a b K A B R Q F H : Int} {O : Bool} (f : Fields a b K A B R Q F H O) (ha0 : 0 ≤ a) (hb0 : 0 ≤ b) (d g : Int) (h : d + g = H) : packA K B R Q F O = a ∧ packB A d g = b := by
  obtain ⟨kk, aa, bb, rr, qq, ff, hh, oo⟩ := f
  have ho : oI O = a / 16 % 2 := by
    unfold oI
    cases O
    · have : ¬ a / 16 % 2 = 1 := by simpa using oo
      simp; omega
    · have : a / 16 % 2 = 1 := by simpa using oo
      simp; omega
  unfold packA packB
  rw [ho]
  constructor <;> omega

set_option maxHeartbeats 400000 in
theorem unpackImpl_ny (a b K A B R Q F H : Int) (O : Bool) (w : World) (ha0 : 0 ≤ a) (ha1 : a ≤ 4294967295) (hb0 : 0 ≤ b) (hb1 : b ≤ 4294967295) (f : Fields a b K A B R Q F H O) (hk : (K == 2) = true) (ho : okB K A B R 0 H Q F O = true) :
    Calls Tryz.prog 6 #[.int .u32 a, .int .u32 b] w fun e w' => e = .returned (.tuple #[.agg #[.int .i64 K, .int .i64 A, .int .i64 B, .int .i64 R, .int .i64 0, .int .i64 H, .int .i64 Q, .int .i64 F, .bool O], .bool true]) ∧ Below w.heap.size w w' := by
  have hbK : 0 ≤ K ∧ K ≤ 15 := by have := f.kk; omega
  have hbA : 0 ≤ A ∧ A ≤ 65535 := by have := f.aa; omega
  have hbB : 0 ≤ B ∧ B ≤ 15 := by have := f.bb; omega
  have hbR : 0 ≤ R ∧ R ≤ 7 := by have := f.rr; omega
  have hbQ : 0 ≤ Q ∧ Q ≤ 15 := by have := f.qq; omega
  have hbF : 0 ≤ F ∧ F ≤ 65535 := by have := f.ff; omega
  have hbH : 0 ≤ H ∧ H ≤ 65535 := by have := f.hh; omega
  have mk : bits BinOp.and IntKind.u32 a 15 = K := by rw [maskN 4 (by omega) (s := 16) (by decide) (by decide) ha0 ha1]; exact f.kk
  have ma : bits BinOp.and IntKind.u32 b 65535 = A := by rw [maskN 16 (by omega) (s := 65536) (by decide) (by decide) hb0 hb1]; exact f.aa
  have mb : bits BinOp.and IntKind.u32 (a / 256) 15 = B := by rw [maskN 4 (by omega) (s := 16) (by decide) (by decide) (by omega) (by omega)]; exact f.bb
  have mr : bits BinOp.and IntKind.u32 (a / 32) 7 = R := by rw [maskN 3 (by omega) (s := 8) (by decide) (by decide) (by omega) (by omega)]; exact f.rr
  have mq : bits BinOp.and IntKind.u32 (a / 4096) 15 = Q := by rw [maskN 4 (by omega) (s := 16) (by decide) (by decide) (by omega) (by omega)]; exact f.qq
  have mo : (bits BinOp.and IntKind.u32 (a / 16) 1 == 1) = O := by rw [maskN 1 (by omega) (s := 2) (by decide) (by decide) (by omega) (by omega)]; exact f.oo
  have mf := f.ff
  have mh := f.hh
  have tn := ta_node K true hk
  go_enter Tryz.func6, Tryz.ntmps6
  go_upto_region 3 with fail
  obtain ⟨HR, HC, fR, fC, hB2, hs⟩ := after2 (w := w) (w1 := (w.alloc (.cells #[.int .i64 0, .int .i64 0, .int .i64 0, .int .i64 0, .int .i64 0, .int .i64 0, .int .i64 0, .int .i64 0, .bool false] 24)).alloc (.cells #[.int .i64 K, .int .i64 A, .int .i64 B, .int .i64 R, .int .i64 0, .int .i64 0, .int .i64 Q, .int .i64 F, .bool O] 24)) (T := 24) (Below.refl _ _)
  generalize (w.alloc (.cells #[.int .i64 0, .int .i64 0, .int .i64 0, .int .i64 0, .int .i64 0, .int .i64 0, .int .i64 0, .int .i64 0, .bool false] 24)).alloc (.cells #[.int .i64 K, .int .i64 A, .int .i64 B, .int .i64 R, .int .i64 0, .int .i64 0, .int .i64 Q, .int .i64 F, .bool O] 24) = W2 at HR HC fR fC hB2 hs ⊢
  have hne : w.heap.size ≠ w.heap.size + 1 := by omega
  have hne2 : w.heap.size + 1 ≠ w.heap.size := by omega
  obtain ⟨c0, c1, c2, c3, c4, c5, c6, c7, c8⟩ := id HC
  obtain ⟨z0, z1, z2, z3, z4, z5, z6, z7, z8⟩ := id HR
  clear mk ma mb mr mq mo mf mh f
  go_wp2_with (first | (go_at_call 17; refine (kindOf_any _ _).mono ?_; rintro e w' ⟨rfl, rfl⟩))
  refine (okImpl_any _ _ _ _ _ _ _ _ _ _ (by omega) (by omega)).mono ?_
  rintro e w3 ⟨rfl, hb3⟩
  rw [ho]
  have HC3 := (HC.putOne5 (.int .i64 H)).below hb3 (by simp; omega)
  have HR3 := (HR.other (C := w.heap.size + 1) 5 (.int .i64 H) hne2).below hb3 (by simp; omega)
  have fR3 : ∀ i, w3.frozen? ⟨w.heap.size, i, none⟩ = false := fun i => by rw [(bcell hb3).2 _ _ (by simp; omega)]; go_simp
  have hB3 := (hB2.setCell (p := ⟨w.heap.size + 1, 5, none⟩) (by simp) (.int .i64 H)).trans (hb3.mono (by simp; omega))
  clear hb3 c0 c1 c2 c3 c4 c5 c6 c7 c8 z0 z1 z2 z3 z4 z5 z6 z7 z8 HC HR fC fR hB2
  obtain ⟨c0, c1, c2, c3, c4, c5, c6, c7, c8⟩ := HC3
  obtain ⟨z0, z1, z2, z3, z4, z5, z6, z7, z8⟩ := id HR3
  go_wp2_with fail
  have HF := HR3.put (.int .i64 K) (.int .i64 A) (.int .i64 B) (.int .i64 R) (.int .i64 0) (.int .i64 H) (.int .i64 Q) (.int .i64 F) (.bool O)
  refine bodyPost_ret (impl_CapUnpack_res rfl rfl HF) rfl ?_
  refine ⟨rfl, ?_⟩
  repeat (refine Below.setCell ?_ (by simp; try omega) _)
  exact hB3

set_option maxHeartbeats 400000 in
theorem unpackImpl_nn (a b K A B R Q F H : Int) (O : Bool) (w : World) (ha0 : 0 ≤ a) (ha1 : a ≤ 4294967295) (hb0 : 0 ≤ b) (hb1 : b ≤ 4294967295) (f : Fields a b K A B R Q F H O) (hk : (K == 2) = true) (ho : okB K A B R 0 H Q F O = false) :
    Calls Tryz.prog 6 #[.int .u32 a, .int .u32 b] w fun e w' => e = .returned (.tuple #[.agg #[.int .i64 0, .int .i64 0, .int .i64 0, .int .i64 0, .int .i64 0, .int .i64 0, .int .i64 0, .int .i64 0, .bool false], .bool false]) ∧ Below w.heap.size w w' := by
  have hbK : 0 ≤ K ∧ K ≤ 15 := by have := f.kk; omega
  have hbA : 0 ≤ A ∧ A ≤ 65535 := by have := f.aa; omega
  have hbB : 0 ≤ B ∧ B ≤ 15 := by have := f.bb; omega
  have hbR : 0 ≤ R ∧ R ≤ 7 := by have := f.rr; omega
  have hbQ : 0 ≤ Q ∧ Q ≤ 15 := by have := f.qq; omega
  have hbF : 0 ≤ F ∧ F ≤ 65535 := by have := f.ff; omega
  have hbH : 0 ≤ H ∧ H ≤ 65535 := by have := f.hh; omega
  have mk : bits BinOp.and IntKind.u32 a 15 = K := by rw [maskN 4 (by omega) (s := 16) (by decide) (by decide) ha0 ha1]; exact f.kk
  have ma : bits BinOp.and IntKind.u32 b 65535 = A := by rw [maskN 16 (by omega) (s := 65536) (by decide) (by decide) hb0 hb1]; exact f.aa
  have mb : bits BinOp.and IntKind.u32 (a / 256) 15 = B := by rw [maskN 4 (by omega) (s := 16) (by decide) (by decide) (by omega) (by omega)]; exact f.bb
  have mr : bits BinOp.and IntKind.u32 (a / 32) 7 = R := by rw [maskN 3 (by omega) (s := 8) (by decide) (by decide) (by omega) (by omega)]; exact f.rr
  have mq : bits BinOp.and IntKind.u32 (a / 4096) 15 = Q := by rw [maskN 4 (by omega) (s := 16) (by decide) (by decide) (by omega) (by omega)]; exact f.qq
  have mo : (bits BinOp.and IntKind.u32 (a / 16) 1 == 1) = O := by rw [maskN 1 (by omega) (s := 2) (by decide) (by decide) (by omega) (by omega)]; exact f.oo
  have mf := f.ff
  have mh := f.hh
  have tn := ta_node K true hk
  go_enter Tryz.func6, Tryz.ntmps6
  go_upto_region 3 with fail
  obtain ⟨HR, HC, fR, fC, hB2, hs⟩ := after2 (w := w) (w1 := (w.alloc (.cells #[.int .i64 0, .int .i64 0, .int .i64 0, .int .i64 0, .int .i64 0, .int .i64 0, .int .i64 0, .int .i64 0, .bool false] 24)).alloc (.cells #[.int .i64 K, .int .i64 A, .int .i64 B, .int .i64 R, .int .i64 0, .int .i64 0, .int .i64 Q, .int .i64 F, .bool O] 24)) (T := 24) (Below.refl _ _)
  generalize (w.alloc (.cells #[.int .i64 0, .int .i64 0, .int .i64 0, .int .i64 0, .int .i64 0, .int .i64 0, .int .i64 0, .int .i64 0, .bool false] 24)).alloc (.cells #[.int .i64 K, .int .i64 A, .int .i64 B, .int .i64 R, .int .i64 0, .int .i64 0, .int .i64 Q, .int .i64 F, .bool O] 24) = W2 at HR HC fR fC hB2 hs ⊢
  have hne : w.heap.size ≠ w.heap.size + 1 := by omega
  have hne2 : w.heap.size + 1 ≠ w.heap.size := by omega
  obtain ⟨c0, c1, c2, c3, c4, c5, c6, c7, c8⟩ := id HC
  obtain ⟨z0, z1, z2, z3, z4, z5, z6, z7, z8⟩ := id HR
  clear mk ma mb mr mq mo mf mh f
  go_wp2_with (first | (go_at_call 17; refine (kindOf_any _ _).mono ?_; rintro e w' ⟨rfl, rfl⟩))
  refine (okImpl_any _ _ _ _ _ _ _ _ _ _ (by omega) (by omega)).mono ?_
  rintro e w3 ⟨rfl, hb3⟩
  rw [ho]
  have HC3 := (HC.putOne5 (.int .i64 H)).below hb3 (by simp; omega)
  have HR3 := (HR.other (C := w.heap.size + 1) 5 (.int .i64 H) hne2).below hb3 (by simp; omega)
  have fR3 : ∀ i, w3.frozen? ⟨w.heap.size, i, none⟩ = false := fun i => by rw [(bcell hb3).2 _ _ (by simp; omega)]; go_simp
  have hB3 := (hB2.setCell (p := ⟨w.heap.size + 1, 5, none⟩) (by simp) (.int .i64 H)).trans (hb3.mono (by simp; omega))
  clear hb3 c0 c1 c2 c3 c4 c5 c6 c7 c8 z0 z1 z2 z3 z4 z5 z6 z7 z8 HC HR fC fR hB2
  obtain ⟨c0, c1, c2, c3, c4, c5, c6, c7, c8⟩ := HC3
  obtain ⟨z0, z1, z2, z3, z4, z5, z6, z7, z8⟩ := id HR3
  go_wp2_with fail
  have HF := HR3.put (.int .i64 0) (.int .i64 0) (.int .i64 0) (.int .i64 0) (.int .i64 0) (.int .i64 0) (.int .i64 0) (.int .i64 0) (.bool false)
  refine bodyPost_ret (impl_CapUnpack_res rfl rfl HF) rfl ?_
  refine ⟨rfl, ?_⟩
  repeat (refine Below.setCell ?_ (by simp; try omega) _)
  exact hB3

set_option maxHeartbeats 400000 in
theorem unpackSpec_ny (a b K A B R Q F H : Int) (O : Bool) (w : World) (ha0 : 0 ≤ a) (ha1 : a ≤ 4294967295) (hb0 : 0 ≤ b) (hb1 : b ≤ 4294967295) (f : Fields a b K A B R Q F H O) (hk : (K == 2) = true) (ho : okB K A B R 0 H Q F O = true) :
    Calls Tryz.prog 11 #[.int .u32 a, .int .u32 b] w fun e w' => e = .returned (.tuple #[.agg #[.int .i64 K, .int .i64 A, .int .i64 B, .int .i64 R, .int .i64 0, .int .i64 H, .int .i64 Q, .int .i64 F, .bool O], .bool true]) ∧ Below w.heap.size w w' := by
  have hbK : 0 ≤ K ∧ K ≤ 15 := by have := f.kk; omega
  have hbA : 0 ≤ A ∧ A ≤ 65535 := by have := f.aa; omega
  have hbB : 0 ≤ B ∧ B ≤ 15 := by have := f.bb; omega
  have hbR : 0 ≤ R ∧ R ≤ 7 := by have := f.rr; omega
  have hbQ : 0 ≤ Q ∧ Q ≤ 15 := by have := f.qq; omega
  have hbF : 0 ≤ F ∧ F ≤ 65535 := by have := f.ff; omega
  have hbH : 0 ≤ H ∧ H ≤ 65535 := by have := f.hh; omega
  have hw := words_back f ha0 hb0 0 H (by omega)
  have hz : (a == 0) = false := by
    have := (ok_bounds ho).1
    have := f.kk
    simp; omega
  have mk := f.kk
  have ma := f.aa
  have mb := f.bb
  have mr := f.rr
  have mq := f.qq
  have mo := f.oo
  have mf := f.ff
  have mh := f.hh
  go_enter Tryz.func11, Tryz.ntmps11
  go_upto_region 4 with fail
  obtain ⟨HR, HC, fR, fC, hB2, hs⟩ := after2 (w := w) (w1 := (w.alloc (.cells #[.int .i64 0, .int .i64 0, .int .i64 0, .int .i64 0, .int .i64 0, .int .i64 0, .int .i64 0, .int .i64 0, .bool false] 24)).alloc (.cells #[.int .i64 K, .int .i64 A, .int .i64 B, .int .i64 R, .int .i64 0, .int .i64 0, .int .i64 Q, .int .i64 F, .bool O] 24)) (T := 24) (Below.refl _ _)
  generalize (w.alloc (.cells #[.int .i64 0, .int .i64 0, .int .i64 0, .int .i64 0, .int .i64 0, .int .i64 0, .int .i64 0, .int .i64 0, .bool false] 24)).alloc (.cells #[.int .i64 K, .int .i64 A, .int .i64 B, .int .i64 R, .int .i64 0, .int .i64 0, .int .i64 Q, .int .i64 F, .bool O] 24) = W2 at HR HC fR fC hB2 hs ⊢
  have hne : w.heap.size ≠ w.heap.size + 1 := by omega
  have hne2 : w.heap.size + 1 ≠ w.heap.size := by omega
  obtain ⟨c0, c1, c2, c3, c4, c5, c6, c7, c8⟩ := id HC
  obtain ⟨z0, z1, z2, z3, z4, z5, z6, z7, z8⟩ := id HR
  clear mk ma mb mr mq mo mf f
  go_wp2_with fail
  refine (packSpec_yes _ _ _ _ _ _ _ _ _ _ ho).mono ?_
  rintro e w3 ⟨rfl, hb3⟩
  rw [hw.1, hw.2]
  have HC3 := (HC.putOne5 (.int .i64 H)).below hb3 (by simp; omega)
  have HR3 := (HR.other (C := w.heap.size + 1) 5 (.int .i64 H) hne2).below hb3 (by simp; omega)
  have fR3 : ∀ i, w3.frozen? ⟨w.heap.size, i, none⟩ = false := fun i => by rw [(bcell hb3).2 _ _ (by simp; omega)]; go_simp
  have hB3 := (hB2.setCell (p := ⟨w.heap.size + 1, 5, none⟩) (by simp) (.int .i64 H)).trans (hb3.mono (by simp; omega))
  clear hb3 c0 c1 c2 c3 c4 c5 c6 c7 c8 z0 z1 z2 z3 z4 z5 z6 z7 z8 HC HR fC fR hB2
  obtain ⟨c0, c1, c2, c3, c4, c5, c6, c7, c8⟩ := HC3
  obtain ⟨z0, z1, z2, z3, z4, z5, z6, z7, z8⟩ := id HR3
  go_wp2_with fail
  have HF := HR3.put (.int .i64 K) (.int .i64 A) (.int .i64 B) (.int .i64 R) (.int .i64 0) (.int .i64 H) (.int .i64 Q) (.int .i64 F) (.bool O)
  refine bodyPost_ret (spec_CapUnpack_res rfl rfl HF) rfl ?_
  refine ⟨rfl, ?_⟩
  repeat (refine Below.setCell ?_ (by simp; try omega) _)
  exact hB3

set_option maxHeartbeats 400000 in
theorem unpackSpec_nna (a b K A B R Q F H : Int) (O : Bool) (w : World) (ha0 : 0 ≤ a) (ha1 : a ≤ 4294967295) (hb0 : 0 ≤ b) (hb1 : b ≤ 4294967295) (f : Fields a b K A B R Q F H O) (hk : (K == 2) = true) (ho : okB K A B R 0 H Q F O = false) (hz : (a == 0) = false) (hz2 : ((0 : Int) != a) = true) :
    Calls Tryz.prog 11 #[.int .u32 a, .int .u32 b] w fun e w' => e = .returned (.tuple #[.agg #[.int .i64 0, .int .i64 0, .int .i64 0, .int .i64 0, .int .i64 0, .int .i64 0, .int .i64 0, .int .i64 0, .bool false], .bool false]) ∧ Below w.heap.size w w' := by
  have hbK : 0 ≤ K ∧ K ≤ 15 := by have := f.kk; omega
  have hbA : 0 ≤ A ∧ A ≤ 65535 := by have := f.aa; omega
  have hbB : 0 ≤ B ∧ B ≤ 15 := by have := f.bb; omega
  have hbR : 0 ≤ R ∧ R ≤ 7 := by have := f.rr; omega
  have hbQ : 0 ≤ Q ∧ Q ≤ 15 := by have := f.qq; omega
  have hbF : 0 ≤ F ∧ F ≤ 65535 := by have := f.ff; omega
  have hbH : 0 ≤ H ∧ H ≤ 65535 := by have := f.hh; omega
  have mk := f.kk
  have ma := f.aa
  have mb := f.bb
  have mr := f.rr
  have mq := f.qq
  have mo := f.oo
  have mf := f.ff
  have mh := f.hh
  go_enter Tryz.func11, Tryz.ntmps11
  go_upto_region 4 with fail
  obtain ⟨HR, HC, fR, fC, hB2, hs⟩ := after2 (w := w) (w1 := (w.alloc (.cells #[.int .i64 0, .int .i64 0, .int .i64 0, .int .i64 0, .int .i64 0, .int .i64 0, .int .i64 0, .int .i64 0, .bool false] 24)).alloc (.cells #[.int .i64 K, .int .i64 A, .int .i64 B, .int .i64 R, .int .i64 0, .int .i64 0, .int .i64 Q, .int .i64 F, .bool O] 24)) (T := 24) (Below.refl _ _)
  generalize (w.alloc (.cells #[.int .i64 0, .int .i64 0, .int .i64 0, .int .i64 0, .int .i64 0, .int .i64 0, .int .i64 0, .int .i64 0, .bool false] 24)).alloc (.cells #[.int .i64 K, .int .i64 A, .int .i64 B, .int .i64 R, .int .i64 0, .int .i64 0, .int .i64 Q, .int .i64 F, .bool O] 24) = W2 at HR HC fR fC hB2 hs ⊢
  have hne : w.heap.size ≠ w.heap.size + 1 := by omega
  have hne2 : w.heap.size + 1 ≠ w.heap.size := by omega
  obtain ⟨c0, c1, c2, c3, c4, c5, c6, c7, c8⟩ := id HC
  obtain ⟨z0, z1, z2, z3, z4, z5, z6, z7, z8⟩ := id HR
  clear mk ma mb mr mq mo mf f
  go_wp2_with fail
  refine (packSpec_no _ _ _ _ _ _ _ _ _ _ ho).mono ?_
  rintro e w3 ⟨rfl, hb3⟩
  have HC3 := (HC.putOne5 (.int .i64 H)).below hb3 (by simp; omega)
  have HR3 := (HR.other (C := w.heap.size + 1) 5 (.int .i64 H) hne2).below hb3 (by simp; omega)
  have fR3 : ∀ i, w3.frozen? ⟨w.heap.size, i, none⟩ = false := fun i => by rw [(bcell hb3).2 _ _ (by simp; omega)]; go_simp
  have hB3 := (hB2.setCell (p := ⟨w.heap.size + 1, 5, none⟩) (by simp) (.int .i64 H)).trans (hb3.mono (by simp; omega))
  clear hb3 c0 c1 c2 c3 c4 c5 c6 c7 c8 z0 z1 z2 z3 z4 z5 z6 z7 z8 HC HR fC fR hB2
  obtain ⟨c0, c1, c2, c3, c4, c5, c6, c7, c8⟩ := HC3
  obtain ⟨z0, z1, z2, z3, z4, z5, z6, z7, z8⟩ := id HR3
  go_wp2_with fail
  have HF := HR3.put (.int .i64 0) (.int .i64 0) (.int .i64 0) (.int .i64 0) (.int .i64 0) (.int .i64 0) (.int .i64 0) (.int .i64 0) (.bool false)
  refine bodyPost_ret (spec_CapUnpack_res rfl rfl HF) rfl ?_
  refine ⟨rfl, ?_⟩
  repeat (refine Below.setCell ?_ (by simp; try omega) _)
  exact hB3

set_option maxHeartbeats 400000 in
theorem unpackSpec_nnb (a b K A B R Q F H : Int) (O : Bool) (w : World) (ha0 : 0 ≤ a) (ha1 : a ≤ 4294967295) (hb0 : 0 ≤ b) (hb1 : b ≤ 4294967295) (f : Fields a b K A B R Q F H O) (hk : (K == 2) = true) (ho : okB K A B R 0 H Q F O = false) (hz : (a == 0) = true) (hz2 : ((0 : Int) != a) = false) (hz3 : ((0 : Int) != b) = true) :
    Calls Tryz.prog 11 #[.int .u32 a, .int .u32 b] w fun e w' => e = .returned (.tuple #[.agg #[.int .i64 0, .int .i64 0, .int .i64 0, .int .i64 0, .int .i64 0, .int .i64 0, .int .i64 0, .int .i64 0, .bool false], .bool false]) ∧ Below w.heap.size w w' := by
  have hbK : 0 ≤ K ∧ K ≤ 15 := by have := f.kk; omega
  have hbA : 0 ≤ A ∧ A ≤ 65535 := by have := f.aa; omega
  have hbB : 0 ≤ B ∧ B ≤ 15 := by have := f.bb; omega
  have hbR : 0 ≤ R ∧ R ≤ 7 := by have := f.rr; omega
  have hbQ : 0 ≤ Q ∧ Q ≤ 15 := by have := f.qq; omega
  have hbF : 0 ≤ F ∧ F ≤ 65535 := by have := f.ff; omega
  have hbH : 0 ≤ H ∧ H ≤ 65535 := by have := f.hh; omega
  have mk := f.kk
  have ma := f.aa
  have mb := f.bb
  have mr := f.rr
  have mq := f.qq
  have mo := f.oo
  have mf := f.ff
  have mh := f.hh
  go_enter Tryz.func11, Tryz.ntmps11
  go_upto_region 4 with fail
  obtain ⟨HR, HC, fR, fC, hB2, hs⟩ := after2 (w := w) (w1 := (w.alloc (.cells #[.int .i64 0, .int .i64 0, .int .i64 0, .int .i64 0, .int .i64 0, .int .i64 0, .int .i64 0, .int .i64 0, .bool false] 24)).alloc (.cells #[.int .i64 K, .int .i64 A, .int .i64 B, .int .i64 R, .int .i64 0, .int .i64 0, .int .i64 Q, .int .i64 F, .bool O] 24)) (T := 24) (Below.refl _ _)
  generalize (w.alloc (.cells #[.int .i64 0, .int .i64 0, .int .i64 0, .int .i64 0, .int .i64 0, .int .i64 0, .int .i64 0, .int .i64 0, .bool false] 24)).alloc (.cells #[.int .i64 K, .int .i64 A, .int .i64 B, .int .i64 R, .int .i64 0, .int .i64 0, .int .i64 Q, .int .i64 F, .bool O] 24) = W2 at HR HC fR fC hB2 hs ⊢
  have hne : w.heap.size ≠ w.heap.size + 1 := by omega
  have hne2 : w.heap.size + 1 ≠ w.heap.size := by omega
  obtain ⟨c0, c1, c2, c3, c4, c5, c6, c7, c8⟩ := id HC
  obtain ⟨z0, z1, z2, z3, z4, z5, z6, z7, z8⟩ := id HR
  clear mk ma mb mr mq mo mf f
  go_wp2_with fail
  refine (packSpec_no _ _ _ _ _ _ _ _ _ _ ho).mono ?_
  rintro e w3 ⟨rfl, hb3⟩
  have HC3 := (HC.putOne5 (.int .i64 H)).below hb3 (by simp; omega)
  have HR3 := (HR.other (C := w.heap.size + 1) 5 (.int .i64 H) hne2).below hb3 (by simp; omega)
  have fR3 : ∀ i, w3.frozen? ⟨w.heap.size, i, none⟩ = false := fun i => by rw [(bcell hb3).2 _ _ (by simp; omega)]; go_simp
  have hB3 := (hB2.setCell (p := ⟨w.heap.size + 1, 5, none⟩) (by simp) (.int .i64 H)).trans (hb3.mono (by simp; omega))
  clear hb3 c0 c1 c2 c3 c4 c5 c6 c7 c8 z0 z1 z2 z3 z4 z5 z6 z7 z8 HC HR fC fR hB2
  obtain ⟨c0, c1, c2, c3, c4, c5, c6, c7, c8⟩ := HC3
  obtain ⟨z0, z1, z2, z3, z4, z5, z6, z7, z8⟩ := id HR3
  go_wp2_with fail
  have HF := HR3.put (.int .i64 0) (.int .i64 0) (.int .i64 0) (.int .i64 0) (.int .i64 0) (.int .i64 0) (.int .i64 0) (.int .i64 0) (.bool false)
  refine bodyPost_ret (spec_CapUnpack_res rfl rfl HF) rfl ?_
  refine ⟨rfl, ?_⟩
  repeat (refine Below.setCell ?_ (by simp; try omega) _)
  exact hB3

set_option maxHeartbeats 400000 in
theorem unpackSpec_nnc (a b K A B R Q F H : Int) (O : Bool) (w : World) (ha0 : 0 ≤ a) (ha1 : a ≤ 4294967295) (hb0 : 0 ≤ b) (hb1 : b ≤ 4294967295) (f : Fields a b K A B R Q F H O) (hk : (K == 2) = true) (ho : okB K A B R 0 H Q F O = false) (hz : (a == 0) = true) (hz2 : ((0 : Int) != a) = false) (hz3 : ((0 : Int) != b) = false) :
    Calls Tryz.prog 11 #[.int .u32 a, .int .u32 b] w fun e w' => e = .returned (.tuple #[.agg #[.int .i64 0, .int .i64 0, .int .i64 0, .int .i64 0, .int .i64 0, .int .i64 0, .int .i64 0, .int .i64 0, .bool false], .bool false]) ∧ Below w.heap.size w w' := by
  have hbK : 0 ≤ K ∧ K ≤ 15 := by have := f.kk; omega
  have hbA : 0 ≤ A ∧ A ≤ 65535 := by have := f.aa; omega
  have hbB : 0 ≤ B ∧ B ≤ 15 := by have := f.bb; omega
  have hbR : 0 ≤ R ∧ R ≤ 7 := by have := f.rr; omega
  have hbQ : 0 ≤ Q ∧ Q ≤ 15 := by have := f.qq; omega
  have hbF : 0 ≤ F ∧ F ≤ 65535 := by have := f.ff; omega
  have hbH : 0 ≤ H ∧ H ≤ 65535 := by have := f.hh; omega
  have mk := f.kk
  have ma := f.aa
  have mb := f.bb
  have mr := f.rr
  have mq := f.qq
  have mo := f.oo
  have mf := f.ff
  have mh := f.hh
  go_enter Tryz.func11, Tryz.ntmps11
  go_upto_region 4 with fail
  obtain ⟨HR, HC, fR, fC, hB2, hs⟩ := after2 (w := w) (w1 := (w.alloc (.cells #[.int .i64 0, .int .i64 0, .int .i64 0, .int .i64 0, .int .i64 0, .int .i64 0, .int .i64 0, .int .i64 0, .bool false] 24)).alloc (.cells #[.int .i64 K, .int .i64 A, .int .i64 B, .int .i64 R, .int .i64 0, .int .i64 0, .int .i64 Q, .int .i64 F, .bool O] 24)) (T := 24) (Below.refl _ _)
  generalize (w.alloc (.cells #[.int .i64 0, .int .i64 0, .int .i64 0, .int .i64 0, .int .i64 0, .int .i64 0, .int .i64 0, .int .i64 0, .bool false] 24)).alloc (.cells #[.int .i64 K, .int .i64 A, .int .i64 B, .int .i64 R, .int .i64 0, .int .i64 0, .int .i64 Q, .int .i64 F, .bool O] 24) = W2 at HR HC fR fC hB2 hs ⊢
  have hne : w.heap.size ≠ w.heap.size + 1 := by omega
  have hne2 : w.heap.size + 1 ≠ w.heap.size := by omega
  obtain ⟨c0, c1, c2, c3, c4, c5, c6, c7, c8⟩ := id HC
  obtain ⟨z0, z1, z2, z3, z4, z5, z6, z7, z8⟩ := id HR
  clear mk ma mb mr mq mo mf f
  go_wp2_with fail
  refine (packSpec_no _ _ _ _ _ _ _ _ _ _ ho).mono ?_
  rintro e w3 ⟨rfl, hb3⟩
  have HC3 := (HC.putOne5 (.int .i64 H)).below hb3 (by simp; omega)
  have HR3 := (HR.other (C := w.heap.size + 1) 5 (.int .i64 H) hne2).below hb3 (by simp; omega)
  have fR3 : ∀ i, w3.frozen? ⟨w.heap.size, i, none⟩ = false := fun i => by rw [(bcell hb3).2 _ _ (by simp; omega)]; go_simp
  have hB3 := (hB2.setCell (p := ⟨w.heap.size + 1, 5, none⟩) (by simp) (.int .i64 H)).trans (hb3.mono (by simp; omega))
  clear hb3 c0 c1 c2 c3 c4 c5 c6 c7 c8 z0 z1 z2 z3 z4 z5 z6 z7 z8 HC HR fC fR hB2
  obtain ⟨c0, c1, c2, c3, c4, c5, c6, c7, c8⟩ := HC3
  obtain ⟨z0, z1, z2, z3, z4, z5, z6, z7, z8⟩ := id HR3
  go_wp2_with fail
  have HF := HR3.put (.int .i64 0) (.int .i64 0) (.int .i64 0) (.int .i64 0) (.int .i64 0) (.int .i64 0) (.int .i64 0) (.int .i64 0) (.bool false)
  refine bodyPost_ret (spec_CapUnpack_res rfl rfl HF) rfl ?_
  refine ⟨rfl, ?_⟩
  repeat (refine Below.setCell ?_ (by simp; try omega) _)
  exact hB3

set_option maxHeartbeats 400000 in
theorem unpackImpl_oy (a b K A B R Q F H : Int) (O : Bool) (w : World) (ha0 : 0 ≤ a) (ha1 : a ≤ 4294967295) (hb0 : 0 ≤ b) (hb1 : b ≤ 4294967295) (f : Fields a b K A B R Q F H O) (hk : (K == 2) = false) (ho : okB K A B R H 0 Q F O = true) :
    Calls Tryz.prog 6 #[.int .u32 a, .int .u32 b] w fun e w' => e = .returned (.tuple #[.agg #[.int .i64 K, .int .i64 A, .int .i64 B, .int .i64 R, .int .i64 H, .int .i64 0, .int .i64 Q, .int .i64 F, .bool O], .bool true]) ∧ Below w.heap.size w w' := by
  have hbK : 0 ≤ K ∧ K ≤ 15 := by have := f.kk; omega
  have hbA : 0 ≤ A ∧ A ≤ 65535 := by have := f.aa; omega
  have hbB : 0 ≤ B ∧ B ≤ 15 := by have := f.bb; omega
  have hbR : 0 ≤ R ∧ R ≤ 7 := by have := f.rr; omega
  have hbQ : 0 ≤ Q ∧ Q ≤ 15 := by have := f.qq; omega
  have hbF : 0 ≤ F ∧ F ≤ 65535 := by have := f.ff; omega
  have hbH : 0 ≤ H ∧ H ≤ 65535 := by have := f.hh; omega
  have mk : bits BinOp.and IntKind.u32 a 15 = K := by rw [maskN 4 (by omega) (s := 16) (by decide) (by decide) ha0 ha1]; exact f.kk
  have ma : bits BinOp.and IntKind.u32 b 65535 = A := by rw [maskN 16 (by omega) (s := 65536) (by decide) (by decide) hb0 hb1]; exact f.aa
  have mb : bits BinOp.and IntKind.u32 (a / 256) 15 = B := by rw [maskN 4 (by omega) (s := 16) (by decide) (by decide) (by omega) (by omega)]; exact f.bb
  have mr : bits BinOp.and IntKind.u32 (a / 32) 7 = R := by rw [maskN 3 (by omega) (s := 8) (by decide) (by decide) (by omega) (by omega)]; exact f.rr
  have mq : bits BinOp.and IntKind.u32 (a / 4096) 15 = Q := by rw [maskN 4 (by omega) (s := 16) (by decide) (by decide) (by omega) (by omega)]; exact f.qq
  have mo : (bits BinOp.and IntKind.u32 (a / 16) 1 == 1) = O := by rw [maskN 1 (by omega) (s := 2) (by decide) (by decide) (by omega) (by omega)]; exact f.oo
  have mf := f.ff
  have mh := f.hh
  have tn := ta_node K false hk
  go_enter Tryz.func6, Tryz.ntmps6
  go_upto_region 3 with fail
  obtain ⟨HR, HC, fR, fC, hB2, hs⟩ := after2 (w := w) (w1 := (w.alloc (.cells #[.int .i64 0, .int .i64 0, .int .i64 0, .int .i64 0, .int .i64 0, .int .i64 0, .int .i64 0, .int .i64 0, .bool false] 24)).alloc (.cells #[.int .i64 K, .int .i64 A, .int .i64 B, .int .i64 R, .int .i64 0, .int .i64 0, .int .i64 Q, .int .i64 F, .bool O] 24)) (T := 24) (Below.refl _ _)
  generalize (w.alloc (.cells #[.int .i64 0, .int .i64 0, .int .i64 0, .int .i64 0, .int .i64 0, .int .i64 0, .int .i64 0, .int .i64 0, .bool false] 24)).alloc (.cells #[.int .i64 K, .int .i64 A, .int .i64 B, .int .i64 R, .int .i64 0, .int .i64 0, .int .i64 Q, .int .i64 F, .bool O] 24) = W2 at HR HC fR fC hB2 hs ⊢
  have hne : w.heap.size ≠ w.heap.size + 1 := by omega
  have hne2 : w.heap.size + 1 ≠ w.heap.size := by omega
  obtain ⟨c0, c1, c2, c3, c4, c5, c6, c7, c8⟩ := id HC
  obtain ⟨z0, z1, z2, z3, z4, z5, z6, z7, z8⟩ := id HR
  clear mk ma mb mr mq mo mf mh f
  go_wp2_with (first | (go_at_call 17; refine (kindOf_any _ _).mono ?_; rintro e w' ⟨rfl, rfl⟩))
  refine (okImpl_any _ _ _ _ _ _ _ _ _ _ (by omega) (by omega)).mono ?_
  rintro e w3 ⟨rfl, hb3⟩
  rw [ho]
  have HC3 := (HC.putOne4 (.int .i64 H)).below hb3 (by simp; omega)
  have HR3 := (HR.other (C := w.heap.size + 1) 4 (.int .i64 H) hne2).below hb3 (by simp; omega)
  have fR3 : ∀ i, w3.frozen? ⟨w.heap.size, i, none⟩ = false := fun i => by rw [(bcell hb3).2 _ _ (by simp; omega)]; go_simp
  have hB3 := (hB2.setCell (p := ⟨w.heap.size + 1, 4, none⟩) (by simp) (.int .i64 H)).trans (hb3.mono (by simp; omega))
  clear hb3 c0 c1 c2 c3 c4 c5 c6 c7 c8 z0 z1 z2 z3 z4 z5 z6 z7 z8 HC HR fC fR hB2
  obtain ⟨c0, c1, c2, c3, c4, c5, c6, c7, c8⟩ := HC3
  obtain ⟨z0, z1, z2, z3, z4, z5, z6, z7, z8⟩ := id HR3
  go_wp2_with fail
  have HF := HR3.put (.int .i64 K) (.int .i64 A) (.int .i64 B) (.int .i64 R) (.int .i64 H) (.int .i64 0) (.int .i64 Q) (.int .i64 F) (.bool O)
  refine bodyPost_ret (impl_CapUnpack_res rfl rfl HF) rfl ?_
  refine ⟨rfl, ?_⟩
  repeat (refine Below.setCell ?_ (by simp; try omega) _)
  exact hB3

set_option maxHeartbeats 400000 in
theorem unpackImpl_on (a b K A B R Q F H : Int) (O : Bool) (w : World) (ha0 : 0 ≤ a) (ha1 : a ≤ 4294967295) (hb0 : 0 ≤ b) (hb1 : b ≤ 4294967295) (f : Fields a b K A B R Q F H O) (hk : (K == 2) = false) (ho : okB K A B R H 0 Q F O = false) :
    Calls Tryz.prog 6 #[.int .u32 a, .int .u32 b] w fun e w' => e = .returned (.tuple #[.agg #[.int .i64 0, .int .i64 0, .int .i64 0, .int .i64 0, .int .i64 0, .int .i64 0, .int .i64 0, .int .i64 0, .bool false], .bool false]) ∧ Below w.heap.size w w' := by
  have hbK : 0 ≤ K ∧ K ≤ 15 := by have := f.kk; omega
  have hbA : 0 ≤ A ∧ A ≤ 65535 := by have := f.aa; omega
  have hbB : 0 ≤ B ∧ B ≤ 15 := by have := f.bb; omega
  have hbR : 0 ≤ R ∧ R ≤ 7 := by have := f.rr; omega
  have hbQ : 0 ≤ Q ∧ Q ≤ 15 := by have := f.qq; omega
  have hbF : 0 ≤ F ∧ F ≤ 65535 := by have := f.ff; omega
  have hbH : 0 ≤ H ∧ H ≤ 65535 := by have := f.hh; omega
  have mk : bits BinOp.and IntKind.u32 a 15 = K := by rw [maskN 4 (by omega) (s := 16) (by decide) (by decide) ha0 ha1]; exact f.kk
  have ma : bits BinOp.and IntKind.u32 b 65535 = A := by rw [maskN 16 (by omega) (s := 65536) (by decide) (by decide) hb0 hb1]; exact f.aa
  have mb : bits BinOp.and IntKind.u32 (a / 256) 15 = B := by rw [maskN 4 (by omega) (s := 16) (by decide) (by decide) (by omega) (by omega)]; exact f.bb
  have mr : bits BinOp.and IntKind.u32 (a / 32) 7 = R := by rw [maskN 3 (by omega) (s := 8) (by decide) (by decide) (by omega) (by omega)]; exact f.rr
  have mq : bits BinOp.and IntKind.u32 (a / 4096) 15 = Q := by rw [maskN 4 (by omega) (s := 16) (by decide) (by decide) (by omega) (by omega)]; exact f.qq
  have mo : (bits BinOp.and IntKind.u32 (a / 16) 1 == 1) = O := by rw [maskN 1 (by omega) (s := 2) (by decide) (by decide) (by omega) (by omega)]; exact f.oo
  have mf := f.ff
  have mh := f.hh
  have tn := ta_node K false hk
  go_enter Tryz.func6, Tryz.ntmps6
  go_upto_region 3 with fail
  obtain ⟨HR, HC, fR, fC, hB2, hs⟩ := after2 (w := w) (w1 := (w.alloc (.cells #[.int .i64 0, .int .i64 0, .int .i64 0, .int .i64 0, .int .i64 0, .int .i64 0, .int .i64 0, .int .i64 0, .bool false] 24)).alloc (.cells #[.int .i64 K, .int .i64 A, .int .i64 B, .int .i64 R, .int .i64 0, .int .i64 0, .int .i64 Q, .int .i64 F, .bool O] 24)) (T := 24) (Below.refl _ _)
  generalize (w.alloc (.cells #[.int .i64 0, .int .i64 0, .int .i64 0, .int .i64 0, .int .i64 0, .int .i64 0, .int .i64 0, .int .i64 0, .bool false] 24)).alloc (.cells #[.int .i64 K, .int .i64 A, .int .i64 B, .int .i64 R, .int .i64 0, .int .i64 0, .int .i64 Q, .int .i64 F, .bool O] 24) = W2 at HR HC fR fC hB2 hs ⊢
  have hne : w.heap.size ≠ w.heap.size + 1 := by omega
  have hne2 : w.heap.size + 1 ≠ w.heap.size := by omega
  obtain ⟨c0, c1, c2, c3, c4, c5, c6, c7, c8⟩ := id HC
  obtain ⟨z0, z1, z2, z3, z4, z5, z6, z7, z8⟩ := id HR
  clear mk ma mb mr mq mo mf mh f
  go_wp2_with (first | (go_at_call 17; refine (kindOf_any _ _).mono ?_; rintro e w' ⟨rfl, rfl⟩))
  refine (okImpl_any _ _ _ _ _ _ _ _ _ _ (by omega) (by omega)).mono ?_
  rintro e w3 ⟨rfl, hb3⟩
  rw [ho]
  have HC3 := (HC.putOne4 (.int .i64 H)).below hb3 (by simp; omega)
  have HR3 := (HR.other (C := w.heap.size + 1) 4 (.int .i64 H) hne2).below hb3 (by simp; omega)
  have fR3 : ∀ i, w3.frozen? ⟨w.heap.size, i, none⟩ = false := fun i => by rw [(bcell hb3).2 _ _ (by simp; omega)]; go_simp
  have hB3 := (hB2.setCell (p := ⟨w.heap.size + 1, 4, none⟩) (by simp) (.int .i64 H)).trans (hb3.mono (by simp; omega))
  clear hb3 c0 c1 c2 c3 c4 c5 c6 c7 c8 z0 z1 z2 z3 z4 z5 z6 z7 z8 HC HR fC fR hB2
  obtain ⟨c0, c1, c2, c3, c4, c5, c6, c7, c8⟩ := HC3
  obtain ⟨z0, z1, z2, z3, z4, z5, z6, z7, z8⟩ := id HR3
  go_wp2_with fail
  have HF := HR3.put (.int .i64 0) (.int .i64 0) (.int .i64 0) (.int .i64 0) (.int .i64 0) (.int .i64 0) (.int .i64 0) (.int .i64 0) (.bool false)
  refine bodyPost_ret (impl_CapUnpack_res rfl rfl HF) rfl ?_
  refine ⟨rfl, ?_⟩
  repeat (refine Below.setCell ?_ (by simp; try omega) _)
  exact hB3

set_option maxHeartbeats 400000 in
theorem unpackSpec_oy (a b K A B R Q F H : Int) (O : Bool) (w : World) (ha0 : 0 ≤ a) (ha1 : a ≤ 4294967295) (hb0 : 0 ≤ b) (hb1 : b ≤ 4294967295) (f : Fields a b K A B R Q F H O) (hk : (K == 2) = false) (ho : okB K A B R H 0 Q F O = true) :
    Calls Tryz.prog 11 #[.int .u32 a, .int .u32 b] w fun e w' => e = .returned (.tuple #[.agg #[.int .i64 K, .int .i64 A, .int .i64 B, .int .i64 R, .int .i64 H, .int .i64 0, .int .i64 Q, .int .i64 F, .bool O], .bool true]) ∧ Below w.heap.size w w' := by
  have hbK : 0 ≤ K ∧ K ≤ 15 := by have := f.kk; omega
  have hbA : 0 ≤ A ∧ A ≤ 65535 := by have := f.aa; omega
  have hbB : 0 ≤ B ∧ B ≤ 15 := by have := f.bb; omega
  have hbR : 0 ≤ R ∧ R ≤ 7 := by have := f.rr; omega
  have hbQ : 0 ≤ Q ∧ Q ≤ 15 := by have := f.qq; omega
  have hbF : 0 ≤ F ∧ F ≤ 65535 := by have := f.ff; omega
  have hbH : 0 ≤ H ∧ H ≤ 65535 := by have := f.hh; omega
  have hw := words_back f ha0 hb0 H 0 (by omega)
  have hz : (a == 0) = false := by
    have := (ok_bounds ho).1
    have := f.kk
    simp; omega
  have mk := f.kk
  have ma := f.aa
  have mb := f.bb
  have mr := f.rr
  have mq := f.qq
  have mo := f.oo
  have mf := f.ff
  have mh := f.hh
  go_enter Tryz.func11, Tryz.ntmps11
  go_upto_region 4 with fail
  obtain ⟨HR, HC, fR, fC, hB2, hs⟩ := after2 (w := w) (w1 := (w.alloc (.cells #[.int .i64 0, .int .i64 0, .int .i64 0, .int .i64 0, .int .i64 0, .int .i64 0, .int .i64 0, .int .i64 0, .bool false] 24)).alloc (.cells #[.int .i64 K, .int .i64 A, .int .i64 B, .int .i64 R, .int .i64 0, .int .i64 0, .int .i64 Q, .int .i64 F, .bool O] 24)) (T := 24) (Below.refl _ _)
  generalize (w.alloc (.cells #[.int .i64 0, .int .i64 0, .int .i64 0, .int .i64 0, .int .i64 0, .int .i64 0, .int .i64 0, .int .i64 0, .bool false] 24)).alloc (.cells #[.int .i64 K, .int .i64 A, .int .i64 B, .int .i64 R, .int .i64 0, .int .i64 0, .int .i64 Q, .int .i64 F, .bool O] 24) = W2 at HR HC fR fC hB2 hs ⊢
  have hne : w.heap.size ≠ w.heap.size + 1 := by omega
  have hne2 : w.heap.size + 1 ≠ w.heap.size := by omega
  obtain ⟨c0, c1, c2, c3, c4, c5, c6, c7, c8⟩ := id HC
  obtain ⟨z0, z1, z2, z3, z4, z5, z6, z7, z8⟩ := id HR
  clear mk ma mb mr mq mo mf f
  go_wp2_with fail
  refine (packSpec_yes _ _ _ _ _ _ _ _ _ _ ho).mono ?_
  rintro e w3 ⟨rfl, hb3⟩
  rw [hw.1, hw.2]
  have HC3 := (HC.putOne4 (.int .i64 H)).below hb3 (by simp; omega)
  have HR3 := (HR.other (C := w.heap.size + 1) 4 (.int .i64 H) hne2).below hb3 (by simp; omega)
  have fR3 : ∀ i, w3.frozen? ⟨w.heap.size, i, none⟩ = false := fun i => by rw [(bcell hb3).2 _ _ (by simp; omega)]; go_simp
  have hB3 := (hB2.setCell (p := ⟨w.heap.size + 1, 4, none⟩) (by simp) (.int .i64 H)).trans (hb3.mono (by simp; omega))
  clear hb3 c0 c1 c2 c3 c4 c5 c6 c7 c8 z0 z1 z2 z3 z4 z5 z6 z7 z8 HC HR fC fR hB2
  obtain ⟨c0, c1, c2, c3, c4, c5, c6, c7, c8⟩ := HC3
  obtain ⟨z0, z1, z2, z3, z4, z5, z6, z7, z8⟩ := id HR3
  go_wp2_with fail
  have HF := HR3.put (.int .i64 K) (.int .i64 A) (.int .i64 B) (.int .i64 R) (.int .i64 H) (.int .i64 0) (.int .i64 Q) (.int .i64 F) (.bool O)
  refine bodyPost_ret (spec_CapUnpack_res rfl rfl HF) rfl ?_
  refine ⟨rfl, ?_⟩
  repeat (refine Below.setCell ?_ (by simp; try omega) _)
  exact hB3

set_option maxHeartbeats 400000 in
theorem unpackSpec_ona (a b K A B R Q F H : Int) (O : Bool) (w : World) (ha0 : 0 ≤ a) (ha1 : a ≤ 4294967295) (hb0 : 0 ≤ b) (hb1 : b ≤ 4294967295) (f : Fields a b K A B R Q F H O) (hk : (K == 2) = false) (ho : okB K A B R H 0 Q F O = false) (hz : (a == 0) = false) (hz2 : ((0 : Int) != a) = true) :
    Calls Tryz.prog 11 #[.int .u32 a, .int .u32 b] w fun e w' => e = .returned (.tuple #[.agg #[.int .i64 0, .int .i64 0, .int .i64 0, .int .i64 0, .int .i64 0, .int .i64 0, .int .i64 0, .int .i64 0, .bool false], .bool false]) ∧ Below w.heap.size w w' := by
  have hbK : 0 ≤ K ∧ K ≤ 15 := by have := f.kk; omega
  have hbA : 0 ≤ A ∧ A ≤ 65535 := by have := f.aa; omega
  have hbB : 0 ≤ B ∧ B ≤ 15 := by have := f.bb; omega
  have hbR : 0 ≤ R ∧ R ≤ 7 := by have := f.rr; omega
  have hbQ : 0 ≤ Q ∧ Q ≤ 15 := by have := f.qq; omega
  have hbF : 0 ≤ F ∧ F ≤ 65535 := by have := f.ff; omega
  have hbH : 0 ≤ H ∧ H ≤ 65535 := by have := f.hh; omega
  have mk := f.kk
  have ma := f.aa
  have mb := f.bb
  have mr := f.rr
  have mq := f.qq
  have mo := f.oo
  have mf := f.ff
  have mh := f.hh
  go_enter Tryz.func11, Tryz.ntmps11
  go_upto_region 4 with fail
  obtain ⟨HR, HC, fR, fC, hB2, hs⟩ := after2 (w := w) (w1 := (w.alloc (.cells #[.int .i64 0, .int .i64 0, .int .i64 0, .int .i64 0, .int .i64 0, .int .i64 0, .int .i64 0, .int .i64 0, .bool false] 24)).alloc (.cells #[.int .i64 K, .int .i64 A, .int .i64 B, .int .i64 R, .int .i64 0, .int .i64 0, .int .i64 Q, .int .i64 F, .bool O] 24)) (T := 24) (Below.refl _ _)
  generalize (w.alloc (.cells #[.int .i64 0, .int .i64 0, .int .i64 0, .int .i64 0, .int .i64 0, .int .i64 0, .int .i64 0, .int .i64 0, .bool false] 24)).alloc (.cells #[.int .i64 K, .int .i64 A, .int .i64 B, .int .i64 R, .int .i64 0, .int .i64 0, .int .i64 Q, .int .i64 F, .bool O] 24) = W2 at HR HC fR fC hB2 hs ⊢
  have hne : w.heap.size ≠ w.heap.size + 1 := by omega
  have hne2 : w.heap.size + 1 ≠ w.heap.size := by omega
  obtain ⟨c0, c1, c2, c3, c4, c5, c6, c7, c8⟩ := id HC
  obtain ⟨z0, z1, z2, z3, z4, z5, z6, z7, z8⟩ := id HR
  clear mk ma mb mr mq mo mf f
  go_wp2_with fail
  refine (packSpec_no _ _ _ _ _ _ _ _ _ _ ho).mono ?_
  rintro e w3 ⟨rfl, hb3⟩
  have HC3 := (HC.putOne4 (.int .i64 H)).below hb3 (by simp; omega)
  have HR3 := (HR.other (C := w.heap.size + 1) 4 (.int .i64 H) hne2).below hb3 (by simp; omega)
  have fR3 : ∀ i, w3.frozen? ⟨w.heap.size, i, none⟩ = false := fun i => by rw [(bcell hb3).2 _ _ (by simp; omega)]; go_simp
  have hB3 := (hB2.setCell (p := ⟨w.heap.size + 1, 4, none⟩) (by simp) (.int .i64 H)).trans (hb3.mono (by simp; omega))
  clear hb3 c0 c1 c2 c3 c4 c5 c6 c7 c8 z0 z1 z2 z3 z4 z5 z6 z7 z8 HC HR fC fR hB2
  obtain ⟨c0, c1, c2, c3, c4, c5, c6, c7, c8⟩ := HC3
  obtain ⟨z0, z1, z2, z3, z4, z5, z6, z7, z8⟩ := id HR3
  go_wp2_with fail
  have HF := HR3.put (.int .i64 0) (.int .i64 0) (.int .i64 0) (.int .i64 0) (.int .i64 0) (.int .i64 0) (.int .i64 0) (.int .i64 0) (.bool false)
  refine bodyPost_ret (spec_CapUnpack_res rfl rfl HF) rfl ?_
  refine ⟨rfl, ?_⟩
  repeat (refine Below.setCell ?_ (by simp; try omega) _)
  exact hB3

set_option maxHeartbeats 400000 in
theorem unpackSpec_onb (a b K A B R Q F H : Int) (O : Bool) (w : World) (ha0 : 0 ≤ a) (ha1 : a ≤ 4294967295) (hb0 : 0 ≤ b) (hb1 : b ≤ 4294967295) (f : Fields a b K A B R Q F H O) (hk : (K == 2) = false) (ho : okB K A B R H 0 Q F O = false) (hz : (a == 0) = true) (hz2 : ((0 : Int) != a) = false) (hz3 : ((0 : Int) != b) = true) :
    Calls Tryz.prog 11 #[.int .u32 a, .int .u32 b] w fun e w' => e = .returned (.tuple #[.agg #[.int .i64 0, .int .i64 0, .int .i64 0, .int .i64 0, .int .i64 0, .int .i64 0, .int .i64 0, .int .i64 0, .bool false], .bool false]) ∧ Below w.heap.size w w' := by
  have hbK : 0 ≤ K ∧ K ≤ 15 := by have := f.kk; omega
  have hbA : 0 ≤ A ∧ A ≤ 65535 := by have := f.aa; omega
  have hbB : 0 ≤ B ∧ B ≤ 15 := by have := f.bb; omega
  have hbR : 0 ≤ R ∧ R ≤ 7 := by have := f.rr; omega
  have hbQ : 0 ≤ Q ∧ Q ≤ 15 := by have := f.qq; omega
  have hbF : 0 ≤ F ∧ F ≤ 65535 := by have := f.ff; omega
  have hbH : 0 ≤ H ∧ H ≤ 65535 := by have := f.hh; omega
  have mk := f.kk
  have ma := f.aa
  have mb := f.bb
  have mr := f.rr
  have mq := f.qq
  have mo := f.oo
  have mf := f.ff
  have mh := f.hh
  go_enter Tryz.func11, Tryz.ntmps11
  go_upto_region 4 with fail
  obtain ⟨HR, HC, fR, fC, hB2, hs⟩ := after2 (w := w) (w1 := (w.alloc (.cells #[.int .i64 0, .int .i64 0, .int .i64 0, .int .i64 0, .int .i64 0, .int .i64 0, .int .i64 0, .int .i64 0, .bool false] 24)).alloc (.cells #[.int .i64 K, .int .i64 A, .int .i64 B, .int .i64 R, .int .i64 0, .int .i64 0, .int .i64 Q, .int .i64 F, .bool O] 24)) (T := 24) (Below.refl _ _)
  generalize (w.alloc (.cells #[.int .i64 0, .int .i64 0, .int .i64 0, .int .i64 0, .int .i64 0, .int .i64 0, .int .i64 0, .int .i64 0, .bool false] 24)).alloc (.cells #[.int .i64 K, .int .i64 A, .int .i64 B, .int .i64 R, .int .i64 0, .int .i64 0, .int .i64 Q, .int .i64 F, .bool O] 24) = W2 at HR HC fR fC hB2 hs ⊢
  have hne : w.heap.size ≠ w.heap.size + 1 := by omega
  have hne2 : w.heap.size + 1 ≠ w.heap.size := by omega
  obtain ⟨c0, c1, c2, c3, c4, c5, c6, c7, c8⟩ := id HC
  obtain ⟨z0, z1, z2, z3, z4, z5, z6, z7, z8⟩ := id HR
  clear mk ma mb mr mq mo mf f
  go_wp2_with fail
  refine (packSpec_no _ _ _ _ _ _ _ _ _ _ ho).mono ?_
  rintro e w3 ⟨rfl, hb3⟩
  have HC3 := (HC.putOne4 (.int .i64 H)).below hb3 (by simp; omega)
  have HR3 := (HR.other (C := w.heap.size + 1) 4 (.int .i64 H) hne2).below hb3 (by simp; omega)
  have fR3 : ∀ i, w3.frozen? ⟨w.heap.size, i, none⟩ = false := fun i => by rw [(bcell hb3).2 _ _ (by simp; omega)]; go_simp
  have hB3 := (hB2.setCell (p := ⟨w.heap.size + 1, 4, none⟩) (by simp) (.int .i64 H)).trans (hb3.mono (by simp; omega))
  clear hb3 c0 c1 c2 c3 c4 c5 c6 c7 c8 z0 z1 z2 z3 z4 z5 z6 z7 z8 HC HR fC fR hB2
  obtain ⟨c0, c1, c2, c3, c4, c5, c6, c7, c8⟩ := HC3
  obtain ⟨z0, z1, z2, z3, z4, z5, z6, z7, z8⟩ := id HR3
  go_wp2_with fail
  have HF := HR3.put (.int .i64 0) (.int .i64 0) (.int .i64 0) (.int .i64 0) (.int .i64 0) (.int .i64 0) (.int .i64 0) (.int .i64 0) (.bool false)
  refine bodyPost_ret (spec_CapUnpack_res rfl rfl HF) rfl ?_
  refine ⟨rfl, ?_⟩
  repeat (refine Below.setCell ?_ (by simp; try omega) _)
  exact hB3

set_option maxHeartbeats 400000 in
theorem unpackSpec_onc (a b K A B R Q F H : Int) (O : Bool) (w : World) (ha0 : 0 ≤ a) (ha1 : a ≤ 4294967295) (hb0 : 0 ≤ b) (hb1 : b ≤ 4294967295) (f : Fields a b K A B R Q F H O) (hk : (K == 2) = false) (ho : okB K A B R H 0 Q F O = false) (hz : (a == 0) = true) (hz2 : ((0 : Int) != a) = false) (hz3 : ((0 : Int) != b) = false) :
    Calls Tryz.prog 11 #[.int .u32 a, .int .u32 b] w fun e w' => e = .returned (.tuple #[.agg #[.int .i64 0, .int .i64 0, .int .i64 0, .int .i64 0, .int .i64 0, .int .i64 0, .int .i64 0, .int .i64 0, .bool false], .bool false]) ∧ Below w.heap.size w w' := by
  have hbK : 0 ≤ K ∧ K ≤ 15 := by have := f.kk; omega
  have hbA : 0 ≤ A ∧ A ≤ 65535 := by have := f.aa; omega
  have hbB : 0 ≤ B ∧ B ≤ 15 := by have := f.bb; omega
  have hbR : 0 ≤ R ∧ R ≤ 7 := by have := f.rr; omega
  have hbQ : 0 ≤ Q ∧ Q ≤ 15 := by have := f.qq; omega
  have hbF : 0 ≤ F ∧ F ≤ 65535 := by have := f.ff; omega
  have hbH : 0 ≤ H ∧ H ≤ 65535 := by have := f.hh; omega
  have mk := f.kk
  have ma := f.aa
  have mb := f.bb
  have mr := f.rr
  have mq := f.qq
  have mo := f.oo
  have mf := f.ff
  have mh := f.hh
  go_enter Tryz.func11, Tryz.ntmps11
  go_upto_region 4 with fail
  obtain ⟨HR, HC, fR, fC, hB2, hs⟩ := after2 (w := w) (w1 := (w.alloc (.cells #[.int .i64 0, .int .i64 0, .int .i64 0, .int .i64 0, .int .i64 0, .int .i64 0, .int .i64 0, .int .i64 0, .bool false] 24)).alloc (.cells #[.int .i64 K, .int .i64 A, .int .i64 B, .int .i64 R, .int .i64 0, .int .i64 0, .int .i64 Q, .int .i64 F, .bool O] 24)) (T := 24) (Below.refl _ _)
  generalize (w.alloc (.cells #[.int .i64 0, .int .i64 0, .int .i64 0, .int .i64 0, .int .i64 0, .int .i64 0, .int .i64 0, .int .i64 0, .bool false] 24)).alloc (.cells #[.int .i64 K, .int .i64 A, .int .i64 B, .int .i64 R, .int .i64 0, .int .i64 0, .int .i64 Q, .int .i64 F, .bool O] 24) = W2 at HR HC fR fC hB2 hs ⊢
  have hne : w.heap.size ≠ w.heap.size + 1 := by omega
  have hne2 : w.heap.size + 1 ≠ w.heap.size := by omega
  obtain ⟨c0, c1, c2, c3, c4, c5, c6, c7, c8⟩ := id HC
  obtain ⟨z0, z1, z2, z3, z4, z5, z6, z7, z8⟩ := id HR
  clear mk ma mb mr mq mo mf f
  go_wp2_with fail
  refine (packSpec_no _ _ _ _ _ _ _ _ _ _ ho).mono ?_
  rintro e w3 ⟨rfl, hb3⟩
  have HC3 := (HC.putOne4 (.int .i64 H)).below hb3 (by simp; omega)
  have HR3 := (HR.other (C := w.heap.size + 1) 4 (.int .i64 H) hne2).below hb3 (by simp; omega)
  have fR3 : ∀ i, w3.frozen? ⟨w.heap.size, i, none⟩ = false := fun i => by rw [(bcell hb3).2 _ _ (by simp; omega)]; go_simp
  have hB3 := (hB2.setCell (p := ⟨w.heap.size + 1, 4, none⟩) (by simp) (.int .i64 H)).trans (hb3.mono (by simp; omega))
  clear hb3 c0 c1 c2 c3 c4 c5 c6 c7 c8 z0 z1 z2 z3 z4 z5 z6 z7 z8 HC HR fC fR hB2
  obtain ⟨c0, c1, c2, c3, c4, c5, c6, c7, c8⟩ := HC3
  obtain ⟨z0, z1, z2, z3, z4, z5, z6, z7, z8⟩ := id HR3
  go_wp2_with fail
  have HF := HR3.put (.int .i64 0) (.int .i64 0) (.int .i64 0) (.int .i64 0) (.int .i64 0) (.int .i64 0) (.int .i64 0) (.int .i64 0) (.bool false)
  refine bodyPost_ret (spec_CapUnpack_res rfl rfl HF) rfl ?_
  refine ⟨rfl, ?_⟩
  repeat (refine Below.setCell ?_ (by simp; try omega) _)
  exact hB3

end Go.Proofs.YthmambhagheocaaGreatDoor
/-
  Two words, and what is read off them: plain facts, and what both CapUnpack answer.
-/
namespace Go.Proofs.YthmambhagheocaaGreatDoor
open Go.ChangeShapes Go.WideShapes Go.ChangeAt Go.RowKit
set_option linter.unusedVariables false

def candU (a b : Int) : CQ := ⟨a % 16, b % 65536, a / 256 % 16, a / 32 % 8, if a % 16 = 2 then 0 else b / 65536, if a % 16 = 2 then b / 65536 else 0, a / 4096 % 16, a / 65536, a / 16 % 2 == 1⟩
def unC (a b : Int) : CQ := if (candU a b).ok = true then candU a b else CQ.zero
def wA (c : CQ) : Int := wordA c.k c.a c.b c.r c.d c.g c.q c.f c.o
def wB (c : CQ) : Int := wordB c.k c.a c.b c.r c.d c.g c.q c.f c.o
theorem cand_yes {a b : Int} (h : a % 16 = 2) : candU a b = ⟨a % 16, b % 65536, a / 256 % 16, a / 32 % 8, 0, b / 65536, a / 4096 % 16, a / 65536, a / 16 % 2 == 1⟩ := by unfold candU; rw [if_pos h, if_pos h]
theorem cand_no {a b : Int} (h : ¬ a % 16 = 2) : candU a b = ⟨a % 16, b % 65536, a / 256 % 16, a / 32 % 8, b / 65536, 0, a / 4096 % 16, a / 65536, a / 16 % 2 == 1⟩ := by unfold candU; rw [if_neg h, if_neg h]
theorem fields (a b : Int) : Fields a b (a % 16) (b % 65536) (a / 256 % 16) (a / 32 % 8) (a / 4096 % 16) (a / 65536) (b / 65536) (a / 16 % 2 == 1) := ⟨rfl, rfl, rfl, rfl, rfl, rfl, rfl, rfl⟩

theorem un_back {a b : Int} (ha : 0 ≤ a) (hb : 0 ≤ b) (h : (candU a b).ok = true) : wA (unC a b) = a ∧ wB (unC a b) = b := by
  have hu : unC a b = candU a b := by unfold unC; rw [if_pos h]
  rw [hu]
  unfold wA wB wordA wordB
  have h2 : okB (candU a b).k (candU a b).a (candU a b).b (candU a b).r (candU a b).d (candU a b).g (candU a b).q (candU a b).f (candU a b).o = true := h
  rw [if_pos h2, if_pos h2]
  by_cases hk : a % 16 = 2
  · rw [cand_yes hk]; exact words_back (fields a b) ha hb 0 (b / 65536) (by omega)
  · rw [cand_no hk]; exact words_back (fields a b) ha hb (b / 65536) 0 (by omega)
theorem un_ok {a b : Int} (h : (candU a b).ok = true) : (unC a b).ok = true := by unfold unC; rw [if_pos h]; exact h
theorem un_r (a b : Int) : 0 ≤ (unC a b).r ∧ (unC a b).r ≤ 7 := by
  unfold unC
  split
  · show 0 ≤ a / 32 % 8 ∧ a / 32 % 8 ≤ 7; omega
  · exact ⟨Int.le_refl 0, show (0 : Int) ≤ 7 by decide⟩
theorem pack_no {c : CQ} (h : c.ok = false) : wA c = 0 ∧ wB c = 0 := by
  unfold wA wB wordA wordB
  have h2 : ¬ okB c.k c.a c.b c.r c.d c.g c.q c.f c.o = true := by rw [show okB c.k c.a c.b c.r c.d c.g c.q c.f c.o = false from h]; decide
  rw [if_neg h2, if_neg h2]; exact ⟨rfl, rfl⟩
theorem cand_zero : (candU 0 0).ok = false := by decide
theorem pack_back {c : CQ} (h : c.ok = true) : candU (wA c) (wB c) = c := by
  have h2 : okB c.k c.a c.b c.r c.d c.g c.q c.f c.o = true := h
  have hdg : c.k = 2 → c.d = 0 := fun e => by
    simp only [okB, besideB, withinB, Bool.and_eq_true, decide_eq_true_eq] at h2
    obtain ⟨⟨⟨⟨⟨⟨h1, h7⟩, ⟨hr0, hr1⟩⟩, hA⟩, hI⟩, ⟨⟨⟨hd0, hd1⟩, ⟨hq0, hq1⟩⟩, ⟨hg0, hg1⟩⟩, ⟨hf0, hf1⟩⟩, ho⟩ := h2
    have : bmaxI c.k = 0 := by unfold bmaxI; rw [if_neg (by omega)]
    omega
  have hg2 : ¬ c.k = 2 → c.g = 0 := fun e => by
    simp only [okB, besideB, withinB, Bool.and_eq_true, decide_eq_true_eq] at h2
    obtain ⟨⟨⟨⟨⟨⟨h1, h7⟩, ⟨hr0, hr1⟩⟩, hA⟩, hI⟩, ⟨⟨⟨hd0, hd1⟩, ⟨hq0, hq1⟩⟩, ⟨hg0, hg1⟩⟩, ⟨hf0, hf1⟩⟩, ho⟩ := h2
    have : gmaxI c.k = 0 := by unfold gmaxI; rw [if_neg e]
    have hq : c.q = 0 := by omega
    rw [hq] at hg1
    have : sizeI 0 = 1 := by decide
    omega
  obtain ⟨⟨k0, k1⟩, ⟨a0, a1⟩, ⟨b0, b1⟩, ⟨r0, r1⟩, ⟨d0, d1⟩, ⟨g0, g1⟩, ⟨q0, q1⟩, ⟨f0, f1⟩, hd⟩ := ok_bounds h2
  unfold wA wB wordA wordB
  rw [if_pos h2, if_pos h2]
  obtain ⟨k, a, b, r, d, g, q, f, o⟩ := c
  simp only at *
  unfold packA packB oI candU
  cases o
  · simp only [Bool.false_eq_true, if_false]
    have e1 : (k + 16 * 0 + 32 * r + 256 * b + 4096 * q + 65536 * f) % 16 = k := by omega
    rw [e1]
    by_cases hk : k = 2
    · have := hdg hk
      rw [if_pos hk, if_pos hk]
      simp only [CQ.mk.injEq]
      refine ⟨trivial, ?_, ?_, ?_, ?_, ?_, ?_, ?_, ?_⟩ <;> first | omega | (simp; omega)
    · have := hg2 hk
      rw [if_neg hk, if_neg hk]
      simp only [CQ.mk.injEq]
      refine ⟨trivial, ?_, ?_, ?_, ?_, ?_, ?_, ?_, ?_⟩ <;> first | omega | (simp; omega)
  · simp only [if_true]
    have e1 : (k + 16 * 1 + 32 * r + 256 * b + 4096 * q + 65536 * f) % 16 = k := by omega
    rw [e1]
    by_cases hk : k = 2
    · have := hdg hk
      rw [if_pos hk, if_pos hk]
      simp only [CQ.mk.injEq]
      refine ⟨trivial, ?_, ?_, ?_, ?_, ?_, ?_, ?_, ?_⟩ <;> first | omega | (simp; omega)
    · have := hg2 hk
      rw [if_neg hk, if_neg hk]
      simp only [CQ.mk.injEq]
      refine ⟨trivial, ?_, ?_, ?_, ?_, ?_, ?_, ?_, ?_⟩ <;> first | omega | (simp; omega)
theorem un_pack {c : CQ} (h : c.ok = true) : unC (wA c) (wB c) = c ∧ (candU (wA c) (wB c)).ok = true := by
  have e := pack_back h
  exact ⟨by unfold unC; rw [e, if_pos h], by rw [e]; exact h⟩
theorem unC_yes {a b : Int} (h : (candU a b).ok = true) : unC a b = candU a b := by unfold unC; rw [if_pos h]
theorem unC_no {a b : Int} (h : (candU a b).ok = false) : unC a b = CQ.zero := by unfold unC; rw [if_neg (by rw [h]; decide)]

theorem unpackI_any (a b : Int) (w : World) (ha : 0 ≤ a ∧ a ≤ 4294967295) (hb : 0 ≤ b ∧ b ≤ 4294967295) :
    Calls Tryz.prog 6 #[.int .u32 a, .int .u32 b] w fun e w' => e = .returned (.tuple #[.agg #[.int .i64 (unC a b).k, .int .i64 (unC a b).a, .int .i64 (unC a b).b, .int .i64 (unC a b).r, .int .i64 (unC a b).d, .int .i64 (unC a b).g, .int .i64 (unC a b).q, .int .i64 (unC a b).f, .bool (unC a b).o], .bool (candU a b).ok]) ∧ Below w.heap.size w w' := by
  cases hok : (candU a b).ok
  · rw [unC_no hok]
    cases hk : (a % 16 == 2)
    · have hk' : ¬ a % 16 = 2 := by simpa using hk
      rw [cand_no hk'] at hok
      exact unpackImpl_on a b _ _ _ _ _ _ _ _ w ha.1 ha.2 hb.1 hb.2 (fields a b) hk hok
    · have hk' : a % 16 = 2 := by simpa using hk
      rw [cand_yes hk'] at hok
      exact unpackImpl_nn a b _ _ _ _ _ _ _ _ w ha.1 ha.2 hb.1 hb.2 (fields a b) hk hok
  · rw [unC_yes hok]
    cases hk : (a % 16 == 2)
    · have hk' : ¬ a % 16 = 2 := by simpa using hk
      rw [cand_no hk'] at hok ⊢
      exact unpackImpl_oy a b _ _ _ _ _ _ _ _ w ha.1 ha.2 hb.1 hb.2 (fields a b) hk hok
    · have hk' : a % 16 = 2 := by simpa using hk
      rw [cand_yes hk'] at hok ⊢
      exact unpackImpl_ny a b _ _ _ _ _ _ _ _ w ha.1 ha.2 hb.1 hb.2 (fields a b) hk hok

theorem unpackS_any (a b : Int) (w : World) (ha : 0 ≤ a ∧ a ≤ 4294967295) (hb : 0 ≤ b ∧ b ≤ 4294967295) :
    Calls Tryz.prog 11 #[.int .u32 a, .int .u32 b] w fun e w' => e = .returned (.tuple #[.agg #[.int .i64 (unC a b).k, .int .i64 (unC a b).a, .int .i64 (unC a b).b, .int .i64 (unC a b).r, .int .i64 (unC a b).d, .int .i64 (unC a b).g, .int .i64 (unC a b).q, .int .i64 (unC a b).f, .bool (unC a b).o], .bool (candU a b).ok]) ∧ Below w.heap.size w w' := by
  cases hok : (candU a b).ok
  · rw [unC_no hok]
    have hz : ((a == 0) = false ∧ ((0 : Int) != a) = true) ∨ ((a == 0) = true ∧ ((0 : Int) != a) = false) := by
      by_cases e : a = 0
      · right; subst e; exact ⟨rfl, rfl⟩
      · left; exact ⟨by simpa using e, by simp; omega⟩
    cases hk : (a % 16 == 2)
    · have hk' : ¬ a % 16 = 2 := by simpa using hk
      rw [cand_no hk'] at hok
      rcases hz with ⟨hz, hz2⟩ | ⟨hz, hz2⟩
      · exact unpackSpec_ona a b _ _ _ _ _ _ _ _ w ha.1 ha.2 hb.1 hb.2 (fields a b) hk hok hz hz2
      · cases hz3 : ((0 : Int) != b)
        · exact unpackSpec_onc a b _ _ _ _ _ _ _ _ w ha.1 ha.2 hb.1 hb.2 (fields a b) hk hok hz hz2 hz3
        · exact unpackSpec_onb a b _ _ _ _ _ _ _ _ w ha.1 ha.2 hb.1 hb.2 (fields a b) hk hok hz hz2 hz3
    · have hk' : a % 16 = 2 := by simpa using hk
      rw [cand_yes hk'] at hok
      rcases hz with ⟨hz, hz2⟩ | ⟨hz, hz2⟩
      · exact unpackSpec_nna a b _ _ _ _ _ _ _ _ w ha.1 ha.2 hb.1 hb.2 (fields a b) hk hok hz hz2
      · cases hz3 : ((0 : Int) != b)
        · exact unpackSpec_nnc a b _ _ _ _ _ _ _ _ w ha.1 ha.2 hb.1 hb.2 (fields a b) hk hok hz hz2 hz3
        · exact unpackSpec_nnb a b _ _ _ _ _ _ _ _ w ha.1 ha.2 hb.1 hb.2 (fields a b) hk hok hz hz2 hz3
  · rw [unC_yes hok]
    cases hk : (a % 16 == 2)
    · have hk' : ¬ a % 16 = 2 := by simpa using hk
      rw [cand_no hk'] at hok ⊢
      exact unpackSpec_oy a b _ _ _ _ _ _ _ _ w ha.1 ha.2 hb.1 hb.2 (fields a b) hk hok
    · have hk' : a % 16 = 2 := by simpa using hk
      rw [cand_yes hk'] at hok ⊢
      exact unpackSpec_ny a b _ _ _ _ _ _ _ _ w ha.1 ha.2 hb.1 hb.2 (fields a b) hk hok

end Go.Proofs.YthmambhagheocaaGreatDoor
/-
  Slots: the eleven cells of one; a list of them in memory.
-/
namespace Go.Proofs.YthmambhagheocaaGreatDoor
open Go.ChangeShapes Go.WideShapes Go.ChangeAt Go.RowKit
set_option linter.unusedVariables false

/-- A slot: its At, the nine fields of its capability, its Depth. -/
structure Sl where
  t : Int
  k : Int
  e : Int
  b : Int
  r : Int
  d : Int
  g : Int
  q : Int
  f : Int
  o : Bool
  p : Int

instance : Inhabited Sl := ⟨⟨0, 0, 0, 0, 0, 0, 0, 0, 0, false, 0⟩⟩

/-- Its integers are such of 64 bits. -/
structure Sl.Fit (s : Sl) : Prop where
  t : -9223372036854775808 ≤ s.t ∧ s.t ≤ 9223372036854775807
  r : -9223372036854775808 ≤ s.r ∧ s.r ≤ 9223372036854775807
  p : -9223372036854775808 ≤ s.p ∧ s.p ≤ 9223372036854775807

/-- Eleven cells from an offset on. -/
structure At11 (W : World) (B O : Nat) (s : Sl) : Prop where
  c0 : W.cell? ⟨B, O, none⟩ = some (.int .i64 s.t)
  c1 : W.cell? ⟨B, O + 1, none⟩ = some (.int .i64 s.k)
  c2 : W.cell? ⟨B, O + 2, none⟩ = some (.int .i64 s.e)
  c3 : W.cell? ⟨B, O + 3, none⟩ = some (.int .i64 s.b)
  c4 : W.cell? ⟨B, O + 4, none⟩ = some (.int .i64 s.r)
  c5 : W.cell? ⟨B, O + 5, none⟩ = some (.int .i64 s.d)
  c6 : W.cell? ⟨B, O + 6, none⟩ = some (.int .i64 s.g)
  c7 : W.cell? ⟨B, O + 7, none⟩ = some (.int .i64 s.q)
  c8 : W.cell? ⟨B, O + 8, none⟩ = some (.int .i64 s.f)
  c9 : W.cell? ⟨B, O + 9, none⟩ = some (.bool s.o)
  c10 : W.cell? ⟨B, O + 10, none⟩ = some (.int .i64 s.p)

/-- A list of slots in memory. -/
structure Lies (W : World) (P : Option Addr) (L : List Sl) : Prop where
  place : L = [] ∨ ∃ B O, P = some ⟨B, O, none⟩
  cells : ∀ B O, P = some ⟨B, O, none⟩ → ∀ i (h : i < L.length), At11 W B (O + i * 11) L[i]

theorem Lies.some {W : World} {P : Option Addr} {L : List Sl} (h : Lies W P L) {i : Nat} (hi : i < L.length) : ∃ B O, P = some ⟨B, O, none⟩ := by
  rcases h.place with e | e
  · subst e; exact absurd hi (Nat.not_lt_zero _)
  · exact e

theorem At11.lt {W : World} {B O : Nat} {s : Sl} (h : At11 W B O s) : B < W.heap.size := block_lt_of_cell h.c0

theorem At11.of {W W' : World} {B O : Nat} {s : Sl} (h : At11 W B O s) (hc : ∀ j, W'.cell? ⟨B, O + j, none⟩ = W.cell? ⟨B, O + j, none⟩) : At11 W' B O s :=
  ⟨(hc 0).trans h.c0, (hc 1).trans h.c1, (hc 2).trans h.c2, (hc 3).trans h.c3, (hc 4).trans h.c4, (hc 5).trans h.c5, (hc 6).trans h.c6, (hc 7).trans h.c7, (hc 8).trans h.c8, (hc 9).trans h.c9, (hc 10).trans h.c10⟩

theorem Lies.below {W W' : World} {P : Option Addr} {L : List Sl} (h : Lies W P L) (hb : Below W.heap.size W W') : Lies W' P L :=
  ⟨h.place, fun B O e i hi => (h.cells B O e i hi).of fun j => (bcell hb).1 _ _ (h.cells B O e i hi).lt⟩

theorem Lies.nil (W : World) (P : Option Addr) : Lies W P [] := ⟨.inl rfl, fun _ _ _ i hi => absurd hi (Nat.not_lt_zero _)⟩

theorem Lies.take {W : World} {P : Option Addr} {L : List Sl} (h : Lies W P L) (k : Nat) : Lies W P (L.take k) := by
  refine ⟨?_, fun B O e i hi => ?_⟩
  · rcases h.place with e | e
    · left; rw [e]; simp
    · exact .inr e
  · have hi' : i < L.length := by simp at hi; omega
    rw [List.getElem_take]
    exact h.cells B O e i hi'

end Go.Proofs.YthmambhagheocaaGreatDoor
/-
  Eleven cells of a block, told by their values.
-/
namespace Go.Proofs.YthmambhagheocaaGreatDoor
open Go.ChangeShapes Go.WideShapes Go.ChangeAt Go.RowKit
set_option linter.unusedVariables false

structure Holds11 (W : World) (B : Nat) (v0 v1 v2 v3 v4 v5 v6 v7 v8 v9 v10 : Value) : Prop where
  c0 : W.cell? ⟨B, 0, none⟩ = some v0
  c1 : W.cell? ⟨B, 1, none⟩ = some v1
  c2 : W.cell? ⟨B, 2, none⟩ = some v2
  c3 : W.cell? ⟨B, 3, none⟩ = some v3
  c4 : W.cell? ⟨B, 4, none⟩ = some v4
  c5 : W.cell? ⟨B, 5, none⟩ = some v5
  c6 : W.cell? ⟨B, 6, none⟩ = some v6
  c7 : W.cell? ⟨B, 7, none⟩ = some v7
  c8 : W.cell? ⟨B, 8, none⟩ = some v8
  c9 : W.cell? ⟨B, 9, none⟩ = some v9
  c10 : W.cell? ⟨B, 10, none⟩ = some v10
  z : ∀ i, W.frozen? ⟨B, i, none⟩ = false

theorem Holds11.alloc (w : World) (v0 v1 v2 v3 v4 v5 v6 v7 v8 v9 v10 : Value) (T : Nat) : Holds11 (w.alloc (.cells #[v0, v1, v2, v3, v4, v5, v6, v7, v8, v9, v10] T)) w.heap.size v0 v1 v2 v3 v4 v5 v6 v7 v8 v9 v10 := by
  constructor
  all_goals first | (intro i; go_simp) | go_simp

theorem Holds11.below {W W' : World} {B : Nat} {v0 v1 v2 v3 v4 v5 v6 v7 v8 v9 v10 : Value} (h : Holds11 W B v0 v1 v2 v3 v4 v5 v6 v7 v8 v9 v10) (hb : Below W.heap.size W W') (hB : B < W.heap.size) : Holds11 W' B v0 v1 v2 v3 v4 v5 v6 v7 v8 v9 v10 :=
  ⟨((bcell hb).1 _ _ hB).trans h.c0, ((bcell hb).1 _ _ hB).trans h.c1, ((bcell hb).1 _ _ hB).trans h.c2, ((bcell hb).1 _ _ hB).trans h.c3, ((bcell hb).1 _ _ hB).trans h.c4, ((bcell hb).1 _ _ hB).trans h.c5, ((bcell hb).1 _ _ hB).trans h.c6, ((bcell hb).1 _ _ hB).trans h.c7, ((bcell hb).1 _ _ hB).trans h.c8, ((bcell hb).1 _ _ hB).trans h.c9, ((bcell hb).1 _ _ hB).trans h.c10, fun i => ((bcell hb).2 _ _ hB).trans (h.z i)⟩

theorem Holds11.allocs {W : World} {B : Nat} {v0 v1 v2 v3 v4 v5 v6 v7 v8 v9 v10 : Value} (h : Holds11 W B v0 v1 v2 v3 v4 v5 v6 v7 v8 v9 v10) (hB : B < W.heap.size) (O : Obj) : Holds11 (W.alloc O) B v0 v1 v2 v3 v4 v5 v6 v7 v8 v9 v10 :=
  h.below ((Below.refl _ _).alloc (Nat.le_refl _) O) hB

/-- Three blocks of eleven, made one behind the other, and a call behind them. -/
theorem three11 {w w1 : World} {a0 a1 a2 a3 a4 a5 a6 a7 a8 a9 a10 b0 b1 b2 b3 b4 b5 b6 b7 b8 b9 b10 c0 c1 c2 c3 c4 c5 c6 c7 c8 c9 c10 : Value} {S T U : Nat}
    (hb : Below (((w.alloc (.cells #[a0, a1, a2, a3, a4, a5, a6, a7, a8, a9, a10] S)).alloc (.cells #[b0, b1, b2, b3, b4, b5, b6, b7, b8, b9, b10] T)).alloc (.cells #[c0, c1, c2, c3, c4, c5, c6, c7, c8, c9, c10] U)).heap.size (((w.alloc (.cells #[a0, a1, a2, a3, a4, a5, a6, a7, a8, a9, a10] S)).alloc (.cells #[b0, b1, b2, b3, b4, b5, b6, b7, b8, b9, b10] T)).alloc (.cells #[c0, c1, c2, c3, c4, c5, c6, c7, c8, c9, c10] U)) w1) :
    Holds11 w1 w.heap.size a0 a1 a2 a3 a4 a5 a6 a7 a8 a9 a10 ∧ Holds11 w1 (w.heap.size + 1) b0 b1 b2 b3 b4 b5 b6 b7 b8 b9 b10 ∧ Holds11 w1 (w.heap.size + 1 + 1) c0 c1 c2 c3 c4 c5 c6 c7 c8 c9 c10 ∧ Below w.heap.size w w1 ∧ w.heap.size + 1 + 1 < w1.heap.size := by
  refine ⟨(((Holds11.alloc w a0 a1 a2 a3 a4 a5 a6 a7 a8 a9 a10 S).allocs (by simp) _).allocs (by simp; omega) _).below hb (by simp; omega), ?_, ?_, ?_, ?_⟩
  · have := ((Holds11.alloc (w.alloc (.cells #[a0, a1, a2, a3, a4, a5, a6, a7, a8, a9, a10] S)) b0 b1 b2 b3 b4 b5 b6 b7 b8 b9 b10 T).allocs (by simp) (.cells #[c0, c1, c2, c3, c4, c5, c6, c7, c8, c9, c10] U)).below hb (by simp)
    rw [World.size_alloc] at this
    exact this
  · have := (Holds11.alloc ((w.alloc (.cells #[a0, a1, a2, a3, a4, a5, a6, a7, a8, a9, a10] S)).alloc (.cells #[b0, b1, b2, b3, b4, b5, b6, b7, b8, b9, b10] T)) c0 c1 c2 c3 c4 c5 c6 c7 c8 c9 c10 U).below hb (by simp)
    rw [World.size_alloc, World.size_alloc] at this
    exact this
  · exact ((((Below.refl _ _).alloc (Nat.le_refl _) _).alloc (by simp) _).alloc (by simp; omega) _).trans (hb.mono (by simp; omega))
  · have := hb.size; simp at this; omega

end Go.Proofs.YthmambhagheocaaGreatDoor
/-
  The quiet walk of a region behind a structure, so that the whole walk is not laid open at each step.
-/
namespace Go.Proofs.YthmambhagheocaaGreatDoor
open Go Go.Sort

/-- The walk, shut. -/
structure WQ (P : Program) (ops : Array Oper) (C : World → Prop) (Q : Act → Prop) (l : List Oper) (a : Act) : Prop where
  h : wpQuiet P ops C Q l a

theorem wq_nil {P : Program} {ops : Array Oper} {C : World → Prop} {Q : Act → Prop} {a : Act} (h : Q a) : WQ P ops C Q [] a := ⟨h⟩

theorem wq_step {P : Program} {ops : Array Oper} {C : World → Prop} {Q : Act → Prop} {a : Act} {o : Oper} {rest : List Oper}
    (h : ∀ K : Act → Prop, (∀ a, WQ P ops C Q rest a → K a) → if Region.wanted o (yielded ops a.tmps) then o.quiet P a C K else K (a.put o.dst undef)) : WQ P ops C Q (o :: rest) a :=
  ⟨wpQuiet_step fun K hK => h K fun a ha => hK a ha.h⟩

theorem wq_region {P : Program} {id : Nat} {Q : Exit → Act → World → Prop} {a : Act} {w : World} {l : List Oper} (hm : P.follows .mixedOrders = true) (hB : Region.lexB .any l.toArray = true)
    (h : WQ P l.toArray (fun w' => ∃ p : Regrown, w' = grow (redrawn w p.d) p.os) (fun a' => ∀ w', (∃ p : Regrown, w' = grow (redrawn w p.d) p.os) → Q .normal a' w') l a) : (Code.region id l.toArray true).wp P Q a w :=
  wp_region_quiet_below hm hB h.h

end Go.Proofs.YthmambhagheocaaGreatDoor
/-
  What eqCap, eqTreeSlot and eqTreeSlotS of the laws answer where both sides are the same.
-/
namespace Go.Proofs.YthmambhagheocaaGreatDoor
open Go.ChangeShapes Go.WideShapes Go.ChangeAt Go.RowKit
set_option linter.unusedVariables false

/-- Two blocks of eleven, and a call behind them. -/
theorem two11 {w w1 : World} {a0 a1 a2 a3 a4 a5 a6 a7 a8 a9 a10 b0 b1 b2 b3 b4 b5 b6 b7 b8 b9 b10 : Value} {S T : Nat}
    (hb : Below ((w.alloc (.cells #[a0, a1, a2, a3, a4, a5, a6, a7, a8, a9, a10] S)).alloc (.cells #[b0, b1, b2, b3, b4, b5, b6, b7, b8, b9, b10] T)).heap.size ((w.alloc (.cells #[a0, a1, a2, a3, a4, a5, a6, a7, a8, a9, a10] S)).alloc (.cells #[b0, b1, b2, b3, b4, b5, b6, b7, b8, b9, b10] T)) w1) :
    Holds11 w1 w.heap.size a0 a1 a2 a3 a4 a5 a6 a7 a8 a9 a10 ∧ Holds11 w1 (w.heap.size + 1) b0 b1 b2 b3 b4 b5 b6 b7 b8 b9 b10 ∧ Below w.heap.size w w1 := by
  refine ⟨((Holds11.alloc w a0 a1 a2 a3 a4 a5 a6 a7 a8 a9 a10 S).allocs (by simp) _).below hb (by simp; omega), ?_, ?_⟩
  · have := (Holds11.alloc (w.alloc (.cells #[a0, a1, a2, a3, a4, a5, a6, a7, a8, a9, a10] S)) b0 b1 b2 b3 b4 b5 b6 b7 b8 b9 b10 T).below hb (by simp)
    rw [World.size_alloc] at this
    exact this
  · exact (((Below.refl _ _).alloc (Nat.le_refl _) _).alloc (by simp) _).trans (hb.mono (by simp; omega))

/-- What stands between two rounds. -/
def eqInv (w : World) (P Q : Option Addr) (L : List Sl) (i : Value) (w' : World) : Prop :=
  ∃ k : Nat, k ≤ L.length ∧ i = .int .i64 k ∧ Lies w' P L ∧ Lies w' Q L ∧ Below w.heap.size w w'

end Go.Proofs.YthmambhagheocaaGreatDoor
/-
  The walk of the law of CapRead: both answer alike at every text. Conditions: what the row lists of the library's variables reads as the program lays it.
-/
namespace Go.Proofs.YthmambhagheocaaGreatDoor
open Go.ChangeShapes Go.WideShapes Go.ChangeAt Go.RowKit
set_option linter.unusedVariables false

set_option maxRecDepth 100000 in
set_option maxHeartbeats 2000000 in
theorem capReadS_long (s : List UInt8) (w : World) (hl : 100 < s.length) (hb : s.length ≤ 9223372036854775807) :
    Calls Tryz.prog 13 #[.string ⟨s.toArray⟩] w fun e w' => e = .returned (rdV (readS s)) ∧ Below w.heap.size w w' := by
  have hsz : (⟨s.toArray⟩ : ByteArray).size = s.length := by simp [ByteArray.size]
  have hl1 : (s.length : Int) > 100 := by omega
  have HR : Hid (readS s = none) := by unfold Hid readS; rw [if_neg]; intro h; omega
  have r0 := Bx.new w 24 [.int .i64 0, .int .i64 0, .int .i64 0, .int .i64 0, .int .i64 0, .int .i64 0, .int .i64 0, .int .i64 0, .bool false]
  have b0 : Below w.heap.size w (w.alloc (.cells #[.int .i64 0, .int .i64 0, .int .i64 0, .int .i64 0, .int .i64 0, .int .i64 0, .int .i64 0, .int .i64 0, .bool false] 24)) := (Below.refl _ _).alloc (Nat.le_refl _) _
  go_enter Tryz.func13, Tryz.ntmps13
  go_upto_region 1 with fail
  generalize w.alloc (.cells #[.int .i64 0, .int .i64 0, .int .i64 0, .int .i64 0, .int .i64 0, .int .i64 0, .int .i64 0, .int .i64 0, .bool false] 24) = W at r0 b0 ⊢
  have q0 := r0.cell 0 _ rfl; have q1 := r0.cell 1 _ rfl; have q2 := r0.cell 2 _ rfl; have q3 := r0.cell 3 _ rfl; have q4 := r0.cell 4 _ rfl; have q5 := r0.cell 5 _ rfl; have q6 := r0.cell 6 _ rfl; have q7 := r0.cell 7 _ rfl; have q8 := r0.cell 8 _ rfl
  have qz := r0.frozen
  go_wp2
  refine bodyPost_ret (v := rdV none) (by simp [results, Tryz.results13, go_sem, rdV, CQ.zero, *]) rfl ⟨by rw [HR.out], below_set9 b0 _ _ _ _ _ _ _ _ _⟩

theorem capReadS_all (s : List UInt8) (w : World) (hb : s.length ≤ 9223372036854775807) :
    Calls Tryz.prog 13 #[.string ⟨s.toArray⟩] w fun e w' => e = .returned (rdV (readI s)) ∧ Below w.heap.size w w' := by
  rw [← read_same]
  by_cases h : s.length ≤ 100
  · exact capReadS_any s w h
  · exact capReadS_long s w (by omega) hb

theorem rdV_is (r : Option CQ) : ∃ (ck ca cb cr cd cg cq cf : Int) (co ok : Bool), rdV r = .tuple #[.agg #[.int .i64 ck, .int .i64 ca, .int .i64 cb, .int .i64 cr, .int .i64 cd, .int .i64 cg, .int .i64 cq, .int .i64 cf, .bool co], .bool ok] := ⟨_, _, _, _, _, _, _, _, _, _, rfl⟩

end Go.Proofs.YthmambhagheocaaGreatDoor
/-
  The walk of the law FnCapBack.
-/
namespace Go.Proofs.YthmambhagheocaaGreatDoor
open Go.ChangeShapes Go.WideShapes Go.ChangeAt Go.RowKit
set_option linter.unusedVariables false

theorem Bytes.low {w w' : World} {a : Option Addr} {n c : Nat} (h : Bytes w a n c) (hb : Below w.heap.size w w') : Bytes w' a n c := by
  rcases h with e | ⟨b, x, e, hbl, hnc, hz⟩
  · exact .inl e
  · exact .inr ⟨b, x, e, Nat.lt_of_lt_of_le hbl hb.size, hnc, fun j hj => by rw [hb.cell (p := ⟨b, x + j, none⟩) hbl]; exact hz j hj⟩
/-- What is read of the text of a capability. -/
theorem read_text (c : CQ) : readI (textOr c.k c.a c.b c.r c.d c.g c.q c.f c.o) = if c.ok = true then some c else none := by
  unfold textOr
  by_cases h : c.ok = true
  · have h2 : okB c.k c.a c.b c.r c.d c.g c.q c.f c.o = true := h
    rw [if_pos h, if_pos h2]; exact read_complete h
  · have h2 : ¬ okB c.k c.a c.b c.r c.d c.g c.q c.f c.o = true := h
    rw [if_neg h, if_neg h2]; decide
theorem capReadI_c (s : List UInt8) (c : Option CQ) (w : World) (hl : s.length ≤ 1048576) (hL : Laid w) (hc : readI s = c) :
    Calls Tryz.prog 7 #[.string ⟨s.toArray⟩] w fun e w' => e = .returned (.tuple #[.agg #[.int .i64 (c.getD CQ.zero).k, .int .i64 (c.getD CQ.zero).a, .int .i64 (c.getD CQ.zero).b, .int .i64 (c.getD CQ.zero).r, .int .i64 (c.getD CQ.zero).d, .int .i64 (c.getD CQ.zero).g, .int .i64 (c.getD CQ.zero).q, .int .i64 (c.getD CQ.zero).f, .bool (c.getD CQ.zero).o], .bool c.isSome]) ∧ Below w.heap.size w w' := by
  rw [← hc]; exact capReadI_any s w hl hL
theorem capReadS_c (s : List UInt8) (c : Option CQ) (w : World) (hb : s.length ≤ 9223372036854775807) (hc : readI s = c) :
    Calls Tryz.prog 13 #[.string ⟨s.toArray⟩] w fun e w' => e = .returned (.tuple #[.agg #[.int .i64 (c.getD CQ.zero).k, .int .i64 (c.getD CQ.zero).a, .int .i64 (c.getD CQ.zero).b, .int .i64 (c.getD CQ.zero).r, .int .i64 (c.getD CQ.zero).d, .int .i64 (c.getD CQ.zero).g, .int .i64 (c.getD CQ.zero).q, .int .i64 (c.getD CQ.zero).f, .bool (c.getD CQ.zero).o], .bool c.isSome]) ∧ Below w.heap.size w w' := by
  rw [← hc]; exact capReadS_all s w hb

set_option maxRecDepth 100000 in
set_option maxHeartbeats 8000000 in
theorem back_law (a0 a1 : Option Addr) (n0 n1 l0 l1 : Nat) (w : World) (h0 : Bytes w a0 n0 l0) (h1 : Bytes w a1 n1 l1) (hn0 : n0 ≤ 1048576) (hn1 : n1 ≤ 1048576) (hL : Laid w) :
    Calls Tryz.prog 3 #[.slice a0 n0 l0, .slice a1 n1 l1] w fun e w' => e = .returned (.bool true) ∧ Below w.heap.size w w' := by
  have hi0 : ¬ (1048576 : Int) < (n0 : Int) := by omega
  have hi1 : ¬ (1048576 : Int) < (n1 : Int) := by omega
  go_enter Tryz.func3, Tryz.ntmps3
  go_upto_region 4 with (go_at_call 4; refine (drawPack_any a0 n0 l0 _ h0 hn0).mono ?_; rintro e W1 ⟨k', a', b', r', d', g', q', f', o', rfl, hr, hb1⟩)
  obtain ⟨c, hc⟩ : ∃ c : CQ, c = ⟨k', a', b', r', d', g', q', f', o'⟩ := ⟨_, rfl⟩
  obtain ⟨rfl, rfl, rfl, rfl, rfl, rfl, rfl, rfl, rfl⟩ : k' = c.k ∧ a' = c.a ∧ b' = c.b ∧ r' = c.r ∧ d' = c.d ∧ g' = c.g ∧ q' = c.q ∧ f' = c.f ∧ o' = c.o := by subst hc; exact ⟨rfl, rfl, rfl, rfl, rfl, rfl, rfl, rfl, rfl⟩
  clear hc hi0 hi1
  have x1 := Bx.newAt W1 24 [.int .i64 c.k, .int .i64 c.a, .int .i64 c.b, .int .i64 c.r, .int .i64 c.d, .int .i64 c.g, .int .i64 c.q, .int .i64 c.f, .bool c.o] rfl
  have B1 := hb1.alloc hb1.size (.cells #[.int .i64 c.k, .int .i64 c.a, .int .i64 c.b, .int .i64 c.r, .int .i64 c.d, .int .i64 c.g, .int .i64 c.q, .int .i64 c.f, .bool c.o] 24)
  have hM1 : w.heap.size ≤ W1.heap.size := hb1.size
  clear hb1
  generalize W1.alloc (.cells #[.int .i64 c.k, .int .i64 c.a, .int .i64 c.b, .int .i64 c.r, .int .i64 c.d, .int .i64 c.g, .int .i64 c.q, .int .i64 c.f, .bool c.o] 24) = V1 at x1 B1 ⊢
  generalize W1.heap.size = M1 at x1 hM1 ⊢
  have y0 := x1.cell 0 _ rfl; have y1 := x1.cell 1 _ rfl; have y2 := x1.cell 2 _ rfl; have y3 := x1.cell 3 _ rfl; have y4 := x1.cell 4 _ rfl; have y5 := x1.cell 5 _ rfl; have y6 := x1.cell 6 _ rfl; have y7 := x1.cell 7 _ rfl; have y8 := x1.cell 8 _ rfl
  have hr0 : -9223372036854775808 ≤ c.r := by omega
  have hr1 : c.r ≤ 9223372036854775807 := by omega
  have HP : Hid _ := fun W => packImpl_any c.k c.a c.b c.r c.d c.g c.q c.f c.o W hr0 hr1
  obtain ⟨hxa, hxb⟩ := word_range c.k c.a c.b c.r c.d c.g c.q c.f c.o
  change 0 ≤ wA c ∧ wA c ≤ 4294967295 at hxa
  change 0 ≤ wB c ∧ wB c ≤ 4294967295 at hxb
  have HU0 := fun W => unpackI_any (wA c) (wB c) W hxa hxb
  obtain ⟨u, hu⟩ : ∃ u, unC (wA c) (wB c) = u := ⟨_, rfl⟩
  obtain ⟨ou, hou⟩ : ∃ o, (candU (wA c) (wB c)).ok = o := ⟨_, rfl⟩
  rw [hu, hou] at HU0
  have HU : Hid _ := HU0
  have HU1 : Hid _ := hu
  have HU2 : Hid _ := hou
  clear HU0 hu hou
  have HT : Hid _ := fun W => textImpl_any c.k c.a c.b c.r c.d c.g c.q c.f c.o W hr0 hr1
  have htl := textOr_len c.k c.a c.b c.r c.d c.g c.q c.f c.o
  have HRd : Hid _ := fun W hW => capReadI_c _ _ W (Nat.le_trans htl (by decide)) hW (read_text c)
  have HO : Hid _ := fun W => okSpec_any c.k c.a c.b c.r c.d c.g c.q c.f c.o W
  go_upto_region 5 with (go_at_call 5; refine Calls.mono (HP.out _) ?_; rintro e V2 ⟨rfl, hb⟩)
  have x2 := x1.below hb
  have B2 := B1.trans (hb.mono B1.size)
  clear y0 y1 y2 y3 y4 y5 y6 y7 y8
  clear hb x1 B1 HP
  go_upto_region 6 with (go_at_call 6; refine Calls.mono (HU.out _) ?_; rintro e V3 ⟨rfl, hb⟩)
  have x3 := (x2.below hb).alloc (.cells #[.int .i64 u.k, .int .i64 u.a, .int .i64 u.b, .int .i64 u.r, .int .i64 u.d, .int .i64 u.g, .int .i64 u.q, .int .i64 u.f, .bool u.o] 24)
  have u3 := Bx.newAt V3 24 [.int .i64 u.k, .int .i64 u.a, .int .i64 u.b, .int .i64 u.r, .int .i64 u.d, .int .i64 u.g, .int .i64 u.q, .int .i64 u.f, .bool u.o] rfl
  have B3 := (B2.trans (hb.mono B2.size)).alloc (B2.trans (hb.mono B2.size)).size (.cells #[.int .i64 u.k, .int .i64 u.a, .int .i64 u.b, .int .i64 u.r, .int .i64 u.d, .int .i64 u.g, .int .i64 u.q, .int .i64 u.f, .bool u.o] 24)
  clear hb x2 B2 HU
  generalize V3.alloc (.cells #[.int .i64 u.k, .int .i64 u.a, .int .i64 u.b, .int .i64 u.r, .int .i64 u.d, .int .i64 u.g, .int .i64 u.q, .int .i64 u.f, .bool u.o] 24) = X3 at x3 u3 B3 ⊢
  generalize V3.heap.size = M2 at u3 ⊢
  have y0 := x3.cell 0 _ rfl; have y1 := x3.cell 1 _ rfl; have y2 := x3.cell 2 _ rfl; have y3 := x3.cell 3 _ rfl; have y4 := x3.cell 4 _ rfl; have y5 := x3.cell 5 _ rfl; have y6 := x3.cell 6 _ rfl; have y7 := x3.cell 7 _ rfl; have y8 := x3.cell 8 _ rfl
  generalize htt : textOr c.k c.a c.b c.r c.d c.g c.q c.f c.o = t at HT HRd htl
  clear htt
  have L3 := hL.below B3
  go_upto_region 7 with (first
    | (go_at_call 8; refine Calls.mono (HT.out _ (L3.tab _ (Below.refl _ _))) ?_; rintro e V4 ⟨rfl, hb4⟩; have L4 := L3.below hb4)
    | (go_at_call 7; refine Calls.mono (HRd.out _ L4) ?_; rintro e V5 ⟨rfl, hb5⟩))
  generalize hrd : (if c.ok = true then some c else none) = rd at *
  have x5 := ((x3.below hb4).below hb5).alloc (.cells #[.int .i64 (rd.getD CQ.zero).k, .int .i64 (rd.getD CQ.zero).a, .int .i64 (rd.getD CQ.zero).b, .int .i64 (rd.getD CQ.zero).r, .int .i64 (rd.getD CQ.zero).d, .int .i64 (rd.getD CQ.zero).g, .int .i64 (rd.getD CQ.zero).q, .int .i64 (rd.getD CQ.zero).f, .bool (rd.getD CQ.zero).o] 24)
  have xu := ((u3.below hb4).below hb5).alloc (.cells #[.int .i64 (rd.getD CQ.zero).k, .int .i64 (rd.getD CQ.zero).a, .int .i64 (rd.getD CQ.zero).b, .int .i64 (rd.getD CQ.zero).r, .int .i64 (rd.getD CQ.zero).d, .int .i64 (rd.getD CQ.zero).g, .int .i64 (rd.getD CQ.zero).q, .int .i64 (rd.getD CQ.zero).f, .bool (rd.getD CQ.zero).o] 24)
  have xv := Bx.newAt V5 24 [.int .i64 (rd.getD CQ.zero).k, .int .i64 (rd.getD CQ.zero).a, .int .i64 (rd.getD CQ.zero).b, .int .i64 (rd.getD CQ.zero).r, .int .i64 (rd.getD CQ.zero).d, .int .i64 (rd.getD CQ.zero).g, .int .i64 (rd.getD CQ.zero).q, .int .i64 (rd.getD CQ.zero).f, .bool (rd.getD CQ.zero).o] rfl
  have B4 := B3.trans (hb4.mono B3.size)
  have B5 := (B4.trans (hb5.mono B4.size)).alloc (B4.trans (hb5.mono B4.size)).size (.cells #[.int .i64 (rd.getD CQ.zero).k, .int .i64 (rd.getD CQ.zero).a, .int .i64 (rd.getD CQ.zero).b, .int .i64 (rd.getD CQ.zero).r, .int .i64 (rd.getD CQ.zero).d, .int .i64 (rd.getD CQ.zero).g, .int .i64 (rd.getD CQ.zero).q, .int .i64 (rd.getD CQ.zero).f, .bool (rd.getD CQ.zero).o] 24)
  clear y0 y1 y2 y3 y4 y5 y6 y7 y8
  clear hb4 hb5 x3 u3 B3 B4 L3 L4 HT HRd
  generalize V5.alloc (.cells #[.int .i64 (rd.getD CQ.zero).k, .int .i64 (rd.getD CQ.zero).a, .int .i64 (rd.getD CQ.zero).b, .int .i64 (rd.getD CQ.zero).r, .int .i64 (rd.getD CQ.zero).d, .int .i64 (rd.getD CQ.zero).g, .int .i64 (rd.getD CQ.zero).q, .int .i64 (rd.getD CQ.zero).f, .bool (rd.getD CQ.zero).o] 24) = X5 at x5 xu xv B5 ⊢
  generalize V5.heap.size = M3 at xv ⊢
  have y0 := x5.cell 0 _ rfl; have y1 := x5.cell 1 _ rfl; have y2 := x5.cell 2 _ rfl; have y3 := x5.cell 3 _ rfl; have y4 := x5.cell 4 _ rfl; have y5 := x5.cell 5 _ rfl; have y6 := x5.cell 6 _ rfl; have y7 := x5.cell 7 _ rfl; have y8 := x5.cell 8 _ rfl
  have hok2 : okB c.k c.a c.b c.r c.d c.g c.q c.f c.o = c.ok := rfl
  rw [hok2] at HO
  have HRD : Hid _ := hrd
  clear hrd
  go_cut [73] (fun v W => v = .bool false ∧ Below w.heap.size w W)
  case first =>
    cases hok : c.ok
    · obtain ⟨e1, e2⟩ := pack_no hok
      have e3 : ou = false := by rw [← HU2.out, e1, e2]; exact cand_zero
      have e4 : rd = none := by rw [← HRD.out, hok]; rfl
      rw [hok] at HO
      clear HU1 HU2 HRD e1 e2 hok hok2
      subst e3 e4
      simp only [Option.isSome_none]
      go_wp2_with (go_at_call 9; refine Calls.mono (HO.out _) ?_; rintro e V6 ⟨rfl, hb6⟩)
      go_meet
      case rel => exact ⟨rfl, B5.trans (hb6.mono B5.size)⟩
    · have e3 : ou = true := by rw [← HU2.out]; exact (un_pack hok).2
      have e5 : u = c := by rw [← HU1.out]; exact (un_pack hok).1
      have e4 : rd = some c := by rw [← HRD.out, hok]; rfl
      rw [hok] at HO
      clear HU1 HU2 HRD hok hok2
      subst e3 e4
      rw [e5] at xu
      simp only [Option.isSome_some, Option.getD_some] at xv ⊢
      clear e5
      go_wp2_with (go_at_call 9; refine Calls.mono (HO.out _) ?_; rintro e V6 ⟨rfl, hb6⟩; have x6 := x5.below hb6; have xu6 := xu.below hb6; have xv6 := xv.below hb6; clear y0 y1 y2 y3 y4 y5 y6 y7 y8; have y0 := x6.cell 0 _ rfl; have y1 := x6.cell 1 _ rfl; have y2 := x6.cell 2 _ rfl; have y3 := x6.cell 3 _ rfl; have y4 := x6.cell 4 _ rfl; have y5 := x6.cell 5 _ rfl; have y6 := x6.cell 6 _ rfl; have y7 := x6.cell 7 _ rfl; have y8 := x6.cell 8 _ rfl; have u0 := xu6.cell 0 _ rfl; have u1 := xu6.cell 1 _ rfl; have u2 := xu6.cell 2 _ rfl; have u3 := xu6.cell 3 _ rfl; have u4 := xu6.cell 4 _ rfl; have u5 := xu6.cell 5 _ rfl; have u6 := xu6.cell 6 _ rfl; have u7 := xu6.cell 7 _ rfl; have u8 := xu6.cell 8 _ rfl; have v0 := xv6.cell 0 _ rfl; have v1 := xv6.cell 1 _ rfl; have v2 := xv6.cell 2 _ rfl; have v3 := xv6.cell 3 _ rfl; have v4 := xv6.cell 4 _ rfl; have v5 := xv6.cell 5 _ rfl; have v6 := xv6.cell 6 _ rfl; have v7 := xv6.cell 7 _ rfl; have v8 := xv6.cell 8 _ rfl)
      go_meet
      case rel => exact ⟨rfl, B5.trans (hb6.mono B5.size)⟩
  case rest =>
    obtain ⟨rfl, B⟩ := hcut
    clear x5 xu xv B5 HO HRD HU1 HU2 hok2 htl hxa hxb hr hr0 hr1 y0 y1 y2 y3 y4 y5 y6 y7 y8
    have hb0 := h1.low B
    go_upto_region 10 with (go_at_call 10; refine (drawUnpack_any a1 n1 l1 _ hb0 hn1).mono ?_; rintro e W1 ⟨x, y, rfl, hx, hy, hb⟩)
    have B1 := B.trans (hb.mono B.size)
    clear hb B hb0
    have HU0 := fun W => unpackI_any x y W hx hy
    have HS0 := fun W => unpackS_any x y W hx hy
    have hDr := un_r x y
    have hDk : (candU x y).ok = true → wA (unC x y) = x ∧ wB (unC x y) = y ∧ (unC x y).ok = true := fun h => ⟨(un_back hx.1 hy.1 h).1, (un_back hx.1 hy.1 h).2, un_ok h⟩
    generalize unC x y = D at HU0 HS0 hDr hDk
    generalize (candU x y).ok = od at HU0 HS0 hDk
    have HU : Hid _ := HU0
    have HS : Hid _ := HS0
    have HP0 := fun W => packImpl_any D.k D.a D.b D.r D.d D.g D.q D.f D.o W (by omega) (by omega)
    obtain ⟨pw, hpw⟩ : ∃ p, wordA D.k D.a D.b D.r D.d D.g D.q D.f D.o = p := ⟨_, rfl⟩
    obtain ⟨qw, hqw⟩ : ∃ p, wordB D.k D.a D.b D.r D.d D.g D.q D.f D.o = p := ⟨_, rfl⟩
    rw [hpw, hqw] at HP0
    have HP : Hid _ := HP0
    have HOk : Hid _ := fun W => okImpl_any D.k D.a D.b D.r D.d D.g D.q D.f D.o W (by omega) (by omega)
    have HDk : Hid (od = true → pw = x ∧ qw = y ∧ D.ok = true) := fun h => ⟨hpw.symm.trans (hDk h).1, hqw.symm.trans (hDk h).2.1, (hDk h).2.2⟩
    clear HU0 HS0 HP0 hDk hDr hpw hqw
    go_upto_region 11 with (go_at_call 6; refine Calls.mono (HU.out _) ?_; rintro e W2 ⟨rfl, hb⟩)
    have d2 := Bx.newAt W2 24 [.int .i64 D.k, .int .i64 D.a, .int .i64 D.b, .int .i64 D.r, .int .i64 D.d, .int .i64 D.g, .int .i64 D.q, .int .i64 D.f, .bool D.o] rfl
    have B2 := (B1.trans (hb.mono B1.size)).alloc (B1.trans (hb.mono B1.size)).size (.cells #[.int .i64 D.k, .int .i64 D.a, .int .i64 D.b, .int .i64 D.r, .int .i64 D.d, .int .i64 D.g, .int .i64 D.q, .int .i64 D.f, .bool D.o] 24)
    clear hb B1 HU
    generalize W2.alloc (.cells #[.int .i64 D.k, .int .i64 D.a, .int .i64 D.b, .int .i64 D.r, .int .i64 D.d, .int .i64 D.g, .int .i64 D.q, .int .i64 D.f, .bool D.o] 24) = X2 at d2 B2 ⊢
    generalize W2.heap.size = M4 at d2 ⊢
    go_upto_region 12 with (go_at_call 11; refine Calls.mono (HS.out _) ?_; rintro e W3 ⟨rfl, hb⟩)
    have d3 := (d2.below hb).alloc (.cells #[.int .i64 D.k, .int .i64 D.a, .int .i64 D.b, .int .i64 D.r, .int .i64 D.d, .int .i64 D.g, .int .i64 D.q, .int .i64 D.f, .bool D.o] 24)
    have B3 := (B2.trans (hb.mono B2.size)).alloc (B2.trans (hb.mono B2.size)).size (.cells #[.int .i64 D.k, .int .i64 D.a, .int .i64 D.b, .int .i64 D.r, .int .i64 D.d, .int .i64 D.g, .int .i64 D.q, .int .i64 D.f, .bool D.o] 24)
    clear hb B2 d2 HS
    generalize W3.alloc (.cells #[.int .i64 D.k, .int .i64 D.a, .int .i64 D.b, .int .i64 D.r, .int .i64 D.d, .int .i64 D.g, .int .i64 D.q, .int .i64 D.f, .bool D.o] 24) = X3 at d3 B3 ⊢
    have y0 := d3.cell 0 _ rfl; have y1 := d3.cell 1 _ rfl; have y2 := d3.cell 2 _ rfl; have y3 := d3.cell 3 _ rfl; have y4 := d3.cell 4 _ rfl; have y5 := d3.cell 5 _ rfl; have y6 := d3.cell 6 _ rfl; have y7 := d3.cell 7 _ rfl; have y8 := d3.cell 8 _ rfl
    go_upto_region 13 with (go_at_call 5; refine Calls.mono (HP.out _) ?_; rintro e W4 ⟨rfl, hb⟩)
    have d4 := d3.below hb
    have B4 := B3.trans (hb.mono B3.size)
    clear y0 y1 y2 y3 y4 y5 y6 y7 y8
    clear hb B3 d3 HP
    have hb0 := h1.low B4
    go_upto_region 14 with (go_at_call 12; refine (drawRead_any a1 n1 l1 _ hb0 hn1).mono ?_; rintro e W5 ⟨s, rfl, hs, hb⟩)
    have d5 := d4.below hb
    have B5 := B4.trans (hb.mono B4.size)
    clear hb B4 d4 hb0
    obtain ⟨rd, hrd⟩ : ∃ rd, readI s = rd := ⟨_, rfl⟩
    have HR : Hid _ := fun W hW => capReadI_c s rd W (by omega) hW hrd
    have HQ : Hid _ := fun W => capReadS_c s rd W (by omega) hrd
    have HRD : Hid _ := hrd
    clear hrd
    have L5 := hL.below B5
    go_upto_region 15 with (go_at_call 7; refine Calls.mono (HR.out _ L5) ?_; rintro e W6 ⟨rfl, hb⟩)
    have d6 := (d5.below hb).alloc (.cells #[.int .i64 (rd.getD CQ.zero).k, .int .i64 (rd.getD CQ.zero).a, .int .i64 (rd.getD CQ.zero).b, .int .i64 (rd.getD CQ.zero).r, .int .i64 (rd.getD CQ.zero).d, .int .i64 (rd.getD CQ.zero).g, .int .i64 (rd.getD CQ.zero).q, .int .i64 (rd.getD CQ.zero).f, .bool (rd.getD CQ.zero).o] 24)
    have e6 := Bx.newAt W6 24 [.int .i64 (rd.getD CQ.zero).k, .int .i64 (rd.getD CQ.zero).a, .int .i64 (rd.getD CQ.zero).b, .int .i64 (rd.getD CQ.zero).r, .int .i64 (rd.getD CQ.zero).d, .int .i64 (rd.getD CQ.zero).g, .int .i64 (rd.getD CQ.zero).q, .int .i64 (rd.getD CQ.zero).f, .bool (rd.getD CQ.zero).o] rfl
    have B6 := (B5.trans (hb.mono B5.size)).alloc (B5.trans (hb.mono B5.size)).size (.cells #[.int .i64 (rd.getD CQ.zero).k, .int .i64 (rd.getD CQ.zero).a, .int .i64 (rd.getD CQ.zero).b, .int .i64 (rd.getD CQ.zero).r, .int .i64 (rd.getD CQ.zero).d, .int .i64 (rd.getD CQ.zero).g, .int .i64 (rd.getD CQ.zero).q, .int .i64 (rd.getD CQ.zero).f, .bool (rd.getD CQ.zero).o] 24)
    clear hb B5 d5 HR L5
    generalize W6.alloc (.cells #[.int .i64 (rd.getD CQ.zero).k, .int .i64 (rd.getD CQ.zero).a, .int .i64 (rd.getD CQ.zero).b, .int .i64 (rd.getD CQ.zero).r, .int .i64 (rd.getD CQ.zero).d, .int .i64 (rd.getD CQ.zero).g, .int .i64 (rd.getD CQ.zero).q, .int .i64 (rd.getD CQ.zero).f, .bool (rd.getD CQ.zero).o] 24) = X6 at d6 e6 B6 ⊢
    generalize W6.heap.size = M6 at e6 ⊢
    go_upto_region 16 with (go_at_call 13; refine Calls.mono (HQ.out _) ?_; rintro e W7 ⟨rfl, hb⟩)
    have d7 := (d6.below hb).alloc (.cells #[.int .i64 (rd.getD CQ.zero).k, .int .i64 (rd.getD CQ.zero).a, .int .i64 (rd.getD CQ.zero).b, .int .i64 (rd.getD CQ.zero).r, .int .i64 (rd.getD CQ.zero).d, .int .i64 (rd.getD CQ.zero).g, .int .i64 (rd.getD CQ.zero).q, .int .i64 (rd.getD CQ.zero).f, .bool (rd.getD CQ.zero).o] 24)
    have e7 := (e6.below hb).alloc (.cells #[.int .i64 (rd.getD CQ.zero).k, .int .i64 (rd.getD CQ.zero).a, .int .i64 (rd.getD CQ.zero).b, .int .i64 (rd.getD CQ.zero).r, .int .i64 (rd.getD CQ.zero).d, .int .i64 (rd.getD CQ.zero).g, .int .i64 (rd.getD CQ.zero).q, .int .i64 (rd.getD CQ.zero).f, .bool (rd.getD CQ.zero).o] 24)
    have B7 := (B6.trans (hb.mono B6.size)).alloc (B6.trans (hb.mono B6.size)).size (.cells #[.int .i64 (rd.getD CQ.zero).k, .int .i64 (rd.getD CQ.zero).a, .int .i64 (rd.getD CQ.zero).b, .int .i64 (rd.getD CQ.zero).r, .int .i64 (rd.getD CQ.zero).d, .int .i64 (rd.getD CQ.zero).g, .int .i64 (rd.getD CQ.zero).q, .int .i64 (rd.getD CQ.zero).f, .bool (rd.getD CQ.zero).o] 24)
    clear hb B6 d6 e6 HQ
    generalize W7.alloc (.cells #[.int .i64 (rd.getD CQ.zero).k, .int .i64 (rd.getD CQ.zero).a, .int .i64 (rd.getD CQ.zero).b, .int .i64 (rd.getD CQ.zero).r, .int .i64 (rd.getD CQ.zero).d, .int .i64 (rd.getD CQ.zero).g, .int .i64 (rd.getD CQ.zero).q, .int .i64 (rd.getD CQ.zero).f, .bool (rd.getD CQ.zero).o] 24) = X7 at d7 e7 B7 ⊢
    have L7 := hL.below B7
    have hss : (s == s) = true := beq_self_eq_true s
    have y0 := d7.cell 0 _ rfl; have y1 := d7.cell 1 _ rfl; have y2 := d7.cell 2 _ rfl; have y3 := d7.cell 3 _ rfl; have y4 := d7.cell 4 _ rfl; have y5 := d7.cell 5 _ rfl; have y6 := d7.cell 6 _ rfl; have y7 := d7.cell 7 _ rfl; have y8 := d7.cell 8 _ rfl
    cases rd with
    | none =>
      simp only [Option.isSome_none]
      cases od
      · go_wp2_with fail
        go_ret
        exact ⟨rfl, B7⟩
      · obtain ⟨p1, p2, p3⟩ := HDk.out rfl
        subst p1 p2
        have HO2 := HOk.out
        rw [show okB D.k D.a D.b D.r D.d D.g D.q D.f D.o = true from p3] at HO2
        have HO3 : Hid _ := HO2
        clear HOk HO2 p3 HDk
        go_wp2_with (go_at_call 14; refine Calls.mono (HO3.out _) ?_; rintro e W8 ⟨rfl, hb⟩)
        go_ret
        exact ⟨rfl, B7.trans (hb.mono B7.size)⟩
    | some E =>
      obtain ⟨hEo, hEt⟩ := read_sound HRD.out
      have hEb := ok_bounds (show okB E.k E.a E.b E.r E.d E.g E.q E.f E.o = true from hEo)
      simp only [Option.isSome_some, Option.getD_some] at e7 ⊢
      have hEtx : textOr E.k E.a E.b E.r E.d E.g E.q E.f E.o = s := by unfold textOr; rw [if_pos (show okB E.k E.a E.b E.r E.d E.g E.q E.f E.o = true from hEo)]; exact hEt
      have HT0 := fun W => textImpl_any E.k E.a E.b E.r E.d E.g E.q E.f E.o W (by omega) (by omega)
      rw [hEtx] at HT0
      have HT : Hid _ := HT0
      have HE0 := fun W => okImpl_any E.k E.a E.b E.r E.d E.g E.q E.f E.o W (by omega) (by omega)
      rw [show okB E.k E.a E.b E.r E.d E.g E.q E.f E.o = true from hEo] at HE0
      have HE : Hid _ := HE0
      clear HT0 HE0 hEtx hEb hEo hEt HRD
      have z0 := e7.cell 0 _ rfl; have z1 := e7.cell 1 _ rfl; have z2 := e7.cell 2 _ rfl; have z3 := e7.cell 3 _ rfl; have z4 := e7.cell 4 _ rfl; have z5 := e7.cell 5 _ rfl; have z6 := e7.cell 6 _ rfl; have z7 := e7.cell 7 _ rfl; have z8 := e7.cell 8 _ rfl
      cases od
      · go_wp2_with (first
          | (go_at_call 8; refine Calls.mono (HT.out _ (L7.tab _ (Below.refl _ _))) ?_; rintro e W9 ⟨rfl, hb9⟩; have e9 := e7.below hb9; clear z0 z1 z2 z3 z4 z5 z6 z7 z8; have z0 := e9.cell 0 _ rfl; have z1 := e9.cell 1 _ rfl; have z2 := e9.cell 2 _ rfl; have z3 := e9.cell 3 _ rfl; have z4 := e9.cell 4 _ rfl; have z5 := e9.cell 5 _ rfl; have z6 := e9.cell 6 _ rfl; have z7 := e9.cell 7 _ rfl; have z8 := e9.cell 8 _ rfl)
          | (go_at_call 14; refine Calls.mono (HE.out _) ?_; rintro e W10 ⟨rfl, hb10⟩))
        go_ret
        exact ⟨rfl, (B7.trans (hb9.mono B7.size)).trans (hb10.mono (B7.trans (hb9.mono B7.size)).size)⟩
      · obtain ⟨p1, p2, p3⟩ := HDk.out rfl
        subst p1 p2
        have HO2 := HOk.out
        rw [show okB D.k D.a D.b D.r D.d D.g D.q D.f D.o = true from p3] at HO2
        have HO3 : Hid _ := HO2
        clear HOk HO2 p3 HDk
        go_wp2_with (first
          | (go_at_call 8; refine Calls.mono (HT.out _ (L8.tab _ (Below.refl _ _))) ?_; rintro e W9 ⟨rfl, hb9⟩; have e9 := e8.below hb9; clear z0 z1 z2 z3 z4 z5 z6 z7 z8; have z0 := e9.cell 0 _ rfl; have z1 := e9.cell 1 _ rfl; have z2 := e9.cell 2 _ rfl; have z3 := e9.cell 3 _ rfl; have z4 := e9.cell 4 _ rfl; have z5 := e9.cell 5 _ rfl; have z6 := e9.cell 6 _ rfl; have z7 := e9.cell 7 _ rfl; have z8 := e9.cell 8 _ rfl)
          | (go_at_call 14; have _q := hb9; refine Calls.mono (HE.out _) ?_; rintro e W10 ⟨rfl, hb10⟩)
          | (go_at_call 14; refine Calls.mono (HO3.out X7) ?_; rintro e W8 ⟨rfl, hb8⟩; have e8 := e7.below hb8; have L8 := L7.below hb8; clear z0 z1 z2 z3 z4 z5 z6 z7 z8; have z0 := e8.cell 0 _ rfl; have z1 := e8.cell 1 _ rfl; have z2 := e8.cell 2 _ rfl; have z3 := e8.cell 3 _ rfl; have z4 := e8.cell 4 _ rfl; have z5 := e8.cell 5 _ rfl; have z6 := e8.cell 6 _ rfl; have z7 := e8.cell 7 _ rfl; have z8 := e8.cell 8 _ rfl))
        go_ret
        have B8 := B7.trans (hb8.mono B7.size)
        have B9 := B8.trans (hb9.mono B8.size)
        exact ⟨rfl, B9.trans (hb10.mono B9.size)⟩

end Go.Proofs.YthmambhagheocaaGreatDoor
