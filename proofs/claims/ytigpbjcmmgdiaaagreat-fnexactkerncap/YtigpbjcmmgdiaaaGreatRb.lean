/-
  Texts of the proof, put together: CapRng, TreeFactsA, Bounds, Pack, Copy, Less, BornP.
-/
import Derived.Test.YtigpbjcmmgdiaaaGreatBi
import Derived.Test.YtigpbjcmmgdiaaaGreatRa
import Derived.Test.YtigpbjcmmgdiaaaGreatBa
import Derived.Deep.RegionHeld3
import Derived.Deep.RegionLaw
import Derived.Deep.CutRange
import Derived.Deep.DeepCutAuto
import Derived.WalkSmall
import Derived.Test.YtigpbjcmmgdiaaaGreatBw
import Derived.Test.YtigpbjcmmgdiaaaGreatBt
import Derived.Test.YtigpbjcmmgdiaaaGreatBo
import Derived.Laws.BitsAllLaws
import Derived.Deep.Cut
/-
 The words that a capability names, as a range.
-/
namespace Go.Proofs.YtigpbjcmmgdiaaaGreat
open Go.ChangeShapes Go.WideShapes Go.ChangeAt Go.RowKit
set_option linter.unusedVariables false

theorem rangeOf_b (a s : Int) (w : World) (h : fineB a s = true) :
  Calls Tryz.prog 104 #[.int .i64 a, .int .i64 s] w fun e w' => e = .returned (.agg #[.int .u32 a, .int .u32 s]) ∧ Below w.heap.size w w' :=
 (rangeOf_fine a s w h).mono fun e w' ⟨h1, h2⟩ => ⟨h1, by rw [h2]; exact (Below.refl _ _).alloc (Nat.le_refl _) _⟩

set_option maxRecDepth 100000 in
set_option maxHeartbeats 4000000 in
theorem capRange_any (k a b r d g q f : Int) (o : Bool) (w : World) (hk1 : 1 ≤ k) (hk7 : k ≤ 7) (hf : fineB a (spanI k b) = true) :
  Calls Tryz.prog 106 #[.agg #[.int .i64 k, .int .i64 a, .int .i64 b, .int .i64 r, .int .i64 d, .int .i64 g, .int .i64 q, .int .i64 f, .bool o]] w fun e w' => e = .returned (.agg #[.int .u32 a, .int .u32 (spanI k b)]) ∧ Below w.heap.size w w' := by
 obtain ⟨T, m, HK⟩ := isKind hk1 hk7
 have HS : Hid _ := fun W => span_is HK hk1 hk7 b W
 have hv := HK.val
 clear HK
 have HR : Hid _ := fun W => rangeOf_b a (spanI k b) W hf
 generalize spanI k b = s at *
 have x0 := (Bx.new w 33 [.int .i64 k, .int .i64 a, .int .i64 b, .int .i64 r, .int .i64 d, .int .i64 g, .int .i64 q, .int .i64 f, .bool o]).alloc (.cells #[.int .u32 0, .int .u32 0] 152)
 have y0 := Bx.newAt (w.alloc (.cells #[.int .i64 k, .int .i64 a, .int .i64 b, .int .i64 r, .int .i64 d, .int .i64 g, .int .i64 q, .int .i64 f, .bool o] 33)) 152 [.int .u32 0, .int .u32 0] (c := w.heap.size + 1) (by simp)
 have bw : Below w.heap.size w ((w.alloc (.cells #[.int .i64 k, .int .i64 a, .int .i64 b, .int .i64 r, .int .i64 d, .int .i64 g, .int .i64 q, .int .i64 f, .bool o] 33)).alloc (.cells #[.int .u32 0, .int .u32 0] 152)) := ((Below.refl _ _).alloc (Nat.le_refl _) _).alloc (by simp) _
 go_enter Tryz.func106, Tryz.ntmps106
 go_upto_region 1 with fail
 generalize hW0 : (w.alloc (.cells #[.int .i64 k, .int .i64 a, .int .i64 b, .int .i64 r, .int .i64 d, .int .i64 g, .int .i64 q, .int .i64 f, .bool o] 33)).alloc (.cells #[.int .u32 0, .int .u32 0] 152) = w0 at *
 clear hW0
 have s0 : (w0.cell? ⟨w.heap.size, 0, none⟩ = some (.int .i64 k) ∧ w0.cell? ⟨w.heap.size, 1, none⟩ = some (.int .i64 a) ∧ w0.cell? ⟨w.heap.size, 2, none⟩ = some (.int .i64 b)) := ⟨x0.cell 0 _ rfl, x0.cell 1 _ rfl, x0.cell 2 _ rfl⟩
 have s0d : (w0.drew.cell? ⟨w.heap.size, 0, none⟩ = some (.int .i64 k) ∧ w0.drew.cell? ⟨w.heap.size, 1, none⟩ = some (.int .i64 a) ∧ w0.drew.cell? ⟨w.heap.size, 2, none⟩ = some (.int .i64 b)) := ⟨x0.cell 0 _ rfl, x0.cell 1 _ rfl, x0.cell 2 _ rfl⟩
 go_region_held3 (fun w' => (w'.cell? ⟨w.heap.size, 0, none⟩ = some (.int .i64 k) ∧ w'.cell? ⟨w.heap.size, 1, none⟩ = some (.int .i64 a) ∧ w'.cell? ⟨w.heap.size, 2, none⟩ = some (.int .i64 b))) (first | exact s0 | exact s0d | exact s1 | exact s2 | (refine ⟨?_, ?_, ?_⟩ <;> (rw [World.cell?_setCell_far _ _ _ _ (by simp), World.cell?_setCell_far _ _ _ _ (by simp)]; first | exact s2.1 | exact s2.2.1 | exact s2.2.2)))
  (first
   | (go_at_call 158; refine Calls.mono (kindOf_any _ _) ?_; rw [hv]; rintro e w9 ⟨rfl, hw⟩; have hw := hw.symm; subst hw)
   | (go_at_call 157; refine Calls.mono (HS.out _) ?_; rintro e w1 ⟨rfl, hb1⟩; have x1 := x0.drew.below hb1; have y1 := y0.drew.below hb1; have s1 : (w1.cell? ⟨w.heap.size, 0, none⟩ = some (.int .i64 k) ∧ w1.cell? ⟨w.heap.size, 1, none⟩ = some (.int .i64 a) ∧ w1.cell? ⟨w.heap.size, 2, none⟩ = some (.int .i64 b)) := ⟨x1.cell 0 _ rfl, x1.cell 1 _ rfl, x1.cell 2 _ rfl⟩)
   | (go_at_call 104; refine Calls.mono (HR.out _) ?_; rintro e w2 ⟨rfl, hb2⟩; (first | (have x2 := x1.below hb2; have y2 := y1.below hb2) | (have x2 := x1.drew.below hb2; have y2 := y1.drew.below hb2)); have q0 := y2.cell 0 _ rfl; have q1 := y2.cell 1 _ rfl; have qz := y2.frozen; have s2 : (w2.cell? ⟨w.heap.size, 0, none⟩ = some (.int .i64 k) ∧ w2.cell? ⟨w.heap.size, 1, none⟩ = some (.int .i64 a) ∧ w2.cell? ⟨w.heap.size, 2, none⟩ = some (.int .i64 b)) := ⟨x2.cell 0 _ rfl, x2.cell 1 _ rfl, x2.cell 2 _ rfl⟩))
 all_goals go_wp2
 all_goals refine bodyPost_ret (v := .agg #[.int .u32 a, .int .u32 s]) (by simp [results, Tryz.results106, go_sem, q0, q1]) rfl ⟨rfl, ?_⟩
 all_goals have e1 : Below w.heap.size w w1 := (bw.trans ((Below.refl _ w0).drew.mono bw.size)).trans (hb1.mono bw.size)
 all_goals have e2 : Below w.heap.size w w2 := e1.trans (hb2.mono e1.size)
 all_goals exact (e2.setCell (p := ⟨w.heap.size + 1, 0, none⟩) (by simp) _).setCell (p := ⟨w.heap.size + 1, 1, none⟩) (by simp) _

end Go.Proofs.YtigpbjcmmgdiaaaGreat
/-
 Plain facts on trees: what a slot came of, which came of it. No conditions.
-/
namespace Go.Proofs.YtigpbjcmmgdiaaaGreat
set_option linter.unusedVariables false

/-- What is found is the first, if the addresses are told apart. -/
theorem findI_lt {pre : List Sl} {x : Int} (h : findI pre x < 0) : ∀ s ∈ pre, s.t ≠ x := by
 induction pre with
 | nil => intro s hs; simp at hs
 | cons a L ih =>
  intro s hs
  have hg := findI_ge L x
  by_cases e : a.t = x
  ·simp [findI, e] at h
  ·by_cases e2 : findI L x < 0
   ·rcases List.mem_cons.1 hs with rfl | h1
    ·exact e
    ·exact ih e2 s h1
   ·simp [findI, e, e2] at h; omega

theorem goB_drop : ∀ (rest pre : List Sl) (was : Int), goB was pre rest = true → ∀ k (hk : k < rest.length), slotB (if h : k = 0 then was else (rest[k - 1]).p) (pre ++ rest.take k) rest[k] = true
 | [], _, _, _, k, hk => absurd hk (Nat.not_lt_zero _)
 | s :: rest, pre, was, h, 0, hk => by
  simp only [goB, Bool.and_eq_true] at h
  simpa using h.1
 | s :: rest, pre, was, h, k + 1, hk => by
  simp only [goB, Bool.and_eq_true] at h
  have hk' : k < rest.length := by simpa using hk
  have ih := goB_drop rest (pre ++ [s]) s.p h.2 k hk'
  simp only [List.append_assoc, List.singleton_append] at ih
  have e : (if h : k + 1 = 0 then was else ((s :: rest)[k + 1 - 1]).p) = (if h : k = 0 then s.p else (rest[k - 1]).p) := by
   cases k with
   | zero => simp
   | succ m => simp
  rw [e]
  simpa using ih

/-- A slot of a tree. -/
theorem tree_slot {L : List Sl} (hT : treeB L = true) (k : Nat) (hk : k < L.length) : 0 ≤ depN L k ∧ (k = 0 → depN L k ≤ 0) ∧ (∀ j, j + 1 = k → depN L k ≤ depN L j + 1) ∧ depN L k ≤ 12 ∧ ∀ j (hj : j < k), (L[j]'(by omega)).t ≠ L[k].t := by
 have h := hT
 simp only [treeB, Bool.and_eq_true] at h
 have hs := goB_drop L [] (-1) h.2 k hk
 have := slotB_parts.1 hs
 obtain ⟨h1, h2, h3, _, _, _, _, h4⟩ := this
 rw [depN_at hk]
 refine ⟨h1, ?_, ?_, h3, ?_⟩
 ·intro e; subst e; simpa using h2
 ·intro j hj; subst hj
  rw [depN_at (by omega)]
  simpa using h2
 ·intro j hj
  refine findI_lt h4 _ ?_
  simp only [List.nil_append]
  exact List.mem_take_iff_getElem.2 ⟨j, by omega, rfl⟩

/-- What is told first of those above. -/
theorem ups_first (f : Nat → Int) (d : Int) : ∀ k, (ups f d k = [] ∧ ∀ j, j < k → ¬ f j < d) ∨ ∃ u, u < k ∧ f u < d ∧ (∀ j, u < j → j < k → ¬ f j < d) ∧ ups f d k = u :: ups f (f u) u
 | 0 => .inl ⟨rfl, fun j hj => absurd hj (Nat.not_lt_zero _)⟩
 | k + 1 => by
  by_cases h : f k < d
  ·exact .inr ⟨k, by omega, h, fun j h1 h2 => by omega, ups_yes h⟩
  ·rw [ups_no h]
   rcases ups_first f d k with ⟨e, hj⟩ | ⟨u, hu, hf, hj, e⟩
   ·refine .inl ⟨e, fun j hlt => ?_⟩
    by_cases hjk : j = k
    ·subst hjk; exact h
    ·exact hj j (by omega)
   ·refine .inr ⟨u, by omega, hf, fun j h1 h2 => ?_, e⟩
    by_cases hjk : j = k
    ·subst hjk; exact h
    ·exact hj j h1 (by omega)

/-- How many behind a place are deeper. -/
theorem run_iff {L : List Sl} {i r : Nat} (hi : i < L.length) (hr : runN L[i].p (L.drop (i + 1)) = r) (k : Nat) (hk : k < L.length) (hik : i < k) : (k < i + r + 1 ↔ ∀ j, i < j → j ≤ k → depN L i < depN L j) := by
 subst hr
 constructor
 ·intro h j h1 h2
  obtain ⟨hl, hp⟩ := runN_in L[i].p (L.drop (i + 1)) (j - (i + 1)) (by omega)
  rw [depN_at hi, depN_at (by omega)]
  simp only [List.getElem_drop] at hp
  have e : i + 1 + (j - (i + 1)) = j := by omega
  simpa [e] using hp
 ·intro h
  rcases Nat.lt_or_ge (runN L[i].p (L.drop (i + 1))) (k - i) with h1 | h1
  ·have hl : runN L[i].p (L.drop (i + 1)) < (L.drop (i + 1)).length := by simp; omega
   have hs := runN_stop L[i].p (L.drop (i + 1)) hl
   simp only [List.getElem_drop] at hs
   have := h (i + 1 + runN L[i].p (L.drop (i + 1))) (by omega) (by omega)
   rw [depN_at hi, depN_at (by omega)] at this
   omega
  ·omega

end Go.Proofs.YtigpbjcmmgdiaaaGreat
/-
 What is ok lies within bounds: plain facts.
-/
namespace Go.Proofs.YtigpbjcmmgdiaaaGreat
open Go.ChangeShapes Go.WideShapes Go.ChangeAt Go.RowKit
set_option linter.unusedVariables false

theorem sizeI_8 {q : Int} (h0 : 0 ≤ q) (h8 : q ≤ 8) : sizeI q ≤ 256 := by
 have : q = 0 ∨ q = 1 ∨ q = 2 ∨ q = 3 ∨ q = 4 ∨ q = 5 ∨ q = 6 ∨ q = 7 ∨ q = 8 := by omega
 rcases this with e | e | e | e | e | e | e | e | e <;> subst e <;> decide
theorem szI_1 (b : Int) : szI 1 b ≤ 2048 := by
 unfold szI
 rw [if_pos rfl]
 by_cases h : 2 ≤ b ∧ b ≤ 11
 ·rw [if_pos h]
  have : b = 2 ∨ b = 3 ∨ b = 4 ∨ b = 5 ∨ b = 6 ∨ b = 7 ∨ b = 8 ∨ b = 9 ∨ b = 10 ∨ b = 11 := by omega
  rcases this with e | e | e | e | e | e | e | e | e | e <;> subst e <;> decide
 ·rw [if_neg h]; omega
theorem span_bits {k b : Int} (h1 : 1 ≤ k) (h7 : k ≤ 7) (h : 0 < spanI k b) : 0 ≤ b ∧ b ≤ 11 := by
 rcases seven h1 h7 with e | e | e | e | e | e | e <;> subst e <;> simp only [spanI, szI] at h
 all_goals (simp at h; try omega)
 all_goals (revert h; repeat' split)
 all_goals (intro h; omega)

/-- What is ok lies within bounds. -/
theorem ok_bounds {k a b r d g q f : Int} {o : Bool} (h : okB k a b r d g q f o = true) :
  (1 ≤ k ∧ k ≤ 7) ∧ (0 ≤ a ∧ a ≤ 4096) ∧ (0 ≤ b ∧ b ≤ 11) ∧ (0 ≤ r ∧ r ≤ 7) ∧ (0 ≤ d ∧ d ≤ 65535) ∧ (0 ≤ g ∧ g ≤ 255) ∧ (0 ≤ q ∧ q ≤ 8) ∧ (0 ≤ f ∧ f ≤ 2048) ∧ (d = 0 ∨ g = 0) := by
 simp only [okB, besideB, withinB, Bool.and_eq_true, decide_eq_true_eq] at h
 obtain ⟨⟨⟨⟨⟨⟨h1, h7⟩, ⟨hr0, hr1⟩⟩, hA⟩, hI⟩, ⟨⟨⟨hd0, hd1⟩, ⟨hq0, hq1⟩⟩, ⟨hg0, hg1⟩⟩, ⟨hf0, hf1⟩⟩, ho⟩ := h
 have hm := maxI_bd k
 have hfa := align_fine hA
 have hb := span_bits h1 h7 hfa.2.1
 have hgm : gmaxI k ≤ 8 := by unfold gmaxI; split <;> omega
 have hbm : bmaxI k ≤ 65535 := by unfold bmaxI; split <;> omega
 have hfm : fmaxI k b ≤ 2048 := by
  unfold fmaxI; split
  ·exact szI_1 b
  ·omega
 have hs := sizeI_8 (q := q) (by omega) (by omega)
 refine ⟨⟨h1, h7⟩, ⟨hfa.1, hfa.2.2.1⟩, hb, ⟨hr0, by omega⟩, ⟨hd0, by omega⟩, ⟨hg0, by omega⟩, ⟨hq0, by omega⟩, ⟨hf0, by omega⟩, ?_⟩
 by_cases e : k = 4 ∨ k = 5
 ·right
  have : gmaxI k = 0 := by unfold gmaxI; rw [if_neg (by omega)]
  have hq : q = 0 := by omega
  subst hq
  have : sizeI 0 = 1 := by decide
  omega
 ·left
  have : bmaxI k = 0 := by unfold bmaxI; rw [if_neg e]
  omega

end Go.Proofs.YtigpbjcmmgdiaaaGreat
/-
 What CapPack of the program and of the specification answer, at every capability.
-/
namespace Go.Proofs.YtigpbjcmmgdiaaaGreat
open Go.ChangeShapes Go.WideShapes Go.ChangeAt Go.RowKit
set_option linter.unusedVariables false

end Go.Proofs.YtigpbjcmmgdiaaaGreat
/-
 What CapCopy of the program and of the specification answer, at every capability.
-/
namespace Go.Proofs.YtigpbjcmmgdiaaaGreat
open Go.ChangeShapes Go.WideShapes Go.ChangeAt Go.RowKit
set_option linter.unusedVariables false

theorem upto7 {a : Int} (h0 : 0 ≤ a) (h1 : a ≤ 7) : a = 0 ∨ a = 1 ∨ a = 2 ∨ a = 3 ∨ a = 4 ∨ a = 5 ∨ a = 6 ∨ a = 7 := by omega
end Go.Proofs.YtigpbjcmmgdiaaaGreat
/-
 What CapBelow of the program and of the specification answer, at every two capabilities.
-/
namespace Go.Proofs.YtigpbjcmmgdiaaaGreat
open Go.ChangeShapes Go.WideShapes Go.ChangeAt Go.RowKit
set_option linter.unusedVariables false

/-- One gives no more than another one, where both are ok. -/
def lessB (k1 a1 b1 r1 d1 k2 a2 b2 r2 d2 : Int) : Bool := (k1 == k2) && (a1 == a2) && (b1 == b2) && subB r1 r2 && ((d1 == d2) || (d2 == 0))
def belowB (k1 a1 b1 r1 d1 g1 q1 f1 : Int) (o1 : Bool) (k2 a2 b2 r2 d2 g2 q2 f2 : Int) (o2 : Bool) : Bool :=
 okB k1 a1 b1 r1 d1 g1 q1 f1 o1 && okB k2 a2 b2 r2 d2 g2 q2 f2 o2 && lessB k1 a1 b1 r1 d1 k2 a2 b2 r2 d2

theorem sub_bits {a b : Int} (h0 : 0 ≤ a) (h1 : a ≤ 7) (h2 : 0 ≤ b) (h3 : b ≤ 7) : (bits BinOp.andNot IntKind.i64 a b == 0) = subB a b := by
 rcases upto7 h0 h1 with e | e | e | e | e | e | e | e <;> subst e <;> rcases upto7 h2 h3 with e | e | e | e | e | e | e | e <;> subst e <;> decide

set_option maxHeartbeats 400000 in
theorem belowImpl_a (k1 a1 b1 r1 d1 g1 q1 f1 k2 a2 b2 r2 d2 g2 q2 f2 : Int) (o1 o2 : Bool) (w : World) (h0 : -9223372036854775808 ≤ r1) (h1 : r1 ≤ 9223372036854775807) (h2 : -9223372036854775808 ≤ r2) (h3 : r2 ≤ 9223372036854775807) (e1 : okB k1 a1 b1 r1 d1 g1 q1 f1 o1 = false) :
  Calls Tryz.prog 159 #[.agg #[.int .i64 k1, .int .i64 a1, .int .i64 b1, .int .i64 r1, .int .i64 d1, .int .i64 g1, .int .i64 q1, .int .i64 f1, .bool o1], .agg #[.int .i64 k2, .int .i64 a2, .int .i64 b2, .int .i64 r2, .int .i64 d2, .int .i64 g2, .int .i64 q2, .int .i64 f2, .bool o2]] w fun e w' => e = .returned (.bool (false)) ∧ Below w.heap.size w w' := by
 go_enter Tryz.func159, Tryz.ntmps159
 go_wp2_with fail
 refine (okImpl_any _ _ _ _ _ _ _ _ _ _ h0 h1).mono ?_
 rintro e w1 ⟨rfl, hb⟩
 obtain ⟨HA, HB, fA, fB, hbase, hz⟩ := after2 hb
 clear hb
 obtain ⟨x0, x1, x2, x3, x4, x5, x6, x7, x8⟩ := id HA
 obtain ⟨y0, y1, y2, y3, y4, y5, y6, y7, y8⟩ := id HB
 rw [e1]
 go_wp2_with fail
 go_ret
 exact ⟨rfl, hbase⟩

set_option maxHeartbeats 400000 in
theorem belowImpl_b (k1 a1 b1 r1 d1 g1 q1 f1 k2 a2 b2 r2 d2 g2 q2 f2 : Int) (o1 o2 : Bool) (w : World) (h0 : -9223372036854775808 ≤ r1) (h1 : r1 ≤ 9223372036854775807) (h2 : -9223372036854775808 ≤ r2) (h3 : r2 ≤ 9223372036854775807) (e1 : okB k1 a1 b1 r1 d1 g1 q1 f1 o1 = true) (e2 : okB k2 a2 b2 r2 d2 g2 q2 f2 o2 = false) :
  Calls Tryz.prog 159 #[.agg #[.int .i64 k1, .int .i64 a1, .int .i64 b1, .int .i64 r1, .int .i64 d1, .int .i64 g1, .int .i64 q1, .int .i64 f1, .bool o1], .agg #[.int .i64 k2, .int .i64 a2, .int .i64 b2, .int .i64 r2, .int .i64 d2, .int .i64 g2, .int .i64 q2, .int .i64 f2, .bool o2]] w fun e w' => e = .returned (.bool (false)) ∧ Below w.heap.size w w' := by
 go_enter Tryz.func159, Tryz.ntmps159
 go_wp2_with fail
 refine (okImpl_any _ _ _ _ _ _ _ _ _ _ h0 h1).mono ?_
 rintro e w1 ⟨rfl, hb⟩
 obtain ⟨HA, HB, fA, fB, hbase, hz⟩ := after2 hb
 clear hb
 obtain ⟨x0, x1, x2, x3, x4, x5, x6, x7, x8⟩ := id HA
 obtain ⟨y0, y1, y2, y3, y4, y5, y6, y7, y8⟩ := id HB
 rw [e1]
 go_wp2_with fail
 refine (okImpl_any _ _ _ _ _ _ _ _ _ _ h2 h3).mono ?_
 rintro e w2 ⟨rfl, hb⟩
 have HA2 := HA.below hb (by omega)
 have HB2 := HB.below hb hz
 have hbase2 := hbase.trans (hb.mono (by omega))
 clear hb x0 x1 x2 x3 x4 x5 x6 x7 x8 y0 y1 y2 y3 y4 y5 y6 y7 y8 HA HB fA fB hbase hz
 obtain ⟨x0, x1, x2, x3, x4, x5, x6, x7, x8⟩ := HA2
 obtain ⟨y0, y1, y2, y3, y4, y5, y6, y7, y8⟩ := HB2
 rw [e2]
 go_wp2_with fail
 go_ret
 exact ⟨rfl, hbase2⟩

set_option maxHeartbeats 2000000 in
theorem belowImpl_c (k1 a1 b1 r1 d1 g1 q1 f1 k2 a2 b2 r2 d2 g2 q2 f2 : Int) (o1 o2 : Bool) (w : World) (h0 : -9223372036854775808 ≤ r1) (h1 : r1 ≤ 9223372036854775807) (h2 : -9223372036854775808 ≤ r2) (h3 : r2 ≤ 9223372036854775807) (e1 : okB k1 a1 b1 r1 d1 g1 q1 f1 o1 = true) (e2 : okB k2 a2 b2 r2 d2 g2 q2 f2 o2 = true) :
  Calls Tryz.prog 159 #[.agg #[.int .i64 k1, .int .i64 a1, .int .i64 b1, .int .i64 r1, .int .i64 d1, .int .i64 g1, .int .i64 q1, .int .i64 f1, .bool o1], .agg #[.int .i64 k2, .int .i64 a2, .int .i64 b2, .int .i64 r2, .int .i64 d2, .int .i64 g2, .int .i64 q2, .int .i64 f2, .bool o2]] w fun e w' => e = .returned (.bool (lessB k1 a1 b1 r1 d1 k2 a2 b2 r2 d2)) ∧ Below w.heap.size w w' := by
 obtain ⟨_, _, _, ⟨r10, r11⟩, _⟩ := ok_bounds e1
 obtain ⟨_, _, _, ⟨r20, r21⟩, _⟩ := ok_bounds e2
 have hsb := sub_bits r10 r11 r20 r21
 go_enter Tryz.func159, Tryz.ntmps159
 go_wp2_with fail
 refine (okImpl_any _ _ _ _ _ _ _ _ _ _ h0 h1).mono ?_
 rintro e w1 ⟨rfl, hb⟩
 obtain ⟨HA, HB, fA, fB, hbase, hz⟩ := after2 hb
 clear hb
 obtain ⟨x0, x1, x2, x3, x4, x5, x6, x7, x8⟩ := id HA
 obtain ⟨y0, y1, y2, y3, y4, y5, y6, y7, y8⟩ := id HB
 rw [e1]
 go_wp2_with fail
 refine (okImpl_any _ _ _ _ _ _ _ _ _ _ h2 h3).mono ?_
 rintro e w2 ⟨rfl, hb⟩
 have HA2 := HA.below hb (by omega)
 have HB2 := HB.below hb hz
 have hbase2 := hbase.trans (hb.mono (by omega))
 clear hb x0 x1 x2 x3 x4 x5 x6 x7 x8 y0 y1 y2 y3 y4 y5 y6 y7 y8 HA HB fA fB hbase hz
 obtain ⟨x0, x1, x2, x3, x4, x5, x6, x7, x8⟩ := HA2
 obtain ⟨y0, y1, y2, y3, y4, y5, y6, y7, y8⟩ := HB2
 rw [e2]
 cases ek : (k1 == k2)
 ·have nk : (k1 != k2) = true := by simp [bne, ek]
  go_wp2_with fail
  go_ret
  exact ⟨ret_bool (by simp [lessB, ek]), hbase2⟩
 ·have nk : (k1 != k2) = false := by simp [bne, ek]
  cases ea : (a1 == a2)
  ·have na : (a1 != a2) = true := by simp [bne, ea]
   go_wp2_with fail
   go_ret
   exact ⟨ret_bool (by simp [lessB, ea]), hbase2⟩
  ·have na : (a1 != a2) = false := by simp [bne, ea]
   cases eb : (b1 == b2)
   ·have nb : (b1 != b2) = true := by simp [bne, eb]
    go_wp2_with fail
    go_ret
    exact ⟨ret_bool (by simp [lessB, eb]), hbase2⟩
   ·have nb : (b1 != b2) = false := by simp [bne, eb]
    cases es : subB r1 r2
    ·rw [es] at hsb
     go_wp2_with (first | fail)
     go_ret
     exact ⟨ret_bool (by simp [lessB, es]), hbase2⟩
    ·rw [es] at hsb
     cases ed : (d1 == d2)
     ·go_wp2_with (first | fail)
      go_ret
      exact ⟨ret_bool (by simp [lessB, ek, ea, eb, es, ed]), hbase2⟩
     ·go_wp2_with (first | fail)
      go_ret
      exact ⟨ret_bool (by simp [lessB, ek, ea, eb, es, ed]), hbase2⟩

theorem belowImpl_any (k1 a1 b1 r1 d1 g1 q1 f1 k2 a2 b2 r2 d2 g2 q2 f2 : Int) (o1 o2 : Bool) (w : World) (h0 : -9223372036854775808 ≤ r1) (h1 : r1 ≤ 9223372036854775807) (h2 : -9223372036854775808 ≤ r2) (h3 : r2 ≤ 9223372036854775807) :
  Calls Tryz.prog 159 #[.agg #[.int .i64 k1, .int .i64 a1, .int .i64 b1, .int .i64 r1, .int .i64 d1, .int .i64 g1, .int .i64 q1, .int .i64 f1, .bool o1], .agg #[.int .i64 k2, .int .i64 a2, .int .i64 b2, .int .i64 r2, .int .i64 d2, .int .i64 g2, .int .i64 q2, .int .i64 f2, .bool o2]] w fun e w' => e = .returned (.bool (belowB k1 a1 b1 r1 d1 g1 q1 f1 o1 k2 a2 b2 r2 d2 g2 q2 f2 o2)) ∧ Below w.heap.size w w' := by
 cases e1 : okB k1 a1 b1 r1 d1 g1 q1 f1 o1
 ·have : belowB k1 a1 b1 r1 d1 g1 q1 f1 o1 k2 a2 b2 r2 d2 g2 q2 f2 o2 = false := by simp [belowB, e1]
  rw [this]; exact belowImpl_a k1 a1 b1 r1 d1 g1 q1 f1 k2 a2 b2 r2 d2 g2 q2 f2 o1 o2 w h0 h1 h2 h3 e1
 ·cases e2 : okB k2 a2 b2 r2 d2 g2 q2 f2 o2
  ·have : belowB k1 a1 b1 r1 d1 g1 q1 f1 o1 k2 a2 b2 r2 d2 g2 q2 f2 o2 = false := by simp [belowB, e2]
   rw [this]; exact belowImpl_b k1 a1 b1 r1 d1 g1 q1 f1 k2 a2 b2 r2 d2 g2 q2 f2 o1 o2 w h0 h1 h2 h3 e1 e2
  ·have : belowB k1 a1 b1 r1 d1 g1 q1 f1 o1 k2 a2 b2 r2 d2 g2 q2 f2 o2 = lessB k1 a1 b1 r1 d1 k2 a2 b2 r2 d2 := by simp [belowB, e1, e2]
   rw [this]; exact belowImpl_c k1 a1 b1 r1 d1 g1 q1 f1 k2 a2 b2 r2 d2 g2 q2 f2 o1 o2 w h0 h1 h2 h3 e1 e2

set_option maxHeartbeats 400000 in
theorem belowSpec_a (k1 a1 b1 r1 d1 g1 q1 f1 k2 a2 b2 r2 d2 g2 q2 f2 : Int) (o1 o2 : Bool) (w : World) (h0 : -9223372036854775808 ≤ r1) (h1 : r1 ≤ 9223372036854775807) (h2 : -9223372036854775808 ≤ r2) (h3 : r2 ≤ 9223372036854775807) (e1 : okB k1 a1 b1 r1 d1 g1 q1 f1 o1 = false) :
  Calls Tryz.prog 151 #[.agg #[.int .i64 k1, .int .i64 a1, .int .i64 b1, .int .i64 r1, .int .i64 d1, .int .i64 g1, .int .i64 q1, .int .i64 f1, .bool o1], .agg #[.int .i64 k2, .int .i64 a2, .int .i64 b2, .int .i64 r2, .int .i64 d2, .int .i64 g2, .int .i64 q2, .int .i64 f2, .bool o2]] w fun e w' => e = .returned (.bool (false)) ∧ Below w.heap.size w w' := by
 go_enter Tryz.func151, Tryz.ntmps151
 go_wp2_with fail
 refine (okSpec_any _ _ _ _ _ _ _ _ _ _).mono ?_
 rintro e w1 ⟨rfl, hb⟩
 obtain ⟨HA, HB, fA, fB, hbase, hz⟩ := after2 hb
 clear hb
 obtain ⟨x0, x1, x2, x3, x4, x5, x6, x7, x8⟩ := id HA
 obtain ⟨y0, y1, y2, y3, y4, y5, y6, y7, y8⟩ := id HB
 rw [e1]
 go_wp2_with fail
 go_ret
 exact ⟨rfl, hbase⟩

set_option maxHeartbeats 400000 in
theorem belowSpec_b (k1 a1 b1 r1 d1 g1 q1 f1 k2 a2 b2 r2 d2 g2 q2 f2 : Int) (o1 o2 : Bool) (w : World) (h0 : -9223372036854775808 ≤ r1) (h1 : r1 ≤ 9223372036854775807) (h2 : -9223372036854775808 ≤ r2) (h3 : r2 ≤ 9223372036854775807) (e1 : okB k1 a1 b1 r1 d1 g1 q1 f1 o1 = true) (e2 : okB k2 a2 b2 r2 d2 g2 q2 f2 o2 = false) :
  Calls Tryz.prog 151 #[.agg #[.int .i64 k1, .int .i64 a1, .int .i64 b1, .int .i64 r1, .int .i64 d1, .int .i64 g1, .int .i64 q1, .int .i64 f1, .bool o1], .agg #[.int .i64 k2, .int .i64 a2, .int .i64 b2, .int .i64 r2, .int .i64 d2, .int .i64 g2, .int .i64 q2, .int .i64 f2, .bool o2]] w fun e w' => e = .returned (.bool (false)) ∧ Below w.heap.size w w' := by
 go_enter Tryz.func151, Tryz.ntmps151
 go_wp2_with fail
 refine (okSpec_any _ _ _ _ _ _ _ _ _ _).mono ?_
 rintro e w1 ⟨rfl, hb⟩
 obtain ⟨HA, HB, fA, fB, hbase, hz⟩ := after2 hb
 clear hb
 obtain ⟨x0, x1, x2, x3, x4, x5, x6, x7, x8⟩ := id HA
 obtain ⟨y0, y1, y2, y3, y4, y5, y6, y7, y8⟩ := id HB
 rw [e1]
 go_wp2_with fail
 refine (okSpec_any _ _ _ _ _ _ _ _ _ _).mono ?_
 rintro e w2 ⟨rfl, hb⟩
 have HA2 := HA.below hb (by omega)
 have HB2 := HB.below hb hz
 have hbase2 := hbase.trans (hb.mono (by omega))
 clear hb x0 x1 x2 x3 x4 x5 x6 x7 x8 y0 y1 y2 y3 y4 y5 y6 y7 y8 HA HB fA fB hbase hz
 obtain ⟨x0, x1, x2, x3, x4, x5, x6, x7, x8⟩ := HA2
 obtain ⟨y0, y1, y2, y3, y4, y5, y6, y7, y8⟩ := HB2
 rw [e2]
 go_wp2_with fail
 go_ret
 exact ⟨rfl, hbase2⟩

set_option maxHeartbeats 2000000 in
theorem belowSpec_c (k1 a1 b1 r1 d1 g1 q1 f1 k2 a2 b2 r2 d2 g2 q2 f2 : Int) (o1 o2 : Bool) (w : World) (h0 : -9223372036854775808 ≤ r1) (h1 : r1 ≤ 9223372036854775807) (h2 : -9223372036854775808 ≤ r2) (h3 : r2 ≤ 9223372036854775807) (e1 : okB k1 a1 b1 r1 d1 g1 q1 f1 o1 = true) (e2 : okB k2 a2 b2 r2 d2 g2 q2 f2 o2 = true) :
  Calls Tryz.prog 151 #[.agg #[.int .i64 k1, .int .i64 a1, .int .i64 b1, .int .i64 r1, .int .i64 d1, .int .i64 g1, .int .i64 q1, .int .i64 f1, .bool o1], .agg #[.int .i64 k2, .int .i64 a2, .int .i64 b2, .int .i64 r2, .int .i64 d2, .int .i64 g2, .int .i64 q2, .int .i64 f2, .bool o2]] w fun e w' => e = .returned (.bool (lessB k1 a1 b1 r1 d1 k2 a2 b2 r2 d2)) ∧ Below w.heap.size w w' := by
 obtain ⟨_, _, _, ⟨r10, r11⟩, _⟩ := ok_bounds e1
 obtain ⟨_, _, _, ⟨r20, r21⟩, _⟩ := ok_bounds e2
 have hsb := sub_bits r10 r11 r20 r21
 go_enter Tryz.func151, Tryz.ntmps151
 go_wp2_with fail
 refine (okSpec_any _ _ _ _ _ _ _ _ _ _).mono ?_
 rintro e w1 ⟨rfl, hb⟩
 obtain ⟨HA, HB, fA, fB, hbase, hz⟩ := after2 hb
 clear hb
 obtain ⟨x0, x1, x2, x3, x4, x5, x6, x7, x8⟩ := id HA
 obtain ⟨y0, y1, y2, y3, y4, y5, y6, y7, y8⟩ := id HB
 rw [e1]
 go_wp2_with fail
 refine (okSpec_any _ _ _ _ _ _ _ _ _ _).mono ?_
 rintro e w2 ⟨rfl, hb⟩
 have HA2 := HA.below hb (by omega)
 have HB2 := HB.below hb hz
 have hbase2 := hbase.trans (hb.mono (by omega))
 clear hb x0 x1 x2 x3 x4 x5 x6 x7 x8 y0 y1 y2 y3 y4 y5 y6 y7 y8 HA HB fA fB hbase hz
 obtain ⟨x0, x1, x2, x3, x4, x5, x6, x7, x8⟩ := HA2
 obtain ⟨y0, y1, y2, y3, y4, y5, y6, y7, y8⟩ := HB2
 rw [e2]
 cases ek : (k1 == k2)
 ·have nk : (k1 != k2) = true := by simp [bne, ek]
  go_wp2_with fail
  go_ret
  exact ⟨ret_bool (by simp [lessB, ek]), hbase2⟩
 ·have nk : (k1 != k2) = false := by simp [bne, ek]
  cases ea : (a1 == a2)
  ·have na : (a1 != a2) = true := by simp [bne, ea]
   go_wp2_with fail
   go_ret
   exact ⟨ret_bool (by simp [lessB, ea]), hbase2⟩
  ·have na : (a1 != a2) = false := by simp [bne, ea]
   cases eb : (b1 == b2)
   ·have nb : (b1 != b2) = true := by simp [bne, eb]
    go_wp2_with fail
    go_ret
    exact ⟨ret_bool (by simp [lessB, eb]), hbase2⟩
   ·have nb : (b1 != b2) = false := by simp [bne, eb]
    cases es : subB r1 r2
    ·clear hsb
     go_wp2_with (first | (go_at_call 143; refine (sub_any _ _ _ (by omega) (by omega) (by omega) (by omega)).mono ?_; rintro e w' ⟨rfl, rfl⟩))
     go_ret
     exact ⟨ret_bool (by simp [lessB, es]), hbase2⟩
    ·clear hsb
     cases ed : (d1 == d2)
     ·go_wp2_with (first | (go_at_call 143; refine (sub_any _ _ _ (by omega) (by omega) (by omega) (by omega)).mono ?_; rintro e w' ⟨rfl, rfl⟩))
      go_ret
      exact ⟨ret_bool (by simp [lessB, ek, ea, eb, es, ed]), hbase2⟩
     ·go_wp2_with (first | (go_at_call 143; refine (sub_any _ _ _ (by omega) (by omega) (by omega) (by omega)).mono ?_; rintro e w' ⟨rfl, rfl⟩))
      go_ret
      exact ⟨ret_bool (by simp [lessB, ek, ea, eb, es, ed]), hbase2⟩

theorem belowSpec_any (k1 a1 b1 r1 d1 g1 q1 f1 k2 a2 b2 r2 d2 g2 q2 f2 : Int) (o1 o2 : Bool) (w : World) (h0 : -9223372036854775808 ≤ r1) (h1 : r1 ≤ 9223372036854775807) (h2 : -9223372036854775808 ≤ r2) (h3 : r2 ≤ 9223372036854775807) :
  Calls Tryz.prog 151 #[.agg #[.int .i64 k1, .int .i64 a1, .int .i64 b1, .int .i64 r1, .int .i64 d1, .int .i64 g1, .int .i64 q1, .int .i64 f1, .bool o1], .agg #[.int .i64 k2, .int .i64 a2, .int .i64 b2, .int .i64 r2, .int .i64 d2, .int .i64 g2, .int .i64 q2, .int .i64 f2, .bool o2]] w fun e w' => e = .returned (.bool (belowB k1 a1 b1 r1 d1 g1 q1 f1 o1 k2 a2 b2 r2 d2 g2 q2 f2 o2)) ∧ Below w.heap.size w w' := by
 cases e1 : okB k1 a1 b1 r1 d1 g1 q1 f1 o1
 ·have : belowB k1 a1 b1 r1 d1 g1 q1 f1 o1 k2 a2 b2 r2 d2 g2 q2 f2 o2 = false := by simp [belowB, e1]
  rw [this]; exact belowSpec_a k1 a1 b1 r1 d1 g1 q1 f1 k2 a2 b2 r2 d2 g2 q2 f2 o1 o2 w h0 h1 h2 h3 e1
 ·cases e2 : okB k2 a2 b2 r2 d2 g2 q2 f2 o2
  ·have : belowB k1 a1 b1 r1 d1 g1 q1 f1 o1 k2 a2 b2 r2 d2 g2 q2 f2 o2 = false := by simp [belowB, e2]
   rw [this]; exact belowSpec_b k1 a1 b1 r1 d1 g1 q1 f1 k2 a2 b2 r2 d2 g2 q2 f2 o1 o2 w h0 h1 h2 h3 e1 e2
  ·have : belowB k1 a1 b1 r1 d1 g1 q1 f1 o1 k2 a2 b2 r2 d2 g2 q2 f2 o2 = lessB k1 a1 b1 r1 d1 k2 a2 b2 r2 d2 := by simp [belowB, e1, e2]
   rw [this]; exact belowSpec_c k1 a1 b1 r1 d1 g1 q1 f1 k2 a2 b2 r2 d2 g2 q2 f2 o1 o2 w h0 h1 h2 h3 e1 e2

end Go.Proofs.YtigpbjcmmgdiaaaGreat
/-
 Whether a capability is there rightly: plain facts. No conditions.
-/
namespace Go.Proofs.YtigpbjcmmgdiaaaGreat
open Go.ChangeShapes Go.WideShapes Go.ChangeAt Go.RowKit
set_option linter.unusedVariables false

/-- How many words a capability names, as its place in memory goes. -/
def bornSz (s : Sl) : Int := if (s.k == 7) = true then 32 else szI s.k s.b
/-- It lies in memory, behind what is the kernel's own. -/
def memB (bits : Int) (s : Sl) : Bool := !(decide (s.e < 128) || decide (sizeI bits < s.e + bornSz s))
/-- What a slot came of. -/
def cameI (L : List Sl) (i : Nat) : Int := headI (ups (depN L) (depN L i) i)
/-- The original at a place came of the same, and shares words. -/
def meetsB (s : Sl) (up : Int) (L : List Sl) (j : Nat) : Bool := match L[j]? with
 | none => false
 | some o => o.o && (cameI L j == up) && meetB s.e (bornSz s) o.e (szI o.k o.b)
/-- It is in what its region has used. -/
def usedB (s p : Sl) : Bool := p.k == 1 && inB s.e (bornSz s) p.e p.f
/-- It may have come of that. -/
def derB (s p : Sl) : Bool := if (s.k == 7) = true then p.k == 3 && p.o && (p.e == s.e) else belowB s.k s.e s.b s.r s.d s.g s.q s.f s.o p.k p.e p.b p.r p.d p.g p.q p.f p.o
def upSl (L : List Sl) (i : Nat) : Option Sl := if 0 ≤ cameI L i then L[(cameI L i).toNat]? else none
def bornB (bits : Int) (L : List Sl) (i : Nat) : Bool := match L[i]? with
 | none => false
 | some s => memB bits s && (if s.o = true then ((List.range i).all (fun j => !meetsB s (cameI L i) L j) && (match upSl L i with | none => true | some p => usedB s p))
   else (match upSl L i with | none => false | some p => derB s p))
theorem cameI_or (L : List Sl) (i : Nat) (hi : i < L.length) : (cameI L i = -1 ∧ upSl L i = none) ∨ ∃ u : Nat, ∃ h : u < L.length, u < i ∧ cameI L i = (u : Int) ∧ upSl L i = some L[u] := by
 rcases ups_head (depN L) (depN L i) i with e | ⟨u, hu, e⟩
 ·have h1 : cameI L i = -1 := by unfold cameI; rw [e]; rfl
  exact .inl ⟨h1, by unfold upSl; rw [h1]; rfl⟩
 ·have h1 : cameI L i = (u : Int) := by unfold cameI; rw [e]; rfl
  have hu2 : u < L.length := by omega
  exact .inr ⟨u, hu2, hu, h1, by unfold upSl; rw [h1, if_pos (by omega)]; simp [hu2]⟩
theorem szI_bd (k b : Int) : 0 ≤ szI k b ∧ szI k b ≤ 4096 := by
 have h1 := sizeI_bd b
 have h2 : 1 ≤ b → b ≤ 5 → sizeI b ≤ 32 := fun h3 h4 => by
  have : b = 1 ∨ b = 2 ∨ b = 3 ∨ b = 4 ∨ b = 5 := by omega
  rcases this with e | e | e | e | e <;> subst e <;> decide
 unfold szI
 repeat' split
 all_goals first | omega | (have := h2 (by omega) (by omega); omega)
theorem bornSz_bd (s : Sl) : 0 ≤ bornSz s ∧ bornSz s ≤ 4096 := by
 have := szI_bd s.k s.b
 unfold bornSz; split <;> omega
theorem born_mem {bits : Int} {L : List Sl} {i : Nat} {s : Sl} (hs : L[i]? = some s) (h : memB bits s = false) : bornB bits L i = false := by
 unfold bornB; rw [hs]; simp [h]
theorem born_meet {bits : Int} {L : List Sl} {i j : Nat} {s : Sl} (hs : L[i]? = some s) (ho : s.o = true) (hj : j < i) (h : meetsB s (cameI L i) L j = true) : bornB bits L i = false := by
 unfold bornB; rw [hs]; simp only [ho, if_true]
 have : (List.range i).all (fun j => !meetsB s (cameI L i) L j) = false := by rw [List.all_eq_false]; exact ⟨j, List.mem_range.2 hj, by simp [h]⟩
 rw [this]; simp
theorem born_orig {bits : Int} {L : List Sl} {i : Nat} {s : Sl} (hs : L[i]? = some s) (hm : memB bits s = true) (ho : s.o = true) (h : ∀ j, j < i → meetsB s (cameI L i) L j = false) : bornB bits L i = (match upSl L i with | none => true | some p => usedB s p) := by
 unfold bornB; rw [hs]; simp only [ho, if_true, hm]
 have : (List.range i).all (fun j => !meetsB s (cameI L i) L j) = true := by rw [List.all_eq_true]; intro j hj; rw [h j (List.mem_range.1 hj)]; rfl
 rw [this]; simp
theorem born_copy {bits : Int} {L : List Sl} {i : Nat} {s : Sl} (hs : L[i]? = some s) (hm : memB bits s = true) (ho : s.o = false) : bornB bits L i = (match upSl L i with | none => false | some p => derB s p) := by
 unfold bornB; rw [hs]; simp [ho, hm]

end Go.Proofs.YtigpbjcmmgdiaaaGreat
