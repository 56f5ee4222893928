/-
  The laws of CapCopy, CapMint and CapUnpack out of what the two answer alike: eqCap at two alike; the walk of each law, whatever the answer.
-/
import Derived.Test.YtaebcaajcolnfabCapIn
import Derived.Test.YtaebcaajcolnfabMem
import Derived.Deep.Cut
namespace Go.Proofs.Ytaebcaajcolnfab
open Go.ChangeShapes Go.WideShapes Go.ChangeAt Go.RowKit
set_option linter.unusedVariables false

set_option maxHeartbeats 400000 in
theorem eqCap_same (n0 n1 n2 n3 n4 n5 n6 n7 : Int) (n8 : Bool) (w : World) :
    Calls Try.prog 9 #[.agg #[.int .i64 n0, .int .i64 n1, .int .i64 n2, .int .i64 n3, .int .i64 n4, .int .i64 n5, .int .i64 n6, .int .i64 n7, .bool n8], .agg #[.int .i64 n0, .int .i64 n1, .int .i64 n2, .int .i64 n3, .int .i64 n4, .int .i64 n5, .int .i64 n6, .int .i64 n7, .bool n8]] w fun e w' => e = .returned (.bool true) ∧ Below w.heap.size w w' := by
  go_enter Try.func9, Try.ntmps9
  go_wp2
  go_ret
  exact ⟨rfl, ((Below.refl _ _).alloc (Nat.le_refl _) _).alloc (by simp) _⟩

set_option maxRecDepth 100000 in
set_option maxHeartbeats 400000 in
theorem lawCapCopy (k0 e0 b0 r0 d0 g0 q0 f0 m : Int) (o0 : Bool) (n0 n1 n2 n3 n4 n5 n6 n7 : Int) (n8 ok : Bool) (w : World)
    (hS : ∀ w : World, Calls Try.prog 10 #[.agg #[.int .i64 k0, .int .i64 e0, .int .i64 b0, .int .i64 r0, .int .i64 d0, .int .i64 g0, .int .i64 q0, .int .i64 f0, .bool o0], .int .u32 m] w fun e w' => e = .returned (.tuple #[.agg #[.int .i64 n0, .int .i64 n1, .int .i64 n2, .int .i64 n3, .int .i64 n4, .int .i64 n5, .int .i64 n6, .int .i64 n7, .bool n8], .bool ok]) ∧ Below w.heap.size w w')
    (hI : ∀ w : World, Calls Try.prog 12 #[.agg #[.int .i64 k0, .int .i64 e0, .int .i64 b0, .int .i64 r0, .int .i64 d0, .int .i64 g0, .int .i64 q0, .int .i64 f0, .bool o0], .int .u32 m] w fun e w' => e = .returned (.tuple #[.agg #[.int .i64 n0, .int .i64 n1, .int .i64 n2, .int .i64 n3, .int .i64 n4, .int .i64 n5, .int .i64 n6, .int .i64 n7, .bool n8], .bool ok]) ∧ Below w.heap.size w w') :
    Calls Try.prog 4 #[.agg #[.int .i64 k0, .int .i64 e0, .int .i64 b0, .int .i64 r0, .int .i64 d0, .int .i64 g0, .int .i64 q0, .int .i64 f0, .bool o0], .int .u32 m] w fun e w' => e = .returned (.bool true) ∧ Below w.heap.size w w' := by
  have HS : Hid _ := hS
  have HI : Hid _ := hI
  clear hS hI
  go_enter Try.func4, Try.ntmps4
  go_upto_region 2 with (first | (go_at_call 11; refine (on_calls (toCap_any _ _ _ _ _ _ _ _ _ _) (by first | assumption | exact Below.refl _ _)).mono ?_; rintro e w1 ⟨rfl, hb1⟩; obtain ⟨hc1, hf1⟩ := bcell hb1) | (go_at_call 10; refine (on_calls (HS.out _) (by first | assumption | exact Below.refl _ _)).mono ?_; rintro e w2 ⟨rfl, hb2⟩))
  have hz2 : w.heap.size < w2.heap.size := by have := hb2.size; simp at this; omega
  have HN := Holds9.alloc w2 (.int .i64 n0) (.int .i64 n1) (.int .i64 n2) (.int .i64 n3) (.int .i64 n4) (.int .i64 n5) (.int .i64 n6) (.int .i64 n7) (.bool n8) 24
  have HB := ((Holds9.alloc w (.int .i64 k0) (.int .i64 e0) (.int .i64 b0) (.int .i64 r0) (.int .i64 d0) (.int .i64 g0) (.int .i64 q0) (.int .i64 f0) (.bool o0) 29).below hb2 (by simp)).allocs hz2 (.cells #[.int .i64 n0, .int .i64 n1, .int .i64 n2, .int .i64 n3, .int .i64 n4, .int .i64 n5, .int .i64 n6, .int .i64 n7, .bool n8] 24)
  have hB2 : Hid (Below w.heap.size w (w2.alloc (.cells #[.int .i64 n0, .int .i64 n1, .int .i64 n2, .int .i64 n3, .int .i64 n4, .int .i64 n5, .int .i64 n6, .int .i64 n7, .bool n8] 24))) := (((Below.refl _ _).alloc (Nat.le_refl _) _).trans (hb2.mono (by simp))).alloc (by omega) _
  have hs2 : w2.heap.size < (w2.alloc (.cells #[.int .i64 n0, .int .i64 n1, .int .i64 n2, .int .i64 n3, .int .i64 n4, .int .i64 n5, .int .i64 n6, .int .i64 n7, .bool n8] 24)).heap.size := by simp
  clear hb2 hb1 hc1 hf1
  generalize w2.alloc (.cells #[.int .i64 n0, .int .i64 n1, .int .i64 n2, .int .i64 n3, .int .i64 n4, .int .i64 n5, .int .i64 n6, .int .i64 n7, .bool n8] 24) = W2 at HN HB hB2 hs2 ⊢
  generalize w2.heap.size = M1 at HN HB hB2 hs2 hz2 ⊢
  obtain ⟨c0, c1, c2, c3, c4, c5, c6, c7, c8⟩ := HB
  go_upto_region 3 with (first | (go_at_call 11; refine (on_calls (W := W2) (toCap_any _ _ _ _ _ _ _ _ _ _) (by first | assumption | exact Below.refl _ _)).mono ?_; rintro e w1 ⟨rfl, hb1⟩; obtain ⟨hc1, hf1⟩ := bcell hb1) | (go_at_call 12; refine (on_calls (W := W2) (HI.out _) (by first | assumption | exact Below.refl _ _)).mono ?_; rintro e w4 ⟨rfl, hb4⟩))
  have hz4 : W2.heap.size ≤ w4.heap.size := hb4.size
  have HG := Holds9.alloc w4 (.int .i64 n0) (.int .i64 n1) (.int .i64 n2) (.int .i64 n3) (.int .i64 n4) (.int .i64 n5) (.int .i64 n6) (.int .i64 n7) (.bool n8) 24
  have HN4 := (HN.below hb4 hs2).allocs (by omega) (.cells #[.int .i64 n0, .int .i64 n1, .int .i64 n2, .int .i64 n3, .int .i64 n4, .int .i64 n5, .int .i64 n6, .int .i64 n7, .bool n8] 24)
  have hB4 : Below w.heap.size w (w4.alloc (.cells #[.int .i64 n0, .int .i64 n1, .int .i64 n2, .int .i64 n3, .int .i64 n4, .int .i64 n5, .int .i64 n6, .int .i64 n7, .bool n8] 24)) := (hB2.out.trans (hb4.mono (by omega))).alloc (by omega) _
  have hs4 : w.heap.size ≤ (w4.alloc (.cells #[.int .i64 n0, .int .i64 n1, .int .i64 n2, .int .i64 n3, .int .i64 n4, .int .i64 n5, .int .i64 n6, .int .i64 n7, .bool n8] 24)).heap.size := by simp; omega
  clear hb4 HN hB2 hb1 hc1 hf1
  generalize w4.alloc (.cells #[.int .i64 n0, .int .i64 n1, .int .i64 n2, .int .i64 n3, .int .i64 n4, .int .i64 n5, .int .i64 n6, .int .i64 n7, .bool n8] 24) = W4 at HG HN4 hB4 hs4 ⊢
  generalize w4.heap.size = M2 at HG ⊢
  obtain ⟨x0, x1, x2, x3, x4, x5, x6, x7, x8⟩ := HN4
  obtain ⟨y0, y1, y2, y3, y4, y5, y6, y7, y8⟩ := HG
  go_wp2_with (first | (go_at_call 9; refine (eqCap_same _ _ _ _ _ _ _ _ _ _).mono ?_; rintro e w5 ⟨rfl, hb5⟩))
  go_ret
  exact ⟨rfl, hB4.trans (hb5.mono hs4)⟩

set_option maxRecDepth 100000 in
set_option maxHeartbeats 400000 in
theorem lawCapMint (k0 e0 b0 r0 d0 g0 q0 f0 m x : Int) (o0 : Bool) (n0 n1 n2 n3 n4 n5 n6 n7 : Int) (n8 ok : Bool) (w : World)
    (hS : ∀ w : World, Calls Try.prog 13 #[.agg #[.int .i64 k0, .int .i64 e0, .int .i64 b0, .int .i64 r0, .int .i64 d0, .int .i64 g0, .int .i64 q0, .int .i64 f0, .bool o0], .int .u32 m, .int .u32 x] w fun e w' => e = .returned (.tuple #[.agg #[.int .i64 n0, .int .i64 n1, .int .i64 n2, .int .i64 n3, .int .i64 n4, .int .i64 n5, .int .i64 n6, .int .i64 n7, .bool n8], .bool ok]) ∧ Below w.heap.size w w')
    (hI : ∀ w : World, Calls Try.prog 14 #[.agg #[.int .i64 k0, .int .i64 e0, .int .i64 b0, .int .i64 r0, .int .i64 d0, .int .i64 g0, .int .i64 q0, .int .i64 f0, .bool o0], .int .u32 m, .int .u32 x] w fun e w' => e = .returned (.tuple #[.agg #[.int .i64 n0, .int .i64 n1, .int .i64 n2, .int .i64 n3, .int .i64 n4, .int .i64 n5, .int .i64 n6, .int .i64 n7, .bool n8], .bool ok]) ∧ Below w.heap.size w w') :
    Calls Try.prog 5 #[.agg #[.int .i64 k0, .int .i64 e0, .int .i64 b0, .int .i64 r0, .int .i64 d0, .int .i64 g0, .int .i64 q0, .int .i64 f0, .bool o0], .int .u32 m, .int .u32 x] w fun e w' => e = .returned (.bool true) ∧ Below w.heap.size w w' := by
  have HS : Hid _ := hS
  have HI : Hid _ := hI
  clear hS hI
  go_enter Try.func5, Try.ntmps5
  go_upto_region 2 with (first | (go_at_call 11; refine (on_calls (toCap_any _ _ _ _ _ _ _ _ _ _) (by first | assumption | exact Below.refl _ _)).mono ?_; rintro e w1 ⟨rfl, hb1⟩; obtain ⟨hc1, hf1⟩ := bcell hb1) | (go_at_call 13; refine (on_calls (HS.out _) (by first | assumption | exact Below.refl _ _)).mono ?_; rintro e w2 ⟨rfl, hb2⟩))
  have hz2 : w.heap.size < w2.heap.size := by have := hb2.size; simp at this; omega
  have HN := Holds9.alloc w2 (.int .i64 n0) (.int .i64 n1) (.int .i64 n2) (.int .i64 n3) (.int .i64 n4) (.int .i64 n5) (.int .i64 n6) (.int .i64 n7) (.bool n8) 24
  have HB := ((Holds9.alloc w (.int .i64 k0) (.int .i64 e0) (.int .i64 b0) (.int .i64 r0) (.int .i64 d0) (.int .i64 g0) (.int .i64 q0) (.int .i64 f0) (.bool o0) 29).below hb2 (by simp)).allocs hz2 (.cells #[.int .i64 n0, .int .i64 n1, .int .i64 n2, .int .i64 n3, .int .i64 n4, .int .i64 n5, .int .i64 n6, .int .i64 n7, .bool n8] 24)
  have hB2 : Hid (Below w.heap.size w (w2.alloc (.cells #[.int .i64 n0, .int .i64 n1, .int .i64 n2, .int .i64 n3, .int .i64 n4, .int .i64 n5, .int .i64 n6, .int .i64 n7, .bool n8] 24))) := (((Below.refl _ _).alloc (Nat.le_refl _) _).trans (hb2.mono (by simp))).alloc (by omega) _
  have hs2 : w2.heap.size < (w2.alloc (.cells #[.int .i64 n0, .int .i64 n1, .int .i64 n2, .int .i64 n3, .int .i64 n4, .int .i64 n5, .int .i64 n6, .int .i64 n7, .bool n8] 24)).heap.size := by simp
  clear hb2 hb1 hc1 hf1
  generalize w2.alloc (.cells #[.int .i64 n0, .int .i64 n1, .int .i64 n2, .int .i64 n3, .int .i64 n4, .int .i64 n5, .int .i64 n6, .int .i64 n7, .bool n8] 24) = W2 at HN HB hB2 hs2 ⊢
  generalize w2.heap.size = M1 at HN HB hB2 hs2 hz2 ⊢
  obtain ⟨c0, c1, c2, c3, c4, c5, c6, c7, c8⟩ := HB
  go_upto_region 3 with (first | (go_at_call 11; refine (on_calls (W := W2) (toCap_any _ _ _ _ _ _ _ _ _ _) (by first | assumption | exact Below.refl _ _)).mono ?_; rintro e w1 ⟨rfl, hb1⟩; obtain ⟨hc1, hf1⟩ := bcell hb1) | (go_at_call 14; refine (on_calls (W := W2) (HI.out _) (by first | assumption | exact Below.refl _ _)).mono ?_; rintro e w4 ⟨rfl, hb4⟩))
  have hz4 : W2.heap.size ≤ w4.heap.size := hb4.size
  have HG := Holds9.alloc w4 (.int .i64 n0) (.int .i64 n1) (.int .i64 n2) (.int .i64 n3) (.int .i64 n4) (.int .i64 n5) (.int .i64 n6) (.int .i64 n7) (.bool n8) 24
  have HN4 := (HN.below hb4 hs2).allocs (by omega) (.cells #[.int .i64 n0, .int .i64 n1, .int .i64 n2, .int .i64 n3, .int .i64 n4, .int .i64 n5, .int .i64 n6, .int .i64 n7, .bool n8] 24)
  have hB4 : Below w.heap.size w (w4.alloc (.cells #[.int .i64 n0, .int .i64 n1, .int .i64 n2, .int .i64 n3, .int .i64 n4, .int .i64 n5, .int .i64 n6, .int .i64 n7, .bool n8] 24)) := (hB2.out.trans (hb4.mono (by omega))).alloc (by omega) _
  have hs4 : w.heap.size ≤ (w4.alloc (.cells #[.int .i64 n0, .int .i64 n1, .int .i64 n2, .int .i64 n3, .int .i64 n4, .int .i64 n5, .int .i64 n6, .int .i64 n7, .bool n8] 24)).heap.size := by simp; omega
  clear hb4 HN hB2 hb1 hc1 hf1
  generalize w4.alloc (.cells #[.int .i64 n0, .int .i64 n1, .int .i64 n2, .int .i64 n3, .int .i64 n4, .int .i64 n5, .int .i64 n6, .int .i64 n7, .bool n8] 24) = W4 at HG HN4 hB4 hs4 ⊢
  generalize w4.heap.size = M2 at HG ⊢
  obtain ⟨x0, x1, x2, x3, x4, x5, x6, x7, x8⟩ := HN4
  obtain ⟨y0, y1, y2, y3, y4, y5, y6, y7, y8⟩ := HG
  go_wp2_with (first | (go_at_call 9; refine (eqCap_same _ _ _ _ _ _ _ _ _ _).mono ?_; rintro e w5 ⟨rfl, hb5⟩))
  go_ret
  exact ⟨rfl, hB4.trans (hb5.mono hs4)⟩

set_option maxRecDepth 100000 in
set_option maxHeartbeats 400000 in
theorem lawCapUnpack (a b : Int) (n0 n1 n2 n3 n4 n5 n6 n7 : Int) (n8 ok : Bool) (w : World)
    (hS : ∀ w : World, Calls Try.prog 7 #[.int .u32 a, .int .u32 b] w fun e w' => e = .returned (.tuple #[.agg #[.int .i64 n0, .int .i64 n1, .int .i64 n2, .int .i64 n3, .int .i64 n4, .int .i64 n5, .int .i64 n6, .int .i64 n7, .bool n8], .bool ok]) ∧ Below w.heap.size w w')
    (hI : ∀ w : World, Calls Try.prog 8 #[.int .u32 a, .int .u32 b] w fun e w' => e = .returned (.tuple #[.agg #[.int .i64 n0, .int .i64 n1, .int .i64 n2, .int .i64 n3, .int .i64 n4, .int .i64 n5, .int .i64 n6, .int .i64 n7, .bool n8], .bool ok]) ∧ Below w.heap.size w w') :
    Calls Try.prog 3 #[.int .u32 a, .int .u32 b] w fun e w' => e = .returned (.bool true) ∧ Below w.heap.size w w' := by
  have HS : Hid _ := hS
  have HI : Hid _ := hI
  clear hS hI
  go_enter Try.func3, Try.ntmps3
  go_upto_region 2 with (first | (go_at_call 7; refine (on_calls (HS.out _) (by first | assumption | exact Below.refl _ _)).mono ?_; rintro e w2 ⟨rfl, hb2⟩))
  have hz2 : w.heap.size ≤ w2.heap.size := by have := hb2.size; exact this
  have HN := Holds9.alloc w2 (.int .i64 n0) (.int .i64 n1) (.int .i64 n2) (.int .i64 n3) (.int .i64 n4) (.int .i64 n5) (.int .i64 n6) (.int .i64 n7) (.bool n8) 24
  have hB2 : Hid (Below w.heap.size w (w2.alloc (.cells #[.int .i64 n0, .int .i64 n1, .int .i64 n2, .int .i64 n3, .int .i64 n4, .int .i64 n5, .int .i64 n6, .int .i64 n7, .bool n8] 24))) := (hb2).alloc (by omega) _
  have hs2 : w2.heap.size < (w2.alloc (.cells #[.int .i64 n0, .int .i64 n1, .int .i64 n2, .int .i64 n3, .int .i64 n4, .int .i64 n5, .int .i64 n6, .int .i64 n7, .bool n8] 24)).heap.size := by simp
  clear hb2
  generalize w2.alloc (.cells #[.int .i64 n0, .int .i64 n1, .int .i64 n2, .int .i64 n3, .int .i64 n4, .int .i64 n5, .int .i64 n6, .int .i64 n7, .bool n8] 24) = W2 at HN hB2 hs2 ⊢
  generalize w2.heap.size = M1 at HN hB2 hs2 hz2 ⊢
  go_upto_region 3 with (first | (go_at_call 8; refine (on_calls (W := W2) (HI.out _) (by first | assumption | exact Below.refl _ _)).mono ?_; rintro e w4 ⟨rfl, hb4⟩))
  have hz4 : W2.heap.size ≤ w4.heap.size := hb4.size
  have HG := Holds9.alloc w4 (.int .i64 n0) (.int .i64 n1) (.int .i64 n2) (.int .i64 n3) (.int .i64 n4) (.int .i64 n5) (.int .i64 n6) (.int .i64 n7) (.bool n8) 24
  have HN4 := (HN.below hb4 hs2).allocs (by omega) (.cells #[.int .i64 n0, .int .i64 n1, .int .i64 n2, .int .i64 n3, .int .i64 n4, .int .i64 n5, .int .i64 n6, .int .i64 n7, .bool n8] 24)
  have hB4 : Below w.heap.size w (w4.alloc (.cells #[.int .i64 n0, .int .i64 n1, .int .i64 n2, .int .i64 n3, .int .i64 n4, .int .i64 n5, .int .i64 n6, .int .i64 n7, .bool n8] 24)) := (hB2.out.trans (hb4.mono (by omega))).alloc (by omega) _
  have hs4 : w.heap.size ≤ (w4.alloc (.cells #[.int .i64 n0, .int .i64 n1, .int .i64 n2, .int .i64 n3, .int .i64 n4, .int .i64 n5, .int .i64 n6, .int .i64 n7, .bool n8] 24)).heap.size := by simp; omega
  clear hb4 HN hB2
  generalize w4.alloc (.cells #[.int .i64 n0, .int .i64 n1, .int .i64 n2, .int .i64 n3, .int .i64 n4, .int .i64 n5, .int .i64 n6, .int .i64 n7, .bool n8] 24) = W4 at HG HN4 hB4 hs4 ⊢
  generalize w4.heap.size = M2 at HG ⊢
  obtain ⟨x0, x1, x2, x3, x4, x5, x6, x7, x8⟩ := HN4
  obtain ⟨y0, y1, y2, y3, y4, y5, y6, y7, y8⟩ := HG
  go_wp2_with (first | (go_at_call 9; refine (eqCap_same _ _ _ _ _ _ _ _ _ _).mono ?_; rintro e w5 ⟨rfl, hb5⟩))
  go_ret
  exact ⟨rfl, hB4.trans (hb5.mono hs4)⟩

end Go.Proofs.Ytaebcaajcolnfab
