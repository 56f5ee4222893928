/-
  What CapText answers, at every capability: of the program and of the specification; the empty text where it is not ok.
-/
import Derived.Test.YthmambhagheocaaGreatDoorTextImplA
import Derived.Test.YthmambhagheocaaGreatDoorTextImplB
import Derived.Test.YthmambhagheocaaGreatDoorTextSpecA
import Derived.Test.YthmambhagheocaaGreatDoorTextSpecB
namespace Go.Proofs.YthmambhagheocaaGreatDoor
open Go.ChangeShapes Go.WideShapes Go.ChangeAt Go.RowKit
set_option linter.unusedVariables false

/-- The text, or the empty one. -/
def textOr (k a b r d g q f : Int) (o : Bool) : List UInt8 := if okB k a b r d g q f o = true then textL k a b r d g q f o else []

theorem ok_orig {k a b r d g q f : Int} {o : Bool} (h : okB k a b r d g q f o = true) : origB k o = true := by
  simp only [okB, Bool.and_eq_true] at h
  exact h.2

set_option maxHeartbeats 400000 in
theorem textImpl_no (k a b r d g q f : Int) (o : Bool) (w : World) (h0 : -9223372036854775808 ≤ r) (h1 : r ≤ 9223372036854775807) (h : okB k a b r d g q f o = false) :
    Calls Tryz.prog 8 #[.agg #[.int .i64 k, .int .i64 a, .int .i64 b, .int .i64 r, .int .i64 d, .int .i64 g, .int .i64 q, .int .i64 f, .bool o]] w fun e w' => e = .returned (.string ⟨([] : List UInt8).toArray⟩) ∧ Below w.heap.size w w' := by
  go_enter Tryz.func8, Tryz.ntmps8
  go_wp2_with (first | (go_at_call 14; refine (okImpl_any _ _ _ _ _ _ _ _ _ _ h0 h1).mono ?_; rintro e w1 ⟨rfl, hb⟩))
  go_ret
  exact ⟨rfl, ((Below.refl _ _).alloc (Nat.le_refl _) _).trans (hb.mono (by simp))⟩

theorem textImpl_any (k a b r d g q f : Int) (o : Bool) (w : World) (h0 : -9223372036854775808 ≤ r) (h1 : r ≤ 9223372036854775807) (htab : Lib.TabIs Tryz.prog w "internal/strconv.uint64pow10" .u64 Lib.pow10Tab) :
    Calls Tryz.prog 8 #[.agg #[.int .i64 k, .int .i64 a, .int .i64 b, .int .i64 r, .int .i64 d, .int .i64 g, .int .i64 q, .int .i64 f, .bool o]] w fun e w' => e = .returned (.string ⟨(textOr k a b r d g q f o).toArray⟩) ∧ Below w.heap.size w w' := by
  cases h : okB k a b r d g q f o
  · have e : textOr k a b r d g q f o = [] := by unfold textOr; rw [if_neg (by simp [h])]
    rw [e]; exact textImpl_no k a b r d g q f o w h0 h1 h
  · have e : textOr k a b r d g q f o = textL k a b r d g q f o := by unfold textOr; rw [if_pos h]
    rw [e]
    obtain ⟨⟨k0, k1⟩, ⟨a0, a1⟩, ⟨b0, b1⟩, ⟨r0, r1⟩, ⟨d0, d1⟩, ⟨g0, g1⟩, ⟨q0, q1⟩, ⟨f0, f1⟩, _⟩ := ok_bounds h
    have ho := ok_orig h
    rcases seven k0 k1 with e | e | e | e | e | e | e <;> subst e <;> cases o
    · simp [origB] at ho
    · exact textImpl_1t a b r d g q f w h (by omega) (by omega) r0 r1 (by omega) (by omega) (by omega) (by omega) htab
    · exact textImpl_2f a b r d g q f w h (by omega) (by omega) r0 r1 (by omega) (by omega) (by omega) (by omega) htab
    · exact textImpl_2t a b r d g q f w h (by omega) (by omega) r0 r1 (by omega) (by omega) (by omega) (by omega) htab
    · exact textImpl_3f a b r d g q f w h (by omega) (by omega) r0 r1 (by omega) (by omega) (by omega) (by omega) htab
    · exact textImpl_3t a b r d g q f w h (by omega) (by omega) r0 r1 (by omega) (by omega) (by omega) (by omega) htab
    · exact textImpl_4f a b r d g q f w h (by omega) (by omega) r0 r1 (by omega) (by omega) (by omega) (by omega) htab
    · exact textImpl_4t a b r d g q f w h (by omega) (by omega) r0 r1 (by omega) (by omega) (by omega) (by omega) htab
    · exact textImpl_5f a b r d g q f w h (by omega) (by omega) r0 r1 (by omega) (by omega) (by omega) (by omega) htab
    · exact textImpl_5t a b r d g q f w h (by omega) (by omega) r0 r1 (by omega) (by omega) (by omega) (by omega) htab
    · exact textImpl_6f a b r d g q f w h (by omega) (by omega) r0 r1 (by omega) (by omega) (by omega) (by omega) htab
    · exact textImpl_6t a b r d g q f w h (by omega) (by omega) r0 r1 (by omega) (by omega) (by omega) (by omega) htab
    · exact textImpl_7f a b r d g q f w h (by omega) (by omega) r0 r1 (by omega) (by omega) (by omega) (by omega) htab
    · simp [origB] at ho

set_option maxHeartbeats 400000 in
theorem textSpec_no (k a b r d g q f : Int) (o : Bool) (w : World) (h : okB k a b r d g q f o = false) :
    Calls Tryz.prog 35 #[.agg #[.int .i64 k, .int .i64 a, .int .i64 b, .int .i64 r, .int .i64 d, .int .i64 g, .int .i64 q, .int .i64 f, .bool o]] w fun e w' => e = .returned (.string ⟨([] : List UInt8).toArray⟩) ∧ Below w.heap.size w w' := by
  go_enter Tryz.func35, Tryz.ntmps35
  go_wp2_with (first | (go_at_call 9; refine (okSpec_any _ _ _ _ _ _ _ _ _ _).mono ?_; rintro e w1 ⟨rfl, hb⟩))
  go_ret
  exact ⟨rfl, ((Below.refl _ _).alloc (Nat.le_refl _) _).trans (hb.mono (by simp))⟩

theorem textSpec_any (k a b r d g q f : Int) (o : Bool) (w : World) :
    Calls Tryz.prog 35 #[.agg #[.int .i64 k, .int .i64 a, .int .i64 b, .int .i64 r, .int .i64 d, .int .i64 g, .int .i64 q, .int .i64 f, .bool o]] w fun e w' => e = .returned (.string ⟨(textOr k a b r d g q f o).toArray⟩) ∧ Below w.heap.size w w' := by
  cases h : okB k a b r d g q f o
  · have e : textOr k a b r d g q f o = [] := by unfold textOr; rw [if_neg (by simp [h])]
    rw [e]; exact textSpec_no k a b r d g q f o w h
  · have e : textOr k a b r d g q f o = textL k a b r d g q f o := by unfold textOr; rw [if_pos h]
    rw [e]
    obtain ⟨⟨k0, k1⟩, ⟨a0, a1⟩, ⟨b0, b1⟩, ⟨r0, r1⟩, ⟨d0, d1⟩, ⟨g0, g1⟩, ⟨q0, q1⟩, ⟨f0, f1⟩, _⟩ := ok_bounds h
    have ho := ok_orig h
    rcases seven k0 k1 with e | e | e | e | e | e | e <;> subst e <;> cases o
    · simp [origB] at ho
    · exact textSpec_1t a b r d g q f w h (by omega) (by omega) r0 r1 (by omega) (by omega) (by omega) (by omega)
    · exact textSpec_2f a b r d g q f w h (by omega) (by omega) r0 r1 (by omega) (by omega) (by omega) (by omega)
    · exact textSpec_2t a b r d g q f w h (by omega) (by omega) r0 r1 (by omega) (by omega) (by omega) (by omega)
    · exact textSpec_3f a b r d g q f w h (by omega) (by omega) r0 r1 (by omega) (by omega) (by omega) (by omega)
    · exact textSpec_3t a b r d g q f w h (by omega) (by omega) r0 r1 (by omega) (by omega) (by omega) (by omega)
    · exact textSpec_4f a b r d g q f w h (by omega) (by omega) r0 r1 (by omega) (by omega) (by omega) (by omega)
    · exact textSpec_4t a b r d g q f w h (by omega) (by omega) r0 r1 (by omega) (by omega) (by omega) (by omega)
    · exact textSpec_5f a b r d g q f w h (by omega) (by omega) r0 r1 (by omega) (by omega) (by omega) (by omega)
    · exact textSpec_5t a b r d g q f w h (by omega) (by omega) r0 r1 (by omega) (by omega) (by omega) (by omega)
    · exact textSpec_6f a b r d g q f w h (by omega) (by omega) r0 r1 (by omega) (by omega) (by omega) (by omega)
    · exact textSpec_6t a b r d g q f w h (by omega) (by omega) r0 r1 (by omega) (by omega) (by omega) (by omega)
    · exact textSpec_7f a b r d g q f w h (by omega) (by omega) r0 r1 (by omega) (by omega) (by omega) (by omega)
    · simp [origB] at ho

end Go.Proofs.YthmambhagheocaaGreatDoor
