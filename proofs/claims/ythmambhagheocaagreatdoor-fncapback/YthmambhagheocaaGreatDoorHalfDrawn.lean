/-
  What the drawing of a capability, one in three spoilt, answers.
-/
import Derived.Test.YthmambhagheocaaGreatDoorCapDrawn
import Derived.Test.YthmambhagheocaaGreatDoorSpoilDrawn
namespace Go.Proofs.YthmambhagheocaaGreatDoor
open Go.ChangeShapes Go.WideShapes Go.ChangeAt Go.RowKit
set_option linter.unusedVariables false

set_option maxHeartbeats 2000000 in
theorem half_any (p n k : Nat) (w : World) (h : Reads w p n k) (hk : k ≤ 40) (hp : p < w.heap.size) :
    Calls Tryz.prog 15 #[.pointer (some ⟨p, 0, none⟩)] w fun e w' => ∃ (k' a b r d g q f : Int) (o : Bool), e = .returned (.agg #[.int .i64 k', .int .i64 a, .int .i64 b, .int .i64 r, .int .i64 d, .int .i64 g, .int .i64 q, .int .i64 f, .bool o]) ∧ (-10 ≤ r ∧ r ≤ 10) ∧ (∃ j, j ≤ k + 11 ∧ Reads w' p n j) ∧ Fr p w w' := by
  go_enter Tryz.func15, Tryz.ntmps15
  go_wp2_with fail
  refine (cap_any p n k _ (reads_alloc h hp _) (by omega) (by simp; omega)).mono ?_
  rintro e W ⟨k1, a1, b1, r1, d1, g1, q1, f1, o1, rfl, hrt, ⟨j, hj, hr⟩, F⟩
  have HR := (Holds9.alloc w (.int .i64 0) (.int .i64 0) (.int .i64 0) (.int .i64 0) (.int .i64 0) (.int .i64 0) (.int .i64 0) (.int .i64 0) (.bool false) 24).fr F (by simp) (by omega)
  have fR : ∀ i, W.frozen? ⟨w.heap.size, i, none⟩ = false := fun i => by rw [F.frz _ _ (by simp)]; go_simp
  have FF := ((Fr.refl p w).alloc (by omega) (.cells #[.int .i64 0, .int .i64 0, .int .i64 0, .int .i64 0, .int .i64 0, .int .i64 0, .int .i64 0, .int .i64 0, .bool false] 24)).trans F
  have hs : w.heap.size < W.heap.size := by have := F.siz; simp at this; omega
  clear F
  obtain ⟨R, hR⟩ : ∃ R, R = w.heap.size := ⟨_, rfl⟩
  rw [← hR] at HR fR hs ⊢
  have hRs : w.heap.size ≤ R := by omega
  have hpR : p < R := by omega
  clear hR
  obtain ⟨z0, z1, z2, z3, z4, z5, z6, z7, z8⟩ := id HR
  go_wp2_with fail
  refine (pick_fr p n _ _ _ (reads_alloc hr (by omega) _) (by omega) (by omega) (by omega)).mono ?_
  rintro e W' ⟨x, rfl, hx, hr', F⟩
  have HC := (Holds9.alloc W (.int .i64 k1) (.int .i64 a1) (.int .i64 b1) (.int .i64 r1) (.int .i64 d1) (.int .i64 g1) (.int .i64 q1) (.int .i64 f1) (.bool o1) 24).fr F (by simp) (by omega)
  have HR' := (HR.allocs (by omega) _).fr F (by simp; omega) (by omega)
  have fC : ∀ i, W'.frozen? ⟨W.heap.size, i, none⟩ = false := fun i => by rw [F.frz _ _ (by simp)]; go_simp
  have fR' : ∀ i, W'.frozen? ⟨R, i, none⟩ = false := fun i => by rw [F.frz _ _ (by simp; omega), World.frozen?_alloc_past _ _ _ (by omega)]; exact fR i
  have FF' := (FF.alloc (by omega) _).trans F
  have hs' : W.heap.size < W'.heap.size := by have := F.siz; simp at this; omega
  clear z0 z1 z2 z3 z4 z5 z6 z7 z8
  obtain ⟨C, hC⟩ : ∃ C, C = W.heap.size := ⟨_, rfl⟩
  rw [← hC] at HC fC hs' ⊢
  have hCR : R < C := by omega
  clear HR fR FF hs hr F hC
  have HR := HR'; have fR := fR'; have FF := FF'; have hs := hs'; have hr := hr'; clear HR' fR' FF' hs' hr'; obtain ⟨W, hW⟩ : ∃ X, X = W' := ⟨_, rfl⟩; subst hW
  obtain ⟨c0, c1, c2, c3, c4, c5, c6, c7, c8⟩ := id HC
  obtain ⟨z0, z1, z2, z3, z4, z5, z6, z7, z8⟩ := id HR
  cases hq : (x == 0)
  · go_wp2_with fail
    refine bodyPost_ret (spec_l2Half_res rfl (HR.put _ _ _ _ _ _ _ _ _)) rfl ?_
    refine ⟨_, _, _, _, _, _, _, _, _, rfl, by omega, ⟨j + 1, by omega, ?hb⟩, ?hf⟩
    case hb =>
      repeat (refine reads_put ?_ (by omega) _ _)
      exact hr
    case hf =>
      repeat (refine Fr.set ?_ (by omega) (by omega) _ _)
      exact FF
  · go_wp2_with fail
    refine (spoil_any p n _ _ k1 a1 b1 r1 d1 g1 q1 f1 o1 hr (by omega) (by omega) hrt).mono ?_
    rintro e W' ⟨k2, a2, b2, r2, d2, g2, q2, f2, o2, rfl, hrt2, ⟨j2, hj2, hr'⟩, F⟩
    have HR' := HR.fr F (by omega) (by omega)
    have fR' : ∀ i, W'.frozen? ⟨R, i, none⟩ = false := fun i => by rw [F.frz _ _ (by omega)]; exact fR i
    have FF' := FF.trans F
    clear c0 c1 c2 c3 c4 c5 c6 c7 c8 z0 z1 z2 z3 z4 z5 z6 z7 z8
    clear HC fC HR fR FF hs hr F
    have HR := HR'; have fR := fR'; have FF := FF'; have hr := hr'; clear HR' fR' FF' hr'; obtain ⟨W, hW⟩ : ∃ X, X = W' := ⟨_, rfl⟩; subst hW
    obtain ⟨z0, z1, z2, z3, z4, z5, z6, z7, z8⟩ := id HR
    go_wp2_with fail
    refine bodyPost_ret (spec_l2Half_res rfl (HR.put _ _ _ _ _ _ _ _ _)) rfl ?_
    refine ⟨_, _, _, _, _, _, _, _, _, rfl, by omega, ⟨j2, by omega, ?hb⟩, ?hf⟩
    case hb =>
      repeat (refine reads_put ?_ (by omega) _ _)
      exact hr
    case hf =>
      repeat (refine Fr.set ?_ (by omega) (by omega) _ _)
      exact FF

end Go.Proofs.YthmambhagheocaaGreatDoor
