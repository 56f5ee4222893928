/-
  What is drawn beside a capability: rights to keep, and a capability that is spoilt in one field: nine fields, its rights small.
-/
import Derived.Test.YthmambhagheocaaGreatDoorFrame
import Derived.Test.YthmambhagheocaaGreatDoorKinds
import Derived.Deep.Cut
namespace Go.Proofs.YthmambhagheocaaGreatDoor
open Go.ChangeShapes Go.WideShapes Go.ChangeAt Go.RowKit
set_option linter.unusedVariables false

set_option maxHeartbeats 8000000 in
theorem spoil_any (p n k : Nat) (w : World) (k' a b r d g q f : Int) (o : Bool) (h : Reads w p n k) (hk : k ≤ 2900) (hp : p < w.heap.size) (hrt : -10 ≤ r ∧ r ≤ 10) :
    Calls Tryz.prog 47 #[.pointer (some ⟨p, 0, none⟩), .agg #[.int .i64 k', .int .i64 a, .int .i64 b, .int .i64 r, .int .i64 d, .int .i64 g, .int .i64 q, .int .i64 f, .bool o]] w fun e w' => ∃ (k' a b r d g q f : Int) (o : Bool), e = .returned (.agg #[.int .i64 k', .int .i64 a, .int .i64 b, .int .i64 r, .int .i64 d, .int .i64 g, .int .i64 q, .int .i64 f, .bool o]) ∧ (-10 ≤ r ∧ r ≤ 10) ∧ (∃ j, j ≤ k + 2 ∧ Reads w' p n j) ∧ Fr p w w' := by
  go_enter Tryz.func47, Tryz.ntmps47
  go_wp2_with fail
  have hs0 : w.heap.size < (w.alloc (.cells #[.int .i64 k', .int .i64 a, .int .i64 b, .int .i64 r, .int .i64 d, .int .i64 g, .int .i64 q, .int .i64 f, .bool o] 24)).heap.size := by simp
  refine (pick_fr p n k _ _ (reads_alloc (reads_alloc h hp _) (by omega) _) (by omega) (by omega) (by omega)).mono ?_
  rintro e W ⟨x, rfl, hx, hr, F⟩
  have HC := ((Holds9.alloc w (.int .i64 k') (.int .i64 a) (.int .i64 b) (.int .i64 r) (.int .i64 d) (.int .i64 g) (.int .i64 q) (.int .i64 f) (.bool o) 24).allocs (by simp) _).fr F (by simp; omega) (by omega)
  have HR := (Holds9.alloc (w.alloc (.cells #[.int .i64 k', .int .i64 a, .int .i64 b, .int .i64 r, .int .i64 d, .int .i64 g, .int .i64 q, .int .i64 f, .bool o] 24)) (.int .i64 0) (.int .i64 0) (.int .i64 0) (.int .i64 0) (.int .i64 0) (.int .i64 0) (.int .i64 0) (.int .i64 0) (.bool false) 24).fr F (by simp) (by simp; omega)
  have fC : ∀ i, W.frozen? ⟨w.heap.size, i, none⟩ = false := fun i => by rw [F.frz _ _ (by simp; omega)]; go_simp
  have fR : ∀ i, W.frozen? ⟨w.heap.size + 1, i, none⟩ = false := fun i => by rw [F.frz _ _ (by simp)]; go_simp
  have FF := (((Fr.refl p w).alloc (by omega) (.cells #[.int .i64 k', .int .i64 a, .int .i64 b, .int .i64 r, .int .i64 d, .int .i64 g, .int .i64 q, .int .i64 f, .bool o] 24)).alloc (by omega) (.cells #[.int .i64 0, .int .i64 0, .int .i64 0, .int .i64 0, .int .i64 0, .int .i64 0, .int .i64 0, .int .i64 0, .bool false] 24)).trans F
  have hs : w.heap.size + 1 < W.heap.size := by have := F.siz; simp at this; omega
  have HR' : Holds9 W (w.heap.size + 1) (.int .i64 0) (.int .i64 0) (.int .i64 0) (.int .i64 0) (.int .i64 0) (.int .i64 0) (.int .i64 0) (.int .i64 0) (.bool false) := by simpa using HR
  clear F HR
  obtain ⟨C, hC⟩ : ∃ C, C = w.heap.size := ⟨_, rfl⟩
  obtain ⟨R, hR⟩ : ∃ R, R = C + 1 := ⟨_, rfl⟩
  simp only [← hC] at HC HR' fC fR hs ⊢
  simp only [← hR] at HR' fR hs ⊢
  have HR := HR'
  have n4 : C ≠ R := by omega
  have hRs : w.heap.size ≤ R := by omega
  have hCs : w.heap.size ≤ C := by omega
  have hpR : p < R := by omega
  have hpC : p < C := by omega
  have hCR : C < R := by omega
  clear hC hR HR'
  have hx9 : x = 0 ∨ x = 1 ∨ x = 2 ∨ x = 3 ∨ x = 4 ∨ x = 5 ∨ x = 6 ∨ x = 7 ∨ x = 8 := by omega
  rcases hx9 with e | e | e | e | e | e | e | e | e <;> subst e
  · obtain ⟨c0, c1, c2, c3, c4, c5, c6, c7, c8⟩ := id HC
    obtain ⟨z0, z1, z2, z3, z4, z5, z6, z7, z8⟩ := id HR
    go_wp2_with fail
    refine (pick_fr p n _ _ _ hr (by omega) (by omega) (by omega)).mono ?_
    rintro e W' ⟨x1, rfl, hx1, hr', F⟩
    have HC' := HC.fr F (by omega) (by omega)
    have HR' := HR.fr F (by omega) (by omega)
    have fC' : ∀ i, W'.frozen? ⟨C, i, none⟩ = false := fun i => by rw [F.frz _ _ (by omega)]; exact fC i
    have fR' : ∀ i, W'.frozen? ⟨R, i, none⟩ = false := fun i => by rw [F.frz _ _ (by omega)]; exact fR i
    have FF' := FF.trans F
    have hs' : R < W'.heap.size := by have := F.siz; first | omega | (simp at this; omega)
    clear c0 c1 c2 c3 c4 c5 c6 c7 c8 z0 z1 z2 z3 z4 z5 z6 z7 z8
    clear HC HR fC fR FF hs hr F
    have HC := HC'; have HR := HR'; have fC := fC'; have fR := fR'; have FF := FF'; have hs := hs'; have hr := hr'; clear HC' HR' fC' fR' FF' hs' hr'; obtain ⟨W, hW⟩ : ∃ X, X = W' := ⟨_, rfl⟩; subst hW
    obtain ⟨c0, c1, c2, c3, c4, c5, c6, c7, c8⟩ := id HC
    obtain ⟨z0, z1, z2, z3, z4, z5, z6, z7, z8⟩ := id HR
    go_wp2_with fail
    refine bodyPost_ret (spec_l2Spoil_res rfl (((HR.other (C := C) 0 _ n4)).put _ _ _ _ _ _ _ _ _)) rfl ?_
    have HJ : ∃ j, j ≤ k + 2 ∧ Reads W p n j := ⟨_, by omega, hr⟩
    obtain ⟨j, hj, hrj⟩ := HJ
    refine ⟨_, _, _, _, _, _, _, _, _, rfl, by omega, ⟨j, hj, ?hb⟩, ?hf⟩
    case hb =>
      repeat (refine reads_put ?_ (by omega) _ _)
      exact hrj
    case hf =>
      repeat (refine Fr.set ?_ (by omega) (by omega) _ _)
      exact FF
  · obtain ⟨c0, c1, c2, c3, c4, c5, c6, c7, c8⟩ := id HC
    obtain ⟨z0, z1, z2, z3, z4, z5, z6, z7, z8⟩ := id HR
    go_wp2_with fail
    refine (num_fr p n _ _ _ _ (-4) (65536) _ (reads_alloc hr (by omega) _) (by omega) (by omega) (by omega) (by omega) (fun j hj => by have := made_cells W 3 [-4, 0, 1, 2, 130, 4092, 4096, 65536, 8192] (-4) (65536) (by intro z hz; simp at hz; omega) j (by simpa using hj); simpa using this)).mono ?_
    rintro e W' ⟨x1, rfl, hx1, hr', F⟩
    have HC' := (HC.allocs (by omega) _).fr F (by simp; omega) (by omega)
    have HR' := (HR.allocs (by omega) _).fr F (by simp; omega) (by omega)
    have fC' : ∀ i, W'.frozen? ⟨C, i, none⟩ = false := fun i => by rw [F.frz _ _ (by simp; omega), World.frozen?_alloc_past _ _ _ (by omega)]; exact fC i
    have fR' : ∀ i, W'.frozen? ⟨R, i, none⟩ = false := fun i => by rw [F.frz _ _ (by simp; omega), World.frozen?_alloc_past _ _ _ (by omega)]; exact fR i
    have FF' := (FF.alloc (by omega) _).trans F
    have hs' : R < W'.heap.size := by have := F.siz; first | omega | (simp at this; omega)
    clear c0 c1 c2 c3 c4 c5 c6 c7 c8 z0 z1 z2 z3 z4 z5 z6 z7 z8
    clear HC HR fC fR FF hs hr F
    have HC := HC'; have HR := HR'; have fC := fC'; have fR := fR'; have FF := FF'; have hs := hs'; have hr := hr'; clear HC' HR' fC' fR' FF' hs' hr'; obtain ⟨W, hW⟩ : ∃ X, X = W' := ⟨_, rfl⟩; subst hW
    obtain ⟨c0, c1, c2, c3, c4, c5, c6, c7, c8⟩ := id HC
    obtain ⟨z0, z1, z2, z3, z4, z5, z6, z7, z8⟩ := id HR
    go_wp2_with fail
    refine bodyPost_ret (spec_l2Spoil_res rfl (((HR.other (C := C) 1 _ n4)).put _ _ _ _ _ _ _ _ _)) rfl ?_
    have HJ : ∃ j, j ≤ k + 2 ∧ Reads W p n j := ⟨_, by omega, hr⟩
    obtain ⟨j, hj, hrj⟩ := HJ
    refine ⟨_, _, _, _, _, _, _, _, _, rfl, by omega, ⟨j, hj, ?hb⟩, ?hf⟩
    case hb =>
      repeat (refine reads_put ?_ (by omega) _ _)
      exact hrj
    case hf =>
      repeat (refine Fr.set ?_ (by omega) (by omega) _ _)
      exact FF
  · obtain ⟨c0, c1, c2, c3, c4, c5, c6, c7, c8⟩ := id HC
    obtain ⟨z0, z1, z2, z3, z4, z5, z6, z7, z8⟩ := id HR
    go_wp2_with fail
    refine (pick_fr p n _ _ _ hr (by omega) (by omega) (by omega)).mono ?_
    rintro e W' ⟨x1, rfl, hx1, hr', F⟩
    have HC' := HC.fr F (by omega) (by omega)
    have HR' := HR.fr F (by omega) (by omega)
    have fC' : ∀ i, W'.frozen? ⟨C, i, none⟩ = false := fun i => by rw [F.frz _ _ (by omega)]; exact fC i
    have fR' : ∀ i, W'.frozen? ⟨R, i, none⟩ = false := fun i => by rw [F.frz _ _ (by omega)]; exact fR i
    have FF' := FF.trans F
    have hs' : R < W'.heap.size := by have := F.siz; first | omega | (simp at this; omega)
    clear c0 c1 c2 c3 c4 c5 c6 c7 c8 z0 z1 z2 z3 z4 z5 z6 z7 z8
    clear HC HR fC fR FF hs hr F
    have HC := HC'; have HR := HR'; have fC := fC'; have fR := fR'; have FF := FF'; have hs := hs'; have hr := hr'; clear HC' HR' fC' fR' FF' hs' hr'; obtain ⟨W, hW⟩ : ∃ X, X = W' := ⟨_, rfl⟩; subst hW
    obtain ⟨c0, c1, c2, c3, c4, c5, c6, c7, c8⟩ := id HC
    obtain ⟨z0, z1, z2, z3, z4, z5, z6, z7, z8⟩ := id HR
    go_wp2_with fail
    refine bodyPost_ret (spec_l2Spoil_res rfl (((HR.other (C := C) 2 _ n4)).put _ _ _ _ _ _ _ _ _)) rfl ?_
    have HJ : ∃ j, j ≤ k + 2 ∧ Reads W p n j := ⟨_, by omega, hr⟩
    obtain ⟨j, hj, hrj⟩ := HJ
    refine ⟨_, _, _, _, _, _, _, _, _, rfl, by omega, ⟨j, hj, ?hb⟩, ?hf⟩
    case hb =>
      repeat (refine reads_put ?_ (by omega) _ _)
      exact hrj
    case hf =>
      repeat (refine Fr.set ?_ (by omega) (by omega) _ _)
      exact FF
  · obtain ⟨c0, c1, c2, c3, c4, c5, c6, c7, c8⟩ := id HC
    obtain ⟨z0, z1, z2, z3, z4, z5, z6, z7, z8⟩ := id HR
    go_wp2_with fail
    refine (num_fr p n _ _ _ _ (-1) (8) _ (reads_alloc hr (by omega) _) (by omega) (by omega) (by omega) (by omega) (fun j hj => by have := made_cells W 3 [-1, 0, 3, 4, 7, 8] (-1) (8) (by intro z hz; simp at hz; omega) j (by simpa using hj); simpa using this)).mono ?_
    rintro e W' ⟨x1, rfl, hx1, hr', F⟩
    have HC' := (HC.allocs (by omega) _).fr F (by simp; omega) (by omega)
    have HR' := (HR.allocs (by omega) _).fr F (by simp; omega) (by omega)
    have fC' : ∀ i, W'.frozen? ⟨C, i, none⟩ = false := fun i => by rw [F.frz _ _ (by simp; omega), World.frozen?_alloc_past _ _ _ (by omega)]; exact fC i
    have fR' : ∀ i, W'.frozen? ⟨R, i, none⟩ = false := fun i => by rw [F.frz _ _ (by simp; omega), World.frozen?_alloc_past _ _ _ (by omega)]; exact fR i
    have FF' := (FF.alloc (by omega) _).trans F
    have hs' : R < W'.heap.size := by have := F.siz; first | omega | (simp at this; omega)
    clear c0 c1 c2 c3 c4 c5 c6 c7 c8 z0 z1 z2 z3 z4 z5 z6 z7 z8
    clear HC HR fC fR FF hs hr F
    have HC := HC'; have HR := HR'; have fC := fC'; have fR := fR'; have FF := FF'; have hs := hs'; have hr := hr'; clear HC' HR' fC' fR' FF' hs' hr'; obtain ⟨W, hW⟩ : ∃ X, X = W' := ⟨_, rfl⟩; subst hW
    obtain ⟨c0, c1, c2, c3, c4, c5, c6, c7, c8⟩ := id HC
    obtain ⟨z0, z1, z2, z3, z4, z5, z6, z7, z8⟩ := id HR
    go_wp2_with fail
    refine bodyPost_ret (spec_l2Spoil_res rfl (((HR.other (C := C) 3 _ n4)).put _ _ _ _ _ _ _ _ _)) rfl ?_
    have HJ : ∃ j, j ≤ k + 2 ∧ Reads W p n j := ⟨_, by omega, hr⟩
    obtain ⟨j, hj, hrj⟩ := HJ
    refine ⟨_, _, _, _, _, _, _, _, _, rfl, by omega, ⟨j, hj, ?hb⟩, ?hf⟩
    case hb =>
      repeat (refine reads_put ?_ (by omega) _ _)
      exact hrj
    case hf =>
      repeat (refine Fr.set ?_ (by omega) (by omega) _ _)
      exact FF
  · obtain ⟨c0, c1, c2, c3, c4, c5, c6, c7, c8⟩ := id HC
    obtain ⟨z0, z1, z2, z3, z4, z5, z6, z7, z8⟩ := id HR
    go_wp2_with fail
    refine (num_fr p n _ _ _ _ (-1) (65536) _ (reads_alloc hr (by omega) _) (by omega) (by omega) (by omega) (by omega) (fun j hj => by have := made_cells W 3 [-1, 0, 1, 65535, 65536] (-1) (65536) (by intro z hz; simp at hz; omega) j (by simpa using hj); simpa using this)).mono ?_
    rintro e W' ⟨x1, rfl, hx1, hr', F⟩
    have HC' := (HC.allocs (by omega) _).fr F (by simp; omega) (by omega)
    have HR' := (HR.allocs (by omega) _).fr F (by simp; omega) (by omega)
    have fC' : ∀ i, W'.frozen? ⟨C, i, none⟩ = false := fun i => by rw [F.frz _ _ (by simp; omega), World.frozen?_alloc_past _ _ _ (by omega)]; exact fC i
    have fR' : ∀ i, W'.frozen? ⟨R, i, none⟩ = false := fun i => by rw [F.frz _ _ (by simp; omega), World.frozen?_alloc_past _ _ _ (by omega)]; exact fR i
    have FF' := (FF.alloc (by omega) _).trans F
    have hs' : R < W'.heap.size := by have := F.siz; first | omega | (simp at this; omega)
    clear c0 c1 c2 c3 c4 c5 c6 c7 c8 z0 z1 z2 z3 z4 z5 z6 z7 z8
    clear HC HR fC fR FF hs hr F
    have HC := HC'; have HR := HR'; have fC := fC'; have fR := fR'; have FF := FF'; have hs := hs'; have hr := hr'; clear HC' HR' fC' fR' FF' hs' hr'; obtain ⟨W, hW⟩ : ∃ X, X = W' := ⟨_, rfl⟩; subst hW
    obtain ⟨c0, c1, c2, c3, c4, c5, c6, c7, c8⟩ := id HC
    obtain ⟨z0, z1, z2, z3, z4, z5, z6, z7, z8⟩ := id HR
    go_wp2_with fail
    refine bodyPost_ret (spec_l2Spoil_res rfl (((HR.other (C := C) 4 _ n4)).put _ _ _ _ _ _ _ _ _)) rfl ?_
    have HJ : ∃ j, j ≤ k + 2 ∧ Reads W p n j := ⟨_, by omega, hr⟩
    obtain ⟨j, hj, hrj⟩ := HJ
    refine ⟨_, _, _, _, _, _, _, _, _, rfl, by omega, ⟨j, hj, ?hb⟩, ?hf⟩
    case hb =>
      repeat (refine reads_put ?_ (by omega) _ _)
      exact hrj
    case hf =>
      repeat (refine Fr.set ?_ (by omega) (by omega) _ _)
      exact FF
  · obtain ⟨c0, c1, c2, c3, c4, c5, c6, c7, c8⟩ := id HC
    obtain ⟨z0, z1, z2, z3, z4, z5, z6, z7, z8⟩ := id HR
    go_wp2_with fail
    refine (num_fr p n _ _ _ _ (-1) (256) _ (reads_alloc hr (by omega) _) (by omega) (by omega) (by omega) (by omega) (fun j hj => by have := made_cells W 3 [-1, 0, 1, 255, 256] (-1) (256) (by intro z hz; simp at hz; omega) j (by simpa using hj); simpa using this)).mono ?_
    rintro e W' ⟨x1, rfl, hx1, hr', F⟩
    have HC' := (HC.allocs (by omega) _).fr F (by simp; omega) (by omega)
    have HR' := (HR.allocs (by omega) _).fr F (by simp; omega) (by omega)
    have fC' : ∀ i, W'.frozen? ⟨C, i, none⟩ = false := fun i => by rw [F.frz _ _ (by simp; omega), World.frozen?_alloc_past _ _ _ (by omega)]; exact fC i
    have fR' : ∀ i, W'.frozen? ⟨R, i, none⟩ = false := fun i => by rw [F.frz _ _ (by simp; omega), World.frozen?_alloc_past _ _ _ (by omega)]; exact fR i
    have FF' := (FF.alloc (by omega) _).trans F
    have hs' : R < W'.heap.size := by have := F.siz; first | omega | (simp at this; omega)
    clear c0 c1 c2 c3 c4 c5 c6 c7 c8 z0 z1 z2 z3 z4 z5 z6 z7 z8
    clear HC HR fC fR FF hs hr F
    have HC := HC'; have HR := HR'; have fC := fC'; have fR := fR'; have FF := FF'; have hs := hs'; have hr := hr'; clear HC' HR' fC' fR' FF' hs' hr'; obtain ⟨W, hW⟩ : ∃ X, X = W' := ⟨_, rfl⟩; subst hW
    obtain ⟨c0, c1, c2, c3, c4, c5, c6, c7, c8⟩ := id HC
    obtain ⟨z0, z1, z2, z3, z4, z5, z6, z7, z8⟩ := id HR
    go_wp2_with fail
    refine bodyPost_ret (spec_l2Spoil_res rfl (((HR.other (C := C) 5 _ n4)).put _ _ _ _ _ _ _ _ _)) rfl ?_
    have HJ : ∃ j, j ≤ k + 2 ∧ Reads W p n j := ⟨_, by omega, hr⟩
    obtain ⟨j, hj, hrj⟩ := HJ
    refine ⟨_, _, _, _, _, _, _, _, _, rfl, by omega, ⟨j, hj, ?hb⟩, ?hf⟩
    case hb =>
      repeat (refine reads_put ?_ (by omega) _ _)
      exact hrj
    case hf =>
      repeat (refine Fr.set ?_ (by omega) (by omega) _ _)
      exact FF
  · obtain ⟨c0, c1, c2, c3, c4, c5, c6, c7, c8⟩ := id HC
    obtain ⟨z0, z1, z2, z3, z4, z5, z6, z7, z8⟩ := id HR
    go_wp2_with fail
    refine (num_fr p n _ _ _ _ (-1) (9) _ (reads_alloc hr (by omega) _) (by omega) (by omega) (by omega) (by omega) (fun j hj => by have := made_cells W 3 [-1, 0, 1, 8, 9] (-1) (9) (by intro z hz; simp at hz; omega) j (by simpa using hj); simpa using this)).mono ?_
    rintro e W' ⟨x1, rfl, hx1, hr', F⟩
    have HC' := (HC.allocs (by omega) _).fr F (by simp; omega) (by omega)
    have HR' := (HR.allocs (by omega) _).fr F (by simp; omega) (by omega)
    have fC' : ∀ i, W'.frozen? ⟨C, i, none⟩ = false := fun i => by rw [F.frz _ _ (by simp; omega), World.frozen?_alloc_past _ _ _ (by omega)]; exact fC i
    have fR' : ∀ i, W'.frozen? ⟨R, i, none⟩ = false := fun i => by rw [F.frz _ _ (by simp; omega), World.frozen?_alloc_past _ _ _ (by omega)]; exact fR i
    have FF' := (FF.alloc (by omega) _).trans F
    have hs' : R < W'.heap.size := by have := F.siz; first | omega | (simp at this; omega)
    clear c0 c1 c2 c3 c4 c5 c6 c7 c8 z0 z1 z2 z3 z4 z5 z6 z7 z8
    clear HC HR fC fR FF hs hr F
    have HC := HC'; have HR := HR'; have fC := fC'; have fR := fR'; have FF := FF'; have hs := hs'; have hr := hr'; clear HC' HR' fC' fR' FF' hs' hr'; obtain ⟨W, hW⟩ : ∃ X, X = W' := ⟨_, rfl⟩; subst hW
    obtain ⟨c0, c1, c2, c3, c4, c5, c6, c7, c8⟩ := id HC
    obtain ⟨z0, z1, z2, z3, z4, z5, z6, z7, z8⟩ := id HR
    go_wp2_with fail
    refine bodyPost_ret (spec_l2Spoil_res rfl (((HR.other (C := C) 6 _ n4)).put _ _ _ _ _ _ _ _ _)) rfl ?_
    have HJ : ∃ j, j ≤ k + 2 ∧ Reads W p n j := ⟨_, by omega, hr⟩
    obtain ⟨j, hj, hrj⟩ := HJ
    refine ⟨_, _, _, _, _, _, _, _, _, rfl, by omega, ⟨j, hj, ?hb⟩, ?hf⟩
    case hb =>
      repeat (refine reads_put ?_ (by omega) _ _)
      exact hrj
    case hf =>
      repeat (refine Fr.set ?_ (by omega) (by omega) _ _)
      exact FF
  · obtain ⟨c0, c1, c2, c3, c4, c5, c6, c7, c8⟩ := id HC
    obtain ⟨z0, z1, z2, z3, z4, z5, z6, z7, z8⟩ := id HR
    go_wp2_with fail
    refine (num_fr p n _ _ _ _ (-1) (65536) _ (reads_alloc hr (by omega) _) (by omega) (by omega) (by omega) (by omega) (fun j hj => by have := made_cells W 3 [-1, 0, 1, 64, 2048, 65536] (-1) (65536) (by intro z hz; simp at hz; omega) j (by simpa using hj); simpa using this)).mono ?_
    rintro e W' ⟨x1, rfl, hx1, hr', F⟩
    have HC' := (HC.allocs (by omega) _).fr F (by simp; omega) (by omega)
    have HR' := (HR.allocs (by omega) _).fr F (by simp; omega) (by omega)
    have fC' : ∀ i, W'.frozen? ⟨C, i, none⟩ = false := fun i => by rw [F.frz _ _ (by simp; omega), World.frozen?_alloc_past _ _ _ (by omega)]; exact fC i
    have fR' : ∀ i, W'.frozen? ⟨R, i, none⟩ = false := fun i => by rw [F.frz _ _ (by simp; omega), World.frozen?_alloc_past _ _ _ (by omega)]; exact fR i
    have FF' := (FF.alloc (by omega) _).trans F
    have hs' : R < W'.heap.size := by have := F.siz; first | omega | (simp at this; omega)
    clear c0 c1 c2 c3 c4 c5 c6 c7 c8 z0 z1 z2 z3 z4 z5 z6 z7 z8
    clear HC HR fC fR FF hs hr F
    have HC := HC'; have HR := HR'; have fC := fC'; have fR := fR'; have FF := FF'; have hs := hs'; have hr := hr'; clear HC' HR' fC' fR' FF' hs' hr'; obtain ⟨W, hW⟩ : ∃ X, X = W' := ⟨_, rfl⟩; subst hW
    obtain ⟨c0, c1, c2, c3, c4, c5, c6, c7, c8⟩ := id HC
    obtain ⟨z0, z1, z2, z3, z4, z5, z6, z7, z8⟩ := id HR
    go_wp2_with fail
    refine bodyPost_ret (spec_l2Spoil_res rfl (((HR.other (C := C) 7 _ n4)).put _ _ _ _ _ _ _ _ _)) rfl ?_
    have HJ : ∃ j, j ≤ k + 2 ∧ Reads W p n j := ⟨_, by omega, hr⟩
    obtain ⟨j, hj, hrj⟩ := HJ
    refine ⟨_, _, _, _, _, _, _, _, _, rfl, by omega, ⟨j, hj, ?hb⟩, ?hf⟩
    case hb =>
      repeat (refine reads_put ?_ (by omega) _ _)
      exact hrj
    case hf =>
      repeat (refine Fr.set ?_ (by omega) (by omega) _ _)
      exact FF
  · obtain ⟨c0, c1, c2, c3, c4, c5, c6, c7, c8⟩ := id HC
    obtain ⟨z0, z1, z2, z3, z4, z5, z6, z7, z8⟩ := id HR
    go_wp2_with fail
    refine bodyPost_ret (spec_l2Spoil_res rfl (((HR.other (C := C) 8 _ n4)).put _ _ _ _ _ _ _ _ _)) rfl ?_
    have HJ : ∃ j, j ≤ k + 2 ∧ Reads W p n j := ⟨_, by omega, hr⟩
    obtain ⟨j, hj, hrj⟩ := HJ
    refine ⟨_, _, _, _, _, _, _, _, _, rfl, by omega, ⟨j, hj, ?hb⟩, ?hf⟩
    case hb =>
      repeat (refine reads_put ?_ (by omega) _ _)
      exact hrj
    case hf =>
      repeat (refine Fr.set ?_ (by omega) (by omega) _ _)
      exact FF

end Go.Proofs.YthmambhagheocaaGreatDoor
