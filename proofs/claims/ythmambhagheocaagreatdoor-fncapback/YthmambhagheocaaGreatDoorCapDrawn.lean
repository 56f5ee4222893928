/-
  What the drawing of a capability answers: some capability, its rights small; the reader has read some bytes more; of what was there nothing else turns.
-/
import Derived.Test.YthmambhagheocaaGreatDoorFrame
import Derived.Test.YthmambhagheocaaGreatDoorKinds
import Derived.Deep.Cut
namespace Go.Proofs.YthmambhagheocaaGreatDoor
open Go.ChangeShapes Go.WideShapes Go.ChangeAt Go.RowKit
set_option linter.unusedVariables false

theorem sizeI_bd2 (b : Int) : 0 ≤ sizeI b ∧ sizeI b ≤ 4096 := by
  unfold sizeI
  by_cases h : 0 ≤ b ∧ b ≤ 12
  · have := pow_le12 b.toNat (by omega)
    rw [if_pos h]; omega
  · rw [if_neg h]; omega

theorem sizeI_3 {q : Int} (h0 : 0 ≤ q) (h1 : q < 4) : 1 ≤ sizeI q ∧ sizeI q ≤ 8 := by
  have : q = 0 ∨ q = 1 ∨ q = 2 ∨ q = 3 := by omega
  rcases this with e | e | e | e <;> subst e <;> decide

set_option maxHeartbeats 8000000 in
theorem cap_any (p n k : Nat) (w : World) (h : Reads w p n k) (hk : k ≤ 2900) (hp : p < w.heap.size) :
    Calls Tryz.prog 31 #[.pointer (some ⟨p, 0, none⟩)] w fun e w' => ∃ (k' a b r d g q f : Int) (o : Bool), e = .returned (.agg #[.int .i64 k', .int .i64 a, .int .i64 b, .int .i64 r, .int .i64 d, .int .i64 g, .int .i64 q, .int .i64 f, .bool o]) ∧ (-10 ≤ r ∧ r ≤ 10) ∧ (∃ j, j ≤ k + 8 ∧ Reads w' p n j) ∧ Fr p w w' := by
  go_enter Tryz.func31, Tryz.ntmps31
  go_wp2_with fail
  refine (pick_fr p n k _ _ (reads_alloc h hp _) (by omega) (by omega) (by omega)).mono ?_
  rintro e w1 ⟨x, rfl, hx, hr1, F1⟩
  go_wp2_with fail
  refine (pick_fr p n (k + 1) _ _ hr1 (by omega) (by omega) (by omega)).mono ?_
  rintro e w2 ⟨y, rfl, hy, hr2, F2⟩
  go_upto_region 2 with fail
  have FW := F1.trans F2
  have hsz : w.heap.size < w2.heap.size := by have := FW.siz; simp at this; omega
  have HR0 := (Holds9.alloc w (.int .i64 0) (.int .i64 0) (.int .i64 0) (.int .i64 0) (.int .i64 0) (.int .i64 0) (.int .i64 0) (.int .i64 0) (.bool false) 24).fr FW (by simp) (by omega)
  have fR0 : ∀ i, w2.frozen? ⟨w.heap.size, i, none⟩ = false := fun i => by rw [FW.frz _ _ (by simp)]; go_simp
  have G := fresh9 (.int .i64 (1 + x)) (.int .i64 0) (.int .i64 0) (.int .i64 0) (.int .i64 0) (.int .i64 0) (.int .i64 0) (.int .i64 0) (.bool (y == 0)) 24 HR0 HR0 hsz hsz fR0 fR0
  have FF := (((Fr.refl p w).alloc (by omega) (.cells #[.int .i64 0, .int .i64 0, .int .i64 0, .int .i64 0, .int .i64 0, .int .i64 0, .int .i64 0, .int .i64 0, .bool false] 24)).trans FW).alloc (by omega) (.cells #[.int .i64 (1 + x), .int .i64 0, .int .i64 0, .int .i64 0, .int .i64 0, .int .i64 0, .int .i64 0, .int .i64 0, .bool (y == 0)] 24)
  have hr := reads_alloc hr2 (by omega) (.cells #[.int .i64 (1 + x), .int .i64 0, .int .i64 0, .int .i64 0, .int .i64 0, .int .i64 0, .int .i64 0, .int .i64 0, .bool (y == 0)] 24)
  clear hr1 hr2 F1 F2 FW HR0 fR0
  generalize w2.alloc (.cells #[.int .i64 (1 + x), .int .i64 0, .int .i64 0, .int .i64 0, .int .i64 0, .int .i64 0, .int .i64 0, .int .i64 0, .bool (y == 0)] 24) = W at G FF hr ⊢
  generalize w2.heap.size = C at G hsz ⊢
  obtain ⟨R, hR⟩ : ∃ R, R = w.heap.size := ⟨_, rfl⟩
  rw [← hR] at G ⊢
  obtain ⟨HC, _, HR, fC, _, fR, n1, n2, n3, n4, hs⟩ := G
  have hx7 : x = 0 ∨ x = 1 ∨ x = 2 ∨ x = 3 ∨ x = 4 ∨ x = 5 ∨ x = 6 := by omega
  have hRs : w.heap.size ≤ R := by omega
  have hpR : p < R := by omega
  have hpC : p < C := by omega
  have hCR : R < C := by omega
  clear hR
  rcases hx7 with e | e | e | e | e | e | e <;> subst e
  · obtain ⟨c0, c1, c2, c3, c4, c5, c6, c7, c8⟩ := id HC
    obtain ⟨z0, z1, z2, z3, z4, z5, z6, z7, z8⟩ := id HR
    go_wp2_with (first | (go_at_call 54; refine (sizeSpec_any _ _).mono ?_; rintro e wx ⟨rfl, hwx⟩; rw [hwx]; clear hwx wx) | (go_at_call 28; refine (sizeSpecKind_any _ _ _).mono ?_; rintro e wx ⟨rfl, hwx⟩; rw [hwx]; clear hwx wx) | (go_at_call 56; refine (upSpec_any _ _ _).mono ?_; rintro e wx ⟨rfl, hwx⟩; rw [hwx]; clear hwx wx))
    refine (pick_fr p n _ _ _ hr (by omega) (by omega) (by omega)).mono ?_
    rintro e W' ⟨x1, rfl, hx1, hr', F⟩
    have HC' := HC.fr F (by omega) (by omega)
    have HR' := HR.fr F (by omega) (by omega)
    have fC' : ∀ i, W'.frozen? ⟨C, i, none⟩ = false := fun i => by rw [F.frz _ _ (by omega)]; first | exact fC i | (go_simp; exact fC i) | (simp; exact fC i) | (rw [World.frozen?_alloc_past _ _ _ (by simp; omega)]; first | exact fC i | (go_simp; done) | (go_simp; exact fC i))
    have fR' : ∀ i, W'.frozen? ⟨R, i, none⟩ = false := fun i => by rw [F.frz _ _ (by omega)]; first | exact fR i | (go_simp; exact fR i) | (simp; exact fR i) | (rw [World.frozen?_alloc_past _ _ _ (by simp; omega)]; first | exact fR i | (go_simp; done) | (go_simp; exact fR i))
    have FF' := FF.trans F
    have hs' : C < W'.heap.size := by have := F.siz; first | omega | (simp at this; omega)
    clear c0 c1 c2 c3 c4 c5 c6 c7 c8 z0 z1 z2 z3 z4 z5 z6 z7 z8
    clear HC HR fC fR FF hs hr F
    have HC := HC'; have HR := HR'; have fC := fC'; have fR := fR'; have FF := FF'; have hs := hs'; have hr := hr'; clear HC' HR' fC' fR' FF' hs' hr'; obtain ⟨W, hW⟩ : ∃ X, X = W' := ⟨_, rfl⟩; subst hW
    obtain ⟨c0, c1, c2, c3, c4, c5, c6, c7, c8⟩ := id HC
    obtain ⟨z0, z1, z2, z3, z4, z5, z6, z7, z8⟩ := id HR
    have hsb := sizeI_bd2 (2 + x1)
    go_wp2_with (first | (go_at_call 54; refine (sizeSpec_any _ _).mono ?_; rintro e wx ⟨rfl, hwx⟩; rw [hwx]; clear hwx wx) | (go_at_call 28; refine (sizeSpecKind_any _ _ _).mono ?_; rintro e wx ⟨rfl, hwx⟩; rw [hwx]; clear hwx wx) | (go_at_call 56; refine (upSpec_any _ _ _).mono ?_; rintro e wx ⟨rfl, hwx⟩; rw [hwx]; clear hwx wx))
    refine (num_fr p n _ _ _ _ (0) (4096) _ (reads_alloc (reads_put (reads_put hr (C := C) (by omega) 2 (.int .i64 (2 + x1))) (C := C) (by omega) 8 (.bool true)) (by simp; omega) _) (by omega) (by omega) (by omega) (by omega) (fun j hj => by have := made_cells ((W.setCell ⟨C, 2, none⟩ (.int .i64 (2 + x1))).setCell ⟨C, 8, none⟩ (.bool true)) 3 [0, 0, 4, sizeI (2 + x1)] (0) (4096) (by intro z hz; simp at hz; omega) j (by simpa using hj); simpa using this)).mono ?_
    rintro e W' ⟨x2, rfl, hx2, hr', F⟩
    have HC' := (((HC.putOne2 (.int .i64 (2 + x1))).putOne8 (.bool true)).allocs (by simp; omega) _).fr F (by simp; omega) (by omega)
    have HR' := (((HR.other (C := C) 2 (.int .i64 (2 + x1)) n4).other (C := C) 8 (.bool true) n4).allocs (by simp; omega) _).fr F (by simp; omega) (by omega)
    have fC' : ∀ i, W'.frozen? ⟨C, i, none⟩ = false := fun i => by rw [F.frz _ _ (by simp; omega)]; first | exact fC i | (go_simp; exact fC i) | (simp; exact fC i) | (rw [World.frozen?_alloc_past _ _ _ (by simp; omega)]; first | exact fC i | (go_simp; done) | (go_simp; exact fC i))
    have fR' : ∀ i, W'.frozen? ⟨R, i, none⟩ = false := fun i => by rw [F.frz _ _ (by simp; omega)]; first | exact fR i | (go_simp; exact fR i) | (simp; exact fR i) | (rw [World.frozen?_alloc_past _ _ _ (by simp; omega)]; first | exact fR i | (go_simp; done) | (go_simp; exact fR i))
    have FF' := (((FF.set (C := C) (by omega) (by omega) 2 (.int .i64 (2 + x1))).set (C := C) (by omega) (by omega) 8 (.bool true)).alloc (by simp; omega) _).trans F
    have hs' : C < W'.heap.size := by have := F.siz; first | omega | (simp at this; omega)
    clear c0 c1 c2 c3 c4 c5 c6 c7 c8 z0 z1 z2 z3 z4 z5 z6 z7 z8
    clear HC HR fC fR FF hs hr F
    have HC := HC'; have HR := HR'; have fC := fC'; have fR := fR'; have FF := FF'; have hs := hs'; have hr := hr'; clear HC' HR' fC' fR' FF' hs' hr'; obtain ⟨W, hW⟩ : ∃ X, X = W' := ⟨_, rfl⟩; subst hW
    obtain ⟨c0, c1, c2, c3, c4, c5, c6, c7, c8⟩ := id HC
    obtain ⟨z0, z1, z2, z3, z4, z5, z6, z7, z8⟩ := id HR
    cases hq : (szI 1 (2 + x1) == 0)
    all_goals
      go_wp2_with (first | (go_at_call 54; refine (sizeSpec_any _ _).mono ?_; rintro e wx ⟨rfl, hwx⟩; rw [hwx]; clear hwx wx) | (go_at_call 28; refine (sizeSpecKind_any _ _ _).mono ?_; rintro e wx ⟨rfl, hwx⟩; rw [hwx]; clear hwx wx) | (go_at_call 56; refine (upSpec_any _ _ _).mono ?_; rintro e wx ⟨rfl, hwx⟩; rw [hwx]; clear hwx wx))
      refine (pick_fr p n _ _ _ (reads_put hr (C := C) (by omega) 7 (.int .i64 x2)) (by omega) (by omega) (by omega)).mono ?_
      rintro e W' ⟨x9, rfl, hx9, hr', F⟩
      have HC' := (HC.putOne7 (.int .i64 x2)).fr F (by simp; omega) (by omega)
      have HR' := (HR.other (C := C) 7 (.int .i64 x2) n4).fr F (by simp; omega) (by omega)
      have fC' : ∀ i, W'.frozen? ⟨C, i, none⟩ = false := fun i => by rw [F.frz _ _ (by simp; omega)]; first | exact fC i | (go_simp; exact fC i) | (simp; exact fC i) | (rw [World.frozen?_alloc_past _ _ _ (by simp; omega)]; first | exact fC i | (go_simp; done) | (go_simp; exact fC i))
      have fR' : ∀ i, W'.frozen? ⟨R, i, none⟩ = false := fun i => by rw [F.frz _ _ (by simp; omega)]; first | exact fR i | (go_simp; exact fR i) | (simp; exact fR i) | (rw [World.frozen?_alloc_past _ _ _ (by simp; omega)]; first | exact fR i | (go_simp; done) | (go_simp; exact fR i))
      have FF' := (FF.set (C := C) (by omega) (by omega) 7 (.int .i64 x2)).trans F
      have hs' : C < W'.heap.size := by have := F.siz; first | omega | (simp at this; omega)
      clear c0 c1 c2 c3 c4 c5 c6 c7 c8 z0 z1 z2 z3 z4 z5 z6 z7 z8
      clear HC HR fC fR FF hs hr F
      have HC := HC'; have HR := HR'; have fC := fC'; have fR := fR'; have FF := FF'; have hs := hs'; have hr := hr'; clear HC' HR' fC' fR' FF' hs' hr'; obtain ⟨W, hW⟩ : ∃ X, X = W' := ⟨_, rfl⟩; subst hW
      obtain ⟨c0, c1, c2, c3, c4, c5, c6, c7, c8⟩ := id HC
      obtain ⟨z0, z1, z2, z3, z4, z5, z6, z7, z8⟩ := id HR
      go_wp2_with (first | (go_at_call 54; refine (sizeSpec_any _ _).mono ?_; rintro e wx ⟨rfl, hwx⟩; rw [hwx]; clear hwx wx) | (go_at_call 28; refine (sizeSpecKind_any _ _ _).mono ?_; rintro e wx ⟨rfl, hwx⟩; rw [hwx]; clear hwx wx) | (go_at_call 56; refine (upSpec_any _ _ _).mono ?_; rintro e wx ⟨rfl, hwx⟩; rw [hwx]; clear hwx wx))
      refine bodyPost_ret (spec_l2Cap_res rfl (((HR.other (C := C) 1 _ n4)).put _ _ _ _ _ _ _ _ _)) rfl ?_
      have HJ : ∃ j, j ≤ k + 8 ∧ Reads W p n j := ⟨_, by omega, hr⟩
      obtain ⟨j, hj, hrj⟩ := HJ
      refine ⟨_, _, _, _, _, _, _, _, _, rfl, by omega, ⟨j, hj, ?hb⟩, ?hf⟩
      case hb =>
        repeat (refine reads_put ?_ (by omega) _ _)
        exact hrj
      case hf =>
        repeat (refine Fr.set ?_ (by omega) (by omega) _ _)
        exact FF
  · obtain ⟨c0, c1, c2, c3, c4, c5, c6, c7, c8⟩ := id HC
    obtain ⟨z0, z1, z2, z3, z4, z5, z6, z7, z8⟩ := id HR
    go_wp2_with (first | (go_at_call 54; refine (sizeSpec_any _ _).mono ?_; rintro e wx ⟨rfl, hwx⟩; rw [hwx]; clear hwx wx) | (go_at_call 28; refine (sizeSpecKind_any _ _ _).mono ?_; rintro e wx ⟨rfl, hwx⟩; rw [hwx]; clear hwx wx) | (go_at_call 56; refine (upSpec_any _ _ _).mono ?_; rintro e wx ⟨rfl, hwx⟩; rw [hwx]; clear hwx wx))
    refine (pick_fr p n _ _ _ hr (by omega) (by omega) (by omega)).mono ?_
    rintro e W' ⟨x1, rfl, hx1, hr', F⟩
    have HC' := HC.fr F (by omega) (by omega)
    have HR' := HR.fr F (by omega) (by omega)
    have fC' : ∀ i, W'.frozen? ⟨C, i, none⟩ = false := fun i => by rw [F.frz _ _ (by omega)]; first | exact fC i | (go_simp; exact fC i) | (simp; exact fC i) | (rw [World.frozen?_alloc_past _ _ _ (by simp; omega)]; first | exact fC i | (go_simp; done) | (go_simp; exact fC i))
    have fR' : ∀ i, W'.frozen? ⟨R, i, none⟩ = false := fun i => by rw [F.frz _ _ (by omega)]; first | exact fR i | (go_simp; exact fR i) | (simp; exact fR i) | (rw [World.frozen?_alloc_past _ _ _ (by simp; omega)]; first | exact fR i | (go_simp; done) | (go_simp; exact fR i))
    have FF' := FF.trans F
    have hs' : C < W'.heap.size := by have := F.siz; first | omega | (simp at this; omega)
    clear c0 c1 c2 c3 c4 c5 c6 c7 c8 z0 z1 z2 z3 z4 z5 z6 z7 z8
    clear HC HR fC fR FF hs hr F
    have HC := HC'; have HR := HR'; have fC := fC'; have fR := fR'; have FF := FF'; have hs := hs'; have hr := hr'; clear HC' HR' fC' fR' FF' hs' hr'; obtain ⟨W, hW⟩ : ∃ X, X = W' := ⟨_, rfl⟩; subst hW
    obtain ⟨c0, c1, c2, c3, c4, c5, c6, c7, c8⟩ := id HC
    obtain ⟨z0, z1, z2, z3, z4, z5, z6, z7, z8⟩ := id HR
    go_wp2_with (first | (go_at_call 54; refine (sizeSpec_any _ _).mono ?_; rintro e wx ⟨rfl, hwx⟩; rw [hwx]; clear hwx wx) | (go_at_call 28; refine (sizeSpecKind_any _ _ _).mono ?_; rintro e wx ⟨rfl, hwx⟩; rw [hwx]; clear hwx wx) | (go_at_call 56; refine (upSpec_any _ _ _).mono ?_; rintro e wx ⟨rfl, hwx⟩; rw [hwx]; clear hwx wx))
    refine (pick_fr p n _ _ _ (reads_put hr (C := C) (by omega) 2 (.int .i64 (1 + x1))) (by omega) (by omega) (by omega)).mono ?_
    rintro e W' ⟨x2, rfl, hx2, hr', F⟩
    have HC' := (HC.putOne2 (.int .i64 (1 + x1))).fr F (by simp; omega) (by omega)
    have HR' := (HR.other (C := C) 2 (.int .i64 (1 + x1)) n4).fr F (by simp; omega) (by omega)
    have fC' : ∀ i, W'.frozen? ⟨C, i, none⟩ = false := fun i => by rw [F.frz _ _ (by simp; omega)]; first | exact fC i | (go_simp; exact fC i) | (simp; exact fC i) | (rw [World.frozen?_alloc_past _ _ _ (by simp; omega)]; first | exact fC i | (go_simp; done) | (go_simp; exact fC i))
    have fR' : ∀ i, W'.frozen? ⟨R, i, none⟩ = false := fun i => by rw [F.frz _ _ (by simp; omega)]; first | exact fR i | (go_simp; exact fR i) | (simp; exact fR i) | (rw [World.frozen?_alloc_past _ _ _ (by simp; omega)]; first | exact fR i | (go_simp; done) | (go_simp; exact fR i))
    have FF' := (FF.set (C := C) (by omega) (by omega) 2 (.int .i64 (1 + x1))).trans F
    have hs' : C < W'.heap.size := by have := F.siz; first | omega | (simp at this; omega)
    clear c0 c1 c2 c3 c4 c5 c6 c7 c8 z0 z1 z2 z3 z4 z5 z6 z7 z8
    clear HC HR fC fR FF hs hr F
    have HC := HC'; have HR := HR'; have fC := fC'; have fR := fR'; have FF := FF'; have hs := hs'; have hr := hr'; clear HC' HR' fC' fR' FF' hs' hr'; obtain ⟨W, hW⟩ : ∃ X, X = W' := ⟨_, rfl⟩; subst hW
    obtain ⟨c0, c1, c2, c3, c4, c5, c6, c7, c8⟩ := id HC
    obtain ⟨z0, z1, z2, z3, z4, z5, z6, z7, z8⟩ := id HR
    go_wp2_with (first | (go_at_call 54; refine (sizeSpec_any _ _).mono ?_; rintro e wx ⟨rfl, hwx⟩; rw [hwx]; clear hwx wx) | (go_at_call 28; refine (sizeSpecKind_any _ _ _).mono ?_; rintro e wx ⟨rfl, hwx⟩; rw [hwx]; clear hwx wx) | (go_at_call 56; refine (upSpec_any _ _ _).mono ?_; rintro e wx ⟨rfl, hwx⟩; rw [hwx]; clear hwx wx))
    refine (pick_fr p n _ _ _ (reads_put hr (C := C) (by omega) 6 (.int .i64 x2)) (by omega) (sizeI_3 hx2.1 hx2.2).1 (by have := (sizeI_3 hx2.1 hx2.2).2; omega)).mono ?_
    rintro e W' ⟨x3, rfl, hx3, hr', F⟩
    have HC' := (HC.putOne6 (.int .i64 x2)).fr F (by simp; omega) (by omega)
    have HR' := (HR.other (C := C) 6 (.int .i64 x2) n4).fr F (by simp; omega) (by omega)
    have fC' : ∀ i, W'.frozen? ⟨C, i, none⟩ = false := fun i => by rw [F.frz _ _ (by simp; omega)]; first | exact fC i | (go_simp; exact fC i) | (simp; exact fC i) | (rw [World.frozen?_alloc_past _ _ _ (by simp; omega)]; first | exact fC i | (go_simp; done) | (go_simp; exact fC i))
    have fR' : ∀ i, W'.frozen? ⟨R, i, none⟩ = false := fun i => by rw [F.frz _ _ (by simp; omega)]; first | exact fR i | (go_simp; exact fR i) | (simp; exact fR i) | (rw [World.frozen?_alloc_past _ _ _ (by simp; omega)]; first | exact fR i | (go_simp; done) | (go_simp; exact fR i))
    have FF' := (FF.set (C := C) (by omega) (by omega) 6 (.int .i64 x2)).trans F
    have hs' : C < W'.heap.size := by have := F.siz; first | omega | (simp at this; omega)
    clear c0 c1 c2 c3 c4 c5 c6 c7 c8 z0 z1 z2 z3 z4 z5 z6 z7 z8
    clear HC HR fC fR FF hs hr F
    have HC := HC'; have HR := HR'; have fC := fC'; have fR := fR'; have FF := FF'; have hs := hs'; have hr := hr'; clear HC' HR' fC' fR' FF' hs' hr'; obtain ⟨W, hW⟩ : ∃ X, X = W' := ⟨_, rfl⟩; subst hW
    obtain ⟨c0, c1, c2, c3, c4, c5, c6, c7, c8⟩ := id HC
    obtain ⟨z0, z1, z2, z3, z4, z5, z6, z7, z8⟩ := id HR
    cases hq : (szI 2 (1 + x1) == 0)
    all_goals
      go_wp2_with (first | (go_at_call 54; refine (sizeSpec_any _ _).mono ?_; rintro e wx ⟨rfl, hwx⟩; rw [hwx]; clear hwx wx) | (go_at_call 28; refine (sizeSpecKind_any _ _ _).mono ?_; rintro e wx ⟨rfl, hwx⟩; rw [hwx]; clear hwx wx) | (go_at_call 56; refine (upSpec_any _ _ _).mono ?_; rintro e wx ⟨rfl, hwx⟩; rw [hwx]; clear hwx wx))
      refine (pick_fr p n _ _ _ (reads_put hr (C := C) (by omega) 5 (.int .i64 x3)) (by omega) (by omega) (by omega)).mono ?_
      rintro e W' ⟨x9, rfl, hx9, hr', F⟩
      have HC' := (HC.putOne5 (.int .i64 x3)).fr F (by simp; omega) (by omega)
      have HR' := (HR.other (C := C) 5 (.int .i64 x3) n4).fr F (by simp; omega) (by omega)
      have fC' : ∀ i, W'.frozen? ⟨C, i, none⟩ = false := fun i => by rw [F.frz _ _ (by simp; omega)]; first | exact fC i | (go_simp; exact fC i) | (simp; exact fC i) | (rw [World.frozen?_alloc_past _ _ _ (by simp; omega)]; first | exact fC i | (go_simp; done) | (go_simp; exact fC i))
      have fR' : ∀ i, W'.frozen? ⟨R, i, none⟩ = false := fun i => by rw [F.frz _ _ (by simp; omega)]; first | exact fR i | (go_simp; exact fR i) | (simp; exact fR i) | (rw [World.frozen?_alloc_past _ _ _ (by simp; omega)]; first | exact fR i | (go_simp; done) | (go_simp; exact fR i))
      have FF' := (FF.set (C := C) (by omega) (by omega) 5 (.int .i64 x3)).trans F
      have hs' : C < W'.heap.size := by have := F.siz; first | omega | (simp at this; omega)
      clear c0 c1 c2 c3 c4 c5 c6 c7 c8 z0 z1 z2 z3 z4 z5 z6 z7 z8
      clear HC HR fC fR FF hs hr F
      have HC := HC'; have HR := HR'; have fC := fC'; have fR := fR'; have FF := FF'; have hs := hs'; have hr := hr'; clear HC' HR' fC' fR' FF' hs' hr'; obtain ⟨W, hW⟩ : ∃ X, X = W' := ⟨_, rfl⟩; subst hW
      obtain ⟨c0, c1, c2, c3, c4, c5, c6, c7, c8⟩ := id HC
      obtain ⟨z0, z1, z2, z3, z4, z5, z6, z7, z8⟩ := id HR
      go_wp2_with (first | (go_at_call 54; refine (sizeSpec_any _ _).mono ?_; rintro e wx ⟨rfl, hwx⟩; rw [hwx]; clear hwx wx) | (go_at_call 28; refine (sizeSpecKind_any _ _ _).mono ?_; rintro e wx ⟨rfl, hwx⟩; rw [hwx]; clear hwx wx) | (go_at_call 56; refine (upSpec_any _ _ _).mono ?_; rintro e wx ⟨rfl, hwx⟩; rw [hwx]; clear hwx wx))
      refine bodyPost_ret (spec_l2Cap_res rfl (((HR.other (C := C) 1 _ n4)).put _ _ _ _ _ _ _ _ _)) rfl ?_
      have HJ : ∃ j, j ≤ k + 8 ∧ Reads W p n j := ⟨_, by omega, hr⟩
      obtain ⟨j, hj, hrj⟩ := HJ
      refine ⟨_, _, _, _, _, _, _, _, _, rfl, by omega, ⟨j, hj, ?hb⟩, ?hf⟩
      case hb =>
        repeat (refine reads_put ?_ (by omega) _ _)
        exact hrj
      case hf =>
        repeat (refine Fr.set ?_ (by omega) (by omega) _ _)
        exact FF
  · obtain ⟨c0, c1, c2, c3, c4, c5, c6, c7, c8⟩ := id HC
    obtain ⟨z0, z1, z2, z3, z4, z5, z6, z7, z8⟩ := id HR
    cases hq : (szI 3 0 == 0)
    all_goals
      go_wp2_with (first | (go_at_call 54; refine (sizeSpec_any _ _).mono ?_; rintro e wx ⟨rfl, hwx⟩; rw [hwx]; clear hwx wx) | (go_at_call 28; refine (sizeSpecKind_any _ _ _).mono ?_; rintro e wx ⟨rfl, hwx⟩; rw [hwx]; clear hwx wx) | (go_at_call 56; refine (upSpec_any _ _ _).mono ?_; rintro e wx ⟨rfl, hwx⟩; rw [hwx]; clear hwx wx))
      refine (pick_fr p n _ _ _ hr (by omega) (by omega) (by omega)).mono ?_
      rintro e W' ⟨x9, rfl, hx9, hr', F⟩
      have HC' := HC.fr F (by omega) (by omega)
      have HR' := HR.fr F (by omega) (by omega)
      have fC' : ∀ i, W'.frozen? ⟨C, i, none⟩ = false := fun i => by rw [F.frz _ _ (by omega)]; first | exact fC i | (go_simp; exact fC i) | (simp; exact fC i) | (rw [World.frozen?_alloc_past _ _ _ (by simp; omega)]; first | exact fC i | (go_simp; done) | (go_simp; exact fC i))
      have fR' : ∀ i, W'.frozen? ⟨R, i, none⟩ = false := fun i => by rw [F.frz _ _ (by omega)]; first | exact fR i | (go_simp; exact fR i) | (simp; exact fR i) | (rw [World.frozen?_alloc_past _ _ _ (by simp; omega)]; first | exact fR i | (go_simp; done) | (go_simp; exact fR i))
      have FF' := FF.trans F
      have hs' : C < W'.heap.size := by have := F.siz; first | omega | (simp at this; omega)
      clear c0 c1 c2 c3 c4 c5 c6 c7 c8 z0 z1 z2 z3 z4 z5 z6 z7 z8
      clear HC HR fC fR FF hs hr F
      have HC := HC'; have HR := HR'; have fC := fC'; have fR := fR'; have FF := FF'; have hs := hs'; have hr := hr'; clear HC' HR' fC' fR' FF' hs' hr'; obtain ⟨W, hW⟩ : ∃ X, X = W' := ⟨_, rfl⟩; subst hW
      obtain ⟨c0, c1, c2, c3, c4, c5, c6, c7, c8⟩ := id HC
      obtain ⟨z0, z1, z2, z3, z4, z5, z6, z7, z8⟩ := id HR
      go_wp2_with (first | (go_at_call 54; refine (sizeSpec_any _ _).mono ?_; rintro e wx ⟨rfl, hwx⟩; rw [hwx]; clear hwx wx) | (go_at_call 28; refine (sizeSpecKind_any _ _ _).mono ?_; rintro e wx ⟨rfl, hwx⟩; rw [hwx]; clear hwx wx) | (go_at_call 56; refine (upSpec_any _ _ _).mono ?_; rintro e wx ⟨rfl, hwx⟩; rw [hwx]; clear hwx wx))
      refine bodyPost_ret (spec_l2Cap_res rfl (((HR.other (C := C) 1 _ n4)).put _ _ _ _ _ _ _ _ _)) rfl ?_
      have HJ : ∃ j, j ≤ k + 8 ∧ Reads W p n j := ⟨_, by omega, hr⟩
      obtain ⟨j, hj, hrj⟩ := HJ
      refine ⟨_, _, _, _, _, _, _, _, _, rfl, by omega, ⟨j, hj, ?hb⟩, ?hf⟩
      case hb =>
        repeat (refine reads_put ?_ (by omega) _ _)
        exact hrj
      case hf =>
        repeat (refine Fr.set ?_ (by omega) (by omega) _ _)
        exact FF
  · obtain ⟨c0, c1, c2, c3, c4, c5, c6, c7, c8⟩ := id HC
    obtain ⟨z0, z1, z2, z3, z4, z5, z6, z7, z8⟩ := id HR
    go_wp2_with (first | (go_at_call 54; refine (sizeSpec_any _ _).mono ?_; rintro e wx ⟨rfl, hwx⟩; rw [hwx]; clear hwx wx) | (go_at_call 28; refine (sizeSpecKind_any _ _ _).mono ?_; rintro e wx ⟨rfl, hwx⟩; rw [hwx]; clear hwx wx) | (go_at_call 56; refine (upSpec_any _ _ _).mono ?_; rintro e wx ⟨rfl, hwx⟩; rw [hwx]; clear hwx wx))
    refine (pick_fr p n _ _ _ hr (by omega) (by omega) (by omega)).mono ?_
    rintro e W' ⟨x1, rfl, hx1, hr', F⟩
    have HC' := HC.fr F (by omega) (by omega)
    have HR' := HR.fr F (by omega) (by omega)
    have fC' : ∀ i, W'.frozen? ⟨C, i, none⟩ = false := fun i => by rw [F.frz _ _ (by omega)]; first | exact fC i | (go_simp; exact fC i) | (simp; exact fC i) | (rw [World.frozen?_alloc_past _ _ _ (by simp; omega)]; first | exact fC i | (go_simp; done) | (go_simp; exact fC i))
    have fR' : ∀ i, W'.frozen? ⟨R, i, none⟩ = false := fun i => by rw [F.frz _ _ (by omega)]; first | exact fR i | (go_simp; exact fR i) | (simp; exact fR i) | (rw [World.frozen?_alloc_past _ _ _ (by simp; omega)]; first | exact fR i | (go_simp; done) | (go_simp; exact fR i))
    have FF' := FF.trans F
    have hs' : C < W'.heap.size := by have := F.siz; first | omega | (simp at this; omega)
    clear c0 c1 c2 c3 c4 c5 c6 c7 c8 z0 z1 z2 z3 z4 z5 z6 z7 z8
    clear HC HR fC fR FF hs hr F
    have HC := HC'; have HR := HR'; have fC := fC'; have fR := fR'; have FF := FF'; have hs := hs'; have hr := hr'; clear HC' HR' fC' fR' FF' hs' hr'; obtain ⟨W, hW⟩ : ∃ X, X = W' := ⟨_, rfl⟩; subst hW
    obtain ⟨c0, c1, c2, c3, c4, c5, c6, c7, c8⟩ := id HC
    obtain ⟨z0, z1, z2, z3, z4, z5, z6, z7, z8⟩ := id HR
    go_wp2_with (first | (go_at_call 54; refine (sizeSpec_any _ _).mono ?_; rintro e wx ⟨rfl, hwx⟩; rw [hwx]; clear hwx wx) | (go_at_call 28; refine (sizeSpecKind_any _ _ _).mono ?_; rintro e wx ⟨rfl, hwx⟩; rw [hwx]; clear hwx wx) | (go_at_call 56; refine (upSpec_any _ _ _).mono ?_; rintro e wx ⟨rfl, hwx⟩; rw [hwx]; clear hwx wx))
    refine (num_fr p n _ _ _ _ (0) (65535) _ (reads_alloc (reads_put hr (C := C) (by omega) 3 (.int .i64 x1)) (by simp; omega) _) (by omega) (by omega) (by omega) (by omega) (fun j hj => by have := made_cells (W.setCell ⟨C, 3, none⟩ (.int .i64 x1)) 3 [0, 0, 1, 7, 65535] (0) (65535) (by intro z hz; simp at hz; omega) j (by simpa using hj); simpa using this)).mono ?_
    rintro e W' ⟨x2, rfl, hx2, hr', F⟩
    have HC' := ((HC.putOne3 (.int .i64 x1)).allocs (by simp; omega) _).fr F (by simp; omega) (by omega)
    have HR' := ((HR.other (C := C) 3 (.int .i64 x1) n4).allocs (by simp; omega) _).fr F (by simp; omega) (by omega)
    have fC' : ∀ i, W'.frozen? ⟨C, i, none⟩ = false := fun i => by rw [F.frz _ _ (by simp; omega)]; first | exact fC i | (go_simp; exact fC i) | (simp; exact fC i) | (rw [World.frozen?_alloc_past _ _ _ (by simp; omega)]; first | exact fC i | (go_simp; done) | (go_simp; exact fC i))
    have fR' : ∀ i, W'.frozen? ⟨R, i, none⟩ = false := fun i => by rw [F.frz _ _ (by simp; omega)]; first | exact fR i | (go_simp; exact fR i) | (simp; exact fR i) | (rw [World.frozen?_alloc_past _ _ _ (by simp; omega)]; first | exact fR i | (go_simp; done) | (go_simp; exact fR i))
    have FF' := ((FF.set (C := C) (by omega) (by omega) 3 (.int .i64 x1)).alloc (by simp; omega) _).trans F
    have hs' : C < W'.heap.size := by have := F.siz; first | omega | (simp at this; omega)
    clear c0 c1 c2 c3 c4 c5 c6 c7 c8 z0 z1 z2 z3 z4 z5 z6 z7 z8
    clear HC HR fC fR FF hs hr F
    have HC := HC'; have HR := HR'; have fC := fC'; have fR := fR'; have FF := FF'; have hs := hs'; have hr := hr'; clear HC' HR' fC' fR' FF' hs' hr'; obtain ⟨W, hW⟩ : ∃ X, X = W' := ⟨_, rfl⟩; subst hW
    obtain ⟨c0, c1, c2, c3, c4, c5, c6, c7, c8⟩ := id HC
    obtain ⟨z0, z1, z2, z3, z4, z5, z6, z7, z8⟩ := id HR
    cases hq : (szI 4 0 == 0)
    all_goals
      go_wp2_with (first | (go_at_call 54; refine (sizeSpec_any _ _).mono ?_; rintro e wx ⟨rfl, hwx⟩; rw [hwx]; clear hwx wx) | (go_at_call 28; refine (sizeSpecKind_any _ _ _).mono ?_; rintro e wx ⟨rfl, hwx⟩; rw [hwx]; clear hwx wx) | (go_at_call 56; refine (upSpec_any _ _ _).mono ?_; rintro e wx ⟨rfl, hwx⟩; rw [hwx]; clear hwx wx))
      refine (pick_fr p n _ _ _ (reads_put hr (C := C) (by omega) 4 (.int .i64 x2)) (by omega) (by omega) (by omega)).mono ?_
      rintro e W' ⟨x9, rfl, hx9, hr', F⟩
      have HC' := (HC.putOne4 (.int .i64 x2)).fr F (by simp; omega) (by omega)
      have HR' := (HR.other (C := C) 4 (.int .i64 x2) n4).fr F (by simp; omega) (by omega)
      have fC' : ∀ i, W'.frozen? ⟨C, i, none⟩ = false := fun i => by rw [F.frz _ _ (by simp; omega)]; first | exact fC i | (go_simp; exact fC i) | (simp; exact fC i) | (rw [World.frozen?_alloc_past _ _ _ (by simp; omega)]; first | exact fC i | (go_simp; done) | (go_simp; exact fC i))
      have fR' : ∀ i, W'.frozen? ⟨R, i, none⟩ = false := fun i => by rw [F.frz _ _ (by simp; omega)]; first | exact fR i | (go_simp; exact fR i) | (simp; exact fR i) | (rw [World.frozen?_alloc_past _ _ _ (by simp; omega)]; first | exact fR i | (go_simp; done) | (go_simp; exact fR i))
      have FF' := (FF.set (C := C) (by omega) (by omega) 4 (.int .i64 x2)).trans F
      have hs' : C < W'.heap.size := by have := F.siz; first | omega | (simp at this; omega)
      clear c0 c1 c2 c3 c4 c5 c6 c7 c8 z0 z1 z2 z3 z4 z5 z6 z7 z8
      clear HC HR fC fR FF hs hr F
      have HC := HC'; have HR := HR'; have fC := fC'; have fR := fR'; have FF := FF'; have hs := hs'; have hr := hr'; clear HC' HR' fC' fR' FF' hs' hr'; obtain ⟨W, hW⟩ : ∃ X, X = W' := ⟨_, rfl⟩; subst hW
      obtain ⟨c0, c1, c2, c3, c4, c5, c6, c7, c8⟩ := id HC
      obtain ⟨z0, z1, z2, z3, z4, z5, z6, z7, z8⟩ := id HR
      go_wp2_with (first | (go_at_call 54; refine (sizeSpec_any _ _).mono ?_; rintro e wx ⟨rfl, hwx⟩; rw [hwx]; clear hwx wx) | (go_at_call 28; refine (sizeSpecKind_any _ _ _).mono ?_; rintro e wx ⟨rfl, hwx⟩; rw [hwx]; clear hwx wx) | (go_at_call 56; refine (upSpec_any _ _ _).mono ?_; rintro e wx ⟨rfl, hwx⟩; rw [hwx]; clear hwx wx))
      refine bodyPost_ret (spec_l2Cap_res rfl (((HR.other (C := C) 1 _ n4)).put _ _ _ _ _ _ _ _ _)) rfl ?_
      have HJ : ∃ j, j ≤ k + 8 ∧ Reads W p n j := ⟨_, by omega, hr⟩
      obtain ⟨j, hj, hrj⟩ := HJ
      refine ⟨_, _, _, _, _, _, _, _, _, rfl, by omega, ⟨j, hj, ?hb⟩, ?hf⟩
      case hb =>
        repeat (refine reads_put ?_ (by omega) _ _)
        exact hrj
      case hf =>
        repeat (refine Fr.set ?_ (by omega) (by omega) _ _)
        exact FF
  · obtain ⟨c0, c1, c2, c3, c4, c5, c6, c7, c8⟩ := id HC
    obtain ⟨z0, z1, z2, z3, z4, z5, z6, z7, z8⟩ := id HR
    go_wp2_with (first | (go_at_call 54; refine (sizeSpec_any _ _).mono ?_; rintro e wx ⟨rfl, hwx⟩; rw [hwx]; clear hwx wx) | (go_at_call 28; refine (sizeSpecKind_any _ _ _).mono ?_; rintro e wx ⟨rfl, hwx⟩; rw [hwx]; clear hwx wx) | (go_at_call 56; refine (upSpec_any _ _ _).mono ?_; rintro e wx ⟨rfl, hwx⟩; rw [hwx]; clear hwx wx))
    refine (pick_fr p n _ _ _ hr (by omega) (by omega) (by omega)).mono ?_
    rintro e W' ⟨x1, rfl, hx1, hr', F⟩
    have HC' := HC.fr F (by omega) (by omega)
    have HR' := HR.fr F (by omega) (by omega)
    have fC' : ∀ i, W'.frozen? ⟨C, i, none⟩ = false := fun i => by rw [F.frz _ _ (by omega)]; first | exact fC i | (go_simp; exact fC i) | (simp; exact fC i) | (rw [World.frozen?_alloc_past _ _ _ (by simp; omega)]; first | exact fC i | (go_simp; done) | (go_simp; exact fC i))
    have fR' : ∀ i, W'.frozen? ⟨R, i, none⟩ = false := fun i => by rw [F.frz _ _ (by omega)]; first | exact fR i | (go_simp; exact fR i) | (simp; exact fR i) | (rw [World.frozen?_alloc_past _ _ _ (by simp; omega)]; first | exact fR i | (go_simp; done) | (go_simp; exact fR i))
    have FF' := FF.trans F
    have hs' : C < W'.heap.size := by have := F.siz; first | omega | (simp at this; omega)
    clear c0 c1 c2 c3 c4 c5 c6 c7 c8 z0 z1 z2 z3 z4 z5 z6 z7 z8
    clear HC HR fC fR FF hs hr F
    have HC := HC'; have HR := HR'; have fC := fC'; have fR := fR'; have FF := FF'; have hs := hs'; have hr := hr'; clear HC' HR' fC' fR' FF' hs' hr'; obtain ⟨W, hW⟩ : ∃ X, X = W' := ⟨_, rfl⟩; subst hW
    obtain ⟨c0, c1, c2, c3, c4, c5, c6, c7, c8⟩ := id HC
    obtain ⟨z0, z1, z2, z3, z4, z5, z6, z7, z8⟩ := id HR
    go_wp2_with (first | (go_at_call 54; refine (sizeSpec_any _ _).mono ?_; rintro e wx ⟨rfl, hwx⟩; rw [hwx]; clear hwx wx) | (go_at_call 28; refine (sizeSpecKind_any _ _ _).mono ?_; rintro e wx ⟨rfl, hwx⟩; rw [hwx]; clear hwx wx) | (go_at_call 56; refine (upSpec_any _ _ _).mono ?_; rintro e wx ⟨rfl, hwx⟩; rw [hwx]; clear hwx wx))
    refine (num_fr p n _ _ _ _ (0) (65535) _ (reads_alloc (reads_put hr (C := C) (by omega) 3 (.int .i64 x1)) (by simp; omega) _) (by omega) (by omega) (by omega) (by omega) (fun j hj => by have := made_cells (W.setCell ⟨C, 3, none⟩ (.int .i64 x1)) 3 [0, 0, 1, 8, 65535] (0) (65535) (by intro z hz; simp at hz; omega) j (by simpa using hj); simpa using this)).mono ?_
    rintro e W' ⟨x2, rfl, hx2, hr', F⟩
    have HC' := ((HC.putOne3 (.int .i64 x1)).allocs (by simp; omega) _).fr F (by simp; omega) (by omega)
    have HR' := ((HR.other (C := C) 3 (.int .i64 x1) n4).allocs (by simp; omega) _).fr F (by simp; omega) (by omega)
    have fC' : ∀ i, W'.frozen? ⟨C, i, none⟩ = false := fun i => by rw [F.frz _ _ (by simp; omega)]; first | exact fC i | (go_simp; exact fC i) | (simp; exact fC i) | (rw [World.frozen?_alloc_past _ _ _ (by simp; omega)]; first | exact fC i | (go_simp; done) | (go_simp; exact fC i))
    have fR' : ∀ i, W'.frozen? ⟨R, i, none⟩ = false := fun i => by rw [F.frz _ _ (by simp; omega)]; first | exact fR i | (go_simp; exact fR i) | (simp; exact fR i) | (rw [World.frozen?_alloc_past _ _ _ (by simp; omega)]; first | exact fR i | (go_simp; done) | (go_simp; exact fR i))
    have FF' := ((FF.set (C := C) (by omega) (by omega) 3 (.int .i64 x1)).alloc (by simp; omega) _).trans F
    have hs' : C < W'.heap.size := by have := F.siz; first | omega | (simp at this; omega)
    clear c0 c1 c2 c3 c4 c5 c6 c7 c8 z0 z1 z2 z3 z4 z5 z6 z7 z8
    clear HC HR fC fR FF hs hr F
    have HC := HC'; have HR := HR'; have fC := fC'; have fR := fR'; have FF := FF'; have hs := hs'; have hr := hr'; clear HC' HR' fC' fR' FF' hs' hr'; obtain ⟨W, hW⟩ : ∃ X, X = W' := ⟨_, rfl⟩; subst hW
    obtain ⟨c0, c1, c2, c3, c4, c5, c6, c7, c8⟩ := id HC
    obtain ⟨z0, z1, z2, z3, z4, z5, z6, z7, z8⟩ := id HR
    cases hq : (szI 5 0 == 0)
    all_goals
      go_wp2_with (first | (go_at_call 54; refine (sizeSpec_any _ _).mono ?_; rintro e wx ⟨rfl, hwx⟩; rw [hwx]; clear hwx wx) | (go_at_call 28; refine (sizeSpecKind_any _ _ _).mono ?_; rintro e wx ⟨rfl, hwx⟩; rw [hwx]; clear hwx wx) | (go_at_call 56; refine (upSpec_any _ _ _).mono ?_; rintro e wx ⟨rfl, hwx⟩; rw [hwx]; clear hwx wx))
      refine (pick_fr p n _ _ _ (reads_put hr (C := C) (by omega) 4 (.int .i64 x2)) (by omega) (by omega) (by omega)).mono ?_
      rintro e W' ⟨x9, rfl, hx9, hr', F⟩
      have HC' := (HC.putOne4 (.int .i64 x2)).fr F (by simp; omega) (by omega)
      have HR' := (HR.other (C := C) 4 (.int .i64 x2) n4).fr F (by simp; omega) (by omega)
      have fC' : ∀ i, W'.frozen? ⟨C, i, none⟩ = false := fun i => by rw [F.frz _ _ (by simp; omega)]; first | exact fC i | (go_simp; exact fC i) | (simp; exact fC i) | (rw [World.frozen?_alloc_past _ _ _ (by simp; omega)]; first | exact fC i | (go_simp; done) | (go_simp; exact fC i))
      have fR' : ∀ i, W'.frozen? ⟨R, i, none⟩ = false := fun i => by rw [F.frz _ _ (by simp; omega)]; first | exact fR i | (go_simp; exact fR i) | (simp; exact fR i) | (rw [World.frozen?_alloc_past _ _ _ (by simp; omega)]; first | exact fR i | (go_simp; done) | (go_simp; exact fR i))
      have FF' := (FF.set (C := C) (by omega) (by omega) 4 (.int .i64 x2)).trans F
      have hs' : C < W'.heap.size := by have := F.siz; first | omega | (simp at this; omega)
      clear c0 c1 c2 c3 c4 c5 c6 c7 c8 z0 z1 z2 z3 z4 z5 z6 z7 z8
      clear HC HR fC fR FF hs hr F
      have HC := HC'; have HR := HR'; have fC := fC'; have fR := fR'; have FF := FF'; have hs := hs'; have hr := hr'; clear HC' HR' fC' fR' FF' hs' hr'; obtain ⟨W, hW⟩ : ∃ X, X = W' := ⟨_, rfl⟩; subst hW
      obtain ⟨c0, c1, c2, c3, c4, c5, c6, c7, c8⟩ := id HC
      obtain ⟨z0, z1, z2, z3, z4, z5, z6, z7, z8⟩ := id HR
      go_wp2_with (first | (go_at_call 54; refine (sizeSpec_any _ _).mono ?_; rintro e wx ⟨rfl, hwx⟩; rw [hwx]; clear hwx wx) | (go_at_call 28; refine (sizeSpecKind_any _ _ _).mono ?_; rintro e wx ⟨rfl, hwx⟩; rw [hwx]; clear hwx wx) | (go_at_call 56; refine (upSpec_any _ _ _).mono ?_; rintro e wx ⟨rfl, hwx⟩; rw [hwx]; clear hwx wx))
      refine bodyPost_ret (spec_l2Cap_res rfl (((HR.other (C := C) 1 _ n4)).put _ _ _ _ _ _ _ _ _)) rfl ?_
      have HJ : ∃ j, j ≤ k + 8 ∧ Reads W p n j := ⟨_, by omega, hr⟩
      obtain ⟨j, hj, hrj⟩ := HJ
      refine ⟨_, _, _, _, _, _, _, _, _, rfl, by omega, ⟨j, hj, ?hb⟩, ?hf⟩
      case hb =>
        repeat (refine reads_put ?_ (by omega) _ _)
        exact hrj
      case hf =>
        repeat (refine Fr.set ?_ (by omega) (by omega) _ _)
        exact FF
  · obtain ⟨c0, c1, c2, c3, c4, c5, c6, c7, c8⟩ := id HC
    obtain ⟨z0, z1, z2, z3, z4, z5, z6, z7, z8⟩ := id HR
    go_wp2_with (first | (go_at_call 54; refine (sizeSpec_any _ _).mono ?_; rintro e wx ⟨rfl, hwx⟩; rw [hwx]; clear hwx wx) | (go_at_call 28; refine (sizeSpecKind_any _ _ _).mono ?_; rintro e wx ⟨rfl, hwx⟩; rw [hwx]; clear hwx wx) | (go_at_call 56; refine (upSpec_any _ _ _).mono ?_; rintro e wx ⟨rfl, hwx⟩; rw [hwx]; clear hwx wx))
    refine (pick_fr p n _ _ _ hr (by omega) (by omega) (by omega)).mono ?_
    rintro e W' ⟨x1, rfl, hx1, hr', F⟩
    have HC' := HC.fr F (by omega) (by omega)
    have HR' := HR.fr F (by omega) (by omega)
    have fC' : ∀ i, W'.frozen? ⟨C, i, none⟩ = false := fun i => by rw [F.frz _ _ (by omega)]; first | exact fC i | (go_simp; exact fC i) | (simp; exact fC i) | (rw [World.frozen?_alloc_past _ _ _ (by simp; omega)]; first | exact fC i | (go_simp; done) | (go_simp; exact fC i))
    have fR' : ∀ i, W'.frozen? ⟨R, i, none⟩ = false := fun i => by rw [F.frz _ _ (by omega)]; first | exact fR i | (go_simp; exact fR i) | (simp; exact fR i) | (rw [World.frozen?_alloc_past _ _ _ (by simp; omega)]; first | exact fR i | (go_simp; done) | (go_simp; exact fR i))
    have FF' := FF.trans F
    have hs' : C < W'.heap.size := by have := F.siz; first | omega | (simp at this; omega)
    clear c0 c1 c2 c3 c4 c5 c6 c7 c8 z0 z1 z2 z3 z4 z5 z6 z7 z8
    clear HC HR fC fR FF hs hr F
    have HC := HC'; have HR := HR'; have fC := fC'; have fR := fR'; have FF := FF'; have hs := hs'; have hr := hr'; clear HC' HR' fC' fR' FF' hs' hr'; obtain ⟨W, hW⟩ : ∃ X, X = W' := ⟨_, rfl⟩; subst hW
    obtain ⟨c0, c1, c2, c3, c4, c5, c6, c7, c8⟩ := id HC
    obtain ⟨z0, z1, z2, z3, z4, z5, z6, z7, z8⟩ := id HR
    go_wp2_with (first | (go_at_call 54; refine (sizeSpec_any _ _).mono ?_; rintro e wx ⟨rfl, hwx⟩; rw [hwx]; clear hwx wx) | (go_at_call 28; refine (sizeSpecKind_any _ _ _).mono ?_; rintro e wx ⟨rfl, hwx⟩; rw [hwx]; clear hwx wx) | (go_at_call 56; refine (upSpec_any _ _ _).mono ?_; rintro e wx ⟨rfl, hwx⟩; rw [hwx]; clear hwx wx))
    refine (pick_fr p n _ _ _ (reads_put hr (C := C) (by omega) 2 (.int .i64 x1)) (by omega) (by omega) (by omega)).mono ?_
    rintro e W' ⟨x2, rfl, hx2, hr', F⟩
    have HC' := (HC.putOne2 (.int .i64 x1)).fr F (by simp; omega) (by omega)
    have HR' := (HR.other (C := C) 2 (.int .i64 x1) n4).fr F (by simp; omega) (by omega)
    have fC' : ∀ i, W'.frozen? ⟨C, i, none⟩ = false := fun i => by rw [F.frz _ _ (by simp; omega)]; first | exact fC i | (go_simp; exact fC i) | (simp; exact fC i) | (rw [World.frozen?_alloc_past _ _ _ (by simp; omega)]; first | exact fC i | (go_simp; done) | (go_simp; exact fC i))
    have fR' : ∀ i, W'.frozen? ⟨R, i, none⟩ = false := fun i => by rw [F.frz _ _ (by simp; omega)]; first | exact fR i | (go_simp; exact fR i) | (simp; exact fR i) | (rw [World.frozen?_alloc_past _ _ _ (by simp; omega)]; first | exact fR i | (go_simp; done) | (go_simp; exact fR i))
    have FF' := (FF.set (C := C) (by omega) (by omega) 2 (.int .i64 x1)).trans F
    have hs' : C < W'.heap.size := by have := F.siz; first | omega | (simp at this; omega)
    clear c0 c1 c2 c3 c4 c5 c6 c7 c8 z0 z1 z2 z3 z4 z5 z6 z7 z8
    clear HC HR fC fR FF hs hr F
    have HC := HC'; have HR := HR'; have fC := fC'; have fR := fR'; have FF := FF'; have hs := hs'; have hr := hr'; clear HC' HR' fC' fR' FF' hs' hr'; obtain ⟨W, hW⟩ : ∃ X, X = W' := ⟨_, rfl⟩; subst hW
    obtain ⟨c0, c1, c2, c3, c4, c5, c6, c7, c8⟩ := id HC
    obtain ⟨z0, z1, z2, z3, z4, z5, z6, z7, z8⟩ := id HR
    cases hq : (szI 6 x1 == 0)
    all_goals
      go_wp2_with (first | (go_at_call 54; refine (sizeSpec_any _ _).mono ?_; rintro e wx ⟨rfl, hwx⟩; rw [hwx]; clear hwx wx) | (go_at_call 28; refine (sizeSpecKind_any _ _ _).mono ?_; rintro e wx ⟨rfl, hwx⟩; rw [hwx]; clear hwx wx) | (go_at_call 56; refine (upSpec_any _ _ _).mono ?_; rintro e wx ⟨rfl, hwx⟩; rw [hwx]; clear hwx wx))
      refine (pick_fr p n _ _ _ (reads_put hr (C := C) (by omega) 3 (.int .i64 x2)) (by omega) (by omega) (by omega)).mono ?_
      rintro e W' ⟨x9, rfl, hx9, hr', F⟩
      have HC' := (HC.putOne3 (.int .i64 x2)).fr F (by simp; omega) (by omega)
      have HR' := (HR.other (C := C) 3 (.int .i64 x2) n4).fr F (by simp; omega) (by omega)
      have fC' : ∀ i, W'.frozen? ⟨C, i, none⟩ = false := fun i => by rw [F.frz _ _ (by simp; omega)]; first | exact fC i | (go_simp; exact fC i) | (simp; exact fC i) | (rw [World.frozen?_alloc_past _ _ _ (by simp; omega)]; first | exact fC i | (go_simp; done) | (go_simp; exact fC i))
      have fR' : ∀ i, W'.frozen? ⟨R, i, none⟩ = false := fun i => by rw [F.frz _ _ (by simp; omega)]; first | exact fR i | (go_simp; exact fR i) | (simp; exact fR i) | (rw [World.frozen?_alloc_past _ _ _ (by simp; omega)]; first | exact fR i | (go_simp; done) | (go_simp; exact fR i))
      have FF' := (FF.set (C := C) (by omega) (by omega) 3 (.int .i64 x2)).trans F
      have hs' : C < W'.heap.size := by have := F.siz; first | omega | (simp at this; omega)
      clear c0 c1 c2 c3 c4 c5 c6 c7 c8 z0 z1 z2 z3 z4 z5 z6 z7 z8
      clear HC HR fC fR FF hs hr F
      have HC := HC'; have HR := HR'; have fC := fC'; have fR := fR'; have FF := FF'; have hs := hs'; have hr := hr'; clear HC' HR' fC' fR' FF' hs' hr'; obtain ⟨W, hW⟩ : ∃ X, X = W' := ⟨_, rfl⟩; subst hW
      obtain ⟨c0, c1, c2, c3, c4, c5, c6, c7, c8⟩ := id HC
      obtain ⟨z0, z1, z2, z3, z4, z5, z6, z7, z8⟩ := id HR
      go_wp2_with (first | (go_at_call 54; refine (sizeSpec_any _ _).mono ?_; rintro e wx ⟨rfl, hwx⟩; rw [hwx]; clear hwx wx) | (go_at_call 28; refine (sizeSpecKind_any _ _ _).mono ?_; rintro e wx ⟨rfl, hwx⟩; rw [hwx]; clear hwx wx) | (go_at_call 56; refine (upSpec_any _ _ _).mono ?_; rintro e wx ⟨rfl, hwx⟩; rw [hwx]; clear hwx wx))
      refine bodyPost_ret (spec_l2Cap_res rfl (((HR.other (C := C) 1 _ n4)).put _ _ _ _ _ _ _ _ _)) rfl ?_
      have HJ : ∃ j, j ≤ k + 8 ∧ Reads W p n j := ⟨_, by omega, hr⟩
      obtain ⟨j, hj, hrj⟩ := HJ
      refine ⟨_, _, _, _, _, _, _, _, _, rfl, by omega, ⟨j, hj, ?hb⟩, ?hf⟩
      case hb =>
        repeat (refine reads_put ?_ (by omega) _ _)
        exact hrj
      case hf =>
        repeat (refine Fr.set ?_ (by omega) (by omega) _ _)
        exact FF
  · obtain ⟨c0, c1, c2, c3, c4, c5, c6, c7, c8⟩ := id HC
    obtain ⟨z0, z1, z2, z3, z4, z5, z6, z7, z8⟩ := id HR
    cases hq : (szI 7 0 == 0)
    all_goals
      go_wp2_with (first | (go_at_call 54; refine (sizeSpec_any _ _).mono ?_; rintro e wx ⟨rfl, hwx⟩; rw [hwx]; clear hwx wx) | (go_at_call 28; refine (sizeSpecKind_any _ _ _).mono ?_; rintro e wx ⟨rfl, hwx⟩; rw [hwx]; clear hwx wx) | (go_at_call 56; refine (upSpec_any _ _ _).mono ?_; rintro e wx ⟨rfl, hwx⟩; rw [hwx]; clear hwx wx))
      refine (pick_fr p n _ _ _ (reads_put hr (C := C) (by omega) 8 (.bool false)) (by omega) (by omega) (by omega)).mono ?_
      rintro e W' ⟨x9, rfl, hx9, hr', F⟩
      have HC' := (HC.putOne8 (.bool false)).fr F (by simp; omega) (by omega)
      have HR' := (HR.other (C := C) 8 (.bool false) n4).fr F (by simp; omega) (by omega)
      have fC' : ∀ i, W'.frozen? ⟨C, i, none⟩ = false := fun i => by rw [F.frz _ _ (by simp; omega)]; first | exact fC i | (go_simp; exact fC i) | (simp; exact fC i) | (rw [World.frozen?_alloc_past _ _ _ (by simp; omega)]; first | exact fC i | (go_simp; done) | (go_simp; exact fC i))
      have fR' : ∀ i, W'.frozen? ⟨R, i, none⟩ = false := fun i => by rw [F.frz _ _ (by simp; omega)]; first | exact fR i | (go_simp; exact fR i) | (simp; exact fR i) | (rw [World.frozen?_alloc_past _ _ _ (by simp; omega)]; first | exact fR i | (go_simp; done) | (go_simp; exact fR i))
      have FF' := (FF.set (C := C) (by omega) (by omega) 8 (.bool false)).trans F
      have hs' : C < W'.heap.size := by have := F.siz; first | omega | (simp at this; omega)
      clear c0 c1 c2 c3 c4 c5 c6 c7 c8 z0 z1 z2 z3 z4 z5 z6 z7 z8
      clear HC HR fC fR FF hs hr F
      have HC := HC'; have HR := HR'; have fC := fC'; have fR := fR'; have FF := FF'; have hs := hs'; have hr := hr'; clear HC' HR' fC' fR' FF' hs' hr'; obtain ⟨W, hW⟩ : ∃ X, X = W' := ⟨_, rfl⟩; subst hW
      obtain ⟨c0, c1, c2, c3, c4, c5, c6, c7, c8⟩ := id HC
      obtain ⟨z0, z1, z2, z3, z4, z5, z6, z7, z8⟩ := id HR
      go_wp2_with (first | (go_at_call 54; refine (sizeSpec_any _ _).mono ?_; rintro e wx ⟨rfl, hwx⟩; rw [hwx]; clear hwx wx) | (go_at_call 28; refine (sizeSpecKind_any _ _ _).mono ?_; rintro e wx ⟨rfl, hwx⟩; rw [hwx]; clear hwx wx) | (go_at_call 56; refine (upSpec_any _ _ _).mono ?_; rintro e wx ⟨rfl, hwx⟩; rw [hwx]; clear hwx wx))
      refine bodyPost_ret (spec_l2Cap_res rfl (((HR.other (C := C) 1 _ n4)).put _ _ _ _ _ _ _ _ _)) rfl ?_
      have HJ : ∃ j, j ≤ k + 8 ∧ Reads W p n j := ⟨_, by omega, hr⟩
      obtain ⟨j, hj, hrj⟩ := HJ
      refine ⟨_, _, _, _, _, _, _, _, _, rfl, by omega, ⟨j, hj, ?hb⟩, ?hf⟩
      case hb =>
        repeat (refine reads_put ?_ (by omega) _ _)
        exact hrj
      case hf =>
        repeat (refine Fr.set ?_ (by omega) (by omega) _ _)
        exact FF

end Go.Proofs.YthmambhagheocaaGreatDoor
