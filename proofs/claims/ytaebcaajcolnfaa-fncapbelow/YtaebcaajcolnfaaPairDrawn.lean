/-
  What DrawCapCopy and DrawCapMint answer: nine fields, the rights small, and one or two words.
-/
import Derived.Test.YtaebcaajcolnfaaHalfDrawn
namespace Go.Proofs.Ytaebcaajcolnfaa
open Go.ChangeShapes Go.WideShapes Go.ChangeAt Go.RowKit
set_option linter.unusedVariables false

theorem Bytes.alloc {w : World} {a : Option Addr} {n c : Nat} (h : Bytes w a n c) (o : Obj) : Bytes (w.alloc o) a n c := by
  rcases h with e | ⟨b, x, e, hbl, hnc, hz⟩
  · exact .inl e
  · have hb : Below w.heap.size w (w.alloc o) := (Below.refl _ _).alloc (Nat.le_refl _) _
    exact .inr ⟨b, x, e, by simp; omega, hnc, fun j hj => by rw [hb.cell (p := ⟨b, x + j, none⟩) hbl]; exact hz j hj⟩

theorem Fr.of_below {p : Nat} {w w' : World} (h : Below p w w') (hp : w.heap.size ≤ p) : Fr p w w' := by
  have hb := bcell (W := w) (h.mono hp)
  exact ⟨fun b o hl _ => hb.1 b o hl, fun b o hl => hb.2 b o hl, h.size, h⟩

set_option maxHeartbeats 2000000 in
theorem drawCopy_any (a : Option Addr) (n c : Nat) (w : World) (h : Bytes w a n c) (hn : n ≤ 1048576) :
    Calls Try.prog 16 #[.slice a n c] w fun e w' => ∃ (k' a b r d g q f m : Int) (o : Bool), e = .returned (.tuple #[.agg #[.int .i64 k', .int .i64 a, .int .i64 b, .int .i64 r, .int .i64 d, .int .i64 g, .int .i64 q, .int .i64 f, .bool o], .int .u32 m]) ∧ (-10 ≤ r ∧ r ≤ 10) ∧ (0 ≤ m ∧ m ≤ 4294967295) ∧ Below w.heap.size w w' := by
  go_enter Try.func16, Try.ntmps16
  go_wp2_with fail
  have hB0 : Below w.heap.size w (w.alloc (.cells #[.int .i64 0, .int .i64 0, .int .i64 0, .int .i64 0, .int .i64 0, .int .i64 0, .int .i64 0, .int .i64 0, .bool false] 31)) := (Below.refl _ _).alloc (Nat.le_refl _) _
  refine (open_any a n c _ (h.alloc _) hn).mono ?_
  rintro e W ⟨rfl, ⟨l, hr⟩, hb, hsz⟩
  have F := Fr.of_below hb (Nat.le_refl _)
  have HR := (Holds9.alloc w (.int .i64 0) (.int .i64 0) (.int .i64 0) (.int .i64 0) (.int .i64 0) (.int .i64 0) (.int .i64 0) (.int .i64 0) (.bool false) 31).fr F (by simp) (by simp)
  have fR : ∀ i, W.frozen? ⟨w.heap.size, i, none⟩ = false := fun i => by rw [F.frz _ _ (by simp)]; go_simp
  have hB := hB0.trans (hb.mono (by simp))
  obtain ⟨p, hp⟩ : ∃ p, p = (w.alloc (.cells #[.int .i64 0, .int .i64 0, .int .i64 0, .int .i64 0, .int .i64 0, .int .i64 0, .int .i64 0, .int .i64 0, .bool false] 31)).heap.size := ⟨_, rfl⟩
  rw [← hp] at hr hsz ⊢
  have hp1 : p = w.heap.size + 1 := by rw [hp]; simp
  clear hp hB0 F hb
  obtain ⟨R, hR⟩ : ∃ R, R = w.heap.size := ⟨_, rfl⟩
  rw [← hR] at HR fR ⊢
  have hRp : R < p := by omega
  have hRs : w.heap.size ≤ R := by omega
  have hpW : p < W.heap.size := by omega
  clear hp1 hsz hR
  obtain ⟨z0, z1, z2, z3, z4, z5, z6, z7, z8⟩ := id HR
  go_wp2_with fail
  refine (mask_any p l 0 _ hr (by omega) hpW).mono ?_
  rintro e W1 ⟨m, rfl, hm, hr1, F1⟩
  go_wp2_with fail
  refine (half_any p l _ _ hr1 (by omega) (by have := F1.siz; omega)).mono ?_
  rintro e W2 ⟨k2, a2, b2, r2, d2, g2, q2, f2, o2, rfl, hrt, ⟨j, hj, hr2⟩, F2⟩
  have F := F1.trans F2
  have HR' := HR.fr F (by omega) (by omega)
  have fR' : ∀ i, W2.frozen? ⟨R, i, none⟩ = false := fun i => by rw [F.frz _ _ (by omega)]; exact fR i
  have hB' := hB.trans (F.bel.mono (by omega))
  clear z0 z1 z2 z3 z4 z5 z6 z7 z8 HR fR hB F F1 F2
  obtain ⟨z0, z1, z2, z3, z4, z5, z6, z7, z8⟩ := id HR'
  go_wp2_with fail
  obtain ⟨y0, y1, y2, y3, y4, y5, y6, y7, y8⟩ := HR'.put (.int .i64 k2) (.int .i64 a2) (.int .i64 b2) (.int .i64 r2) (.int .i64 d2) (.int .i64 g2) (.int .i64 q2) (.int .i64 f2) (.bool o2)
  refine bodyPost_ret (v := .tuple #[.agg #[.int .i64 k2, .int .i64 a2, .int .i64 b2, .int .i64 r2, .int .i64 d2, .int .i64 g2, .int .i64 q2, .int .i64 f2, .bool o2], .int .u32 m]) (by simp [results, Try.results16, go_sem, *]) rfl ?_
  refine ⟨_, _, _, _, _, _, _, _, _, _, rfl, hrt, hm, ?_⟩
  repeat (refine Below.setCell (p := ⟨R, _, none⟩) ?_ hRs _)
  exact hB'

set_option maxHeartbeats 2000000 in
theorem drawMint_any (a : Option Addr) (n c : Nat) (w : World) (h : Bytes w a n c) (hn : n ≤ 1048576) :
    Calls Try.prog 17 #[.slice a n c] w fun e w' => ∃ (k' a b r d g q f m y : Int) (o : Bool), e = .returned (.tuple #[.agg #[.int .i64 k', .int .i64 a, .int .i64 b, .int .i64 r, .int .i64 d, .int .i64 g, .int .i64 q, .int .i64 f, .bool o], .int .u32 m, .int .u32 y]) ∧ (-10 ≤ r ∧ r ≤ 10) ∧ (0 ≤ m ∧ m ≤ 4294967295) ∧ (0 ≤ y ∧ y ≤ 4294967295) ∧ Below w.heap.size w w' := by
  go_enter Try.func17, Try.ntmps17
  go_wp2_with fail
  have hB0 : Below w.heap.size w (w.alloc (.cells #[.int .i64 0, .int .i64 0, .int .i64 0, .int .i64 0, .int .i64 0, .int .i64 0, .int .i64 0, .int .i64 0, .bool false] 31)) := (Below.refl _ _).alloc (Nat.le_refl _) _
  refine (open_any a n c _ (h.alloc _) hn).mono ?_
  rintro e W ⟨rfl, ⟨l, hr⟩, hb, hsz⟩
  have F := Fr.of_below hb (Nat.le_refl _)
  have HR := (Holds9.alloc w (.int .i64 0) (.int .i64 0) (.int .i64 0) (.int .i64 0) (.int .i64 0) (.int .i64 0) (.int .i64 0) (.int .i64 0) (.bool false) 31).fr F (by simp) (by simp)
  have fR : ∀ i, W.frozen? ⟨w.heap.size, i, none⟩ = false := fun i => by rw [F.frz _ _ (by simp)]; go_simp
  have hB := hB0.trans (hb.mono (by simp))
  obtain ⟨p, hp⟩ : ∃ p, p = (w.alloc (.cells #[.int .i64 0, .int .i64 0, .int .i64 0, .int .i64 0, .int .i64 0, .int .i64 0, .int .i64 0, .int .i64 0, .bool false] 31)).heap.size := ⟨_, rfl⟩
  rw [← hp] at hr hsz ⊢
  have hp1 : p = w.heap.size + 1 := by rw [hp]; simp
  clear hp hB0 F hb
  obtain ⟨R, hR⟩ : ∃ R, R = w.heap.size := ⟨_, rfl⟩
  rw [← hR] at HR fR ⊢
  have hRp : R < p := by omega
  have hRs : w.heap.size ≤ R := by omega
  have hpW : p < W.heap.size := by omega
  clear hp1 hsz hR
  obtain ⟨z0, z1, z2, z3, z4, z5, z6, z7, z8⟩ := id HR
  go_wp2_with fail
  refine (mask_any p l 0 _ hr (by omega) hpW).mono ?_
  rintro e W1 ⟨m, rfl, hm, hr1, F1⟩
  go_wp2_with fail
  have hpW1 : p < W1.heap.size := by have := F1.siz; omega
  refine (num_fr p l _ _ _ _ (0) (4294967295) _ (reads_alloc hr1 hpW1 _) (by omega) (by omega) (by omega) (by omega) (fun j hj => by have := made_cells W1 3 [0, 1, 5, 65535, 65536, 65537, 131074, 196615, 524543, 524544, 589824, 4294967295] (0) (4294967295) (by intro z hz; simp at hz; omega) j (by simpa using hj); simpa using this)).mono ?_
  rintro e W3 ⟨y, rfl, hy, hr3, F3⟩
  have F13 := (F1.alloc (by omega) _).trans F3
  have hpW3 : p < W3.heap.size := by have := F13.siz; omega
  have hyw : IntKind.u32.wrap y = y := by simp [IntKind.wrap, IntKind.bits, IntKind.signed]; omega
  go_wp2_with fail
  refine (half_any p l _ _ hr3 (by omega) hpW3).mono ?_
  rintro e W2 ⟨k2, a2, b2, r2, d2, g2, q2, f2, o2, rfl, hrt, ⟨j, hj, hr2⟩, F2⟩
  have F := F13.trans F2
  have HR' := HR.fr F (by omega) (by omega)
  have fR' : ∀ i, W2.frozen? ⟨R, i, none⟩ = false := fun i => by rw [F.frz _ _ (by omega)]; exact fR i
  have hB' := hB.trans (F.bel.mono (by omega))
  clear z0 z1 z2 z3 z4 z5 z6 z7 z8 HR fR hB F F1 F2 F3 F13
  obtain ⟨z0, z1, z2, z3, z4, z5, z6, z7, z8⟩ := id HR'
  go_wp2_with fail
  obtain ⟨y0, y1, y2, y3, y4, y5, y6, y7, y8⟩ := HR'.put (.int .i64 k2) (.int .i64 a2) (.int .i64 b2) (.int .i64 r2) (.int .i64 d2) (.int .i64 g2) (.int .i64 q2) (.int .i64 f2) (.bool o2)
  refine bodyPost_ret (v := .tuple #[.agg #[.int .i64 k2, .int .i64 a2, .int .i64 b2, .int .i64 r2, .int .i64 d2, .int .i64 g2, .int .i64 q2, .int .i64 f2, .bool o2], .int .u32 m, .int .u32 y]) (by simp [results, Try.results17, go_sem, *]) rfl ?_
  refine ⟨_, _, _, _, _, _, _, _, _, _, _, rfl, hrt, hm, hy, ?_⟩
  repeat (refine Below.setCell (p := ⟨R, _, none⟩) ?_ hRs _)
  exact hB'

end Go.Proofs.Ytaebcaajcolnfaa
