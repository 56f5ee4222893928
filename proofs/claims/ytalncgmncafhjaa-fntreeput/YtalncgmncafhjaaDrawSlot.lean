/-
  What the drawing of a slot answers: some slot, its numbers small; of what was there the reader's count alone turns. Condition: the reader can read.
-/
import Derived.Test.YtalncgmncafhjaaCapDrawn
import Derived.Test.YtalncgmncafhjaaToSlots
import Derived.Test.YtalncgmncafhjaaRows3
namespace Go.Proofs.Ytalncgmncafhjaa
open Go.ChangeShapes Go.WideShapes Go.ChangeAt Go.RowKit
set_option linter.unusedVariables false

/-- The numbers of a slot are small. -/
structure Sl.Tame (s : Sl) : Prop where
  t : -1000000 ≤ s.t ∧ s.t ≤ 1000000
  r : -10 ≤ s.r ∧ s.r ≤ 10
  p : -1000000 ≤ s.p ∧ s.p ≤ 1000000
theorem Sl.Tame.fit {s : Sl} (h : s.Tame) : s.Fit := ⟨by have := h.t; omega, by have := h.r; omega, by have := h.p; omega⟩

theorem slot_res {W : World} {B : Nat} {v0 v1 v2 v3 v4 v5 v6 v7 v8 v9 v10 : Value} {tmps : Array Value} (hp : tmps.getD 2 undef = .pointer (some ⟨B, 0, none⟩)) (h : Holds11 W B v0 v1 v2 v3 v4 v5 v6 v7 v8 v9 v10) :
    (results Try.f22 tmps).run Try.prog W = .ok (.agg #[v0, v1, v2, v3, v4, v5, v6, v7, v8, v9, v10]) W := by
  obtain ⟨h0, h1, h2, h3, h4, h5, h6, h7, h8, h9, h10, hz⟩ := h
  have hp2 : tmps[2]?.getD undef = .pointer (some ⟨B, 0, none⟩) := by simpa [Array.getD_eq_getD_getElem?] using hp
  simp [results, Try.results22, go_sem, *]

theorem Holds11.fr {w w' : World} {p B : Nat} {v0 v1 v2 v3 v4 v5 v6 v7 v8 v9 v10 : Value} (H : Holds11 w B v0 v1 v2 v3 v4 v5 v6 v7 v8 v9 v10) (F : Fr p w w') (hB : B < w.heap.size) (hne : B ≠ p) : Holds11 w' B v0 v1 v2 v3 v4 v5 v6 v7 v8 v9 v10 :=
  ⟨(F.cel _ _ hB hne).trans H.c0, (F.cel _ _ hB hne).trans H.c1, (F.cel _ _ hB hne).trans H.c2, (F.cel _ _ hB hne).trans H.c3, (F.cel _ _ hB hne).trans H.c4, (F.cel _ _ hB hne).trans H.c5, (F.cel _ _ hB hne).trans H.c6, (F.cel _ _ hB hne).trans H.c7, (F.cel _ _ hB hne).trans H.c8, (F.cel _ _ hB hne).trans H.c9, (F.cel _ _ hB hne).trans H.c10, fun i => (F.frz _ _ hB).trans (H.z i)⟩

set_option maxHeartbeats 2000000 in
theorem slot_any (p n k : Nat) (w : World) (h : Reads w p n k) (hk : k ≤ 2800) (hp : p < w.heap.size) :
    Calls Try.prog 22 #[.pointer (some ⟨p, 0, none⟩)] w fun e w' => ∃ s : Sl, e = .returned (.agg #[.int .i64 s.t, .int .i64 s.k, .int .i64 s.e, .int .i64 s.b, .int .i64 s.r, .int .i64 s.d, .int .i64 s.g, .int .i64 s.q, .int .i64 s.f, .bool s.o, .int .i64 s.p]) ∧ s.Tame ∧ (0 ≤ s.p ∧ s.p ≤ 4) ∧ (∃ j, j ≤ k + 10 ∧ Reads w' p n j) ∧ Fr p w w' := by
  go_enter Try.func22, Try.ntmps22
  go_wp2_with fail
  refine (pick_fr p n k _ _ (reads_alloc h hp _) (by omega) (by omega) (by omega)).mono ?_
  rintro e w1 ⟨x, rfl, hx, hr1, F1⟩
  go_wp2_with fail
  refine (cap_any p n (k + 1) _ hr1 (by omega) (by have := F1.siz; simp at this; omega)).mono ?_
  rintro e w2 ⟨k', a, b, r, d, g, q, f, o, rfl, hr, ⟨j, hj, hr2⟩, F2⟩
  go_wp2_with fail
  refine (pick_fr p n j _ _ hr2 (by omega) (by omega) (by omega)).mono ?_
  rintro e w3 ⟨y, rfl, hy, hr3, F3⟩
  have FW := (F1.trans F2).trans F3
  have hsz : w.heap.size < w3.heap.size := by have := FW.siz; simp at this; omega
  have HR := (Holds11.alloc w (.int .i64 0) (.int .i64 0) (.int .i64 0) (.int .i64 0) (.int .i64 0) (.int .i64 0) (.int .i64 0) (.int .i64 0) (.int .i64 0) (.bool false) (.int .i64 0) 27).fr FW (by simp) (by omega)
  have FF := ((Fr.refl p w).alloc (by omega) (.cells #[.int .i64 0, .int .i64 0, .int .i64 0, .int .i64 0, .int .i64 0, .int .i64 0, .int .i64 0, .int .i64 0, .int .i64 0, .bool false, .int .i64 0] 27)).trans FW
  clear hr1 hr2 F1 F2 F3 FW
  obtain ⟨R, hR⟩ : ∃ R, R = w.heap.size := ⟨_, rfl⟩
  rw [← hR] at HR hsz ⊢
  have hRs : w.heap.size ≤ R := by omega
  have hpR : p < R := by omega
  clear hR
  have HR' := HR
  obtain ⟨c0, c1, c2, c3, c4, c5, c6, c7, c8, c9, c10, cz⟩ := HR'
  go_wp2_with fail
  refine bodyPost_ret (slot_res rfl (HR.put11 _ _ _ _ _ _ _ _ _ _ _)) rfl ?_
  refine ⟨⟨_, _, _, _, _, _, _, _, _, _, _⟩, rfl, ⟨by dsimp only; omega, by dsimp only; omega, by dsimp only; omega⟩, by dsimp only; omega, ⟨j + 1, by omega, ?_⟩, ?_⟩
  · repeat (refine reads_put ?_ (by omega) _ _)
    exact hr3
  · repeat (refine Fr.set ?_ (by omega) (by omega) _ _)
    exact FF

set_option maxHeartbeats 1000000 in
theorem place_any (p n k m c : Nat) (P : Option Addr) (w : World) (h : Reads w p n k) (hk : k ≤ 2900) (hm : m ≤ 900) :
    Calls Try.prog 21 #[.pointer (some ⟨p, 0, none⟩), .slice P m c] w fun e w' => ∃ x : Int, e = .returned (.int .i64 x) ∧ (-1 ≤ x ∧ x ≤ (m : Int) + 1) ∧ Reads w' p n (k + 1) ∧ Fr p w w' := by
  go_enter Try.func21, Try.ntmps21
  go_wp2_with (go_at_call 40; refine (pick_fr p n k _ _ h (by omega) (by omega) (by omega)).mono ?_; rintro e w1 ⟨x, rfl, hx, hr, F⟩)
  go_ret
  exact ⟨_, rfl, by omega, hr, F⟩

theorem lies_sameAt {W W' : World} {B : Nat} {L : List Sl} (h : Lies W (some ⟨B, 0, none⟩) L) (hc : ∀ o, W'.cell? ⟨B, o, none⟩ = W.cell? ⟨B, o, none⟩) : Lies W' (some ⟨B, 0, none⟩) L := by
  refine ⟨.inr ⟨B, 0, rfl⟩, fun B' O e i hi => ?_⟩
  cases e
  exact (h.cells B 0 rfl i hi).of fun j => hc _

end Go.Proofs.Ytalncgmncafhjaa
