/-
  Drawing, told in one form: what a drawing turns is the reader's count and new blocks alone.
-/
import Derived.Test.YthmambhagheocaaGreatDoorDrawn
import Derived.Test.YthmambhagheocaaGreatDoorMem
namespace Go.Proofs.YthmambhagheocaaGreatDoor
open Go.ChangeShapes Go.WideShapes Go.ChangeAt Go.RowKit
set_option linter.unusedVariables false

/-- Of what was there the reader's count alone turns. -/
structure Fr (p : Nat) (w w' : World) : Prop where
  cel : ∀ b o, b < w.heap.size → b ≠ p → w'.cell? ⟨b, o, none⟩ = w.cell? ⟨b, o, none⟩
  frz : ∀ b o, b < w.heap.size → w'.frozen? ⟨b, o, none⟩ = w.frozen? ⟨b, o, none⟩
  siz : w.heap.size ≤ w'.heap.size
  bel : Below p w w'
  obj : ∀ b, b < w.heap.size → b ≠ p → w'.heap[b]? = w.heap[b]?

theorem Fr.of_turned {w w' : World} {p : Nat} (h : Turned w w' p) : Fr p w w' := ⟨fun b o _ hb => h.1 b o hb, fun b o _ => h.2.2.2.1 b o, Nat.le_of_eq h.2.1.symm, h.2.2.1, fun b _ hb => h.2.2.2.2 b hb⟩
theorem Fr.trans {p : Nat} {w1 w2 w3 : World} (h : Fr p w1 w2) (g : Fr p w2 w3) : Fr p w1 w3 :=
  ⟨fun b o hb hp => (g.cel b o (Nat.lt_of_lt_of_le hb h.siz) hp).trans (h.cel b o hb hp), fun b o hb => (g.frz b o (Nat.lt_of_lt_of_le hb h.siz)).trans (h.frz b o hb), Nat.le_trans h.siz g.siz, h.bel.trans g.bel, fun b hb hp => (g.obj b (Nat.lt_of_lt_of_le hb h.siz) hp).trans (h.obj b hb hp)⟩
theorem Fr.refl (p : Nat) (w : World) : Fr p w w := ⟨fun _ _ _ _ => rfl, fun _ _ _ => rfl, Nat.le_refl _, Below.refl _ _, fun _ _ _ => rfl⟩
theorem Fr.alloc {p : Nat} {w1 w2 : World} (h : Fr p w1 w2) (hp : p ≤ w2.heap.size) (o : Obj) : Fr p w1 (w2.alloc o) := by
  have hb := bcell (W := w2) ((Below.refl _ _).alloc (Nat.le_refl _) o)
  exact ⟨fun b x hlt hne => (hb.1 b x (Nat.lt_of_lt_of_le hlt h.siz)).trans (h.cel b x hlt hne), fun b x hlt => (hb.2 b x (Nat.lt_of_lt_of_le hlt h.siz)).trans (h.frz b x hlt), by have := h.siz; simp; omega, h.bel.alloc hp o, fun b hlt hne => (Below.heap_alloc w2 o b (Nat.lt_of_lt_of_le hlt h.siz)).trans (h.obj b hlt hne)⟩
/-- A store into a block that is new. -/
theorem Fr.set {p C : Nat} {w1 w2 : World} (h : Fr p w1 w2) (hC : w1.heap.size ≤ C) (hp : p ≤ C) (o : Nat) (v : Value) : Fr p w1 (w2.setCell ⟨C, o, none⟩ v) := by
  refine ⟨fun b x hlt hne => ?_, fun b x hlt => ?_, ?_, h.bel.setCell (p := ⟨C, o, none⟩) hp v, fun b hlt hne => (Below.heap_setCell w2 ⟨C, o, none⟩ v b (by show b ≠ C; omega)).trans (h.obj b hlt hne)⟩
  · have : b ≠ C := by omega
    have e : (w2.setCell ⟨C, o, none⟩ v).cell? ⟨b, x, none⟩ = w2.cell? ⟨b, x, none⟩ := by go_simp
    rw [e]; exact h.cel b x hlt hne
  · have e : (w2.setCell ⟨C, o, none⟩ v).frozen? ⟨b, x, none⟩ = w2.frozen? ⟨b, x, none⟩ := by go_simp
    rw [e]; exact h.frz b x hlt
  · have := h.siz; simp; omega

theorem Holds9.fr {w w' : World} {p B : Nat} {v0 v1 v2 v3 v4 v5 v6 v7 v8 : Value} (H : Holds9 w B v0 v1 v2 v3 v4 v5 v6 v7 v8) (F : Fr p w w') (hB : B < w.heap.size) (hne : B ≠ p) : Holds9 w' B v0 v1 v2 v3 v4 v5 v6 v7 v8 :=
  ⟨(F.cel _ _ hB hne).trans H.c0, (F.cel _ _ hB hne).trans H.c1, (F.cel _ _ hB hne).trans H.c2, (F.cel _ _ hB hne).trans H.c3, (F.cel _ _ hB hne).trans H.c4, (F.cel _ _ hB hne).trans H.c5, (F.cel _ _ hB hne).trans H.c6, (F.cel _ _ hB hne).trans H.c7, (F.cel _ _ hB hne).trans H.c8⟩

theorem reads_put {w : World} {p n k C : Nat} (h : Reads w p n k) (hC : p < C) (o : Nat) (v : Value) : Reads (w.setCell ⟨C, o, none⟩ v) p n k := by
  obtain ⟨a, c, g0, g1, g2, g3, g4⟩ := id h
  have hne : p ≠ C := by omega
  refine h.later ?_ ?_ ?_ ?_
  · go_simp
  · go_simp
  · go_simp
  · intro b o1 hb
    have : b ≠ C := by omega
    go_simp

theorem pick_fr (p n k : Nat) (N : Int) (w : World) (h : Reads w p n k) (hk : k ≤ 3000) (hN : 1 ≤ N) (hN1 : N ≤ 1000) :
    Calls Tryz.prog 32 #[.pointer (some ⟨p, 0, none⟩), .int .i64 N] w fun e w' => ∃ x : Int, e = .returned (.int .i64 x) ∧ (0 ≤ x ∧ x < N) ∧ Reads w' p n (k + 1) ∧ Fr p w w' :=
  (pick_any p n k N w h hk hN hN1).mono fun e w' ⟨x, he, h0, h1, hr, ht⟩ => ⟨x, he, ⟨h0, h1⟩, hr, Fr.of_turned ht⟩

theorem num_fr (p n k q L C : Nat) (lo hi : Int) (w : World) (h : Reads w p n k) (hk : k ≤ 3000) (hL : 1 ≤ L) (hL1 : L ≤ 300) (hq : q ≠ p)
    (hc : ∀ j, j < L → ∃ v, w.cell? ⟨q, j, none⟩ = some (.int .i64 v) ∧ lo ≤ v ∧ v ≤ hi) :
    Calls Tryz.prog 33 #[.pointer (some ⟨p, 0, none⟩), .slice (some ⟨q, 0, none⟩) L C] w fun e w' => ∃ x : Int, e = .returned (.int .i64 x) ∧ (lo ≤ x ∧ x ≤ hi) ∧ Reads w' p n (k + 1) ∧ Fr p w w' := by
  go_enter Tryz.func33, Tryz.ntmps33
  go_wp2_with (go_at_call 32; refine (pick_any p n k _ _ h hk (by omega) (by omega)).mono ?_; rintro e w1 ⟨x, rfl, hx0, hx1, hr, ht⟩; obtain ⟨m, rfl⟩ : ∃ m : Nat, x = m := ⟨x.toNat, by omega⟩; obtain ⟨v, hv, hv0, hv1⟩ := hc m (by omega); have hv1' : w1.cell? ⟨q, m, none⟩ = some (.int .i64 v) := (by rw [ht.1 _ _ hq]; exact hv))
  go_ret
  exact ⟨_, rfl, ⟨hv0, hv1⟩, hr, Fr.of_turned ht⟩

/-- The cells of a list that was just made. -/
theorem made_cells (w : World) (T : Nat) (zs : List Int) (lo hi : Int) (hz : ∀ z ∈ zs, lo ≤ z ∧ z ≤ hi) (j : Nat) (hj : j < zs.length) :
    ∃ v, (w.alloc (.cells (zs.map (Value.int .i64)).toArray T)).cell? ⟨w.heap.size, j, none⟩ = some (.int .i64 v) ∧ lo ≤ v ∧ v ≤ hi := by
  refine ⟨zs[j], ?_, hz _ (List.getElem_mem hj)⟩
  simp [go_sem, hj]

end Go.Proofs.YthmambhagheocaaGreatDoor
