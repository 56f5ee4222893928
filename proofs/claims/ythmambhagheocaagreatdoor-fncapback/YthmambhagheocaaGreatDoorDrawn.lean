/-
  What the drawing of two ranges answers: four numbers; whatever was there before is as it was. Condition: the bytes that it is given can be read, or there are none.
-/
import Derived.Test.YthmambhagheocaaGreatDoorDraw
namespace Go.Proofs.YthmambhagheocaaGreatDoor
open Go.ChangeShapes Go.WideShapes Go.ChangeAt Go.RowKit
set_option linter.unusedVariables false

/-- A reader at block p: it has read k of n bytes; the bytes lie in a block ahead of it. -/
def Reads (w : World) (p n : Nat) (k : Nat) : Prop :=
  ∃ (a : Option Addr) (c : Nat), w.cell? ⟨p, 0, none⟩ = some (.slice a n c) ∧ w.cell? ⟨p, 1, none⟩ = some (.int .i64 k) ∧ w.frozen? ⟨p, 1, none⟩ = false ∧ n ≤ 2000 ∧
    (n = 0 ∨ ∃ b o, a = some ⟨b, o, none⟩ ∧ b < p ∧ ∀ j, j < n → ∃ z, w.cell? ⟨b, o + j, none⟩ = some (.int .u8 z) ∧ 0 ≤ z ∧ z ≤ 255)

theorem Reads.later {w w' : World} {p n k k' : Nat} (h : Reads w p n k) (h1 : w'.cell? ⟨p, 1, none⟩ = some (.int .i64 k')) (h2 : w'.frozen? ⟨p, 1, none⟩ = false) (h0 : w'.cell? ⟨p, 0, none⟩ = w.cell? ⟨p, 0, none⟩)
    (hc : ∀ b o, b < p → w'.cell? ⟨b, o, none⟩ = w.cell? ⟨b, o, none⟩) : Reads w' p n k' := by
  obtain ⟨a, c, g0, g1, g2, g3, g4⟩ := h
  refine ⟨a, c, by rw [h0]; exact g0, h1, h2, g3, ?_⟩
  rcases g4 with e | ⟨b, o, e, hb, hz⟩
  · exact .inl e
  · exact .inr ⟨b, o, e, hb, fun j hj => by rw [hc _ _ hb]; exact hz j hj⟩

/-- Of the world the cell of the count alone turns. -/
def Turned (w w' : World) (p : Nat) : Prop :=
  (∀ b o, b ≠ p → w'.cell? ⟨b, o, none⟩ = w.cell? ⟨b, o, none⟩) ∧ w'.heap.size = w.heap.size ∧ Below p w w' ∧ (∀ b o, w'.frozen? ⟨b, o, none⟩ = w.frozen? ⟨b, o, none⟩) ∧ (∀ b, b ≠ p → w'.heap[b]? = w.heap[b]?)

theorem turned_set (w : World) (p m : Nat) (v : Value) : Turned w ((w.setCell ⟨p, 1, none⟩ v).drewN m) p := by
  refine ⟨fun b o hb => ?_, ?_, ?_, fun b o => ?_, fun b hb => ?_⟩
  · go_simp
  · go_simp
  · exact below_drewN (Below.setCell (p := ⟨p, 1, none⟩) (Below.refl p w) (Nat.le_refl p) v) m
  · go_simp
  · exact ((below_drewN (Below.refl (b + 1) (w.setCell ⟨p, 1, none⟩ v)) m).block b (Nat.lt_succ_self b)).trans (Below.heap_setCell w ⟨p, 1, none⟩ v b hb)

theorem reads_set {w : World} {p n k : Nat} (m : Nat) (h : Reads w p n k) : Reads ((w.setCell ⟨p, 1, none⟩ (.int .i64 ((k : Int) + 1))).drewN m) p n (k + 1) := by
  obtain ⟨a, c, g0, g1, g2, g3, g4⟩ := id h
  refine h.later ?_ ?_ ?_ ?_
  · go_simp
  · go_simp
  · go_simp
  · intro b o hb
    have : b ≠ p := by omega
    go_simp

theorem pick_any (p n k : Nat) (N : Int) (w : World) (h : Reads w p n k) (hk : k ≤ 3000) (hN : 1 ≤ N) (hN1 : N ≤ 1000) :
    Calls Tryz.prog 32 #[.pointer (some ⟨p, 0, none⟩), .int .i64 N] w fun e w' => ∃ x : Int, e = .returned (.int .i64 x) ∧ 0 ≤ x ∧ x < N ∧ Reads w' p n (k + 1) ∧ Turned w w' p := by
  obtain ⟨a, c, g0, g1, g2, g3, g4⟩ := id h
  rcases g4 with e | ⟨b, o, e, hb, hz⟩
  · subst e
    refine (pick_none p c a k N w (by omega) (by omega) hN hN1 g0 g1 g2).mono fun e w' ⟨he, hw⟩ => ?_
    exact ⟨0, he, by omega, by omega, by rw [hw]; exact reads_set 0 h, by rw [hw]; exact turned_set w p 0 _⟩
  · subst e
    by_cases hn : n = 0
    · subst hn
      refine (pick_none p c _ k N w (by omega) (by omega) hN hN1 g0 g1 g2).mono fun e w' ⟨he, hw⟩ => ?_
      exact ⟨0, he, by omega, by omega, by rw [hw]; exact reads_set 0 h, by rw [hw]; exact turned_set w p 0 _⟩
    · by_cases hkn : k < n
      · obtain ⟨z, z0, z1, z2⟩ := hz k hkn
        refine (pick_in p c n b o k N z w hk hN hN1 g3 hkn g0 g1 g2 (by omega) z0 z1 z2).mono fun e w' ⟨he, hw⟩ => ?_
        exact ⟨_, he, Int.emod_nonneg _ (by omega), Int.emod_lt_of_pos _ (by omega), by rw [hw]; exact reads_set 0 h, by rw [hw]; exact turned_set w p 0 _⟩
      · obtain ⟨z, z0, z1, z2⟩ := hz (k % n) (Nat.mod_lt _ (by omega))
        obtain ⟨y, y0, y1, y2⟩ := hz ((k * 7 + 3) % n) (Nat.mod_lt _ (by omega))
        refine (pick_out p c n b o k N z y w hk hN hN1 g3 (by omega) (by omega) g0 g1 g2 (by omega) z0 z1 z2 y0 y1 y2).mono fun e w' ⟨x, he, hx0, hx1, m, hw⟩ => ?_
        exact ⟨x, he, hx0, hx1, by rw [hw]; exact reads_set m h, by rw [hw]; exact turned_set w p m _⟩

theorem num_any (p n k q L C : Nat) (w : World) (h : Reads w p n k) (hk : k ≤ 3000) (hL : 1 ≤ L) (hL1 : L ≤ 300) (hq : q ≠ p)
    (hc : ∀ j, j < L → ∃ v, w.cell? ⟨q, j, none⟩ = some (.int .i64 v)) :
    Calls Tryz.prog 33 #[.pointer (some ⟨p, 0, none⟩), .slice (some ⟨q, 0, none⟩) L C] w fun e w' => ∃ x : Int, e = .returned (.int .i64 x) ∧ Reads w' p n (k + 1) ∧ Turned w w' p := by
  go_enter Tryz.func33, Tryz.ntmps33
  go_wp2_with (go_at_call 32; refine (pick_any p n k _ _ h hk (by omega) (by omega)).mono ?_; rintro e w1 ⟨x, rfl, hx0, hx1, hr, ht⟩; obtain ⟨m, rfl⟩ : ∃ m : Nat, x = m := ⟨x.toNat, by omega⟩; obtain ⟨v, hv⟩ := hc m (by omega); have hv1 : w1.cell? ⟨q, m, none⟩ = some (.int .i64 v) := (by rw [ht.1 _ _ hq]; exact hv))
  go_ret
  exact ⟨_, rfl, hr, ht⟩

theorem reads_alloc {w : World} {p n k : Nat} (h : Reads w p n k) (hp : p < w.heap.size) (o : Obj) : Reads (w.alloc o) p n k := by
  obtain ⟨a, c, g0, g1, g2, g3, g4⟩ := id h
  have hb : Below w.heap.size w (w.alloc o) := (Below.refl _ _).alloc (Nat.le_refl _) o
  refine h.later ?_ ?_ ?_ ?_
  · rw [hb.cell (p := ⟨p, 1, none⟩) hp]; exact g1
  · rw [hb.frozen (p := ⟨p, 1, none⟩) hp]; exact g2
  · exact hb.cell (p := ⟨p, 0, none⟩) hp
  · intro b o1 hbp
    exact hb.cell (p := ⟨b, o1, none⟩) (Nat.lt_trans hbp hp)

theorem cells15 (w : World) (T : Nat) (v0 v1 v2 v3 v4 v5 v6 v7 v8 v9 v10 v11 v12 v13 v14 : Int) (j : Nat) (hj : j < 15) : ∃ v, (w.alloc (.cells #[.int .i64 v0, .int .i64 v1, .int .i64 v2, .int .i64 v3, .int .i64 v4, .int .i64 v5, .int .i64 v6, .int .i64 v7, .int .i64 v8, .int .i64 v9, .int .i64 v10, .int .i64 v11, .int .i64 v12, .int .i64 v13, .int .i64 v14] T)).cell? ⟨w.heap.size, j, none⟩ = some (.int .i64 v) := by
  have : j = 0 ∨ j = 1 ∨ j = 2 ∨ j = 3 ∨ j = 4 ∨ j = 5 ∨ j = 6 ∨ j = 7 ∨ j = 8 ∨ j = 9 ∨ j = 10 ∨ j = 11 ∨ j = 12 ∨ j = 13 ∨ j = 14 := by omega
  rcases this with e | e | e | e | e | e | e | e | e | e | e | e | e | e | e <;> subst e <;> exact ⟨_, by go_simp; rfl⟩

theorem cells16 (w : World) (T : Nat) (v0 v1 v2 v3 v4 v5 v6 v7 v8 v9 v10 v11 v12 v13 v14 v15 : Int) (j : Nat) (hj : j < 16) : ∃ v, (w.alloc (.cells #[.int .i64 v0, .int .i64 v1, .int .i64 v2, .int .i64 v3, .int .i64 v4, .int .i64 v5, .int .i64 v6, .int .i64 v7, .int .i64 v8, .int .i64 v9, .int .i64 v10, .int .i64 v11, .int .i64 v12, .int .i64 v13, .int .i64 v14, .int .i64 v15] T)).cell? ⟨w.heap.size, j, none⟩ = some (.int .i64 v) := by
  have : j = 0 ∨ j = 1 ∨ j = 2 ∨ j = 3 ∨ j = 4 ∨ j = 5 ∨ j = 6 ∨ j = 7 ∨ j = 8 ∨ j = 9 ∨ j = 10 ∨ j = 11 ∨ j = 12 ∨ j = 13 ∨ j = 14 ∨ j = 15 := by omega
  rcases this with e | e | e | e | e | e | e | e | e | e | e | e | e | e | e | e <;> subst e <;> exact ⟨_, by go_simp; rfl⟩



theorem open_nil (a : Option Addr) (c n : Nat) (w : World) (hn : n ≤ 2000) :
    Calls Tryz.prog 16 #[.slice a n c] w fun e w' => e = .returned (.pointer (some ⟨w.heap.size, 0, none⟩)) ∧ w' = w.alloc (.cells #[.slice a n c, .int .i64 0] 76) := by
  have hn' : (n : Int) ≤ 2000 := by omega
  go_enter Tryz.func16, Tryz.ntmps16
  go_wp2
  go_ret
  exact ⟨rfl, rfl⟩

theorem open_long (b o c n : Nat) (w : World) (hn : 2000 < n) (hnc : n ≤ c) (hb : n ≤ 1048576) :
    Calls Tryz.prog 16 #[.slice (some ⟨b, o, none⟩) n c] w fun e w' => e = .returned (.pointer (some ⟨w.heap.size, 0, none⟩)) ∧ w' = w.alloc (.cells #[.slice (some ⟨b, o, none⟩) 2000 c, .int .i64 0] 76) := by
  have hn' : (2000 : Int) < (n : Int) := by omega
  have hc' : (2000 : Int) ≤ (c : Int) := by omega
  go_enter Tryz.func16, Tryz.ntmps16
  go_wp2
  go_ret
  exact ⟨rfl, rfl⟩

/-- What is told of the bytes that came in: there are none, or they can be read. -/
def Bytes (w : World) (a : Option Addr) (n c : Nat) : Prop :=
  n = 0 ∨ ∃ b o, a = some ⟨b, o, none⟩ ∧ b < w.heap.size ∧ n ≤ c ∧ ∀ j, j < n → ∃ z, w.cell? ⟨b, o + j, none⟩ = some (.int .u8 z) ∧ 0 ≤ z ∧ z ≤ 255

theorem open_any (a : Option Addr) (n c : Nat) (w : World) (h : Bytes w a n c) (hn : n ≤ 1048576) :
    Calls Tryz.prog 16 #[.slice a n c] w fun e w' => e = .returned (.pointer (some ⟨w.heap.size, 0, none⟩)) ∧ (∃ m, Reads w' w.heap.size m 0) ∧ Below w.heap.size w w' ∧ w'.heap.size = w.heap.size + 1 := by
  by_cases h2 : n ≤ 2000
  · refine (open_nil a c n w h2).mono fun e w' ⟨he, hw⟩ => ?_
    subst hw
    have hb : Below w.heap.size w (w.alloc (.cells #[.slice a n c, .int .i64 0] 76)) := (Below.refl _ _).alloc (Nat.le_refl _) _
    refine ⟨he, ⟨n, a, c, by go_simp, by go_simp, by go_simp, h2, ?_⟩, hb, by simp⟩
    rcases h with e | ⟨b, o, e, hbl, hnc, hz⟩
    · exact .inl e
    · exact .inr ⟨b, o, e, hbl, fun j hj => by rw [hb.cell (p := ⟨b, o + j, none⟩) hbl]; exact hz j hj⟩
  · rcases h with e | ⟨b, o, e, hbl, hnc, hz⟩
    · omega
    · subst e
      refine (open_long b o c n w (by omega) hnc hn).mono fun e w' ⟨he, hw⟩ => ?_
      subst hw
      have hb : Below w.heap.size w (w.alloc (.cells #[.slice (some ⟨b, o, none⟩) 2000 c, .int .i64 0] 76)) := (Below.refl _ _).alloc (Nat.le_refl _) _
      exact ⟨he, ⟨2000, _, c, by go_simp, by go_simp, by go_simp, Nat.le_refl _, .inr ⟨b, o, rfl, hbl, fun j hj => by rw [hb.cell (p := ⟨b, o + j, none⟩) hbl]; exact hz j (by omega)⟩⟩, hb, by simp⟩




end Go.Proofs.YthmambhagheocaaGreatDoor
