/-
  What the drawings of a list of slots with two places, and of a list with a place and a slot, answer. Condition: the bytes can be read.
-/
import Derived.Test.YtalncgmncafhjaaDrawHalf
namespace Go.Proofs.Ytalncgmncafhjaa
open Go.ChangeShapes Go.WideShapes Go.ChangeAt Go.RowKit
set_option linter.unusedVariables false

/-- A list that was drawn lies in new memory. -/
structure NewL (w w' : World) (g cap : Nat) (L : List Sl) : Prop where
  len : L.length ≤ 301
  tame : ∀ s ∈ L, s.Tame
  lcap : L.length ≤ cap
  cm : cap ≤ 9223372036854775807
  lies : Lies w' (some ⟨g, 0, none⟩) L
  ge : w.heap.size ≤ g
  lt : g < w'.heap.size

set_option maxHeartbeats 2000000 in
theorem drawAbove_any (a : Option Addr) (n c : Nat) (w : World) (h : Bytes w a n c) (hn : n ≤ 1048576) :
    Calls Try.prog 15 #[.slice a n c] w fun e w' => ∃ (g cap : Nat) (L : List Sl) (i k : Int), e = .returned (.tuple #[.slice (some ⟨g, 0, none⟩) L.length cap, .int .i64 i, .int .i64 k]) ∧ NewL w w' g cap L ∧ (-1 ≤ i ∧ i ≤ 1000) ∧ (-1 ≤ k ∧ k ≤ 1000) ∧ Below w.heap.size w w' := by
  go_enter Try.func15, Try.ntmps15
  go_wp2_with fail
  refine (open_any a n c w h hn).mono ?_
  rintro e w1 ⟨rfl, ⟨l, hr⟩, hb, hsz⟩
  obtain ⟨p, hp⟩ : ∃ p, p = w.heap.size := ⟨_, rfl⟩
  rw [← hp] at hr ⊢
  have hpw : p < w1.heap.size := by omega
  have hB : Below w.heap.size w w1 := hb
  have hpw0 : w.heap.size ≤ p := by omega
  clear hp hb
  go_wp2_with fail
  refine (half3_any p l 0 w1 hr (by omega) hpw).mono ?_
  rintro e w2 ⟨v, rfl, g, cap, L, rfl, hlen, hta, hcap, hcm, hL, hg, hg2, ⟨j, hj, hr2⟩, F2⟩
  go_wp2_with fail
  refine (place_any p l j L.length cap (some ⟨g, 0, none⟩) w2 hr2 (by omega) (by omega)).mono ?_
  rintro e w3 ⟨x, rfl, hx, hr3, F3⟩
  have hL3 : Lies w3 (some ⟨g, 0, none⟩) L := lies_sameAt hL (fun o => F3.cel g o hg2 (by omega))
  go_wp2_with fail
  refine (place_any p l (j + 1) L.length cap (some ⟨g, 0, none⟩) w3 hr3 (by omega) (by omega)).mono ?_
  rintro e w4 ⟨y, rfl, hy, hr4, F4⟩
  have hg3 : g < w3.heap.size := Nat.lt_of_lt_of_le hg2 F3.siz
  have hL4 : Lies w4 (some ⟨g, 0, none⟩) L := lies_sameAt hL3 (fun o => F4.cel g o hg3 (by omega))
  go_wp2_with fail
  refine bodyPost_ret (v := .tuple #[.slice (some ⟨g, 0, none⟩) L.length cap, .int .i64 x, .int .i64 y]) (by simp [results, Try.results15, go_sem]) rfl ?_
  refine ⟨g, cap, L, x, y, rfl, ⟨hlen, hta, hcap, hcm, hL4, by omega, Nat.lt_of_lt_of_le hg3 F4.siz⟩, by omega, by omega, ?_⟩
  exact hB.trans ((((F2.bel.trans F3.bel).trans F4.bel)).mono hpw0)

set_option maxHeartbeats 2000000 in
theorem drawPut_any (a : Option Addr) (n c : Nat) (w : World) (h : Bytes w a n c) (hn : n ≤ 1048576) :
    Calls Try.prog 5 #[.slice a n c] w fun e w' => ∃ (g cap : Nat) (L : List Sl) (i : Int) (s : Sl), e = .returned (.tuple #[.slice (some ⟨g, 0, none⟩) L.length cap, .int .i64 i, .agg #[.int .i64 s.t, .int .i64 s.k, .int .i64 s.e, .int .i64 s.b, .int .i64 s.r, .int .i64 s.d, .int .i64 s.g, .int .i64 s.q, .int .i64 s.f, .bool s.o, .int .i64 s.p]]) ∧ NewL w w' g cap L ∧ (-1 ≤ i ∧ i ≤ 1000) ∧ s.Tame ∧ Below w.heap.size w w' := by
  have hB0 : Below w.heap.size w (w.alloc (.cells #[.int .i64 0, .int .i64 0, .int .i64 0, .int .i64 0, .int .i64 0, .int .i64 0, .int .i64 0, .int .i64 0, .int .i64 0, .bool false, .int .i64 0] 27)) := (Below.refl _ _).alloc (Nat.le_refl _) _
  go_enter Try.func5, Try.ntmps5
  go_wp2_with fail
  refine (open_any a n c _ (h.alloc _) hn).mono ?_
  rintro e w1 ⟨rfl, ⟨l, hr⟩, hb, hsz⟩
  have HR := (Holds11.alloc w (.int .i64 0) (.int .i64 0) (.int .i64 0) (.int .i64 0) (.int .i64 0) (.int .i64 0) (.int .i64 0) (.int .i64 0) (.int .i64 0) (.bool false) (.int .i64 0) 27).below hb (by simp)
  have hB : Below w.heap.size w w1 := hB0.trans (hb.mono (by simp))
  obtain ⟨R, hR⟩ : ∃ R, R = w.heap.size := ⟨_, rfl⟩
  obtain ⟨p, hp⟩ : ∃ p, p = R + 1 := ⟨_, rfl⟩
  simp only [World.size_alloc] at hr hsz ⊢
  rw [← hR, ← hp] at hr ⊢
  rw [← hR] at HR
  have hpw : p < w1.heap.size := by omega
  have hRw : w.heap.size ≤ R := by omega
  have hRp : R < p := by omega
  clear hp hb hB0 hR hsz
  go_wp2_with fail
  refine (half3_any p l 0 w1 hr (by omega) hpw).mono ?_
  rintro e w2 ⟨v, rfl, g, cap, L, rfl, hlen, hta, hcap, hcm, hL, hg, hg2, ⟨j, hj, hr2⟩, F2⟩
  have hpw2 : p < w2.heap.size := Nat.lt_of_lt_of_le hpw F2.siz
  go_wp2_with fail
  refine (place_any p l j L.length cap (some ⟨g, 0, none⟩) w2 hr2 (by omega) (by omega)).mono ?_
  rintro e w3 ⟨x, rfl, hx, hr3, F3⟩
  have hL3 : Lies w3 (some ⟨g, 0, none⟩) L := lies_sameAt hL (fun o => F3.cel g o hg2 (by omega))
  have hpw3 : p < w3.heap.size := Nat.lt_of_lt_of_le hpw2 F3.siz
  go_wp2_with fail
  refine (slot_any p l (j + 1) w3 hr3 (by omega) hpw3).mono ?_
  rintro e w4 ⟨s, rfl, hs, hs4, ⟨j4, hj4, hr4⟩, F4⟩
  have hg3 : g < w3.heap.size := Nat.lt_of_lt_of_le hg2 F3.siz
  have hL4 : Lies w4 (some ⟨g, 0, none⟩) L := lies_sameAt hL3 (fun o => F4.cel g o hg3 (by omega))
  have FF := (F2.trans F3).trans F4
  have HR4 := HR.fr FF (by omega) (by omega)
  have hB4 := hB.trans (FF.bel.mono (by omega))
  have hg4 : g < w4.heap.size := Nat.lt_of_lt_of_le hg3 F4.siz
  clear HR FF F2 F3 F4 hr hr2 hr3 hL hL3 hB
  obtain ⟨z0, z1, z2, z3, z4, z5, z6, z7, z8, z9, z10, zz⟩ := id HR4
  go_wp2_with fail
  obtain ⟨y0, y1, y2, y3, y4, y5, y6, y7, y8, y9, y10, yz⟩ := HR4.put11 (.int .i64 s.t) (.int .i64 s.k) (.int .i64 s.e) (.int .i64 s.b) (.int .i64 s.r) (.int .i64 s.d) (.int .i64 s.g) (.int .i64 s.q) (.int .i64 s.f) (.bool s.o) (.int .i64 s.p)
  refine bodyPost_ret (v := .tuple #[.slice (some ⟨g, 0, none⟩) L.length cap, .int .i64 x, .agg #[.int .i64 s.t, .int .i64 s.k, .int .i64 s.e, .int .i64 s.b, .int .i64 s.r, .int .i64 s.d, .int .i64 s.g, .int .i64 s.q, .int .i64 s.f, .bool s.o, .int .i64 s.p]]) (by simp [results, Try.results5, go_sem, *]) rfl ?_
  refine ⟨g, cap, L, x, s, rfl, ⟨hlen, hta, hcap, hcm, lies_sameAt hL4 (fun o => ?_), by omega, ?_⟩, by omega, hs, ?_⟩
  · have hgR : g ≠ R := by omega
    go_simp
  · simp; omega
  · repeat (refine Below.setCell (p := ⟨R, _, none⟩) ?_ hRw _)
    exact hB4

end Go.Proofs.Ytalncgmncafhjaa
