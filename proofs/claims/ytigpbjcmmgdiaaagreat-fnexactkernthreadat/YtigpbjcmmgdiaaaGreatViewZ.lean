/-
 The view of a state that is ok, by the program, and whether a state is ok. Conditions: the state's rows lie in memory and are not too long; its integers are such of 64 bits.
-/
import Derived.Test.YtigpbjcmmgdiaaaGreatRs
namespace Go.Proofs.YtigpbjcmmgdiaaaGreat
open Go.ChangeShapes Go.WideShapes Go.ChangeAt Go.RowKit
set_option linter.unusedVariables false

theorem buildView (K : QK) (W : World) : (Instr.build 92 #[(0, .agg #[.int .i64 K.bits, .int .i64 K.ticks, .slice K.sP K.sl.length K.sc, .slice K.tP K.tl.length K.tc, .slice K.eP K.el.length K.ec, .slice K.nP K.nl.length K.nc, .slice K.fP K.fl.length K.fc, .slice K.r0.P K.r0.l.length K.r0.c, .slice K.r1.P K.r1.l.length K.r1.c, .slice K.r2.P K.r2.l.length K.r2.c, .slice K.r3.P K.r3.l.length K.r3.c, .slice K.r4.P K.r4.l.length K.r4.c, .slice K.r5.P K.r5.l.length K.r5.c, .slice K.r6.P K.r6.l.length K.r6.c, .slice K.r7.P K.r7.l.length K.r7.c])]).run Tryz.prog W = .ok (.agg #[.int .i64 K.bits, .int .i64 K.ticks, .slice K.sP K.sl.length K.sc, .slice K.tP K.tl.length K.tc, .slice K.eP K.el.length K.ec, .slice K.nP K.nl.length K.nc, .slice K.fP K.fl.length K.fc, .slice K.r0.P K.r0.l.length K.r0.c, .slice K.r1.P K.r1.l.length K.r1.c, .slice K.r2.P K.r2.l.length K.r2.c, .slice K.r3.P K.r3.l.length K.r3.c, .slice K.r4.P K.r4.l.length K.r4.c, .slice K.r5.P K.r5.l.length K.r5.c, .slice K.r6.P K.r6.l.length K.r6.c, .slice K.r7.P K.r7.l.length K.r7.c, .slice none 0 0, .slice none 0 0, .slice none 0 0, .map none, .slice none 0 0, .map none, .map none, .map none, .map none, .map none, .map none, .map none, .map none]) W := by
 kernel_rfl
theorem facts15v {W : World} {b : Nat} {K : QK} (h : LiesG fV W (some ⟨b, 0, none⟩) [.int .i64 K.bits, .int .i64 K.ticks, .slice K.sP K.sl.length K.sc, .slice K.tP K.tl.length K.tc, .slice K.eP K.el.length K.ec, .slice K.nP K.nl.length K.nc, .slice K.fP K.fl.length K.fc, .slice K.r0.P K.r0.l.length K.r0.c, .slice K.r1.P K.r1.l.length K.r1.c, .slice K.r2.P K.r2.l.length K.r2.c, .slice K.r3.P K.r3.l.length K.r3.c, .slice K.r4.P K.r4.l.length K.r4.c, .slice K.r5.P K.r5.l.length K.r5.c, .slice K.r6.P K.r6.l.length K.r6.c, .slice K.r7.P K.r7.l.length K.r7.c]) : W.cell? ⟨b, 0, none⟩ = some (.int .i64 K.bits) ∧ W.cell? ⟨b, 1, none⟩ = some (.int .i64 K.ticks) ∧ W.cell? ⟨b, 2, none⟩ = some (.slice K.sP K.sl.length K.sc) ∧ W.cell? ⟨b, 3, none⟩ = some (.slice K.tP K.tl.length K.tc) ∧ W.cell? ⟨b, 4, none⟩ = some (.slice K.eP K.el.length K.ec) ∧ W.cell? ⟨b, 5, none⟩ = some (.slice K.nP K.nl.length K.nc) ∧ W.cell? ⟨b, 6, none⟩ = some (.slice K.fP K.fl.length K.fc) ∧ W.cell? ⟨b, 7, none⟩ = some (.slice K.r0.P K.r0.l.length K.r0.c) ∧ W.cell? ⟨b, 8, none⟩ = some (.slice K.r1.P K.r1.l.length K.r1.c) ∧ W.cell? ⟨b, 9, none⟩ = some (.slice K.r2.P K.r2.l.length K.r2.c) ∧ W.cell? ⟨b, 10, none⟩ = some (.slice K.r3.P K.r3.l.length K.r3.c) ∧ W.cell? ⟨b, 11, none⟩ = some (.slice K.r4.P K.r4.l.length K.r4.c) ∧ W.cell? ⟨b, 12, none⟩ = some (.slice K.r5.P K.r5.l.length K.r5.c) ∧ W.cell? ⟨b, 13, none⟩ = some (.slice K.r6.P K.r6.l.length K.r6.c) ∧ W.cell? ⟨b, 14, none⟩ = some (.slice K.r7.P K.r7.l.length K.r7.c) :=
 ⟨atV h 0 _ rfl, atV h 1 _ rfl, atV h 2 _ rfl, atV h 3 _ rfl, atV h 4 _ rfl, atV h 5 _ rfl, atV h 6 _ rfl, atV h 7 _ rfl, atV h 8 _ rfl, atV h 9 _ rfl, atV h 10 _ rfl, atV h 11 _ rfl, atV h 12 _ rfl, atV h 13 _ rfl, atV h 14 _ rfl⟩
theorem progP_all (K : QK) : ProgP K ↔ ∀ i, i < 12 → zP K i := by
 rw [progP_iff]
 constructor
 ·rintro ⟨h1, h2, h3, h4, h5, h6, h7, h8, h9, h10, h11, h12⟩ i hi
  rcases (by omega : i = 0 ∨ i = 1 ∨ i = 2 ∨ i = 3 ∨ i = 4 ∨ i = 5 ∨ i = 6 ∨ i = 7 ∨ i = 8 ∨ i = 9 ∨ i = 10 ∨ i = 11) with rfl | rfl | rfl | rfl | rfl | rfl | rfl | rfl | rfl | rfl | rfl | rfl <;> assumption
 ·intro h
  exact ⟨h 0 (by omega), h 1 (by omega), h 2 (by omega), h 3 (by omega), h 4 (by omega), h 5 (by omega), h 6 (by omega), h 7 (by omega), h 8 (by omega), h 9 (by omega), h 10 (by omega), h 11 (by omega)⟩
theorem zA_c {w0 : World} {K : QK} {vB cB k : Nat} {W : World} (h : zA w0 K vB cB k W) (hk : k ≤ 12) : Bx W cB 121 (fnL vB) := by
 rcases (by omega : k = 0 ∨ k = 1 ∨ k = 2 ∨ k = 3 ∨ k = 4 ∨ k = 5 ∨ k = 6 ∨ k = 7 ∨ k = 8 ∨ k = 9 ∨ k = 10 ∨ k = 11 ∨ k = 12) with rfl | rfl | rfl | rfl | rfl | rfl | rfl | rfl | rfl | rfl | rfl | rfl | rfl
 ·exact h.2.1
 ·exact h.2.1
 ·obtain ⟨N, uB, pB, P, cap, A, fs, Z, _⟩ := h; exact Z.c
 ·obtain ⟨N, uB, pB, P, cap, A, fs, Z, _⟩ := h; exact Z.c
 ·obtain ⟨N, uB, pB, P, cap, A, fs, Z, _⟩ := h; exact Z.c
 ·obtain ⟨N, uB, pB, P, cap, A, fs, Z, _⟩ := h; exact Z.c
 ·obtain ⟨N, uB, pB, P, cap, A, m0, fs, Z, _⟩ := h; exact Z.z.c
 ·obtain ⟨N, uB, pB, P, cap, A, m0, fs, Z, _⟩ := h; exact Z.z.c
 ·obtain ⟨N, uB, pB, P, cap, A, m0, hB, fs, Z, _⟩ := h; exact Z.o.z.c
 ·obtain ⟨N, uB, pB, P, cap, A, m0, hB, fs, Z, _⟩ := h; exact Z.o.z.c
 ·obtain ⟨N, uB, pB, P, cap, A, m0, hB, tB, fs, Z, _⟩ := h; exact Z.h.o.z.c
 ·obtain ⟨N, uB, pB, P, cap, A, m0, hB, tB, n, fs, Z, _⟩ := h; exact Z.h.o.z.c
 ·obtain ⟨N, uB, pB, P, cap, A, m0, hB, tB, n, fs, Z, _⟩ := h; exact Z.h.o.z.c
def zInv (w0 : World) (K : QK) (vB cB : Nat) (v : Value) (W : World) : Prop :=
 ∃ j : Nat, j ≤ 12 ∧ v = .int .i64 (j : Int) ∧ (∀ i, i < j → zP K i) ∧ zA w0 K vB cB j W
def w1K (K : QK) (w : World) : World := (w.alloc (.cells #[.int .i64 K.bits, .int .i64 K.ticks, .slice K.sP K.sl.length K.sc, .slice K.tP K.tl.length K.tc, .slice K.eP K.el.length K.ec, .slice K.nP K.nl.length K.nc, .slice K.fP K.fl.length K.fc, .slice K.r0.P K.r0.l.length K.r0.c, .slice K.r1.P K.r1.l.length K.r1.c, .slice K.r2.P K.r2.l.length K.r2.c, .slice K.r3.P K.r3.l.length K.r3.c, .slice K.r4.P K.r4.l.length K.r4.c, .slice K.r5.P K.r5.l.length K.r5.c, .slice K.r6.P K.r6.l.length K.r6.c, .slice K.r7.P K.r7.l.length K.r7.c] 42))
def w2K (K : QK) (w : World) : World := (w1K K w).alloc (.cells #[.int .i64 K.bits, .int .i64 K.ticks, .slice K.sP K.sl.length K.sc, .slice K.tP K.tl.length K.tc, .slice K.eP K.el.length K.ec, .slice K.nP K.nl.length K.nc, .slice K.fP K.fl.length K.fc, .slice K.r0.P K.r0.l.length K.r0.c, .slice K.r1.P K.r1.l.length K.r1.c, .slice K.r2.P K.r2.l.length K.r2.c, .slice K.r3.P K.r3.l.length K.r3.c, .slice K.r4.P K.r4.l.length K.r4.c, .slice K.r5.P K.r5.l.length K.r5.c, .slice K.r6.P K.r6.l.length K.r6.c, .slice K.r7.P K.r7.l.length K.r7.c, .slice none 0 0, .slice none 0 0, .slice none 0 0, .map none, .slice none 0 0, .map none, .map none, .map none, .map none, .map none, .map none, .map none, .map none] 92)
def w3K (K : QK) (w : World) : World := (w2K K w).alloc (.cells #[.func (.func 62) #[.pointer (some ⟨w.heap.size + 1, 0, none⟩)] #[], .func (.func 63) #[.pointer (some ⟨w.heap.size + 1, 0, none⟩)] #[], .func (.func 64) #[.pointer (some ⟨w.heap.size + 1, 0, none⟩)] #[], .func (.func 65) #[.pointer (some ⟨w.heap.size + 1, 0, none⟩)] #[], .func (.func 66) #[.pointer (some ⟨w.heap.size + 1, 0, none⟩)] #[], .func (.func 67) #[.pointer (some ⟨w.heap.size + 1, 0, none⟩)] #[], .func (.func 68) #[.pointer (some ⟨w.heap.size + 1, 0, none⟩)] #[], .func (.func 69) #[.pointer (some ⟨w.heap.size + 1, 0, none⟩)] #[], .func (.func 70) #[.pointer (some ⟨w.heap.size + 1, 0, none⟩)] #[], .func (.func 71) #[.pointer (some ⟨w.heap.size + 1, 0, none⟩)] #[], .func (.func 72) #[.pointer (some ⟨w.heap.size + 1, 0, none⟩)] #[], .func (.func 73) #[.pointer (some ⟨w.heap.size + 1, 0, none⟩)] #[]] 121)
def fnN (j : Nat) : Nat := [62, 63, 64, 65, 66, 67, 68, 69, 70, 71, 72, 73].getD j 0
theorem z_all {w0 : World} {K : QK} {vB cB : Nat} {w : World} (hs : K.Short) (hcap : K.sl.length ≤ K.sc) (hcm : K.sc ≤ 9223372036854775807) (hf : K.Fits) (j : Nat) (hj : j < 12) (h : zA w0 K vB cB j w) :
  (zP K j → Calls Tryz.prog (fnN j) #[.pointer (some ⟨vB, 0, none⟩)] w fun e w' => e = .returned (.bool true) ∧ zA w0 K vB cB (j + 1) w') ∧ (¬ zP K j → Calls Tryz.prog (fnN j) #[.pointer (some ⟨vB, 0, none⟩)] w fun e w' => e = .returned (.bool false) ∧ Below w0.heap.size w0 w') := by
 rcases (by omega : j = 0 ∨ j = 1 ∨ j = 2 ∨ j = 3 ∨ j = 4 ∨ j = 5 ∨ j = 6 ∨ j = 7 ∨ j = 8 ∨ j = 9 ∨ j = 10 ∨ j = 11) with rfl | rfl | rfl | rfl | rfl | rfl | rfl | rfl | rfl | rfl | rfl | rfl
 ·exact z0 hs hcap hcm hf h
 ·exact z1 hs hcap hcm hf h
 ·exact z2 hs hcap hcm hf h
 ·exact z3 hs hcap hcm hf h
 ·exact z4 hs hcap hcm hf h
 ·exact z5 hs hcap hcm hf h
 ·exact z6 hs hcap hcm hf h
 ·exact z7 hs hcap hcm hf h
 ·exact z8 hs hcap hcm hf h
 ·exact z9 hs hcap hcm hf h
 ·exact z10 hs hcap hcm hf h
 ·exact z11 hs hcap hcm hf h
set_option maxRecDepth 100000 in
set_option maxHeartbeats 16000000 in
theorem kernViewOf_any (K : QK) (w : World) (hs : K.Short) (hcap : K.sl.length ≤ K.sc) (hcm : K.sc ≤ 9223372036854775807) (hf : K.Fits) (h : KernIn w K) :
  Calls Tryz.prog 34 #[.agg #[.int .i64 K.bits, .int .i64 K.ticks, .slice K.sP K.sl.length K.sc, .slice K.tP K.tl.length K.tc, .slice K.eP K.el.length K.ec, .slice K.nP K.nl.length K.nc, .slice K.fP K.fl.length K.fc, .slice K.r0.P K.r0.l.length K.r0.c, .slice K.r1.P K.r1.l.length K.r1.c, .slice K.r2.P K.r2.l.length K.r2.c, .slice K.r3.P K.r3.l.length K.r3.c, .slice K.r4.P K.r4.l.length K.r4.c, .slice K.r5.P K.r5.l.length K.r5.c, .slice K.r6.P K.r6.l.length K.r6.c, .slice K.r7.P K.r7.l.length K.r7.c]] w fun e w' => (ProgP K ∧ e = .returned (.pointer (some ⟨w.heap.size + 1, 0, none⟩)) ∧ zA w K (w.heap.size + 1) (w.heap.size + 1 + 1) 12 w') ∨ (¬ ProgP K ∧ e = .returned (.pointer none) ∧ Below w.heap.size w w') := by
 have hmf : ∀ (fn : Fn) (first cap : Array Value) (w : World), (Instr.makeFunc fn first cap).run Tryz.prog w = .ok (.func fn first cap) w := fun _ _ _ _ => rfl
 have hbv := buildView K
 have kb := (boxL w [.int .i64 K.bits, .int .i64 K.ticks, .slice K.sP K.sl.length K.sc, .slice K.tP K.tl.length K.tc, .slice K.eP K.el.length K.ec, .slice K.nP K.nl.length K.nc, .slice K.fP K.fl.length K.fc, .slice K.r0.P K.r0.l.length K.r0.c, .slice K.r1.P K.r1.l.length K.r1.c, .slice K.r2.P K.r2.l.length K.r2.c, .slice K.r3.P K.r3.l.length K.r3.c, .slice K.r4.P K.r4.l.length K.r4.c, .slice K.r5.P K.r5.l.length K.r5.c, .slice K.r6.P K.r6.l.length K.r6.c, .slice K.r7.P K.r7.l.length K.r7.c] 42)
 have b1 : Below w.heap.size w (w1K K w) := (Below.refl _ _).alloc (Nat.le_refl _) _
 have b2 : Below w.heap.size w (w2K K w) := b1.alloc b1.size _
 have b3 : Below w.heap.size w (w3K K w) := b2.alloc b2.size _
 have e1 : (w1K K w).heap.size = w.heap.size + 1 := by simp [w1K]
 have e2 : (w2K K w).heap.size = w.heap.size + 1 + 1 := by simp [w2K, e1]
 have x2 := Bx.new (w1K K w) 92 (kcells K ++ fs0)
 rw [e1] at x2
 have x3 : Bx (w3K K w) (w.heap.size + 1) 92 (kcells K ++ fs0) := Bx.alloc x2 _
 have y3 := Bx.new (w2K K w) 121 (fnL (w.heap.size + 1))
 rw [e2] at y3
 have S0 : zA w K (w.heap.size + 1) (w.heap.size + 1 + 1) 0 (w3K K w) := ⟨⟨x3, h, b3, Nat.le_succ _⟩, y3, Nat.lt_succ_self _⟩
 obtain ⟨W3, hW3⟩ : ∃ W3, w3K K w = W3 := ⟨_, rfl⟩
 rw [hW3] at S0
 have HW3 : Hid (w3K K w = W3) := hW3
 obtain ⟨g0, g1, g2, g3, g4, g5, g6, g7, g8, g9, g10, g11, g12, g13, g14⟩ := facts15v kb
 have HSh : Hid (K.Short) := hs
 have HCp : Hid (K.sl.length ≤ K.sc) := hcap
 have HCm : Hid (K.sc ≤ 9223372036854775807) := hcm
 have HFt : Hid (K.Fits) := hf
 clear hW3 x2 e1 x3 y3 e2 b1 b2 b3 kb hs hcap hcm hf h
 go_enter Tryz.func34, Tryz.ntmps34
 go_upto_region 3 with fail
 have hW3 := HW3.out
 unfold w3K w2K w1K at hW3
 rw [hW3]
 clear hW3 HW3
 clear g0 g1 g2 g3 g4 g5 g6 g7 g8 g9 g10 g11 g12 g13 g14 hbv
 obtain ⟨vB, hvB⟩ : ∃ vB, w.heap.size + 1 = vB := ⟨_, rfl⟩
 rw [hvB] at S0 ⊢
 obtain ⟨cB, hcB⟩ : ∃ cB, vB + 1 = cB := ⟨_, rfl⟩
 rw [hcB] at S0 ⊢
 have HVB : Hid (w.heap.size + 1 = vB) := hvB
 have HCB : Hid (vB + 1 = cB) := hcB
 clear hvB hcB
 go_wp2
 go_loopw [37] (fun v W => zInv w K vB cB v W) (fun v W => 12 - (intOf v).toNat)
 case atStart => exact ⟨0, Nat.zero_le _, rfl, fun i hi => absurd hi (Nat.not_lt_zero _), S0⟩
 case round =>
  clear S0
  obtain ⟨j, hj, rfl, hno, S⟩ := hrel
  by_cases hlt : j < 12
  ·have hc0 := (zA_c S hj).cell
   obtain ⟨hy, hn⟩ := z_all HSh.out HCp.out HCm.out HFt.out j hlt S
   obtain ⟨f, hf⟩ : ∃ f, (fnL vB)[j]? = some f := ⟨_, List.getElem?_eq_getElem hlt⟩
   have c0 := hc0 j _ hf
   have HNx : Hid (zP K j → ∀ i, i < j + 1 → zP K i) := fun hp i hi => by
    by_cases e : i = j
    ·subst e; exact hp
    ·exact hno i (by omega)
   have HPj : Hid (ProgP K → zP K j) := fun hP => (progP_all K).1 hP j hlt
   clear hc0 hno S hj
   rcases (by omega : j = 0 ∨ j = 1 ∨ j = 2 ∨ j = 3 ∨ j = 4 ∨ j = 5 ∨ j = 6 ∨ j = 7 ∨ j = 8 ∨ j = 9 ∨ j = 10 ∨ j = 11) with rfl | rfl | rfl | rfl | rfl | rfl | rfl | rfl | rfl | rfl | rfl | rfl
   all_goals as_aux_lemma => (
    cases hf
    rcases Classical.em (zP K _) with hp | hp
    ·have HC : Hid _ := hy hp
     have HN : Hid _ := HNx.out hp
     clear hy hn hp HNx HPj hlt
     go_wp2_with (first | (go_at_call 62; refine Calls.mono HC.out ?_; rintro e w5 ⟨rfl, S5⟩; have HS5 : Hid _ := S5; clear S5) | (go_at_call 63; refine Calls.mono HC.out ?_; rintro e w5 ⟨rfl, S5⟩; have HS5 : Hid _ := S5; clear S5) | (go_at_call 64; refine Calls.mono HC.out ?_; rintro e w5 ⟨rfl, S5⟩; have HS5 : Hid _ := S5; clear S5) | (go_at_call 65; refine Calls.mono HC.out ?_; rintro e w5 ⟨rfl, S5⟩; have HS5 : Hid _ := S5; clear S5) | (go_at_call 66; refine Calls.mono HC.out ?_; rintro e w5 ⟨rfl, S5⟩; have HS5 : Hid _ := S5; clear S5) | (go_at_call 67; refine Calls.mono HC.out ?_; rintro e w5 ⟨rfl, S5⟩; have HS5 : Hid _ := S5; clear S5) | (go_at_call 68; refine Calls.mono HC.out ?_; rintro e w5 ⟨rfl, S5⟩; have HS5 : Hid _ := S5; clear S5) | (go_at_call 69; refine Calls.mono HC.out ?_; rintro e w5 ⟨rfl, S5⟩; have HS5 : Hid _ := S5; clear S5) | (go_at_call 70; refine Calls.mono HC.out ?_; rintro e w5 ⟨rfl, S5⟩; have HS5 : Hid _ := S5; clear S5) | (go_at_call 71; refine Calls.mono HC.out ?_; rintro e w5 ⟨rfl, S5⟩; have HS5 : Hid _ := S5; clear S5) | (go_at_call 72; refine Calls.mono HC.out ?_; rintro e w5 ⟨rfl, S5⟩; have HS5 : Hid _ := S5; clear S5) | (go_at_call 73; refine Calls.mono HC.out ?_; rintro e w5 ⟨rfl, S5⟩; have HS5 : Hid _ := S5; clear S5))
     go_roundw
     case rel => exact ⟨_, by omega, by go_num, HN.out, HS5.out⟩
     case measure => simp [intOf]
    ·have HC : Hid _ := hn hp
     have HN : Hid (¬ ProgP K) := fun hP => hp (HPj.out hP)
     clear hy hn hp HNx HPj hlt
     go_wp2_with (first | (go_at_call 62; refine Calls.mono HC.out ?_; rintro e w5 ⟨rfl, hb5⟩) | (go_at_call 63; refine Calls.mono HC.out ?_; rintro e w5 ⟨rfl, hb5⟩) | (go_at_call 64; refine Calls.mono HC.out ?_; rintro e w5 ⟨rfl, hb5⟩) | (go_at_call 65; refine Calls.mono HC.out ?_; rintro e w5 ⟨rfl, hb5⟩) | (go_at_call 66; refine Calls.mono HC.out ?_; rintro e w5 ⟨rfl, hb5⟩) | (go_at_call 67; refine Calls.mono HC.out ?_; rintro e w5 ⟨rfl, hb5⟩) | (go_at_call 68; refine Calls.mono HC.out ?_; rintro e w5 ⟨rfl, hb5⟩) | (go_at_call 69; refine Calls.mono HC.out ?_; rintro e w5 ⟨rfl, hb5⟩) | (go_at_call 70; refine Calls.mono HC.out ?_; rintro e w5 ⟨rfl, hb5⟩) | (go_at_call 71; refine Calls.mono HC.out ?_; rintro e w5 ⟨rfl, hb5⟩) | (go_at_call 72; refine Calls.mono HC.out ?_; rintro e w5 ⟨rfl, hb5⟩) | (go_at_call 73; refine Calls.mono HC.out ?_; rintro e w5 ⟨rfl, hb5⟩))
     go_ret
     exact Or.inr ⟨HN.out, rfl, hb5⟩)
  ·have hje : j = 12 := by omega
   subst hje
   have HP : Hid (ProgP K) := (progP_all K).2 hno
   have HS : Hid _ := S
   clear hno S hj hlt
   go_wp2
   go_ret
   refine Or.inl ⟨HP.out, ?_, ?_⟩
   ·rw [HVB.out]; rfl
   ·rw [HVB.out, HCB.out]; exact HS.out

end Go.Proofs.YtigpbjcmmgdiaaaGreat
