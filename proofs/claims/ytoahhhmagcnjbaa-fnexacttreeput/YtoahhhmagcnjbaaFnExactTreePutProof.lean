/-
  Proved: TreePut of the program answers, at every list of slots, every place and every slot, as TreePut of the specification, writes nothing into the list, keeps nothing of it, and owns what it answers, behind another call too; the law FnExactTreePut returns true at every argument. Conditions: none.
-/
import Derived.Test.YtoahhhmagcnjbaaRows
import Derived.Test.YtoahhhmagcnjbaaPutBoth
import Derived.Test.YtoahhhmagcnjbaaMarksOpt
import Derived.Test.YtoahhhmagcnjbaaOpenSlots
import Derived.Test.YtoahhhmagcnjbaaEqSlots
import Derived.Test.YtoahhhmagcnjbaaSizes3
import Derived.Deep.RegionHeld3
import Derived.WalkKit
import Derived.ProofKit
import Derived.OpenShut
import Derived.ShutString
import Derived.ChangeOld
import Derived.Below
namespace Go.Proofs.Ytoahhhmagcnjbaa.fnExactTreePut
open Go.ChangeShapes Go.WideShapes Go.ChangeAt Go.RowKit
open Go.ChangeMaps (open_string shut_string)
set_option linter.unusedVariables false

theorem own : ownKnob Try.prog.godebug = none := by kernel_rfl
theorem laidOut : laidOutB Try.prog = true := by kernel_rfl

theorem box_below {W W' : World} {B : Nat} {s : Sl} (h : At11 W B 0 s) (hb : Below W.heap.size W W') : At11 W' B 0 s := h.of fun j => (bcell hb).1 _ _ h.lt
theorem box_grown {W W' : World} {row : Option Nat} {B : Nat} {s : Sl} (h : At11 W B 0 s) (hg : W.grownBy W' row) (hne : some B ≠ row) : At11 W' B 0 s := at11_grown h hg hne
theorem box_S {W : World} {b : Nat} {s : Sl} (h : At11 W b 0 s) : (W.cell? ⟨b, 0, none⟩ = some (.int .i64 s.t) ∧ W.cell? ⟨b, 1, none⟩ = some (.int .i64 s.k) ∧ W.cell? ⟨b, 2, none⟩ = some (.int .i64 s.e) ∧ W.cell? ⟨b, 3, none⟩ = some (.int .i64 s.b) ∧ W.cell? ⟨b, 4, none⟩ = some (.int .i64 s.r) ∧ W.cell? ⟨b, 5, none⟩ = some (.int .i64 s.d) ∧ W.cell? ⟨b, 6, none⟩ = some (.int .i64 s.g) ∧ W.cell? ⟨b, 7, none⟩ = some (.int .i64 s.q) ∧ W.cell? ⟨b, 8, none⟩ = some (.int .i64 s.f) ∧ W.cell? ⟨b, 9, none⟩ = some (.bool s.o) ∧ W.cell? ⟨b, 10, none⟩ = some (.int .i64 s.p)) ∧ b < W.heap.size :=
  at11_S (n := b + 1) h h.lt

set_option maxRecDepth 100000 in
set_option maxHeartbeats 4000000 in
/-- The law's walk, over what both sides answer. -/
theorem common (a0 : Option Addr) (cap0 : Nat) (L0 R : List Sl) (a1 : Int) (s : Sl) (b : Bool) (w : World) (hl : L0.length ≤ 1048576) (hlR : R.length ≤ 1048577) (y0 : Lies w a0 L0)
    (hS : ∀ (B : Nat) (w : World), B < w.heap.size → Lies w (some ⟨B, 0, none⟩) L0 → Calls Try.prog 8 #[.slice (some ⟨B, 0, none⟩) L0.length L0.length, .int .i64 a1, .agg #[.int .i64 s.t, .int .i64 s.k, .int .i64 s.e, .int .i64 s.b, .int .i64 s.r, .int .i64 s.d, .int .i64 s.g, .int .i64 s.q, .int .i64 s.f, .bool s.o, .int .i64 s.p]] w fun e w' => ∃ P c, e = .returned (.tuple #[.slice P R.length c, .bool b]) ∧ Lies w' P R ∧ (∀ B O, P = some ⟨B, O, none⟩ → B < w'.heap.size) ∧ Below w.heap.size w w')
    (hI : ∀ (B : Nat) (w : World), B < w.heap.size → Lies w (some ⟨B, 0, none⟩) L0 → Calls Try.prog 7 #[.slice (some ⟨B, 0, none⟩) L0.length L0.length, .int .i64 a1, .agg #[.int .i64 s.t, .int .i64 s.k, .int .i64 s.e, .int .i64 s.b, .int .i64 s.r, .int .i64 s.d, .int .i64 s.g, .int .i64 s.q, .int .i64 s.f, .bool s.o, .int .i64 s.p]] w fun e w' => ∃ P c, e = .returned (.tuple #[.slice P R.length c, .bool b]) ∧ Own w.heap.size w' P R ∧ Below w.heap.size w w') :
    Calls Try.prog 5 #[.slice a0 L0.length cap0, .int .i64 a1, .agg #[.int .i64 s.t, .int .i64 s.k, .int .i64 s.e, .int .i64 s.b, .int .i64 s.r, .int .i64 s.d, .int .i64 s.g, .int .i64 s.q, .int .i64 s.f, .bool s.o, .int .i64 s.p]] w fun e w' => e = .returned (.bool true) ∧ Below w.heap.size w w' := by
  have hp1 : ¬ (1 + 11 * (L0.length : Int) < 0) := by omega
  have hp2 : ¬ (1 + 11 * (R.length : Int) < 0) := by omega
  have hp3 : 0 ≤ 1 + 11 * (L0.length : Int) := by omega
  have hp4 : 0 ≤ 1 + 11 * (R.length : Int) := by omega
  have hA : At11 (w.alloc (.cells #[.int .i64 s.t, .int .i64 s.k, .int .i64 s.e, .int .i64 s.b, .int .i64 s.r, .int .i64 s.d, .int .i64 s.g, .int .i64 s.q, .int .i64 s.f, .bool s.o, .int .i64 s.p] 43)) w.heap.size 0 s := At11.alloc w s 43
  have hBA : Below w.heap.size w (w.alloc (.cells #[.int .i64 s.t, .int .i64 s.k, .int .i64 s.e, .int .i64 s.b, .int .i64 s.r, .int .i64 s.d, .int .i64 s.g, .int .i64 s.q, .int .i64 s.f, .bool s.o, .int .i64 s.p] 43)) := (Below.refl _ _).alloc (Nat.le_refl _) _
  go_enter Try.func5, Try.ntmps5
  go_wp2_with ((go_at_call 20; refine (szSlots_yes _ _ _ _ hl).mono ?_; rintro e w1 ⟨rfl, rfl⟩))
  generalize hW : w.alloc (.cells #[.int .i64 s.t, .int .i64 s.k, .int .i64 s.e, .int .i64 s.b, .int .i64 s.r, .int .i64 s.d, .int .i64 s.g, .int .i64 s.q, .int .i64 s.f, .bool s.o, .int .i64 s.p] 43) = W0 at hA hBA ⊢
  clear hW
  have s0 : (W0.drew.cell? ⟨w.heap.size, 0, none⟩ = some (.int .i64 s.t) ∧ W0.drew.cell? ⟨w.heap.size, 1, none⟩ = some (.int .i64 s.k) ∧ W0.drew.cell? ⟨w.heap.size, 2, none⟩ = some (.int .i64 s.e) ∧ W0.drew.cell? ⟨w.heap.size, 3, none⟩ = some (.int .i64 s.b) ∧ W0.drew.cell? ⟨w.heap.size, 4, none⟩ = some (.int .i64 s.r) ∧ W0.drew.cell? ⟨w.heap.size, 5, none⟩ = some (.int .i64 s.d) ∧ W0.drew.cell? ⟨w.heap.size, 6, none⟩ = some (.int .i64 s.g) ∧ W0.drew.cell? ⟨w.heap.size, 7, none⟩ = some (.int .i64 s.q) ∧ W0.drew.cell? ⟨w.heap.size, 8, none⟩ = some (.int .i64 s.f) ∧ W0.drew.cell? ⟨w.heap.size, 9, none⟩ = some (.bool s.o) ∧ W0.drew.cell? ⟨w.heap.size, 10, none⟩ = some (.int .i64 s.p)) ∧ w.heap.size < W0.drew.heap.size := box_S (hA.of fun _ => rfl)
  have yW : Lies W0.drew a0 L0 := ⟨(y0.below hBA).place, fun B O e i hi => ((y0.below hBA).cells B O e i hi).of fun _ => rfl⟩
  have hBD : Below w.heap.size w W0.drew := hBA.drew
  have hAD : At11 W0.drew w.heap.size 0 s := hA.of fun _ => rfl
  go_region_held3 (fun w' => (w'.cell? ⟨w.heap.size, 0, none⟩ = some (.int .i64 s.t) ∧ w'.cell? ⟨w.heap.size, 1, none⟩ = some (.int .i64 s.k) ∧ w'.cell? ⟨w.heap.size, 2, none⟩ = some (.int .i64 s.e) ∧ w'.cell? ⟨w.heap.size, 3, none⟩ = some (.int .i64 s.b) ∧ w'.cell? ⟨w.heap.size, 4, none⟩ = some (.int .i64 s.r) ∧ w'.cell? ⟨w.heap.size, 5, none⟩ = some (.int .i64 s.d) ∧ w'.cell? ⟨w.heap.size, 6, none⟩ = some (.int .i64 s.g) ∧ w'.cell? ⟨w.heap.size, 7, none⟩ = some (.int .i64 s.q) ∧ w'.cell? ⟨w.heap.size, 8, none⟩ = some (.int .i64 s.f) ∧ w'.cell? ⟨w.heap.size, 9, none⟩ = some (.bool s.o) ∧ w'.cell? ⟨w.heap.size, 10, none⟩ = some (.int .i64 s.p)) ∧ w.heap.size < w'.heap.size) (first | assumption | go_keep)
    (first
      | (go_at_call 21; refine (toSlots_any _ _ _ L0 _ rfl hl yW).mono ?_; rintro e w2 ⟨rfl, hL2, hR2, hB2⟩; have hA2 := box_below hAD hB2; have s2 := box_S hA2)
      | (go_at_call 22; refine (toSlot_any s _).mono ?_; rintro e w2' ⟨rfl, hB2'⟩; have hA2' := box_below hA2 hB2'; have s2' := box_S hA2')
      | (go_at_call 8; refine (hS _ _ (Nat.lt_of_lt_of_le hR2.lt hB2'.size) (hL2.below hB2')).mono ?_; rintro e w3 ⟨Ps, cs, rfl, hs3, hlt3, hB3⟩; have hA3 := box_below hA2' hB3; have s3 := box_S hA3))
  have hW3 : Below w.heap.size w w3 := (hBD.trans (hB2.mono hBD.size)).trans ((hB2'.mono (hBD.trans (hB2.mono hBD.size)).size).trans (hB3.mono (Nat.le_trans (hBD.trans (hB2.mono hBD.size)).size hB2'.size)))
  have y3 := y0.below hW3
  have lw3 := hA3.lt
  clear s0 s2 s2' s3 hA2 hA2' hAD hA hBA hBD yW hL2 hR2 hB2 hB2' hB3
  go_wp2_with ((go_at_call 21; refine (toSlots_any _ _ _ L0 _ rfl hl y3).mono ?_; rintro e w4 ⟨rfl, hL4, hR4, hB4⟩; have hA4 := box_below hA3 hB4; obtain ⟨⟨d0, d1, d2, d3, d4, d5, d6, d7, d8, d9, d10⟩, dl⟩ := box_S hA4))
  have hs4 := hs3.below hB4
  go_wp2_with ((go_at_call 22; refine (toSlot_any s _).mono ?_; rintro e w4' ⟨rfl, hB4'⟩))
  have hA4' := box_below hA4 hB4'
  have hs4' := hs4.below hB4'
  have hL4' := hL4.below hB4'
  have hR4' := hR4.below hB4'
  clear d0 d1 d2 d3 d4 d5 d6 d7 d8 d9 d10 dl
  go_wp2_with ((go_at_call 7; refine (hI _ _ hR4'.lt hL4').mono ?_; rintro e w5 ⟨Pg, cg, rfl, og5, hB5⟩))
  have hA5 := box_below hA4' hB5
  have hs5 := hs4'.below hB5
  have ox5 := (⟨hL4', .inr ⟨_, rfl, Nat.le_refl _, hR4'.lt, hR4'.z⟩⟩ : Own w3.heap.size w4' (some ⟨w3.heap.size, 0, none⟩) L0).below hB5
  have hW4 : Below w.heap.size w w4' := hW3.trans ((hB4.trans (hB4'.mono hB4.size)).mono hW3.size)
  have hW5 : Below w.heap.size w w5 := hW4.trans (hB5.mono hW4.size)
  have hlt34 := hR4'.lt
  go_wp2_with ((go_at_call 23; refine (eqSlots_same _ _ _ _ _ _ R _ rfl rfl (by omega) og5.lies hs5).mono ?_; rintro e w6 ⟨rfl, hB6⟩))
  have hA6 := box_below hA5 hB6
  have og6 := og5.below hB6
  have hs6 := hs5.below hB6
  have ox6 := ox5.below hB6
  have hW6 := hW5.trans (hB6.mono hW5.size)
  have y6 := y0.below hW6
  go_wp2_with ((go_at_call 21; refine (toSlots_any _ _ _ L0 _ rfl hl y6).mono ?_; rintro e w7 ⟨rfl, hL7, hR7, hB7⟩))
  go_wp2_with ((go_at_call 23; refine (eqSlots_same _ _ _ _ _ _ L0 _ rfl rfl (by omega) (ox6.below hB7).lies hL7).mono ?_; rintro e w8 ⟨rfl, hB8⟩))
  have hB68 := hB7.trans (hB8.mono hB7.size)
  have hA8 := box_below hA6 hB68
  have og8 := og6.below hB68
  have hs8 := hs6.below hB68
  have ox8 := ox6.below hB68
  have hW8 := hW6.trans (hB68.mono hW6.size)
  have hle4 : w3.heap.size ≤ w4'.heap.size := Nat.le_of_lt hlt34
  have hle3 := hW3.size
  clear y3 hL4 hL4' hR4 hR4' hB4 hB4' hB5 hs3 hs4 hs4' hs5 hs6 og5 og6 ox5 ox6 hB6 hB7 hB8 hB68 hL7 hR7 hW5 hW6 y6 hA3 hA4 hA4' hA5 hA6 hW4
  go_wp2_with ((go_at_call 24; refine (markSlots_own w3.heap.size _ _ _ L0 1 _ rfl (by omega) ox8 (by decide) (by decide)).mono ?_; rintro e w9 ⟨rfl, ox9, row, hg9, hrow⟩))
  have hA9 : At11 w9 w.heap.size 0 s := box_grown hA8 hg9 (fun he => by have h1 := hrow _ he.symm; injection h1 with h1; injection h1 with h1; omega)
  have hs9 : Lies w9 Ps R := lies_grown_opt hs8 hg9 (fun B O e he => by have h1 := hrow B he.symm; have h2 := hlt3 B O e; cases h1; omega)
  have og9 : Own w4'.heap.size w9 Pg R := og8.grown hg9 (fun B e he => by
    have h1 := hrow B he.symm
    rcases og8.spot with ⟨h3, _⟩ | ⟨B', h3, h4, _⟩
    · rw [h3] at e; cases e
    · rw [h3] at e; cases e; cases h1; omega)
  have hW9 := hW8.grown hg9 hW8.size (fun k e => by have h1 := hrow k e; cases h1; omega)
  clear hrow hg9 ox9 ox8 og8 hs8 hA8
  go_wp2_with ((go_at_call 23; refine (eqSlots_same _ _ _ _ _ _ R _ rfl rfl (by omega) og9.lies hs9).mono ?_; rintro e w10 ⟨rfl, hB10⟩))
  have hA10 := box_below hA9 hB10
  have og10 := og9.below hB10
  have hs10 := hs9.below hB10
  have hW10 := hW9.trans (hB10.mono hW9.size)
  go_wp2_with ((go_at_call 24; refine (markSlots_own w4'.heap.size _ _ _ R 1 _ rfl (by omega) og10 (by decide) (by decide)).mono ?_; rintro e w11 ⟨rfl, og11, row2, hg11, hrow2⟩))
  have hspot : ∀ B, Pg = some ⟨B, 0, none⟩ → w4'.heap.size ≤ B := fun B e => by
    rcases og10.spot with ⟨h3, _⟩ | ⟨B', h3, h4, _⟩
    · rw [h3] at e; cases e
    · rw [h3] at e; cases e; exact h4
  have hA11 : At11 w11 w.heap.size 0 s := box_grown hA10 hg11 (fun he => by have h1 := hspot _ (hrow2 _ he.symm); omega)
  have hs11 : Lies w11 Ps R := lies_grown_opt hs10 hg11 (fun B O e he => by have h1 := hspot B (hrow2 B he.symm); have h2 := hlt3 B O e; omega)
  have hW11 := hW10.grown hg11 hW10.size (fun k e => by have h1 := hspot k (hrow2 k e); omega)
  clear hrow2 hg11 og9 og10 hs9 hs10 hspot hA9 hA10
  go_wp2_with ((go_at_call 25; refine (heldSlots_own w4'.heap.size _ _ _ 1 _ (by omega) og11 (by decide) (by decide)).mono ?_; rintro e w12 ⟨rfl, rfl⟩))
  have s11 : (w11.drew.cell? ⟨w.heap.size, 0, none⟩ = some (.int .i64 s.t) ∧ w11.drew.cell? ⟨w.heap.size, 1, none⟩ = some (.int .i64 s.k) ∧ w11.drew.cell? ⟨w.heap.size, 2, none⟩ = some (.int .i64 s.e) ∧ w11.drew.cell? ⟨w.heap.size, 3, none⟩ = some (.int .i64 s.b) ∧ w11.drew.cell? ⟨w.heap.size, 4, none⟩ = some (.int .i64 s.r) ∧ w11.drew.cell? ⟨w.heap.size, 5, none⟩ = some (.int .i64 s.d) ∧ w11.drew.cell? ⟨w.heap.size, 6, none⟩ = some (.int .i64 s.g) ∧ w11.drew.cell? ⟨w.heap.size, 7, none⟩ = some (.int .i64 s.q) ∧ w11.drew.cell? ⟨w.heap.size, 8, none⟩ = some (.int .i64 s.f) ∧ w11.drew.cell? ⟨w.heap.size, 9, none⟩ = some (.bool s.o) ∧ w11.drew.cell? ⟨w.heap.size, 10, none⟩ = some (.int .i64 s.p)) ∧ w.heap.size < w11.drew.heap.size := box_S (hA11.of fun _ => rfl)
  have hAD : At11 w11.drew w.heap.size 0 s := hA11.of fun _ => rfl
  have yW : Lies w11.drew a0 L0 := ⟨(y0.below hW11).place, fun B O e i hi => ((y0.below hW11).cells B O e i hi).of fun _ => rfl⟩
  have hBd : Below w11.heap.size w11 w11.drew := (Below.refl _ _).drew
  go_region_held3 (fun w' => (w'.cell? ⟨w.heap.size, 0, none⟩ = some (.int .i64 s.t) ∧ w'.cell? ⟨w.heap.size, 1, none⟩ = some (.int .i64 s.k) ∧ w'.cell? ⟨w.heap.size, 2, none⟩ = some (.int .i64 s.e) ∧ w'.cell? ⟨w.heap.size, 3, none⟩ = some (.int .i64 s.b) ∧ w'.cell? ⟨w.heap.size, 4, none⟩ = some (.int .i64 s.r) ∧ w'.cell? ⟨w.heap.size, 5, none⟩ = some (.int .i64 s.d) ∧ w'.cell? ⟨w.heap.size, 6, none⟩ = some (.int .i64 s.g) ∧ w'.cell? ⟨w.heap.size, 7, none⟩ = some (.int .i64 s.q) ∧ w'.cell? ⟨w.heap.size, 8, none⟩ = some (.int .i64 s.f) ∧ w'.cell? ⟨w.heap.size, 9, none⟩ = some (.bool s.o) ∧ w'.cell? ⟨w.heap.size, 10, none⟩ = some (.int .i64 s.p)) ∧ w.heap.size < w'.heap.size) (first | assumption | go_keep)
    (first
      | (go_at_call 21; refine (toSlots_any _ _ _ L0 _ rfl hl yW).mono ?_; rintro e w13 ⟨rfl, hL13, hR13, hB13⟩; have hA13 := box_below hAD hB13; have s13 := box_S hA13)
      | (go_at_call 22; refine (toSlot_any s _).mono ?_; rintro e w13' ⟨rfl, hB13'⟩; have hA13' := box_below hA13 hB13'; have s13' := box_S hA13')
      | (go_at_call 7; refine (hI _ _ (Nat.lt_of_lt_of_le hR13.lt hB13'.size) (hL13.below hB13')).mono ?_; rintro e w14 ⟨Ph, ch, rfl, oh14, hB14⟩; have hA14 := box_below hA13' hB14; have s14 := box_S hA14))
  have hB1 : Below w11.heap.size w11 w14 := (hBd.trans (hB13.mono hBd.size)).trans ((hB13'.mono (hBd.trans (hB13.mono hBd.size)).size).trans (hB14.mono (Nat.le_trans (hBd.trans (hB13.mono hBd.size)).size hB13'.size)))
  have hs14 := hs11.below hB1
  have og14 := og11.below hB1
  have hW14 := hW11.trans (hB1.mono hW11.size)
  clear s11 s13 s13' s14 hAD hA13 hA13' hA14
  go_wp2_with ((go_at_call 23; refine (eqSlots_same _ _ _ _ _ _ R _ rfl rfl (by omega) oh14.lies hs14).mono ?_; rintro e w15 ⟨rfl, hB15⟩))
  have og15 := og14.below hB15
  have hW15 := hW14.trans (hB15.mono hW14.size)
  go_wp2_with ((go_at_call 25; refine (heldSlots_own w4'.heap.size _ _ _ 1 _ (by omega) og15 (by decide) (by decide)).mono ?_; rintro e w16 ⟨rfl, rfl⟩))
  go_ret
  exact ⟨rfl, hW15⟩

/-! ### The walk: the Go text returns true and writes nothing that was there. -/
set_option maxRecDepth 100000 in
set_option maxHeartbeats 1000000 in
theorem walk (a1 : Int) (w1 : (Lit.int .i64 a1).wf = true) (s2 : Sl) (fit2 : s2.Fit) (w : World) (a0 : Option Addr) (len0 cap0 : Nat) (L0 : List Sl) (n0 : len0 = L0.length) (m0 : len0 ≤ maxLen) (y0 : Lies w a0 L0) (fit0 : ∀ s ∈ L0, s.Fit) :
    Calls Try.prog 5 #[.slice a0 len0 cap0, .int .i64 a1, .agg #[.int .i64 s2.t, .int .i64 s2.k, .int .i64 s2.e, .int .i64 s2.b, .int .i64 s2.r, .int .i64 s2.d, .int .i64 s2.g, .int .i64 s2.q, .int .i64 s2.f, .bool s2.o, .int .i64 s2.p]] w fun e w' => e = .returned (.bool true) ∧ Below w.heap.size w w' := by
  subst n0
  have hmx : L0.length ≤ 9223372036854775807 := m0
  by_cases hbig : 1048576 < L0.length
  · go_enter Try.func5, Try.ntmps5
    go_wp2_with (first
      | (go_at_call 20; refine (szSlots_no _ _ _ _ hbig hmx).mono ?_; rintro e w1 ⟨rfl, rfl⟩))
    go_ret
    exact ⟨rfl, (Below.refl _ _).alloc (Nat.le_refl _) _⟩
  · have hl : L0.length ≤ 1048576 := by omega
    have nilS : ∀ (W W' : World), Below W.heap.size W W' → ∃ P c, Ending.returned (.tuple #[.slice none 0 0, .bool false]) = .returned (.tuple #[.slice P ([] : List Sl).length c, .bool false]) ∧ Lies W' P [] ∧ (∀ B O, P = some ⟨B, O, none⟩ → B < W'.heap.size) ∧ Below W.heap.size W W' := fun W W' hb => ⟨none, 0, rfl, Lies.nil _ _, fun B O e => (by cases e), hb⟩
    have nilI : ∀ (W W' : World), Below W.heap.size W W' → ∃ P c, Ending.returned (.tuple #[.slice none 0 0, .bool false]) = .returned (.tuple #[.slice P ([] : List Sl).length c, .bool false]) ∧ Own W.heap.size W' P [] ∧ Below W.heap.size W W' := fun W W' hb => ⟨none, 0, rfl, ⟨Lies.nil _ _, .inl ⟨rfl, rfl⟩⟩, hb⟩
    cases ht : putB L0 a1
    · exact common a0 cap0 L0 [] a1 s2 false w hl (by simp) y0
        (fun B W hB h => (treePutSpec_none _ _ a1 L0 s2 W hl (Nat.le_refl _) (by omega) h ht).mono fun e W' ⟨he, hb⟩ => he ▸ nilS W W' hb)
        (fun B W hB h => (treePutImpl_none _ _ a1 L0 s2 W hl (Nat.le_refl _) (by omega) h fit0 ht).mono fun e W' ⟨he, hb⟩ => he ▸ nilI W W' hb)
    · unfold putB at ht
      obtain ⟨hT, hpl⟩ := Bool.and_eq_true_iff.1 ht
      have h300 : L0.length ≤ 300 := by
        unfold treeB at hT
        exact of_decide_eq_true (Bool.and_eq_true_iff.1 hT).1
      by_cases hm1 : a1 = -1
      · subst hm1
        have hR : L0.take L0.length ++ ([s2.at 0] ++ L0.drop L0.length) = L0 ++ [s2.at 0] := by simp
        have hlen : (L0 ++ [s2.at 0]).length = L0.length + 1 := by simp
        have hsf : (s2.at 0).Fit := ⟨fit2.t, fit2.r, by simp [Sl.at]⟩
        have hSS := fun (B : Nat) (W : World) (hB : B < W.heap.size) (h : Lies W (some ⟨B, 0, none⟩) L0) => treePutSpec_over B 0 L0.length (-1) L0 (L0 ++ [s2.at 0]) s2 W hl (Nat.le_refl _) (by omega) h hT h300 (by omega) (by omega) hlen
          (fun W1 hW1 h1 => putSpec_last B 0 L0.length (-1) L0 s2 W1 hl h1 (Nat.lt_of_lt_of_le hB hW1.size) (by omega))
        have hII := fun (B : Nat) (W : World) (hB : B < W.heap.size) (h : Lies W (some ⟨B, 0, none⟩) L0) => treePutImpl_last B 0 L0.length L0.length (-1) L0 s2 W hl (Nat.le_refl _) (by omega) h hB fit0 hsf hT h300 rfl rfl
        simp only [putJ, hR] at hII
        cases hTR : treeB (L0 ++ [s2.at 0])
        · exact common a0 cap0 L0 [] (-1) s2 false w hl (by simp) y0
            (fun B W hB h => (hSS B W hB h).mono fun e W' hq => by
              rcases hq with ⟨_, he, hb⟩ | ⟨hx, _⟩
              · exact he ▸ nilS W W' hb
              · rw [hTR] at hx; cases hx)
            (fun B W hB h => (hII B W hB h).mono fun e W' hq => by
              rcases hq with ⟨_, he, hb⟩ | ⟨hx, _⟩
              · exact he ▸ nilI W W' hb
              · rw [hTR] at hx; cases hx)
        · exact common a0 cap0 L0 (L0 ++ [s2.at 0]) (-1) s2 true w hl (by rw [hlen]; omega) y0
            (fun B W hB h => (hSS B W hB h).mono fun e W' hq => by
              rcases hq with ⟨hx, _⟩ | ⟨_, g, c, he, hg, hgl, hL, hb⟩
              · rw [hTR] at hx; cases hx
              · exact ⟨some ⟨g, 0, none⟩, c, by rw [hlen]; exact he, hL, fun B O e => by cases e; exact hgl, hb⟩)
            (fun B W hB h => (hII B W hB h).mono fun e W' hq => by
              rcases hq with ⟨hx, _⟩ | ⟨_, g, he, hg, hRm, hL, hb⟩
              · rw [hTR] at hx; cases hx
              · exact ⟨some ⟨g, 0, none⟩, _, by rw [hlen]; exact he, ⟨hL, .inr ⟨g, rfl, hg, hRm.lt, hRm.z⟩⟩, hb⟩)
      · have hpl' : placeB L0.length a1 = true := by simpa [hm1] using hpl
        have hpl2 : 0 ≤ a1 ∧ a1 < (L0.length : Int) := by simpa [placeB] using hpl'
        obtain ⟨k, rfl⟩ : ∃ k : Nat, a1 = (k : Int) := ⟨a1.toNat, by omega⟩
        have hk : k < L0.length := by omega
        obtain ⟨hd0, hd1⟩ := treeB_depth hT hk
        have hlen : (putAt L0 k s2 (L0[k].p + 1)).length = L0.length + 1 := by simp [putAt]; omega
        have hsf : (s2.at (L0[k].p + 1)).Fit := ⟨fit2.t, fit2.r, by simp [Sl.at]; omega⟩
        have hSS := fun (B : Nat) (W : World) (hB : B < W.heap.size) (h : Lies W (some ⟨B, 0, none⟩) L0) => treePutSpec_over B 0 L0.length (k : Int) L0 (putAt L0 k s2 (L0[k].p + 1)) s2 W hl (Nat.le_refl _) (by omega) h hT h300 (by omega) (by omega) hlen
          (fun W1 hW1 h1 => putSpec_at B 0 L0.length k L0 s2 L0[k].p W1 hl (Nat.le_refl _) (by omega) h1 hk rfl hd0 (by omega))
        have hII := fun (B : Nat) (W : World) (hB : B < W.heap.size) (h : Lies W (some ⟨B, 0, none⟩) L0) => treePutImpl_at B 0 L0.length (k + 1) k (L0[k].p + 1) L0 s2 W hl (Nat.le_refl _) (by omega) h fit0 hsf hT h300 hk rfl L0[k].p rfl rfl hd0 (by omega)
        generalize hRR : putAt L0 k s2 (L0[k].p + 1) = R at hSS hlen
        have hRJ : putJ L0 (k + 1) (s2.at (L0[k].p + 1)) = R := hRR
        simp only [hRJ] at hII
        cases hTR : treeB R
        · exact common a0 cap0 L0 [] (k : Int) s2 false w hl (by simp) y0
            (fun B W hB h => (hSS B W hB h).mono fun e W' hq => by
              rcases hq with ⟨_, he, hb⟩ | ⟨hx, _⟩
              · exact he ▸ nilS W W' hb
              · rw [hTR] at hx; cases hx)
            (fun B W hB h => (hII B W hB h).mono fun e W' hq => by
              rcases hq with ⟨_, he, hb⟩ | ⟨hx, _⟩
              · exact he ▸ nilI W W' hb
              · rw [hTR] at hx; cases hx)
        · exact common a0 cap0 L0 R (k : Int) s2 true w hl (by rw [hlen]; omega) y0
            (fun B W hB h => (hSS B W hB h).mono fun e W' hq => by
              rcases hq with ⟨hx, _⟩ | ⟨_, g, c, he, hg, hgl, hL, hb⟩
              · rw [hTR] at hx; cases hx
              · exact ⟨some ⟨g, 0, none⟩, c, by rw [hlen]; exact he, hL, fun B O e => by cases e; exact hgl, hb⟩)
            (fun B W hB h => (hII B W hB h).mono fun e W' hq => by
              rcases hq with ⟨hx, _⟩ | ⟨_, g, he, hg, hRm, hL, hb⟩
              · rw [hTR] at hx; cases hx
              · exact ⟨some ⟨g, 0, none⟩, _, by rw [hlen]; exact he, ⟨hL, .inr ⟨g, rfl, hg, hRm.lt, hRm.z⟩⟩, hb⟩)

/-! ### The row's step. -/
set_option maxRecDepth 100000 in
theorem lifted (os : Os) (started : os.Started) (H : Type) (enc : TypeId × Value → H) :
    ReturnsInHanded {} Try.checked os 5 .any (Rows.fnExactTreePutSpec.pre6 enc Try.prog Try.f5 Rows.fnExactTreePutRow.domain false) (Rows.fnExactTreePutSpec.post enc Try.prog Try.f5 false true false false) := by
  refine returnsInHanded_of_change (C := Try.checked) own started (by kernel_rfl) Try.func5
    (ChangeSpec.witness6 (enc := enc) (C := Try.checked) false ⟨#[], #[.slice none 0 0, .int .i64 0, .agg #[.int .i64 0, .int .i64 0, .int .i64 0, .int .i64 0, .int .i64 0, .int .i64 0, .int .i64 0, .int .i64 0, .int .i64 0, .bool false, .int .i64 0]], []⟩ 8 (by kernel_rfl) (by kernel_rfl) (by kernel_rfl) (by kernel_rfl)) ?_
  intro W base args ds gs before hval0 hW hcnd _
  have hval : ∀ (j : Nat) t v, Try.f5.params[j]? = some t → args[j]? = some v → Value.okWide Try.prog W .any base t v := hval0
  have hW' := hW
  obtain ⟨p, q, hA0, hV, rfl, hfz, hnd⟩ := hW
  have hA : DataW.TrodAll enc Try.prog W 0 (fun _ => true) true Try.f5.params.toList args.toList ds p := hA0
  rw [Try.params5] at hA hval
  obtain ⟨v0, vs0, D0, Ds0, P0, Q0, hargs, rfl, rfl, h0, R0⟩ := trodAll_cons hA
  obtain ⟨v1, vs1, D1, Ds1, P1, Q1, rfl, rfl, rfl, h1, R1⟩ := trodAll_cons R0
  obtain ⟨v2, vs2, D2, Ds2, P2, Q2, rfl, rfl, rfl, h2, R2⟩ := trodAll_cons R1
  obtain ⟨rfl, rfl, rfl⟩ := trodAll_nil R2
  obtain rfl : args = #[v0, v1, v2] := by cases args; simp_all
  obtain ⟨rfl, rfl⟩ := trodVars_none hV
  obtain ⟨a0, len0, cap0, rfl⟩ := okWide_slice Try.underlying40 (hval 0 40 v0 rfl rfl)
  have t0 := h0
  have lt0 : ∀ x ∈ P0, x.block < W.heap.size := by obtain ⟨m, hm⟩ := t0; exact DataW.trod_lt m _ _ _ hm
  obtain ⟨L0, n0, m0, y0, fit0⟩ := open_slots h0
  obtain ⟨a1, rfl, rfl, rfl, w1⟩ := open_int Try.underlying3 (hval 1 3 v1 rfl rfl) h1
  have t2 := h2
  have lt2 : ∀ x ∈ P2, x.block < W.heap.size := by obtain ⟨m, hm⟩ := t2; exact DataW.trod_lt m _ _ _ hm
  obtain ⟨s2, rfl, fit2⟩ := open_slotV (hval 2 43 v2 rfl rfl) h2
  clear hA0 hval0
  refine (walk a1 w1 s2 fit2 W a0 len0 cap0 L0 n0.symm m0 y0 fit0).mono fun e W' ⟨he, bel⟩ => ?_
  subst he
  exact ⟨_, rfl, _, _, _, [], _, [], hW', trodAll_mk1 (shut_bool Try.underlying4 _), (trodAll_cons_mk (Below.trod laidOut (by kernel_rfl) (of_decide_eq_true (by kernel_rfl)) t0 bel lt0) (trodAll_cons_mk (shut_int Try.underlying3 w1) (trodAll_cons_mk (Below.trod laidOut (by kernel_rfl) (of_decide_eq_true (by kernel_rfl)) t2 bel lt2) trodAll_mk0))), rfl, bel.frame _, fun h => by cases h⟩

theorem over : Rows.fnExactTreePutRow.holds Try.pinned (OpenSpec.ofChange Rows.fnExactTreePutSpec) :=
  OpenClaim.holds_of_wide 5 Try.f5 rfl rfl rfl rfl rfl rfl rfl ⟨rfl, rfl, rfl, rfl, rfl⟩ rfl rfl rfl rfl rfl (by kernel_rfl) Try.func5 (by kernel_rfl)
    (of_decide_eq_true (by kernel_rfl)) (by unfold Func.isWrapper; first | (rw [if_pos (by decide +kernel)]; kernel_rfl) | (rw [if_neg (by decide +kernel)]; exact ⟨rfl, rfl⟩))
    (fun os started H enc _ => lifted os started H enc)

/-- The statement. -/
theorem proved : Rows.FnExactTreePutSaid := over
#print axioms proved
end Go.Proofs.Ytoahhhmagcnjbaa.fnExactTreePut
