/-
  Proved: TreeCut of the program answers, at every list of slots and every place, as TreeCut of the specification, writes nothing into the list, keeps nothing of it, and owns what it answers, behind another call too; the law FnExactTreeCut returns true at every argument. Conditions: none.
-/
import Derived.Test.YtaebcaajcolnfadRows
import Derived.Test.YtaebcaajcolnfadMarksOpt
import Derived.Test.YtaebcaajcolnfadCutBoth
import Derived.Test.YtaebcaajcolnfadOpenSlots
import Derived.Test.YtaebcaajcolnfadEqSlots
import Derived.Test.YtaebcaajcolnfadSizes3
import Derived.WalkKit
import Derived.ProofKit
import Derived.OpenShut
import Derived.ShutString
import Derived.ChangeOld
import Derived.Below
namespace Go.Proofs.Ytaebcaajcolnfad.fnExactTreeCut
open Go.ChangeShapes Go.WideShapes Go.ChangeAt Go.RowKit
open Go.ChangeMaps (open_string shut_string)
set_option linter.unusedVariables false

theorem own : ownKnob Try.prog.godebug = none := by kernel_rfl
theorem laidOut : laidOutB Try.prog = true := by kernel_rfl

set_option maxRecDepth 100000 in
set_option maxHeartbeats 2000000 in
/-- The law's walk, over what both sides answer. -/
theorem common (a0 : Option Addr) (cap0 : Nat) (L0 R : List Sl) (a1 : Int) (b : Bool) (w : World) (hl : L0.length ≤ 1048576) (hlR : R.length ≤ 1048576) (y0 : Lies w a0 L0)
    (hS : ∀ (Q : Option Addr) (w : World), Lies w Q L0 → Calls Try.prog 5 #[.slice Q L0.length L0.length, .int .i64 a1] w fun e w' => ∃ P c, e = .returned (.tuple #[.slice P R.length c, .bool b]) ∧ Lies w' P R ∧ (∀ B O, P = some ⟨B, O, none⟩ → B < w'.heap.size) ∧ Below w.heap.size w w')
    (hI : ∀ (Q : Option Addr) (w : World), Lies w Q L0 → Calls Try.prog 7 #[.slice Q L0.length L0.length, .int .i64 a1] w fun e w' => ∃ P c, e = .returned (.tuple #[.slice P R.length c, .bool b]) ∧ Own w.heap.size w' P R ∧ Below w.heap.size w w') :
    Calls Try.prog 3 #[.slice a0 L0.length cap0, .int .i64 a1] w fun e w' => e = .returned (.bool true) ∧ Below w.heap.size w w' := by
  have hp1 : ¬ (1 + 11 * (L0.length : Int) < 0) := by omega
  have hp2 : ¬ (1 + 11 * (R.length : Int) < 0) := by omega
  have hp3 : 0 ≤ 1 + 11 * (L0.length : Int) := by omega
  have hp4 : 0 ≤ 1 + 11 * (R.length : Int) := by omega
  go_enter Try.func3, Try.ntmps3
  go_wp2_with ((go_at_call 4; refine (szSlots_yes _ _ _ _ hl).mono ?_; rintro e w1 ⟨rfl, rfl⟩))
  go_wp2_with ((go_at_call 6; refine (toSlots_any _ _ _ L0 _ rfl hl y0).mono ?_; rintro e w2 ⟨rfl, hL2, hR2, hB2⟩))
  go_wp2_with ((go_at_call 5; refine (hS _ _ hL2).mono ?_; rintro e w3 ⟨Ps, cs, rfl, hs3, hlt3, hB3⟩))
  have hW3 : Below w.heap.size w w3 := hB2.trans (hB3.mono hB2.size)
  have y3 := y0.below hW3
  go_wp2_with ((go_at_call 6; refine (toSlots_any _ _ _ L0 _ rfl hl y3).mono ?_; rintro e w4 ⟨rfl, hL4, hR4, hB4⟩))
  have hs4 := hs3.below hB4
  go_wp2_with ((go_at_call 7; refine (hI _ _ hL4).mono ?_; rintro e w5 ⟨Pg, cg, rfl, og5, hB5⟩))
  have hs5 := hs4.below hB5
  have ox5 := (⟨hL4, .inr ⟨_, rfl, Nat.le_refl _, hR4.lt, hR4.z⟩⟩ : Own w3.heap.size w4 (some ⟨w3.heap.size, 0, none⟩) L0).below hB5
  have hW5 : Below w.heap.size w w5 := hW3.trans ((hB4.trans (hB5.mono hB4.size)).mono hW3.size)
  go_wp2_with ((go_at_call 8; refine (eqSlots_same _ _ _ _ _ _ R _ rfl rfl (by omega) og5.lies hs5).mono ?_; rintro e w6 ⟨rfl, hB6⟩))
  have og6 := og5.below hB6
  have hs6 := hs5.below hB6
  have ox6 := ox5.below hB6
  have hW6 := hW5.trans (hB6.mono hW5.size)
  have y6 := y0.below hW6
  go_wp2_with ((go_at_call 6; refine (toSlots_any _ _ _ L0 _ rfl hl y6).mono ?_; rintro e w7 ⟨rfl, hL7, hR7, hB7⟩))
  go_wp2_with ((go_at_call 8; refine (eqSlots_same _ _ _ _ _ _ L0 _ rfl rfl (by omega) (ox6.below hB7).lies hL7).mono ?_; rintro e w8 ⟨rfl, hB8⟩))
  have hB68 := hB7.trans (hB8.mono hB7.size)
  have og8 := og6.below hB68
  have hs8 := hs6.below hB68
  have ox8 := ox6.below hB68
  have hW8 := hW6.trans (hB68.mono hW6.size)
  have hlt34 := hR4.lt
  have hle4 := hB4.size
  have hle3 := hW3.size
  clear hL2 hR2 hB2 hB3 y3 hL4 hR4 hB4 hB5 hs3 hs4 hs5 hs6 og5 og6 ox5 ox6 hB6 hB7 hB8 hB68 hL7 hR7 hW5 hW6 y6
  go_wp2_with ((go_at_call 9; refine (markSlots_own w3.heap.size _ _ _ L0 1 _ rfl (by omega) ox8 (by decide) (by decide)).mono ?_; rintro e w9 ⟨rfl, ox9, row, hg9, hrow⟩))
  have hs9 : Lies w9 Ps R := lies_grown_opt hs8 hg9 (fun B O e he => by have h1 := hrow B he.symm; have h2 := hlt3 B O e; cases h1; omega)
  have og9 : Own w4.heap.size w9 Pg R := og8.grown hg9 (fun B e he => by
    have h1 := hrow B he.symm
    rcases og8.spot with ⟨h3, _⟩ | ⟨B', h3, h4, _⟩
    · rw [h3] at e; cases e
    · rw [h3] at e; cases e; cases h1; omega)
  have hW9 := hW8.grown hg9 hW8.size (fun k e => by have h1 := hrow k e; cases h1; omega)
  clear hrow hg9 ox9 ox8 og8 hs8
  go_wp2_with ((go_at_call 8; refine (eqSlots_same _ _ _ _ _ _ R _ rfl rfl (by omega) og9.lies hs9).mono ?_; rintro e w10 ⟨rfl, hB10⟩))
  have og10 := og9.below hB10
  have hs10 := hs9.below hB10
  have hW10 := hW9.trans (hB10.mono hW9.size)
  go_wp2_with ((go_at_call 9; refine (markSlots_own w4.heap.size _ _ _ R 1 _ rfl (by omega) og10 (by decide) (by decide)).mono ?_; rintro e w11 ⟨rfl, og11, row2, hg11, hrow2⟩))
  have hspot : ∀ B, Pg = some ⟨B, 0, none⟩ → w4.heap.size ≤ B := fun B e => by
    rcases og10.spot with ⟨h3, _⟩ | ⟨B', h3, h4, _⟩
    · rw [h3] at e; cases e
    · rw [h3] at e; cases e; exact h4
  have hs11 : Lies w11 Ps R := lies_grown_opt hs10 hg11 (fun B O e he => by have h1 := hspot B (hrow2 B he.symm); have h2 := hlt3 B O e; omega)
  have hW11 := hW10.grown hg11 hW10.size (fun k e => by have h1 := hspot k (hrow2 k e); omega)
  have y11 := y0.below hW11
  clear hrow2 hg11 og9 og10 hs9 hs10 hspot
  go_wp2_with ((go_at_call 10; refine (heldSlots_own w4.heap.size _ _ _ 1 _ (by omega) og11 (by decide) (by decide)).mono ?_; rintro e w12 ⟨rfl, rfl⟩))
  go_wp2_with ((go_at_call 6; refine (toSlots_any _ _ _ L0 _ rfl hl y11).mono ?_; rintro e w13 ⟨rfl, hL13, hR13, hB13⟩))
  go_wp2_with ((go_at_call 7; refine (hI _ _ hL13).mono ?_; rintro e w14 ⟨Ph, ch, rfl, oh14, hB14⟩))
  have hB1 := hB13.trans (hB14.mono hB13.size)
  have hs14 := hs11.below hB1
  have og14 := og11.below hB1
  have hW14 := hW11.trans (hB1.mono hW11.size)
  go_wp2_with ((go_at_call 8; refine (eqSlots_same _ _ _ _ _ _ R _ rfl rfl (by omega) oh14.lies hs14).mono ?_; rintro e w15 ⟨rfl, hB15⟩))
  have og15 := og14.below hB15
  have hW15 := hW14.trans (hB15.mono hW14.size)
  go_wp2_with ((go_at_call 10; refine (heldSlots_own w4.heap.size _ _ _ 1 _ (by omega) og15 (by decide) (by decide)).mono ?_; rintro e w16 ⟨rfl, rfl⟩))
  go_ret
  exact ⟨rfl, hW15⟩

/-! ### The walk: the Go text returns true and writes nothing that was there. -/
set_option maxRecDepth 100000 in
set_option maxHeartbeats 1000000 in
theorem walk (a1 : Int) (w1 : (Lit.int .i64 a1).wf = true) (w : World) (a0 : Option Addr) (len0 cap0 : Nat) (L0 : List Sl) (n0 : len0 = L0.length) (m0 : len0 ≤ maxLen) (y0 : Lies w a0 L0) (fit0 : ∀ s ∈ L0, s.Fit) :
    Calls Try.prog 3 #[.slice a0 len0 cap0, .int .i64 a1] w fun e w' => e = .returned (.bool true) ∧ Below w.heap.size w w' := by
  subst n0
  have hmx : L0.length ≤ 9223372036854775807 := m0
  by_cases hbig : 1048576 < L0.length
  · go_enter Try.func3, Try.ntmps3
    go_wp2_with (first
      | (go_at_call 4; refine (szSlots_no _ _ _ _ hbig hmx).mono ?_; rintro e w1 ⟨rfl, rfl⟩))
    go_ret
    exact ⟨rfl, Below.refl _ _⟩
  · have hl : L0.length ≤ 1048576 := by omega
    have nilS : ∀ (W W' : World), Below W.heap.size W W' → ∃ P c, Ending.returned (.tuple #[.slice none 0 0, .bool false]) = .returned (.tuple #[.slice P ([] : List Sl).length c, .bool false]) ∧ Lies W' P [] ∧ (∀ B O, P = some ⟨B, O, none⟩ → B < W'.heap.size) ∧ Below W.heap.size W W' := fun W W' hb => ⟨none, 0, rfl, Lies.nil _ _, fun B O e => (by cases e), hb⟩
    have nilI : ∀ (W W' : World), Below W.heap.size W W' → ∃ P c, Ending.returned (.tuple #[.slice none 0 0, .bool false]) = .returned (.tuple #[.slice P ([] : List Sl).length c, .bool false]) ∧ Own W.heap.size W' P [] ∧ Below W.heap.size W W' := fun W W' hb => ⟨none, 0, rfl, ⟨Lies.nil _ _, .inl ⟨rfl, rfl⟩⟩, hb⟩
    cases ht : (treeB L0 && placeB L0.length a1)
    · exact common a0 cap0 L0 [] a1 false w hl (by simp) y0
        (fun Q W h => (treeCutSpec_none Q _ a1 L0 W hl (Nat.le_refl _) (by omega) h ht).mono fun e W' ⟨he, hb⟩ => he ▸ nilS W W' hb)
        (fun Q W h => (treeCutImpl_none Q _ a1 L0 W hl (Nat.le_refl _) (by omega) h fit0 ht).mono fun e W' ⟨he, hb⟩ => he ▸ nilI W W' hb)
    · obtain ⟨k, rfl, hk, hT⟩ := place_nat ht
      by_cases hr : runN L0[k].p (L0.drop (k + 1)) = 0
      · have hlen : (L0.take k ++ L0.drop (k + 1)).length = L0.length - 1 := by simp; omega
        refine common a0 cap0 L0 (L0.take k ++ L0.drop (k + 1)) _ true w hl (by omega) y0 (fun Q W h => ?_) (fun Q W h => ?_)
        · obtain ⟨B, O, rfl⟩ := h.some hk
          refine (treeCutSpec_leaf B O _ k L0 W hl (Nat.le_refl _) (by omega) h ht hk hr).mono ?_
          rintro e W' ⟨g, c, rfl, hg, hL, hgl, hb⟩
          exact ⟨some ⟨g, 0, none⟩, c, by rw [hlen], hL, fun B O e => by cases e; exact hgl, hb⟩
        · obtain ⟨B, O, rfl⟩ := h.some hk
          refine (treeCutImpl_leaf B O _ k L0 W hl (Nat.le_refl _) (by omega) h fit0 hT hk hr).mono ?_
          rintro e W' ⟨g, rfl, hg, hR, hL, hb⟩
          exact ⟨some ⟨g, 0, none⟩, _, by rw [hlen], ⟨hL, .inr ⟨g, rfl, hg, hR.lt, hR.z⟩⟩, hb⟩
      · exact common a0 cap0 L0 [] _ false w hl (by simp) y0
          (fun Q W h => (treeCutSpec_has Q _ k L0 W hl (Nat.le_refl _) (by omega) h ht hk hr).mono fun e W' ⟨he, hb⟩ => he ▸ nilS W W' hb)
          (fun Q W h => (treeCutImpl_has Q _ k L0 W hl (Nat.le_refl _) (by omega) h fit0 hT hk hr).mono fun e W' ⟨he, hb⟩ => he ▸ nilI W W' hb)

/-! ### The row's step. -/
set_option maxRecDepth 100000 in
theorem lifted (os : Os) (started : os.Started) (H : Type) (enc : TypeId × Value → H) :
    ReturnsInHanded {} Try.checked os 3 .any (Rows.fnExactTreeCutSpec.pre6 enc Try.prog Try.f3 Rows.fnExactTreeCutRow.domain false) (Rows.fnExactTreeCutSpec.post enc Try.prog Try.f3 false true false false) := by
  refine returnsInHanded_of_change (C := Try.checked) own started (by kernel_rfl) Try.func3
    (ChangeSpec.witness6 (enc := enc) (C := Try.checked) false ⟨#[], #[.slice none 0 0, .int .i64 0], []⟩ 8 (by kernel_rfl) (by kernel_rfl) (by kernel_rfl) (by kernel_rfl)) ?_
  intro W base args ds gs before hval0 hW hcnd _
  have hval : ∀ (j : Nat) t v, Try.f3.params[j]? = some t → args[j]? = some v → Value.okWide Try.prog W .any base t v := hval0
  have hW' := hW
  obtain ⟨p, q, hA0, hV, rfl, hfz, hnd⟩ := hW
  have hA : DataW.TrodAll enc Try.prog W 0 (fun _ => true) true Try.f3.params.toList args.toList ds p := hA0
  rw [Try.params3] at hA hval
  obtain ⟨v0, vs0, D0, Ds0, P0, Q0, hargs, rfl, rfl, h0, R0⟩ := trodAll_cons hA
  obtain ⟨v1, vs1, D1, Ds1, P1, Q1, rfl, rfl, rfl, h1, R1⟩ := trodAll_cons R0
  obtain ⟨rfl, rfl, rfl⟩ := trodAll_nil R1
  obtain rfl : args = #[v0, v1] := by cases args; simp_all
  obtain ⟨rfl, rfl⟩ := trodVars_none hV
  obtain ⟨a0, len0, cap0, rfl⟩ := okWide_slice Try.underlying22 (hval 0 22 v0 rfl rfl)
  have t0 := h0
  have lt0 : ∀ x ∈ P0, x.block < W.heap.size := by obtain ⟨m, hm⟩ := t0; exact DataW.trod_lt m _ _ _ hm
  obtain ⟨L0, n0, m0, y0, fit0⟩ := open_slots h0
  obtain ⟨a1, rfl, rfl, rfl, w1⟩ := open_int Try.underlying3 (hval 1 3 v1 rfl rfl) h1
  clear hA0 hval0
  refine (walk a1 w1 W a0 len0 cap0 L0 n0.symm m0 y0 fit0).mono fun e W' ⟨he, bel⟩ => ?_
  subst he
  exact ⟨_, rfl, _, _, _, [], _, [], hW', trodAll_mk1 (shut_bool Try.underlying4 _), (trodAll_cons_mk (Below.trod laidOut (by kernel_rfl) (of_decide_eq_true (by kernel_rfl)) t0 bel lt0) (trodAll_cons_mk (shut_int Try.underlying3 w1) trodAll_mk0)), rfl, bel.frame _, fun h => by cases h⟩

theorem over : Rows.fnExactTreeCutRow.holds Try.pinned (OpenSpec.ofChange Rows.fnExactTreeCutSpec) :=
  OpenClaim.holds_of_wide 3 Try.f3 rfl rfl rfl rfl rfl rfl rfl ⟨rfl, rfl, rfl, rfl, rfl⟩ rfl rfl rfl rfl rfl (by kernel_rfl) Try.func3 (by kernel_rfl)
    (of_decide_eq_true (by kernel_rfl)) (by unfold Func.isWrapper; first | (rw [if_pos (by decide +kernel)]; kernel_rfl) | (rw [if_neg (by decide +kernel)]; exact ⟨rfl, rfl⟩))
    (fun os started H enc _ => lifted os started H enc)

/-- The statement. -/
theorem proved : Rows.FnExactTreeCutSaid := over
#print axioms proved
end Go.Proofs.Ytaebcaajcolnfad.fnExactTreeCut
