/-
  Proved: TreeLeaf of the program answers, at every list of slots and every place, as TreeLeaf of the specification, and writes nothing into the list; the law FnExactTreeLeaf returns true at every argument. Conditions: none.
-/
import Derived.Test.YtaebcaajcolnfacRows
import Derived.Test.YtaebcaajcolnfacLeafImpl
import Derived.Test.YtaebcaajcolnfacLeafSpec
import Derived.Test.YtaebcaajcolnfacOpenSlots
import Derived.Test.YtaebcaajcolnfacEqSlots
import Derived.Test.YtaebcaajcolnfacSizes3
import Derived.WalkKit
import Derived.ProofKit
import Derived.OpenShut
import Derived.ShutString
import Derived.ChangeOld
import Derived.Below
namespace Go.Proofs.Ytaebcaajcolnfac.fnExactTreeLeaf
open Go.ChangeShapes Go.WideShapes Go.ChangeAt Go.RowKit
open Go.ChangeMaps (open_string shut_string)
set_option linter.unusedVariables false

theorem own : ownKnob Try.prog.godebug = none := by kernel_rfl
theorem laidOut : laidOutB Try.prog = true := by kernel_rfl

set_option maxRecDepth 100000 in
set_option maxHeartbeats 1000000 in
/-- The law's walk, over what both sides answer. -/
theorem common (a0 : Option Addr) (cap0 : Nat) (L0 : List Sl) (a1 : Int) (v : Int) (w : World) (hl : L0.length ≤ 1048576) (y0 : Lies w a0 L0)
    (hS : ∀ (Q : Option Addr) (w : World), Lies w Q L0 → Calls Try.prog 20 #[.slice Q L0.length L0.length, .int .i64 a1] w fun e w' => e = .returned (.int .i64 v) ∧ Below w.heap.size w w')
    (hI : ∀ (Q : Option Addr) (w : World), Lies w Q L0 → Calls Try.prog 21 #[.slice Q L0.length L0.length, .int .i64 a1] w fun e w' => e = .returned (.int .i64 v) ∧ Below w.heap.size w w') :
    Calls Try.prog 7 #[.slice a0 L0.length cap0, .int .i64 a1] w fun e w' => e = .returned (.bool true) ∧ Below w.heap.size w w' := by
  go_enter Try.func7, Try.ntmps7
  go_upto_region 6 with (first
    | (go_at_call 9; refine (szSlots_yes _ _ _ _ hl).mono ?_; rintro e w1 ⟨rfl, rfl⟩)
    | (go_at_call 11; refine (toSlots_any _ _ _ L0 _ rfl hl (by assumption)).mono ?_; rintro e w2 ⟨rfl, hL2, hR2, hB2⟩)
    | (go_at_call 20; refine (hS _ _ hL2).mono ?_; rintro e w3 ⟨rfl, hB3⟩))
  have hW3 : Below w.heap.size w w3 := hB2.trans (hB3.mono hB2.size)
  have y3 := y0.below hW3
  clear hB3 hB2 hL2 hR2
  go_upto_region 10 with (first
    | (go_at_call 11; refine (toSlots_any _ _ _ L0 _ rfl hl (by assumption)).mono ?_; rintro e w4 ⟨rfl, hL4, hR4, hB4⟩)
    | (go_at_call 21; refine (hI _ _ hL4).mono ?_; rintro e w5 ⟨rfl, hB5⟩))
  have hW5 : Below w.heap.size w w5 := hW3.trans ((hB4.trans (hB5.mono hB4.size)).mono hW3.size)
  have y5 := y0.below hW5
  have hL5 := hL4.below hB5
  clear hB4 hB5 hL4 y3
  go_wp2_with (first
    | (go_at_call 11; refine (toSlots_any _ _ _ L0 _ rfl hl (by assumption)).mono ?_; rintro e w6 ⟨rfl, hL6, hR6, hB6⟩)
    | (go_at_call 13; refine (eqSlots_same _ _ _ _ _ _ L0 _ rfl rfl (by omega) (hL5.below hB6) hL6).mono ?_; rintro e w7 ⟨rfl, hB7⟩))
  go_ret
  exact ⟨rfl, hW5.trans ((hB6.trans (hB7.mono hB6.size)).mono hW5.size)⟩

/-! ### The walk: the Go text returns true and writes nothing that was there. -/
set_option maxRecDepth 100000 in
set_option maxHeartbeats 1000000 in
theorem walk (a1 : Int) (w1 : (Lit.int .i64 a1).wf = true) (w : World) (a0 : Option Addr) (len0 cap0 : Nat) (L0 : List Sl) (n0 : len0 = L0.length) (m0 : len0 ≤ maxLen) (y0 : Lies w a0 L0) (fit0 : ∀ s ∈ L0, s.Fit) :
    Calls Try.prog 7 #[.slice a0 len0 cap0, .int .i64 a1] w fun e w' => e = .returned (.bool true) ∧ Below w.heap.size w w' := by
  subst n0
  have hmx : L0.length ≤ 9223372036854775807 := m0
  by_cases hbig : 1048576 < L0.length
  · go_enter Try.func7, Try.ntmps7
    go_wp2_with (first
      | (go_at_call 9; refine (szSlots_no _ _ _ _ hbig hmx).mono ?_; rintro e w1 ⟨rfl, rfl⟩))
    go_ret
    exact ⟨rfl, Below.refl _ _⟩
  · have hl : L0.length ≤ 1048576 := by omega
    cases ht : (treeB L0 && placeB L0.length a1)
    · exact common a0 cap0 L0 a1 _ w hl y0 (fun Q w h => treeLeafSpec_none Q _ a1 L0 w hl (Nat.le_refl _) (by omega) h ht) (fun Q w h => treeLeafImpl_none Q _ a1 L0 w hl (Nat.le_refl _) (by omega) h fit0 ht)
    · obtain ⟨i, rfl, hi, hT⟩ := place_nat3 ht
      obtain ⟨k, hk⟩ := isLeaf_ex L0 i hi
      exact common a0 cap0 L0 _ _ w hl y0 (fun Q w h => treeLeafSpec_some Q _ i L0 w hl (Nat.le_refl _) (by omega) h ht hi k hk) (fun Q w h => treeLeafImpl_some Q _ i L0 w hl (Nat.le_refl _) (by omega) h fit0 hT hi k hk)

/-! ### The row's step. -/
set_option maxRecDepth 100000 in
theorem lifted (os : Os) (started : os.Started) (H : Type) (enc : TypeId × Value → H) :
    ReturnsInHanded {} Try.checked os 7 .any (Rows.fnExactTreeLeafSpec.pre6 enc Try.prog Try.f7 Rows.fnExactTreeLeafRow.domain false) (Rows.fnExactTreeLeafSpec.post enc Try.prog Try.f7 false true false false) := by
  refine returnsInHanded_of_change (C := Try.checked) own started (by kernel_rfl) Try.func7
    (ChangeSpec.witness6 (enc := enc) (C := Try.checked) false ⟨#[], #[.slice none 0 0, .int .i64 0], []⟩ 8 (by kernel_rfl) (by kernel_rfl) (by kernel_rfl) (by kernel_rfl)) ?_
  intro W base args ds gs before hval0 hW hcnd _
  have hval : ∀ (j : Nat) t v, Try.f7.params[j]? = some t → args[j]? = some v → Value.okWide Try.prog W .any base t v := hval0
  have hW' := hW
  obtain ⟨p, q, hA0, hV, rfl, hfz, hnd⟩ := hW
  have hA : DataW.TrodAll enc Try.prog W 0 (fun _ => true) true Try.f7.params.toList args.toList ds p := hA0
  rw [Try.params7] at hA hval
  obtain ⟨v0, vs0, D0, Ds0, P0, Q0, hargs, rfl, rfl, h0, R0⟩ := trodAll_cons hA
  obtain ⟨v1, vs1, D1, Ds1, P1, Q1, rfl, rfl, rfl, h1, R1⟩ := trodAll_cons R0
  obtain ⟨rfl, rfl, rfl⟩ := trodAll_nil R1
  obtain rfl : args = #[v0, v1] := by cases args; simp_all
  obtain ⟨rfl, rfl⟩ := trodVars_none hV
  obtain ⟨a0, len0, cap0, rfl⟩ := okWide_slice Try.underlying22 (hval 0 22 v0 rfl rfl)
  have t0 := h0
  have lt0 : ∀ x ∈ P0, x.block < W.heap.size := by obtain ⟨m, hm⟩ := t0; exact DataW.trod_lt m _ _ _ hm
  obtain ⟨L0, n0, m0, y0, fit0⟩ := open_slots h0
  obtain ⟨a1, rfl, rfl, rfl, w1⟩ := open_int Try.underlying3 (hval 1 3 v1 rfl rfl) h1
  clear hA0 hval0
  refine (walk a1 w1 W a0 len0 cap0 L0 n0.symm m0 y0 fit0).mono fun e W' ⟨he, bel⟩ => ?_
  subst he
  exact ⟨_, rfl, _, _, _, [], _, [], hW', trodAll_mk1 (shut_bool Try.underlying4 _), (trodAll_cons_mk (Below.trod laidOut (by kernel_rfl) (of_decide_eq_true (by kernel_rfl)) t0 bel lt0) (trodAll_cons_mk (shut_int Try.underlying3 w1) trodAll_mk0)), rfl, bel.frame _, fun h => by cases h⟩

theorem over : Rows.fnExactTreeLeafRow.holds Try.pinned (OpenSpec.ofChange Rows.fnExactTreeLeafSpec) :=
  OpenClaim.holds_of_wide 7 Try.f7 rfl rfl rfl rfl rfl rfl rfl ⟨rfl, rfl, rfl, rfl, rfl⟩ rfl rfl rfl rfl rfl (by kernel_rfl) Try.func7 (by kernel_rfl)
    (of_decide_eq_true (by kernel_rfl)) (by unfold Func.isWrapper; first | (rw [if_pos (by decide +kernel)]; kernel_rfl) | (rw [if_neg (by decide +kernel)]; exact ⟨rfl, rfl⟩))
    (fun os started H enc _ => lifted os started H enc)

/-- The statement. -/
theorem proved : Rows.FnExactTreeLeafSaid := over
#print axioms proved
end Go.Proofs.Ytaebcaajcolnfac.fnExactTreeLeaf
