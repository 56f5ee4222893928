/-
  Proved: CapCopy of the program answers, at every capability and all rights, as CapCopy of the specification, every field; the law FnExactCapCopy returns true at every argument. Conditions: none.
-/
import Derived.Test.YtaebcaajcolnfabRows
import Derived.Test.YtaebcaajcolnfabCopy
import Derived.Test.YtaebcaajcolnfabAlike
import Derived.WalkKit
import Derived.ProofKit
import Derived.OpenShut
import Derived.ShutString
import Derived.ChangeOld
import Derived.Below
namespace Go.Proofs.Ytaebcaajcolnfab.fnExactCapCopy
open Go.ChangeShapes Go.WideShapes Go.ChangeAt Go.RowKit
open Go.ChangeMaps (open_string shut_string)
set_option linter.unusedVariables false

theorem own : ownKnob Try.prog.godebug = none := by kernel_rfl
theorem laidOut : laidOutB Try.prog = true := by kernel_rfl

/-! ### The walk: the Go text returns true and writes nothing that was there. -/
set_option maxHeartbeats 1000000 in
theorem walk (k0 e0 b0 r0 d0 g0 q0 f0 : Int) (o0 : Bool) (wk0 : (Lit.int .i64 k0).wf = true) (we0 : (Lit.int .i64 e0).wf = true) (wb0 : (Lit.int .i64 b0).wf = true) (wr0 : (Lit.int .i64 r0).wf = true) (wd0 : (Lit.int .i64 d0).wf = true) (wg0 : (Lit.int .i64 g0).wf = true) (wq0 : (Lit.int .i64 q0).wf = true) (wf0 : (Lit.int .i64 f0).wf = true) (a1 : Int) (w1 : (Lit.int .u32 a1).wf = true) (w : World)  :
    Calls Try.prog 4 #[.agg #[.int .i64 k0, .int .i64 e0, .int .i64 b0, .int .i64 r0, .int .i64 d0, .int .i64 g0, .int .i64 q0, .int .i64 f0, .bool o0], .int .u32 a1] w fun e w' => e = .returned (.bool true) ∧ Below w.heap.size w w' := by
  have hr : -9223372036854775808 ≤ r0 ∧ r0 ≤ 9223372036854775807 := bounds_i64 wr0
  have hm : 0 ≤ a1 ∧ a1 ≤ 4294967295 := bounds_u32 w1
  cases h : copyB k0 e0 b0 r0 d0 g0 q0 f0 o0
  · exact lawCapCopy k0 e0 b0 r0 d0 g0 q0 f0 a1 o0 _ _ _ _ _ _ _ _ _ _ w (fun w => copySpec_no _ _ _ _ _ _ _ _ _ _ w hr.1 hr.2 h) (fun w => copyImpl_no _ _ _ _ _ _ _ _ _ _ w hr.1 hr.2 h)
  · exact lawCapCopy k0 e0 b0 r0 d0 g0 q0 f0 a1 o0 _ _ _ _ _ _ _ _ _ _ w (fun w => copySpec_yes _ _ _ _ _ _ _ _ _ _ w hm.1 hm.2 h) (fun w => copyImpl_yes _ _ _ _ _ _ _ _ _ _ w hm.1 hm.2 h)

/-! ### The row's step. -/
set_option maxRecDepth 100000 in
theorem lifted (os : Os) (started : os.Started) (H : Type) (enc : TypeId × Value → H) :
    ReturnsInHanded {} Try.checked os 4 .any (Rows.fnExactCapCopySpec.pre6 enc Try.prog Try.f4 Rows.fnExactCapCopyRow.domain false) (Rows.fnExactCapCopySpec.post enc Try.prog Try.f4 false true false false) := by
  refine returnsInHanded_of_change (C := Try.checked) own started (by kernel_rfl) Try.func4
    (ChangeSpec.witness6 (enc := enc) (C := Try.checked) false ⟨#[], #[.agg #[.int .i64 0, .int .i64 0, .int .i64 0, .int .i64 0, .int .i64 0, .int .i64 0, .int .i64 0, .int .i64 0, .bool false], .int .u32 0], []⟩ 8 (by kernel_rfl) (by kernel_rfl) (by kernel_rfl) (by kernel_rfl)) ?_
  intro W base args ds gs before hval0 hW hcnd _
  have hval : ∀ (j : Nat) t v, Try.f4.params[j]? = some t → args[j]? = some v → Value.okWide Try.prog W .any base t v := hval0
  have hW' := hW
  obtain ⟨p, q, hA0, hV, rfl, hfz, hnd⟩ := hW
  have hA : DataW.TrodAll enc Try.prog W 0 (fun _ => true) true Try.f4.params.toList args.toList ds p := hA0
  rw [Try.params4] at hA hval
  obtain ⟨v0, vs0, D0, Ds0, P0, Q0, hargs, rfl, rfl, h0, R0⟩ := trodAll_cons hA
  obtain ⟨v1, vs1, D1, Ds1, P1, Q1, rfl, rfl, rfl, h1, R1⟩ := trodAll_cons R0
  obtain ⟨rfl, rfl, rfl⟩ := trodAll_nil R1
  obtain rfl : args = #[v0, v1] := by cases args; simp_all
  obtain ⟨rfl, rfl⟩ := trodVars_none hV
  have t0 := h0
  have lt0 : ∀ x ∈ P0, x.block < W.heap.size := by obtain ⟨m, hm⟩ := t0; exact DataW.trod_lt m _ _ _ hm
  obtain ⟨k0, e0, b0, r0, d0, g0, q0, f0, o0, rfl, wk0, we0, wb0, wr0, wd0, wg0, wq0, wf0⟩ := open_cap (hval 0 29 v0 rfl rfl) h0
  obtain ⟨a1, rfl, rfl, rfl, w1⟩ := open_int Try.underlying22 (hval 1 22 v1 rfl rfl) h1
  clear hA0 hval0
  refine (walk k0 e0 b0 r0 d0 g0 q0 f0 o0 wk0 we0 wb0 wr0 wd0 wg0 wq0 wf0 a1 w1 W ).mono fun e W' ⟨he, bel⟩ => ?_
  subst he
  exact ⟨_, rfl, _, _, _, [], _, [], hW', trodAll_mk1 (shut_bool Try.underlying4 _), (trodAll_cons_mk (Below.trod laidOut (by kernel_rfl) (of_decide_eq_true (by kernel_rfl)) t0 bel lt0) (trodAll_cons_mk (shut_int Try.underlying22 w1) trodAll_mk0)), rfl, bel.frame _, fun h => by cases h⟩

theorem over : Rows.fnExactCapCopyRow.holds Try.pinned (OpenSpec.ofChange Rows.fnExactCapCopySpec) :=
  OpenClaim.holds_of_wide 4 Try.f4 rfl rfl rfl rfl rfl rfl rfl ⟨rfl, rfl, rfl, rfl, rfl⟩ rfl rfl rfl rfl rfl (by kernel_rfl) Try.func4 (by kernel_rfl)
    (of_decide_eq_true (by kernel_rfl)) (by unfold Func.isWrapper; first | (rw [if_pos (by decide +kernel)]; kernel_rfl) | (rw [if_neg (by decide +kernel)]; exact ⟨rfl, rfl⟩))
    (fun os started H enc _ => lifted os started H enc)

/-- The statement. -/
theorem proved : Rows.FnExactCapCopySaid := over
#print axioms proved
end Go.Proofs.Ytaebcaajcolnfab.fnExactCapCopy
