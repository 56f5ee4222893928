/-
  Proved: CapMint of the program answers, at every capability, rights and badge or guard, as CapMint of the specification, every field; the law FnExactCapMint returns true at every argument. Conditions: none.
-/
import Derived.Test.YtaebcaajcolnfabRows
import Derived.Test.YtaebcaajcolnfabMinted
import Derived.Test.YtaebcaajcolnfabAlike
import Derived.WalkKit
import Derived.ProofKit
import Derived.OpenShut
import Derived.ShutString
import Derived.ChangeOld
import Derived.Below
namespace Go.Proofs.Ytaebcaajcolnfab.fnExactCapMint
open Go.ChangeShapes Go.WideShapes Go.ChangeAt Go.RowKit
open Go.ChangeMaps (open_string shut_string)
set_option linter.unusedVariables false

theorem own : ownKnob Try.prog.godebug = none := by kernel_rfl
theorem laidOut : laidOutB Try.prog = true := by kernel_rfl

/-! ### The walk: the Go text returns true and writes nothing that was there. -/
set_option maxHeartbeats 1000000 in
theorem walk (k0 e0 b0 r0 d0 g0 q0 f0 : Int) (o0 : Bool) (wk0 : (Lit.int .i64 k0).wf = true) (we0 : (Lit.int .i64 e0).wf = true) (wb0 : (Lit.int .i64 b0).wf = true) (wr0 : (Lit.int .i64 r0).wf = true) (wd0 : (Lit.int .i64 d0).wf = true) (wg0 : (Lit.int .i64 g0).wf = true) (wq0 : (Lit.int .i64 q0).wf = true) (wf0 : (Lit.int .i64 f0).wf = true) (a1 : Int) (w1 : (Lit.int .u32 a1).wf = true) (a2 : Int) (w2 : (Lit.int .u32 a2).wf = true) (w : World)  :
    Calls Try.prog 5 #[.agg #[.int .i64 k0, .int .i64 e0, .int .i64 b0, .int .i64 r0, .int .i64 d0, .int .i64 g0, .int .i64 q0, .int .i64 f0, .bool o0], .int .u32 a1, .int .u32 a2] w fun e w' => e = .returned (.bool true) ∧ Below w.heap.size w w' := by
  have hr : -9223372036854775808 ≤ r0 ∧ r0 ≤ 9223372036854775807 := bounds_i64 wr0
  have hm : 0 ≤ a1 ∧ a1 ≤ 4294967295 := bounds_u32 w1
  have hx : 0 ≤ a2 ∧ a2 ≤ 4294967295 := bounds_u32 w2
  cases h : mintB k0 e0 b0 r0 d0 g0 q0 f0 o0 a1 a2
  · exact lawCapMint k0 e0 b0 r0 d0 g0 q0 f0 a1 a2 o0 _ _ _ _ _ _ _ _ _ _ w (fun w => mintSpec_not _ _ _ _ _ _ _ _ _ _ _ w hr.1 hr.2 hm.1 hm.2 hx.1 hx.2 h) (fun w => mintImpl_not _ _ _ _ _ _ _ _ _ _ _ w hr.1 hr.2 hm.1 hm.2 hx.1 hx.2 h)
  · exact lawCapMint k0 e0 b0 r0 d0 g0 q0 f0 a1 a2 o0 _ _ _ _ _ _ _ _ _ _ w (fun w => mintSpec_given _ _ _ _ _ _ _ _ _ _ _ w hm.1 hm.2 hx.1 hx.2 h) (fun w => mintImpl_given _ _ _ _ _ _ _ _ _ _ _ w hm.1 hm.2 hx.1 hx.2 h)

/-! ### The row's step. -/
set_option maxRecDepth 100000 in
theorem lifted (os : Os) (started : os.Started) (H : Type) (enc : TypeId × Value → H) :
    ReturnsInHanded {} Try.checked os 5 .any (Rows.fnExactCapMintSpec.pre6 enc Try.prog Try.f5 Rows.fnExactCapMintRow.domain false) (Rows.fnExactCapMintSpec.post enc Try.prog Try.f5 false true false false) := by
  refine returnsInHanded_of_change (C := Try.checked) own started (by kernel_rfl) Try.func5
    (ChangeSpec.witness6 (enc := enc) (C := Try.checked) false ⟨#[], #[.agg #[.int .i64 0, .int .i64 0, .int .i64 0, .int .i64 0, .int .i64 0, .int .i64 0, .int .i64 0, .int .i64 0, .bool false], .int .u32 0, .int .u32 0], []⟩ 8 (by kernel_rfl) (by kernel_rfl) (by kernel_rfl) (by kernel_rfl)) ?_
  intro W base args ds gs before hval0 hW hcnd _
  have hval : ∀ (j : Nat) t v, Try.f5.params[j]? = some t → args[j]? = some v → Value.okWide Try.prog W .any base t v := hval0
  have hW' := hW
  obtain ⟨p, q, hA0, hV, rfl, hfz, hnd⟩ := hW
  have hA : DataW.TrodAll enc Try.prog W 0 (fun _ => true) true Try.f5.params.toList args.toList ds p := hA0
  rw [Try.params5] at hA hval
  obtain ⟨v0, vs0, D0, Ds0, P0, Q0, hargs, rfl, rfl, h0, R0⟩ := trodAll_cons hA
  obtain ⟨v1, vs1, D1, Ds1, P1, Q1, rfl, rfl, rfl, h1, R1⟩ := trodAll_cons R0
  obtain ⟨v2, vs2, D2, Ds2, P2, Q2, rfl, rfl, rfl, h2, R2⟩ := trodAll_cons R1
  obtain ⟨rfl, rfl, rfl⟩ := trodAll_nil R2
  obtain rfl : args = #[v0, v1, v2] := by cases args; simp_all
  obtain ⟨rfl, rfl⟩ := trodVars_none hV
  have t0 := h0
  have lt0 : ∀ x ∈ P0, x.block < W.heap.size := by obtain ⟨m, hm⟩ := t0; exact DataW.trod_lt m _ _ _ hm
  obtain ⟨k0, e0, b0, r0, d0, g0, q0, f0, o0, rfl, wk0, we0, wb0, wr0, wd0, wg0, wq0, wf0⟩ := open_cap (hval 0 29 v0 rfl rfl) h0
  obtain ⟨a1, rfl, rfl, rfl, w1⟩ := open_int Try.underlying22 (hval 1 22 v1 rfl rfl) h1
  obtain ⟨a2, rfl, rfl, rfl, w2⟩ := open_int Try.underlying22 (hval 2 22 v2 rfl rfl) h2
  clear hA0 hval0
  refine (walk k0 e0 b0 r0 d0 g0 q0 f0 o0 wk0 we0 wb0 wr0 wd0 wg0 wq0 wf0 a1 w1 a2 w2 W ).mono fun e W' ⟨he, bel⟩ => ?_
  subst he
  exact ⟨_, rfl, _, _, _, [], _, [], hW', trodAll_mk1 (shut_bool Try.underlying4 _), (trodAll_cons_mk (Below.trod laidOut (by kernel_rfl) (of_decide_eq_true (by kernel_rfl)) t0 bel lt0) (trodAll_cons_mk (shut_int Try.underlying22 w1) (trodAll_cons_mk (shut_int Try.underlying22 w2) trodAll_mk0))), rfl, bel.frame _, fun h => by cases h⟩

theorem over : Rows.fnExactCapMintRow.holds Try.pinned (OpenSpec.ofChange Rows.fnExactCapMintSpec) :=
  OpenClaim.holds_of_wide 5 Try.f5 rfl rfl rfl rfl rfl rfl rfl ⟨rfl, rfl, rfl, rfl, rfl⟩ rfl rfl rfl rfl rfl (by kernel_rfl) Try.func5 (by kernel_rfl)
    (of_decide_eq_true (by kernel_rfl)) (by unfold Func.isWrapper; first | (rw [if_pos (by decide +kernel)]; kernel_rfl) | (rw [if_neg (by decide +kernel)]; exact ⟨rfl, rfl⟩))
    (fun os started H enc _ => lifted os started H enc)

/-- The statement. -/
theorem proved : Rows.FnExactCapMintSaid := over
#print axioms proved
end Go.Proofs.Ytaebcaajcolnfab.fnExactCapMint
