/-
  Proved: CapPack of the program answers, at every capability, the two words that CapPack of the specification answers; the law FnExactCapPack returns true at every argument. Conditions: none.
-/
import Derived.Test.YtaebcaajcolnfaaRows
import Derived.Test.YtaebcaajcolnfaaPack
import Derived.Test.YtaebcaajcolnfaaCapIn
import Derived.WalkKit
import Derived.ProofKit
import Derived.OpenShut
import Derived.ShutString
import Derived.ChangeOld
import Derived.Below
namespace Go.Proofs.Ytaebcaajcolnfaa.fnExactCapPack
open Go.ChangeShapes Go.WideShapes Go.ChangeAt Go.RowKit
open Go.ChangeMaps (open_string shut_string)
set_option linter.unusedVariables false

theorem own : ownKnob Try.prog.godebug = none := by kernel_rfl
theorem laidOut : laidOutB Try.prog = true := by kernel_rfl

/-! ### The walk: the Go text returns true and writes nothing that was there. -/
set_option maxHeartbeats 1000000 in
theorem walk (k0 e0 b0 r0 d0 g0 q0 f0 : Int) (o0 : Bool) (wk0 : (Lit.int .i64 k0).wf = true) (we0 : (Lit.int .i64 e0).wf = true) (wb0 : (Lit.int .i64 b0).wf = true) (wr0 : (Lit.int .i64 r0).wf = true) (wd0 : (Lit.int .i64 d0).wf = true) (wg0 : (Lit.int .i64 g0).wf = true) (wq0 : (Lit.int .i64 q0).wf = true) (wf0 : (Lit.int .i64 f0).wf = true) (w : World)  :
    Calls Try.prog 7 #[.agg #[.int .i64 k0, .int .i64 e0, .int .i64 b0, .int .i64 r0, .int .i64 d0, .int .i64 g0, .int .i64 q0, .int .i64 f0, .bool o0]] w fun e w' => e = .returned (.bool true) ∧ Below w.heap.size w w' := by
  have hr : -9223372036854775808 ≤ r0 ∧ r0 ≤ 9223372036854775807 := by have := bounds_i64 wr0; omega
  go_enter Try.func7, Try.ntmps7
  go_wp2_with (first
    | (go_at_call 26; refine (on_calls (packSpec_any _ _ _ _ _ _ _ _ _ _) (by first | assumption | exact Below.refl _ _)).mono ?_; rintro e w2 ⟨rfl, hb2⟩; obtain ⟨hc2, hf2⟩ := bcell hb2)
    | (go_at_call 27; refine (on_calls (packImpl_any _ _ _ _ _ _ _ _ _ _ hr.1 hr.2) (by first | assumption | exact Below.refl _ _)).mono ?_; rintro e w4 ⟨rfl, hb4⟩; obtain ⟨hc4, hf4⟩ := bcell hb4)
    | (go_at_call 25; refine (on_calls (toCap_any _ _ _ _ _ _ _ _ _ _) (by first | assumption | exact Below.refl _ _)).mono ?_; rintro e w1 ⟨rfl, hb1⟩; obtain ⟨hc1, hf1⟩ := bcell hb1))
  go_ret
  exact ⟨rfl, ((Below.refl _ _).alloc (Nat.le_refl _) _).trans (hb4.mono (by simp))⟩

/-! ### The row's step. -/
set_option maxRecDepth 100000 in
theorem lifted (os : Os) (started : os.Started) (H : Type) (enc : TypeId × Value → H) :
    ReturnsInHanded {} Try.checked os 7 .any (Rows.fnExactCapPackSpec.pre6 enc Try.prog Try.f7 Rows.fnExactCapPackRow.domain false) (Rows.fnExactCapPackSpec.post enc Try.prog Try.f7 false true false false) := by
  refine returnsInHanded_of_change (C := Try.checked) own started (by kernel_rfl) Try.func7
    (ChangeSpec.witness6 (enc := enc) (C := Try.checked) false ⟨#[], #[.agg #[.int .i64 0, .int .i64 0, .int .i64 0, .int .i64 0, .int .i64 0, .int .i64 0, .int .i64 0, .int .i64 0, .bool false]], []⟩ 8 (by kernel_rfl) (by kernel_rfl) (by kernel_rfl) (by kernel_rfl)) ?_
  intro W base args ds gs before hval0 hW hcnd _
  have hval : ∀ (j : Nat) t v, Try.f7.params[j]? = some t → args[j]? = some v → Value.okWide Try.prog W .any base t v := hval0
  have hW' := hW
  obtain ⟨p, q, hA0, hV, rfl, hfz, hnd⟩ := hW
  have hA : DataW.TrodAll enc Try.prog W 0 (fun _ => true) true Try.f7.params.toList args.toList ds p := hA0
  rw [Try.params7] at hA hval
  obtain ⟨v0, vs0, d0, ds0, p0, q0, hargs, rfl, rfl, h0, r0⟩ := trodAll_cons hA
  obtain ⟨rfl, rfl, rfl⟩ := trodAll_nil r0
  obtain rfl : args = #[v0] := by cases args; simp_all
  obtain ⟨rfl, rfl⟩ := trodVars_none hV
  have t0 := h0
  have lt0 : ∀ x ∈ p0, x.block < W.heap.size := by obtain ⟨m, hm⟩ := t0; exact DataW.trod_lt m _ _ _ hm
  obtain ⟨k0, e0, b0, r0, d0, g0, q0, f0, o0, rfl, wk0, we0, wb0, wr0, wd0, wg0, wq0, wf0⟩ := open_cap (hval 0 43 v0 rfl rfl) h0
  clear hA0 hval0
  refine (walk k0 e0 b0 r0 d0 g0 q0 f0 o0 wk0 we0 wb0 wr0 wd0 wg0 wq0 wf0 W ).mono fun e W' ⟨he, bel⟩ => ?_
  subst he
  exact ⟨_, rfl, _, _, _, [], _, [], hW', trodAll_mk1 (shut_bool Try.underlying4 _), (trodAll_cons_mk (Below.trod laidOut (by kernel_rfl) (of_decide_eq_true (by kernel_rfl)) t0 bel lt0) trodAll_mk0), rfl, bel.frame _, fun h => by cases h⟩

theorem over : Rows.fnExactCapPackRow.holds Try.pinned (OpenSpec.ofChange Rows.fnExactCapPackSpec) :=
  OpenClaim.holds_of_wide 7 Try.f7 rfl rfl rfl rfl rfl rfl rfl ⟨rfl, rfl, rfl, rfl, rfl⟩ rfl rfl rfl rfl rfl (by kernel_rfl) Try.func7 (by kernel_rfl)
    (of_decide_eq_true (by kernel_rfl)) (by unfold Func.isWrapper; first | (rw [if_pos (by decide +kernel)]; kernel_rfl) | (rw [if_neg (by decide +kernel)]; exact ⟨rfl, rfl⟩))
    (fun os started H enc _ => lifted os started H enc)

/-- The statement. -/
theorem proved : Rows.FnExactCapPackSaid := over
#print axioms proved
end Go.Proofs.Ytaebcaajcolnfaa.fnExactCapPack
