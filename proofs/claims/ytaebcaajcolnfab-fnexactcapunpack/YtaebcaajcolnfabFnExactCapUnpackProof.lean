/-
  Proved: CapUnpack of the program answers, at every two words, as CapUnpack of the specification, every field; the law FnExactCapUnpack returns true at every argument. Conditions: none.
-/
import Derived.Test.YtaebcaajcolnfabRows
import Derived.Test.YtaebcaajcolnfabUnpack
import Derived.Test.YtaebcaajcolnfabAlike
import Derived.WalkKit
import Derived.ProofKit
import Derived.OpenShut
import Derived.ShutString
import Derived.ChangeOld
import Derived.Below
namespace Go.Proofs.Ytaebcaajcolnfab.fnExactCapUnpack
open Go.ChangeShapes Go.WideShapes Go.ChangeAt Go.RowKit
open Go.ChangeMaps (open_string shut_string)
set_option linter.unusedVariables false

theorem own : ownKnob Try.prog.godebug = none := by kernel_rfl

/-! ### The walk: the Go text returns true and writes nothing that was there. -/
set_option maxHeartbeats 1000000 in
theorem walk (a0 : Int) (w0 : (Lit.int .u32 a0).wf = true) (a1 : Int) (w1 : (Lit.int .u32 a1).wf = true) (w : World)  :
    Calls Try.prog 3 #[.int .u32 a0, .int .u32 a1] w fun e w' => e = .returned (.bool true) ∧ Below w.heap.size w w' := by
  have ha : 0 ≤ a0 ∧ a0 ≤ 4294967295 := bounds_u32 w0
  have hb : 0 ≤ a1 ∧ a1 ≤ 4294967295 := bounds_u32 w1
  have F : Fields a0 a1 (a0 % 16) (a1 % 65536) (a0 / 256 % 16) (a0 / 32 % 8) (a0 / 4096 % 16) (a0 / 65536) (a1 / 65536) (a0 / 16 % 2 == 1) := ⟨rfl, rfl, rfl, rfl, rfl, rfl, rfl, rfl⟩
  cases hk : (a0 % 16 == 2)
  · cases ho : okB (a0 % 16) (a1 % 65536) (a0 / 256 % 16) (a0 / 32 % 8) (a1 / 65536) 0 (a0 / 4096 % 16) (a0 / 65536) (a0 / 16 % 2 == 1)
    · cases hz : (a0 == 0)
      · have hz2 : ((0 : Int) != a0) = true := by
          have : ¬ a0 = 0 := by simpa using hz
          simp; omega
        exact lawCapUnpack a0 a1 _ _ _ _ _ _ _ _ _ _ w (fun w => unpackSpec_ona a0 a1 _ _ _ _ _ _ _ _ w ha.1 ha.2 hb.1 hb.2 F hk ho hz hz2) (fun w => unpackImpl_on a0 a1 _ _ _ _ _ _ _ _ w ha.1 ha.2 hb.1 hb.2 F hk ho)
      · have hz2 : ((0 : Int) != a0) = false := by
          have : a0 = 0 := by simpa using hz
          simp; omega
        cases hz3 : ((0 : Int) != a1)
        · exact lawCapUnpack a0 a1 _ _ _ _ _ _ _ _ _ _ w (fun w => unpackSpec_onc a0 a1 _ _ _ _ _ _ _ _ w ha.1 ha.2 hb.1 hb.2 F hk ho hz hz2 hz3) (fun w => unpackImpl_on a0 a1 _ _ _ _ _ _ _ _ w ha.1 ha.2 hb.1 hb.2 F hk ho)
        · exact lawCapUnpack a0 a1 _ _ _ _ _ _ _ _ _ _ w (fun w => unpackSpec_onb a0 a1 _ _ _ _ _ _ _ _ w ha.1 ha.2 hb.1 hb.2 F hk ho hz hz2 hz3) (fun w => unpackImpl_on a0 a1 _ _ _ _ _ _ _ _ w ha.1 ha.2 hb.1 hb.2 F hk ho)
    · exact lawCapUnpack a0 a1 _ _ _ _ _ _ _ _ _ _ w (fun w => unpackSpec_oy a0 a1 _ _ _ _ _ _ _ _ w ha.1 ha.2 hb.1 hb.2 F hk ho) (fun w => unpackImpl_oy a0 a1 _ _ _ _ _ _ _ _ w ha.1 ha.2 hb.1 hb.2 F hk ho)
  · cases ho : okB (a0 % 16) (a1 % 65536) (a0 / 256 % 16) (a0 / 32 % 8) 0 (a1 / 65536) (a0 / 4096 % 16) (a0 / 65536) (a0 / 16 % 2 == 1)
    · cases hz : (a0 == 0)
      · have hz2 : ((0 : Int) != a0) = true := by
          have : ¬ a0 = 0 := by simpa using hz
          simp; omega
        exact lawCapUnpack a0 a1 _ _ _ _ _ _ _ _ _ _ w (fun w => unpackSpec_nna a0 a1 _ _ _ _ _ _ _ _ w ha.1 ha.2 hb.1 hb.2 F hk ho hz hz2) (fun w => unpackImpl_nn a0 a1 _ _ _ _ _ _ _ _ w ha.1 ha.2 hb.1 hb.2 F hk ho)
      · have hz2 : ((0 : Int) != a0) = false := by
          have : a0 = 0 := by simpa using hz
          simp; omega
        cases hz3 : ((0 : Int) != a1)
        · exact lawCapUnpack a0 a1 _ _ _ _ _ _ _ _ _ _ w (fun w => unpackSpec_nnc a0 a1 _ _ _ _ _ _ _ _ w ha.1 ha.2 hb.1 hb.2 F hk ho hz hz2 hz3) (fun w => unpackImpl_nn a0 a1 _ _ _ _ _ _ _ _ w ha.1 ha.2 hb.1 hb.2 F hk ho)
        · exact lawCapUnpack a0 a1 _ _ _ _ _ _ _ _ _ _ w (fun w => unpackSpec_nnb a0 a1 _ _ _ _ _ _ _ _ w ha.1 ha.2 hb.1 hb.2 F hk ho hz hz2 hz3) (fun w => unpackImpl_nn a0 a1 _ _ _ _ _ _ _ _ w ha.1 ha.2 hb.1 hb.2 F hk ho)
    · exact lawCapUnpack a0 a1 _ _ _ _ _ _ _ _ _ _ w (fun w => unpackSpec_ny a0 a1 _ _ _ _ _ _ _ _ w ha.1 ha.2 hb.1 hb.2 F hk ho) (fun w => unpackImpl_ny a0 a1 _ _ _ _ _ _ _ _ w ha.1 ha.2 hb.1 hb.2 F hk ho)

/-! ### The row's step. -/
set_option maxRecDepth 100000 in
theorem lifted (os : Os) (started : os.Started) (H : Type) (enc : TypeId × Value → H) :
    ReturnsInHanded {} Try.checked os 3 .any (Rows.fnExactCapUnpackSpec.pre6 enc Try.prog Try.f3 Rows.fnExactCapUnpackRow.domain false) (Rows.fnExactCapUnpackSpec.post enc Try.prog Try.f3 false true false false) := by
  refine returnsInHanded_of_change (C := Try.checked) own started (by kernel_rfl) Try.func3
    (ChangeSpec.witness6 (enc := enc) (C := Try.checked) false ⟨#[], #[.int .u32 0, .int .u32 0], []⟩ 8 (by kernel_rfl) (by kernel_rfl) (by kernel_rfl) (by kernel_rfl)) ?_
  intro W base args ds gs before hval0 hW hcnd _
  have hval : ∀ (j : Nat) t v, Try.f3.params[j]? = some t → args[j]? = some v → Value.okWide Try.prog W .any base t v := hval0
  have hW' := hW
  obtain ⟨p, q, hA0, hV, rfl, hfz, hnd⟩ := hW
  have hA : DataW.TrodAll enc Try.prog W 0 (fun _ => true) true Try.f3.params.toList args.toList ds p := hA0
  rw [Try.params3] at hA hval
  obtain ⟨v0, vs0, D0, Ds0, P0, Q0, hargs, rfl, rfl, h0, R0⟩ := trodAll_cons hA
  obtain ⟨v1, vs1, D1, Ds1, P1, Q1, rfl, rfl, rfl, h1, R1⟩ := trodAll_cons R0
  obtain ⟨rfl, rfl, rfl⟩ := trodAll_nil R1
  obtain rfl : args = #[v0, v1] := by cases args; simp_all
  obtain ⟨rfl, rfl⟩ := trodVars_none hV
  obtain ⟨a0, rfl, rfl, rfl, w0⟩ := open_int Try.underlying22 (hval 0 22 v0 rfl rfl) h0
  obtain ⟨a1, rfl, rfl, rfl, w1⟩ := open_int Try.underlying22 (hval 1 22 v1 rfl rfl) h1
  clear hA0 hval0
  simp only [List.append_nil] at hW'
  refine (walk a0 w0 a1 w1 W ).mono fun e W' ⟨he, bel⟩ => ?_
  subst he
  exact ⟨_, rfl, _, _, _, [], _, [], hW', trodAll_mk1 (shut_bool Try.underlying4 _), (trodAll_cons_mk (shut_int Try.underlying22 w0) (trodAll_cons_mk (shut_int Try.underlying22 w1) trodAll_mk0)), rfl, bel.frame _, fun h => by cases h⟩

theorem over : Rows.fnExactCapUnpackRow.holds Try.pinned (OpenSpec.ofChange Rows.fnExactCapUnpackSpec) :=
  OpenClaim.holds_of_wide 3 Try.f3 rfl rfl rfl rfl rfl rfl rfl ⟨rfl, rfl, rfl, rfl, rfl⟩ rfl rfl rfl rfl rfl (by kernel_rfl) Try.func3 (by kernel_rfl)
    (of_decide_eq_true (by kernel_rfl)) (by unfold Func.isWrapper; first | (rw [if_pos (by decide +kernel)]; kernel_rfl) | (rw [if_neg (by decide +kernel)]; exact ⟨rfl, rfl⟩))
    (fun os started H enc _ => lifted os started H enc)

/-- The statement. -/
theorem proved : Rows.FnExactCapUnpackSaid := over
#print axioms proved
end Go.Proofs.Ytaebcaajcolnfab.fnExactCapUnpack
