/-
  Proved: CapBelow of the program answers, at every two capabilities, as CapBelow of the specification; the law FnExactCapBelow returns true at every argument. Conditions: none.
-/
import Derived.Test.YtaebcaajcolnfabRows
import Derived.Test.YtaebcaajcolnfabLess
import Derived.Test.YtaebcaajcolnfabCapIn
import Derived.Deep.Cut
import Derived.Deep.DeepCutAuto
import Derived.Deep.RegionHeld3
import Derived.WalkSmall
import Derived.WalkKit
import Derived.ProofKit
import Derived.OpenShut
import Derived.ShutString
import Derived.ChangeOld
import Derived.Below
namespace Go.Proofs.Ytaebcaajcolnfab.fnExactCapBelow
open Go.ChangeShapes Go.WideShapes Go.ChangeAt Go.RowKit
open Go.ChangeMaps (open_string shut_string)
set_option linter.unusedVariables false

theorem own : ownKnob Try.prog.godebug = none := by kernel_rfl
theorem laidOut : laidOutB Try.prog = true := by kernel_rfl

/-! ### The walk: the Go text returns true and writes nothing that was there. -/
set_option maxHeartbeats 1000000 in
theorem walk (k0 e0 b0 r0 d0 g0 q0 f0 : Int) (o0 : Bool) (wk0 : (Lit.int .i64 k0).wf = true) (we0 : (Lit.int .i64 e0).wf = true) (wb0 : (Lit.int .i64 b0).wf = true) (wr0 : (Lit.int .i64 r0).wf = true) (wd0 : (Lit.int .i64 d0).wf = true) (wg0 : (Lit.int .i64 g0).wf = true) (wq0 : (Lit.int .i64 q0).wf = true) (wf0 : (Lit.int .i64 f0).wf = true) (k1 e1 b1 r1 d1 g1 q1 f1 : Int) (o1 : Bool) (wk1 : (Lit.int .i64 k1).wf = true) (we1 : (Lit.int .i64 e1).wf = true) (wb1 : (Lit.int .i64 b1).wf = true) (wr1 : (Lit.int .i64 r1).wf = true) (wd1 : (Lit.int .i64 d1).wf = true) (wg1 : (Lit.int .i64 g1).wf = true) (wq1 : (Lit.int .i64 q1).wf = true) (wf1 : (Lit.int .i64 f1).wf = true) (w : World)  :
    Calls Try.prog 6 #[.agg #[.int .i64 k0, .int .i64 e0, .int .i64 b0, .int .i64 r0, .int .i64 d0, .int .i64 g0, .int .i64 q0, .int .i64 f0, .bool o0], .agg #[.int .i64 k1, .int .i64 e1, .int .i64 b1, .int .i64 r1, .int .i64 d1, .int .i64 g1, .int .i64 q1, .int .i64 f1, .bool o1]] w fun e w' => e = .returned (.bool true) ∧ Below w.heap.size w w' := by
  have hr0 : -9223372036854775808 ≤ r0 ∧ r0 ≤ 9223372036854775807 := bounds_i64 wr0
  have hr1 : -9223372036854775808 ≤ r1 ∧ r1 ≤ 9223372036854775807 := bounds_i64 wr1
  clear wk0 we0 wb0 wr0 wd0 wg0 wq0 wf0 wk1 we1 wb1 wr1 wd1 wg1 wq1 wf1
  go_enter Try.func6, Try.ntmps6
  go_upto_region 1 with fail
  go_cut [5] (fun v wx => v = .bool (belowB k0 e0 b0 r0 d0 g0 q0 f0 o0 k1 e1 b1 r1 d1 g1 q1 f1 o1) ∧ wx.cell? ⟨w.heap.size, 0, none⟩ = some (.int .i64 k0) ∧ wx.cell? ⟨w.heap.size, 1, none⟩ = some (.int .i64 e0) ∧ wx.cell? ⟨w.heap.size, 2, none⟩ = some (.int .i64 b0) ∧ wx.cell? ⟨w.heap.size, 3, none⟩ = some (.int .i64 r0) ∧ wx.cell? ⟨w.heap.size, 4, none⟩ = some (.int .i64 d0) ∧ wx.cell? ⟨w.heap.size, 5, none⟩ = some (.int .i64 g0) ∧ wx.cell? ⟨w.heap.size, 6, none⟩ = some (.int .i64 q0) ∧ wx.cell? ⟨w.heap.size, 7, none⟩ = some (.int .i64 f0) ∧ wx.cell? ⟨w.heap.size, 8, none⟩ = some (.bool o0) ∧ wx.cell? ⟨w.heap.size + 1, 0, none⟩ = some (.int .i64 k1) ∧ wx.cell? ⟨w.heap.size + 1, 1, none⟩ = some (.int .i64 e1) ∧ wx.cell? ⟨w.heap.size + 1, 2, none⟩ = some (.int .i64 b1) ∧ wx.cell? ⟨w.heap.size + 1, 3, none⟩ = some (.int .i64 r1) ∧ wx.cell? ⟨w.heap.size + 1, 4, none⟩ = some (.int .i64 d1) ∧ wx.cell? ⟨w.heap.size + 1, 5, none⟩ = some (.int .i64 g1) ∧ wx.cell? ⟨w.heap.size + 1, 6, none⟩ = some (.int .i64 q1) ∧ wx.cell? ⟨w.heap.size + 1, 7, none⟩ = some (.int .i64 f1) ∧ wx.cell? ⟨w.heap.size + 1, 8, none⟩ = some (.bool o1) ∧ w.heap.size < wx.heap.size ∧ w.heap.size + 1 < wx.heap.size ∧ Below w.heap.size w wx)
  case first =>
    go_region_held3 (fun wx => wx.cell? ⟨w.heap.size, 0, none⟩ = some (.int .i64 k0) ∧ wx.cell? ⟨w.heap.size, 1, none⟩ = some (.int .i64 e0) ∧ wx.cell? ⟨w.heap.size, 2, none⟩ = some (.int .i64 b0) ∧ wx.cell? ⟨w.heap.size, 3, none⟩ = some (.int .i64 r0) ∧ wx.cell? ⟨w.heap.size, 4, none⟩ = some (.int .i64 d0) ∧ wx.cell? ⟨w.heap.size, 5, none⟩ = some (.int .i64 g0) ∧ wx.cell? ⟨w.heap.size, 6, none⟩ = some (.int .i64 q0) ∧ wx.cell? ⟨w.heap.size, 7, none⟩ = some (.int .i64 f0) ∧ wx.cell? ⟨w.heap.size, 8, none⟩ = some (.bool o0) ∧ wx.cell? ⟨w.heap.size + 1, 0, none⟩ = some (.int .i64 k1) ∧ wx.cell? ⟨w.heap.size + 1, 1, none⟩ = some (.int .i64 e1) ∧ wx.cell? ⟨w.heap.size + 1, 2, none⟩ = some (.int .i64 b1) ∧ wx.cell? ⟨w.heap.size + 1, 3, none⟩ = some (.int .i64 r1) ∧ wx.cell? ⟨w.heap.size + 1, 4, none⟩ = some (.int .i64 d1) ∧ wx.cell? ⟨w.heap.size + 1, 5, none⟩ = some (.int .i64 g1) ∧ wx.cell? ⟨w.heap.size + 1, 6, none⟩ = some (.int .i64 q1) ∧ wx.cell? ⟨w.heap.size + 1, 7, none⟩ = some (.int .i64 f1) ∧ wx.cell? ⟨w.heap.size + 1, 8, none⟩ = some (.bool o1) ∧ w.heap.size < wx.heap.size ∧ w.heap.size + 1 < wx.heap.size) (go_simp) (first | (go_at_call 11; refine (on_calls (toCap_any _ _ _ _ _ _ _ _ _ _) (by first | assumption | exact Below.refl _ _ | exact (Below.refl _ _).drew)).mono ?_; rintro e w1 ⟨rfl, hb1⟩; obtain ⟨hc1, hf1⟩ := bcell hb1; have hz1 : w.heap.size + 1 < w1.heap.size := (by have := hb1.size; first | omega | (simp at this; omega)); have hy1 : w.heap.size < w1.heap.size := (by omega)) | (go_at_call 15; refine (on_calls (belowSpec_any _ _ _ _ _ _ _ _ _ _ _ _ _ _ _ _ _ _ _ hr0.1 hr0.2 hr1.1 hr1.2) (by first | assumption | exact Below.refl _ _ | exact (Below.refl _ _).drew)).mono ?_; rintro e w1 ⟨rfl, hb1⟩; obtain ⟨hc1, hf1⟩ := bcell hb1; have hz1 : w.heap.size + 1 < w1.heap.size := (by have := hb1.size; first | omega | (simp at this; omega)); have hy1 : w.heap.size < w1.heap.size := (by omega)))
    all_goals go_wp2
    all_goals go_meet
    all_goals exact ⟨rfl, by go_simp, by go_simp, by go_simp, by go_simp, by go_simp, by go_simp, by go_simp, by go_simp, by go_simp, by go_simp, by go_simp, by go_simp, by go_simp, by go_simp, by go_simp, by go_simp, by go_simp, by go_simp, by assumption, by assumption, by refine Below.trans ?_ (hb1.mono (by simp; omega)); repeat (first | exact Below.refl _ _ | apply Below.drew | (refine Below.alloc ?_ (by simp; try omega) _))⟩
  case rest =>
    obtain ⟨rfl, a0, a1, a2, a3, a4, a5, a6, a7, a8, c0, c1, c2, c3, c4, c5, c6, c7, c8, hy, hz, hbel⟩ := hcut
    go_upto_region 2 with fail
    go_cut [6] (fun v wx => v = .bool (belowB k0 e0 b0 r0 d0 g0 q0 f0 o0 k1 e1 b1 r1 d1 g1 q1 f1 o1) ∧ wx.cell? ⟨w.heap.size, 0, none⟩ = some (.int .i64 k0) ∧ wx.cell? ⟨w.heap.size, 1, none⟩ = some (.int .i64 e0) ∧ wx.cell? ⟨w.heap.size, 2, none⟩ = some (.int .i64 b0) ∧ wx.cell? ⟨w.heap.size, 3, none⟩ = some (.int .i64 r0) ∧ wx.cell? ⟨w.heap.size, 4, none⟩ = some (.int .i64 d0) ∧ wx.cell? ⟨w.heap.size, 5, none⟩ = some (.int .i64 g0) ∧ wx.cell? ⟨w.heap.size, 6, none⟩ = some (.int .i64 q0) ∧ wx.cell? ⟨w.heap.size, 7, none⟩ = some (.int .i64 f0) ∧ wx.cell? ⟨w.heap.size, 8, none⟩ = some (.bool o0) ∧ wx.cell? ⟨w.heap.size + 1, 0, none⟩ = some (.int .i64 k1) ∧ wx.cell? ⟨w.heap.size + 1, 1, none⟩ = some (.int .i64 e1) ∧ wx.cell? ⟨w.heap.size + 1, 2, none⟩ = some (.int .i64 b1) ∧ wx.cell? ⟨w.heap.size + 1, 3, none⟩ = some (.int .i64 r1) ∧ wx.cell? ⟨w.heap.size + 1, 4, none⟩ = some (.int .i64 d1) ∧ wx.cell? ⟨w.heap.size + 1, 5, none⟩ = some (.int .i64 g1) ∧ wx.cell? ⟨w.heap.size + 1, 6, none⟩ = some (.int .i64 q1) ∧ wx.cell? ⟨w.heap.size + 1, 7, none⟩ = some (.int .i64 f1) ∧ wx.cell? ⟨w.heap.size + 1, 8, none⟩ = some (.bool o1) ∧ w.heap.size < wx.heap.size ∧ w.heap.size + 1 < wx.heap.size ∧ Below w.heap.size w wx)
    case first =>
      go_region_held3 (fun wx => wx.cell? ⟨w.heap.size, 0, none⟩ = some (.int .i64 k0) ∧ wx.cell? ⟨w.heap.size, 1, none⟩ = some (.int .i64 e0) ∧ wx.cell? ⟨w.heap.size, 2, none⟩ = some (.int .i64 b0) ∧ wx.cell? ⟨w.heap.size, 3, none⟩ = some (.int .i64 r0) ∧ wx.cell? ⟨w.heap.size, 4, none⟩ = some (.int .i64 d0) ∧ wx.cell? ⟨w.heap.size, 5, none⟩ = some (.int .i64 g0) ∧ wx.cell? ⟨w.heap.size, 6, none⟩ = some (.int .i64 q0) ∧ wx.cell? ⟨w.heap.size, 7, none⟩ = some (.int .i64 f0) ∧ wx.cell? ⟨w.heap.size, 8, none⟩ = some (.bool o0) ∧ wx.cell? ⟨w.heap.size + 1, 0, none⟩ = some (.int .i64 k1) ∧ wx.cell? ⟨w.heap.size + 1, 1, none⟩ = some (.int .i64 e1) ∧ wx.cell? ⟨w.heap.size + 1, 2, none⟩ = some (.int .i64 b1) ∧ wx.cell? ⟨w.heap.size + 1, 3, none⟩ = some (.int .i64 r1) ∧ wx.cell? ⟨w.heap.size + 1, 4, none⟩ = some (.int .i64 d1) ∧ wx.cell? ⟨w.heap.size + 1, 5, none⟩ = some (.int .i64 g1) ∧ wx.cell? ⟨w.heap.size + 1, 6, none⟩ = some (.int .i64 q1) ∧ wx.cell? ⟨w.heap.size + 1, 7, none⟩ = some (.int .i64 f1) ∧ wx.cell? ⟨w.heap.size + 1, 8, none⟩ = some (.bool o1) ∧ w.heap.size < wx.heap.size ∧ w.heap.size + 1 < wx.heap.size) (go_simp) (first | (go_at_call 11; refine (on_calls (W := wc) (toCap_any _ _ _ _ _ _ _ _ _ _) (by first | assumption | exact Below.refl _ _ | exact (Below.refl _ _).drew)).mono ?_; rintro e w1 ⟨rfl, hb1⟩; obtain ⟨hc1, hf1⟩ := bcell hb1; have hz1 : w.heap.size + 1 < w1.heap.size := (by have := hb1.size; first | omega | (simp at this; omega)); have hy1 : w.heap.size < w1.heap.size := (by omega)) | (go_at_call 16; refine (on_calls (W := wc) (belowImpl_any _ _ _ _ _ _ _ _ _ _ _ _ _ _ _ _ _ _ _ hr0.1 hr0.2 hr1.1 hr1.2) (by first | assumption | exact Below.refl _ _ | exact (Below.refl _ _).drew)).mono ?_; rintro e w1 ⟨rfl, hb1⟩; obtain ⟨hc1, hf1⟩ := bcell hb1; have hz1 : w.heap.size + 1 < w1.heap.size := (by have := hb1.size; first | omega | (simp at this; omega)); have hy1 : w.heap.size < w1.heap.size := (by omega)))
      all_goals go_wp2
      all_goals go_meet
      all_goals exact ⟨rfl, by go_simp, by go_simp, by go_simp, by go_simp, by go_simp, by go_simp, by go_simp, by go_simp, by go_simp, by go_simp, by go_simp, by go_simp, by go_simp, by go_simp, by go_simp, by go_simp, by go_simp, by go_simp, by assumption, by assumption, by refine Below.trans hbel (hb1.mono (by omega))⟩
    case rest =>
      obtain ⟨rfl, a0, a1, a2, a3, a4, a5, a6, a7, a8, c0, c1, c2, c3, c4, c5, c6, c7, c8, hy, hz, hbel⟩ := hcut
      go_wp2
      go_ret
      exact ⟨rfl, hbel⟩

/-! ### The row's step. -/
set_option maxRecDepth 100000 in
theorem lifted (os : Os) (started : os.Started) (H : Type) (enc : TypeId × Value → H) :
    ReturnsInHanded {} Try.checked os 6 .any (Rows.fnExactCapBelowSpec.pre6 enc Try.prog Try.f6 Rows.fnExactCapBelowRow.domain false) (Rows.fnExactCapBelowSpec.post enc Try.prog Try.f6 false true false false) := by
  refine returnsInHanded_of_change (C := Try.checked) own started (by kernel_rfl) Try.func6
    (ChangeSpec.witness6 (enc := enc) (C := Try.checked) false ⟨#[], #[.agg #[.int .i64 0, .int .i64 0, .int .i64 0, .int .i64 0, .int .i64 0, .int .i64 0, .int .i64 0, .int .i64 0, .bool false], .agg #[.int .i64 0, .int .i64 0, .int .i64 0, .int .i64 0, .int .i64 0, .int .i64 0, .int .i64 0, .int .i64 0, .bool false]], []⟩ 8 (by kernel_rfl) (by kernel_rfl) (by kernel_rfl) (by kernel_rfl)) ?_
  intro W base args ds gs before hval0 hW hcnd _
  have hval : ∀ (j : Nat) t v, Try.f6.params[j]? = some t → args[j]? = some v → Value.okWide Try.prog W .any base t v := hval0
  have hW' := hW
  obtain ⟨p, q, hA0, hV, rfl, hfz, hnd⟩ := hW
  have hA : DataW.TrodAll enc Try.prog W 0 (fun _ => true) true Try.f6.params.toList args.toList ds p := hA0
  rw [Try.params6] at hA hval
  obtain ⟨v0, vs0, D0, Ds0, P0, Q0, hargs, rfl, rfl, h0, R0⟩ := trodAll_cons hA
  obtain ⟨v1, vs1, D1, Ds1, P1, Q1, rfl, rfl, rfl, h1, R1⟩ := trodAll_cons R0
  obtain ⟨rfl, rfl, rfl⟩ := trodAll_nil R1
  obtain rfl : args = #[v0, v1] := by cases args; simp_all
  obtain ⟨rfl, rfl⟩ := trodVars_none hV
  have t0 := h0
  have lt0 : ∀ x ∈ P0, x.block < W.heap.size := by obtain ⟨m, hm⟩ := t0; exact DataW.trod_lt m _ _ _ hm
  obtain ⟨k0, e0, b0, r0, d0, g0, q0, f0, o0, rfl, wk0, we0, wb0, wr0, wd0, wg0, wq0, wf0⟩ := open_cap (hval 0 29 v0 rfl rfl) h0
  have t1 := h1
  have lt1 : ∀ x ∈ P1, x.block < W.heap.size := by obtain ⟨m, hm⟩ := t1; exact DataW.trod_lt m _ _ _ hm
  obtain ⟨k1, e1, b1, r1, d1, g1, q1, f1, o1, rfl, wk1, we1, wb1, wr1, wd1, wg1, wq1, wf1⟩ := open_cap (hval 1 29 v1 rfl rfl) h1
  clear hA0 hval0
  refine (walk k0 e0 b0 r0 d0 g0 q0 f0 o0 wk0 we0 wb0 wr0 wd0 wg0 wq0 wf0 k1 e1 b1 r1 d1 g1 q1 f1 o1 wk1 we1 wb1 wr1 wd1 wg1 wq1 wf1 W ).mono fun e W' ⟨he, bel⟩ => ?_
  subst he
  exact ⟨_, rfl, _, _, _, [], _, [], hW', trodAll_mk1 (shut_bool Try.underlying4 _), (trodAll_cons_mk (Below.trod laidOut (by kernel_rfl) (of_decide_eq_true (by kernel_rfl)) t0 bel lt0) (trodAll_cons_mk (Below.trod laidOut (by kernel_rfl) (of_decide_eq_true (by kernel_rfl)) t1 bel lt1) trodAll_mk0)), rfl, bel.frame _, fun h => by cases h⟩

theorem over : Rows.fnExactCapBelowRow.holds Try.pinned (OpenSpec.ofChange Rows.fnExactCapBelowSpec) :=
  OpenClaim.holds_of_wide 6 Try.f6 rfl rfl rfl rfl rfl rfl rfl ⟨rfl, rfl, rfl, rfl, rfl⟩ rfl rfl rfl rfl rfl (by kernel_rfl) Try.func6 (by kernel_rfl)
    (of_decide_eq_true (by kernel_rfl)) (by unfold Func.isWrapper; first | (rw [if_pos (by decide +kernel)]; kernel_rfl) | (rw [if_neg (by decide +kernel)]; exact ⟨rfl, rfl⟩))
    (fun os started H enc _ => lifted os started H enc)

/-- The statement. -/
theorem proved : Rows.FnExactCapBelowSaid := over
#print axioms proved
end Go.Proofs.Ytaebcaajcolnfab.fnExactCapBelow
