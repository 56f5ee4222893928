/-
 Whether all slots are rightly there, and whether a state is ok, by the specification. Conditions: the state lies in memory; its slots are a tree.
-/
import Derived.Test.YtigpbjcmmgdiaaaGreatRv
import Derived.Test.YtigpbjcmmgdiaaaGreatSpec4L
import Derived.Test.YtigpbjcmmgdiaaaGreatRk
namespace Go.Proofs.YtigpbjcmmgdiaaaGreat
open Go.ChangeShapes Go.WideShapes Go.ChangeAt Go.RowKit
set_option linter.unusedVariables false

/-- A slot is rightly there, by the specification. -/
def slotAtB (bits : Int) (L : List Sl) (i : Nat) : Bool := match L[i]? with
 | none => false
 | some s => fitsB L s (slotN s) && bornB bits L i && !(holderI L s.t == 3 && decide (0 < runN s.p (L.drop (i + 1))))
def SlotsP (K : QK) : Prop := (∀ i, i < K.sl.length → slotAtB K.bits K.sl i = true) ∧ Acyc K.sl.length (stopR K.sl)
def SlotsTo (K : QK) (e : Ending) : Prop := ∃ b : Bool, e = .returned (.bool b) ∧ (b = true ↔ SlotsP K)
theorem slots_no {K : QK} {i : Nat} {e : Ending} (hi : i < K.sl.length) (h : slotAtB K.bits K.sl i = false) (he : e = .returned (.bool false)) : SlotsTo K e :=
 ⟨false, he, fun h => (by cases h), fun p => by have := p.1 i hi; rw [h] at this; cases this⟩
theorem slots_end {K : QK} {e : Ending} (h : ∀ i, i < K.sl.length → slotAtB K.bits K.sl i = true) (hf : FallsTo K e) : SlotsTo K e := by
 obtain ⟨b, hb, hi⟩ := hf
 exact ⟨b, hb, fun e => ⟨h, hi.1 e⟩, fun p => hi.2 p.2⟩
def slotsInv (w : World) (K : QK) (v : Value) (W : World) : Prop :=
 ∃ k : Nat, k ≤ K.sl.length ∧ v = .int .i64 (k : Int) ∧ (∀ i, i < k → slotAtB K.bits K.sl i = true) ∧ KBox w K W

set_option maxRecDepth 100000 in
set_option maxHeartbeats 16000000 in
theorem l4Slots_any (K : QK) (w : World) (hs : K.Short) (h : KernIn w K) (hT : treeB K.sl = true) :
  Calls Tryz.prog 55 #[.agg #[.int .i64 K.bits, .int .i64 K.ticks, .slice K.sP K.sl.length K.sc, .slice K.tP K.tl.length K.tc, .slice K.eP K.el.length K.ec, .slice K.nP K.nl.length K.nc, .slice K.fP K.fl.length K.fc, .slice K.r0.P K.r0.l.length K.r0.c, .slice K.r1.P K.r1.l.length K.r1.c, .slice K.r2.P K.r2.l.length K.r2.c, .slice K.r3.P K.r3.l.length K.r3.c, .slice K.r4.P K.r4.l.length K.r4.c, .slice K.r5.P K.r5.l.length K.r5.c, .slice K.r6.P K.r6.l.length K.r6.c, .slice K.r7.P K.r7.l.length K.r7.c]] w fun e w' => SlotsTo K e ∧ Below w.heap.size w w' := by
 have hb0 := KBox.new h 42
 have hlen := hs.s
 have hok := tree_okm hT
 go_enter Tryz.func55, Tryz.ntmps55
 go_upto_region 1 with fail
 generalize w.alloc (.cells #[.int .i64 K.bits, .int .i64 K.ticks, .slice K.sP K.sl.length K.sc, .slice K.tP K.tl.length K.tc, .slice K.eP K.el.length K.ec, .slice K.nP K.nl.length K.nc, .slice K.fP K.fl.length K.fc, .slice K.r0.P K.r0.l.length K.r0.c, .slice K.r1.P K.r1.l.length K.r1.c, .slice K.r2.P K.r2.l.length K.r2.c, .slice K.r3.P K.r3.l.length K.r3.c, .slice K.r4.P K.r4.l.length K.r4.c, .slice K.r5.P K.r5.l.length K.r5.c, .slice K.r6.P K.r6.l.length K.r6.c, .slice K.r7.P K.r7.l.length K.r7.c] 42) = W0 at hb0 ⊢
 go_wp2
 go_loopw [3] (fun v W => slotsInv w K v W) (fun v W => K.sl.length - (intOf v).toNat)
 case atStart => exact ⟨0, Nat.zero_le _, rfl, fun j hj => absurd hj (Nat.not_lt_zero _), hb0⟩
 case round =>
  clear hb0
  obtain ⟨k, hk, rfl, hno, bb⟩ := hrel
  have HN : Hid _ := hno
  clear hno
  obtain ⟨g0, g1, g2, g3, g4, g5, g6, g7, g8, g9, g10, g11, g12, g13, g14⟩ := KBox.facts bb
  by_cases hlt : k < K.sl.length
  ·have hk1 : (k : Int) < (K.sl.length : Int) := by omega
   have hrow := bb.b.s
   obtain ⟨B, O, hP⟩ := hrow.some hlt
   rw [hP] at hrow g2
   have HPs : Hid (K.sP = some ⟨B, O, none⟩) := hP
   obtain ⟨s, hsl⟩ : ∃ s, K.sl[k] = s := ⟨_, rfl⟩
   have hcc := hrow.cells B O rfl k hlt
   rw [hsl] at hcc
   have hfc := fits_cond hT hlt
   rw [hsl] at hfc
   have HFi0 := fun W (hW : KernIn W K) => l4Fits_any K s (slotN s) W hs hW hfc
   have HBo0 := fun W (hW : KernIn W K) => l4Born_any K k W hs hW hlt hok
   have HHo0 := fun W (hW : KernIn W K) => l4Holder_any K s.t W hs hW
   obtain ⟨r, hr⟩ : ∃ r, runN K.sl[k].p (K.sl.drop (k + 1)) = r := ⟨_, rfl⟩
   have HEn0 := fun W (hW : Lies W K.sP K.sl) => endSpec_any K.sP K.sc k K.sl W hlen hW hlt r hr
   rw [hsl] at hr
   have HX0 : Hid (slotAtB K.bits K.sl k = (fitsB K.sl s (slotN s) && bornB K.bits K.sl k && !(holderI K.sl s.t == 3 && decide (0 < r)))) := by unfold Hid slotAtB; rw [List.getElem?_eq_getElem hlt, hsl]; show (fitsB K.sl s (slotN s) && bornB K.bits K.sl k && !(holderI K.sl s.t == 3 && decide (0 < runN s.p (K.sl.drop (k + 1))))) = _; rw [hr]
   obtain ⟨fv, hfv⟩ : ∃ fv, fitsB K.sl s (slotN s) = fv := ⟨_, rfl⟩
   obtain ⟨bv, hbv⟩ : ∃ bv, bornB K.bits K.sl k = bv := ⟨_, rfl⟩
   obtain ⟨hv, hhv⟩ : ∃ hv, holderI K.sl s.t = hv := ⟨_, rfl⟩
   rw [hfv, hbv, hhv] at HX0
   rw [hfv, hP] at HFi0
   rw [hbv, hP] at HBo0
   rw [hhv, hP] at HHo0
   rw [hP] at HEn0
   obtain ⟨en, hen⟩ : ∃ en, k + r + 1 = en := ⟨_, rfl⟩
   rw [hen] at HEn0
   have e1 : decide ((k : Int) + 1 < (en : Int)) = decide (0 < r) := by rw [← hen]; simp; omega
   have HFi : Hid _ := HFi0
   have HBo : Hid _ := HBo0
   have HHo : Hid _ := HHo0
   have HEn : Hid _ := HEn0
   have e2 : IntKind.i64.wrap ((k : Int) + 1) = (k : Int) + 1 := by rw [IntKind.wrap_i64]; omega
   have hrl := hrow
   clear HFi0 HBo0 HHo0 HEn0 hfc hsl hr hfv hbv hhv hrow hP hok hen
   obtain ⟨c0, c1, c2, c3, c4, c5, c6, c7, c8, c9, c10⟩ := hcc
   have p0 := cell_regrown g0
   have p1 := cell_regrown g1
   have p2 := cell_regrown g2
   have p3 := cell_regrown g3
   have p4 := cell_regrown g4
   have p5 := cell_regrown g5
   have p6 := cell_regrown g6
   have p7 := cell_regrown g7
   have p8 := cell_regrown g8
   have p9 := cell_regrown g9
   have p10 := cell_regrown g10
   have p11 := cell_regrown g11
   have p12 := cell_regrown g12
   have p13 := cell_regrown g13
   have p14 := cell_regrown g14
   have d0 := cell_regrown c0
   have d1 := cell_regrown c1
   have d2 := cell_regrown c2
   have d3 := cell_regrown c3
   have d4 := cell_regrown c4
   have d5 := cell_regrown c5
   have d6 := cell_regrown c6
   have d7 := cell_regrown c7
   have d8 := cell_regrown c8
   have d9 := cell_regrown c9
   have d10 := cell_regrown c10
   clear g0 g1 g3 g4 g5 g6 g7 g8 g9 g10 g11 g12 g13 g14 c0 c1 c2 c3 c4 c5 c6 c7 c8 c9 c10
   cases fv
   ·have HX := HX0
    as_aux_lemma =>
    go_upto_region 4 with fail
    refine wq_region (by kernel_rfl) (by kernel_rfl) ?_
    repeat (first | (refine wq_step (fun K hK => ?_); go_simp; first | (refine hK _ ?_; clear hK K) | (apply Exists.intro; refine ⟨fun _ => ?_, hK _ ?_⟩; (first | (go_at_call 91; exact Calls.regrown_of (HFi.out _ (bb.b.below (below_regrown _ _ _)))) | (go_at_call 92; exact Calls.regrown_of (HBo.out _ (bb.b.below (below_regrown _ _ _)))) | (go_at_call 93; exact Calls.regrown_of (HHo.out _ (bb.b.below (below_regrown _ _ _)))) | (go_at_call 94; exact Calls.regrown_of (HEn.out _ (hrl.below (below_regrown _ _ _))))); clear hK K)))
    refine wq_nil ?_
    intro _ hw'
    obtain ⟨⟨dq, osq⟩, hw''⟩ := hw'
    subst hw''
    have bb2 := bb.below (below_regrown _ dq osq)
    have HY : Hid (slotAtB K.bits K.sl k = false) := by unfold Hid; rw [HX.out]; rfl
    go_wp2
    go_ret
    exact ⟨slots_no hlt HY.out rfl, bb2.bw⟩
   ·cases bv
    ·have HX := HX0
     as_aux_lemma =>
     go_upto_region 4 with fail
     refine wq_region (by kernel_rfl) (by kernel_rfl) ?_
     repeat (first | (refine wq_step (fun K hK => ?_); go_simp; first | (refine hK _ ?_; clear hK K) | (apply Exists.intro; refine ⟨fun _ => ?_, hK _ ?_⟩; (first | (go_at_call 91; exact Calls.regrown_of (HFi.out _ (bb.b.below (below_regrown _ _ _)))) | (go_at_call 92; exact Calls.regrown_of (HBo.out _ (bb.b.below (below_regrown _ _ _)))) | (go_at_call 93; exact Calls.regrown_of (HHo.out _ (bb.b.below (below_regrown _ _ _)))) | (go_at_call 94; exact Calls.regrown_of (HEn.out _ (hrl.below (below_regrown _ _ _))))); clear hK K)))
     refine wq_nil ?_
     intro _ hw'
     obtain ⟨⟨dq, osq⟩, hw''⟩ := hw'
     subst hw''
     have bb2 := bb.below (below_regrown _ dq osq)
     have HY : Hid (slotAtB K.bits K.sl k = false) := by unfold Hid; rw [HX.out]; rfl
     go_wp2
     go_ret
     exact ⟨slots_no hlt HY.out rfl, bb2.bw⟩
    ·cases h3 : (hv == 3)
     ·have HX : Hid (slotAtB K.bits K.sl k = true) := by unfold Hid; rw [HX0.out, h3]; rfl
      as_aux_lemma =>
      go_upto_region 4 with fail
      refine wq_region (by kernel_rfl) (by kernel_rfl) ?_
      repeat (first | (refine wq_step (fun K hK => ?_); go_simp; first | (refine hK _ ?_; clear hK K) | (apply Exists.intro; refine ⟨fun _ => ?_, hK _ ?_⟩; (first | (go_at_call 91; exact Calls.regrown_of (HFi.out _ (bb.b.below (below_regrown _ _ _)))) | (go_at_call 92; exact Calls.regrown_of (HBo.out _ (bb.b.below (below_regrown _ _ _)))) | (go_at_call 93; exact Calls.regrown_of (HHo.out _ (bb.b.below (below_regrown _ _ _)))) | (go_at_call 94; exact Calls.regrown_of (HEn.out _ (hrl.below (below_regrown _ _ _))))); clear hK K)))
      refine wq_nil ?_
      intro _ hw'
      obtain ⟨⟨dq, osq⟩, hw''⟩ := hw'
      subst hw''
      have bb2 := bb.below (below_regrown _ dq osq)
      have HY : Hid (slotAtB K.bits K.sl k = true) := by unfold Hid; exact HX.out
      clear e2 e1
      go_wp2
      go_roundw
      case rel => exact ⟨k + 1, by omega, by go_num, fun i hi => by by_cases e : i = k; subst e; exact HY.out; exact HN.out i (by omega), bb2⟩
      case measure => simp [intOf]; omega
     ·generalize h9 : decide (0 < r) = rv at e1
      have HX : Hid (slotAtB K.bits K.sl k = !rv) := by unfold Hid; rw [HX0.out, h3, h9]; rfl
      clear h9
      cases rv
      ·skip
       as_aux_lemma =>
       go_upto_region 4 with fail
       refine wq_region (by kernel_rfl) (by kernel_rfl) ?_
       repeat (first | (refine wq_step (fun K hK => ?_); go_simp; first | (refine hK _ ?_; clear hK K) | (apply Exists.intro; refine ⟨fun _ => ?_, hK _ ?_⟩; (first | (go_at_call 91; exact Calls.regrown_of (HFi.out _ (bb.b.below (below_regrown _ _ _)))) | (go_at_call 92; exact Calls.regrown_of (HBo.out _ (bb.b.below (below_regrown _ _ _)))) | (go_at_call 93; exact Calls.regrown_of (HHo.out _ (bb.b.below (below_regrown _ _ _)))) | (go_at_call 94; exact Calls.regrown_of (HEn.out _ (hrl.below (below_regrown _ _ _))))); clear hK K)))
       refine wq_nil ?_
       intro _ hw'
       obtain ⟨⟨dq, osq⟩, hw''⟩ := hw'
       subst hw''
       have bb2 := bb.below (below_regrown _ dq osq)
       have HY : Hid (slotAtB K.bits K.sl k = true) := by unfold Hid; rw [HX.out]; rfl
       clear e2 e1
       go_wp2
       go_roundw
       case rel => exact ⟨k + 1, by omega, by go_num, fun i hi => by by_cases e : i = k; subst e; exact HY.out; exact HN.out i (by omega), bb2⟩
       case measure => simp [intOf]; omega
      ·skip
       as_aux_lemma =>
       go_upto_region 4 with fail
       refine wq_region (by kernel_rfl) (by kernel_rfl) ?_
       repeat (first | (refine wq_step (fun K hK => ?_); go_simp; first | (refine hK _ ?_; clear hK K) | (apply Exists.intro; refine ⟨fun _ => ?_, hK _ ?_⟩; (first | (go_at_call 91; exact Calls.regrown_of (HFi.out _ (bb.b.below (below_regrown _ _ _)))) | (go_at_call 92; exact Calls.regrown_of (HBo.out _ (bb.b.below (below_regrown _ _ _)))) | (go_at_call 93; exact Calls.regrown_of (HHo.out _ (bb.b.below (below_regrown _ _ _)))) | (go_at_call 94; exact Calls.regrown_of (HEn.out _ (hrl.below (below_regrown _ _ _))))); clear hK K)))
       refine wq_nil ?_
       intro _ hw'
       obtain ⟨⟨dq, osq⟩, hw''⟩ := hw'
       subst hw''
       have bb2 := bb.below (below_regrown _ dq osq)
       have HY : Hid (slotAtB K.bits K.sl k = false) := by unfold Hid; rw [HX.out]; rfl
       go_wp2
       go_ret
       exact ⟨slots_no hlt HY.out rfl, bb2.bw⟩
  ·have hk1 : ¬ (k : Int) < (K.sl.length : Int) := by omega
   have HF := fun W (hW : KernIn W K) => l4Falls_any K W hs hW
   go_wp2_with (go_at_call 95; refine Calls.mono (HF _ bb.b) ?_; rintro e w3 ⟨hf3, hb3⟩; have hf4 := hf3; obtain ⟨bq, rfl, hbq⟩ := hf3)
   go_ret
   exact ⟨slots_end (fun i hi => HN.out i (by omega)) hf4, (bb.below hb3).bw⟩

end Go.Proofs.YtigpbjcmmgdiaaaGreat
