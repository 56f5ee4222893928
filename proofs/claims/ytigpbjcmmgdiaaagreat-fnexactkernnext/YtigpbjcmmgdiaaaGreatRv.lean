/-
  Texts of the proof, put together: Spec4J, Spec4K.
-/
import Derived.Test.YtigpbjcmmgdiaaaGreatBq
import Derived.Test.YtigpbjcmmgdiaaaGreatRu
import Derived.Test.YtigpbjcmmgdiaaaGreatBw
import Derived.Test.YtigpbjcmmgdiaaaGreatRa
import Derived.Test.YtigpbjcmmgdiaaaGreatRc
/-
 Whether nothing that is left came of a slot, or lies in its object, by the specification. Condition: the state lies in memory.
-/
namespace Go.Proofs.YtigpbjcmmgdiaaaGreat
open Go.ChangeShapes Go.WideShapes Go.ChangeAt Go.RowKit
set_option linter.unusedVariables false

def fBl : Form Bool := ⟨1, fun b => [.bool b], fun _ => rfl, by decide⟩
def opensB (s : Sl) : Bool := s.o && (s.k == 2 || s.k == 3)
/-- A slot that is left keeps another one from going: it came of it, or lies in its object. -/
def stopB (L : List Sl) (i en : Nat) (s : Sl) (j : Nat) : Bool := (decide (i < j) && decide (j < en)) || (opensB s && inB (match L[j]? with | some u => u.t | none => 0) 4 s.e (szI s.k s.b))
def stopsB (L : List Sl) (left : List Bool) (i : Nat) (s : Sl) (j : Nat) : Bool := left.getD j false && stopB L i (i + 1 + runN s.p (L.drop (i + 1))) s j
def freeB (L : List Sl) (left : List Bool) (i : Nat) : Bool := match L[i]? with
 | none => false
 | some s => (List.range L.length).all (fun j => !stopsB L left i s j)
def freeInv (w : World) (K : QK) (mB : Nat) (cl : List Value) (P : Option Addr) (left : List Bool) (i : Nat) (s : Sl) (v : Value) (W : World) : Prop :=
 ∃ k : Nat, k ≤ K.sl.length ∧ v = .int .i64 (k : Int) ∧ (∀ j, j < k → stopsB K.sl left i s j = false) ∧ KBox w K W ∧ Bx W mB 33 cl ∧ LiesG fBl W P left

set_option maxRecDepth 100000 in
set_option maxHeartbeats 8000000 in
theorem l4Free_any (K : QK) (P : Option Addr) (c : Nat) (left : List Bool) (i : Nat) (w : World) (hs : K.Short) (h : KernIn w K) (hi : i < K.sl.length) (hll : left.length = K.sl.length) (hL : LiesG fBl w P left) :
  Calls Tryz.prog 152 #[.agg #[.int .i64 K.bits, .int .i64 K.ticks, .slice K.sP K.sl.length K.sc, .slice K.tP K.tl.length K.tc, .slice K.eP K.el.length K.ec, .slice K.nP K.nl.length K.nc, .slice K.fP K.fl.length K.fc, .slice K.r0.P K.r0.l.length K.r0.c, .slice K.r1.P K.r1.l.length K.r1.c, .slice K.r2.P K.r2.l.length K.r2.c, .slice K.r3.P K.r3.l.length K.r3.c, .slice K.r4.P K.r4.l.length K.r4.c, .slice K.r5.P K.r5.l.length K.r5.c, .slice K.r6.P K.r6.l.length K.r6.c, .slice K.r7.P K.r7.l.length K.r7.c], .slice P left.length c, .int .i64 (i : Int)] w fun e w' => e = .returned (.bool (freeB K.sl left i)) ∧ Below w.heap.size w w' := by
 have hb0 := KBox.new h 42
 have hlen := hs.s
 go_enter Tryz.func152, Tryz.ntmps152
 go_upto_region 1 with fail
 generalize w.alloc (.cells #[.int .i64 K.bits, .int .i64 K.ticks, .slice K.sP K.sl.length K.sc, .slice K.tP K.tl.length K.tc, .slice K.eP K.el.length K.ec, .slice K.nP K.nl.length K.nc, .slice K.fP K.fl.length K.fc, .slice K.r0.P K.r0.l.length K.r0.c, .slice K.r1.P K.r1.l.length K.r1.c, .slice K.r2.P K.r2.l.length K.r2.c, .slice K.r3.P K.r3.l.length K.r3.c, .slice K.r4.P K.r4.l.length K.r4.c, .slice K.r5.P K.r5.l.length K.r5.c, .slice K.r6.P K.r6.l.length K.r6.c, .slice K.r7.P K.r7.l.length K.r7.c] 42) = W0 at hb0 ⊢
 have hL0 : LiesG fBl W0 P left := hL.below hb0.bw
 obtain ⟨s, hsl⟩ : ∃ s, K.sl[i] = s := ⟨_, rfl⟩
 have hrow := hb0.b.s
 obtain ⟨B, O, hP⟩ := hrow.some hi
 rw [hP] at hrow
 have hcc := hrow.cells B O rfl i hi
 rw [hsl] at hcc
 have g2 := hb0.cs
 rw [hP] at g2
 have HS : Hid (K.sl[i] = s) := hsl
 have HPs : Hid (K.sP = some ⟨B, O, none⟩) := hP
 obtain ⟨c0, c1, c2, c3, c4, c5, c6, c7, c8, c9, c10⟩ := hcc
 have hi1 : (i : Int) < (K.sl.length : Int) := by omega
 clear hP hsl hrow
 go_upto_region 2 with fail
 clear g2 c0 c1 c2 c3 c4 c5 c6 c7 c8 c9 c10
 have bb := hb0.below ((Below.refl _ _).alloc (Nat.le_refl _) (.cells #[.int .i64 s.k, .int .i64 s.e, .int .i64 s.b, .int .i64 s.r, .int .i64 s.d, .int .i64 s.g, .int .i64 s.q, .int .i64 s.f, .bool s.o] 33))
 have cx := Bx.newAt W0 33 [.int .i64 s.k, .int .i64 s.e, .int .i64 s.b, .int .i64 s.r, .int .i64 s.d, .int .i64 s.g, .int .i64 s.q, .int .i64 s.f, .bool s.o] rfl
 have hrl := hL0.below ((Below.refl _ _).alloc (Nat.le_refl _) (.cells #[.int .i64 s.k, .int .i64 s.e, .int .i64 s.b, .int .i64 s.r, .int .i64 s.d, .int .i64 s.g, .int .i64 s.q, .int .i64 s.f, .bool s.o] 33))
 generalize W0.alloc (.cells #[.int .i64 s.k, .int .i64 s.e, .int .i64 s.b, .int .i64 s.r, .int .i64 s.d, .int .i64 s.g, .int .i64 s.q, .int .i64 s.f, .bool s.o] 33) = W1 at bb cx hrl ⊢
 generalize W0.heap.size = mB at cx ⊢
 clear hb0 hL0
 have y0 := cx.cell 0 _ rfl; have y1 := cx.cell 1 _ rfl; have y2 := cx.cell 2 _ rfl; have y3 := cx.cell 3 _ rfl; have y4 := cx.cell 4 _ rfl; have y5 := cx.cell 5 _ rfl; have y6 := cx.cell 6 _ rfl; have y7 := cx.cell 7 _ rfl; have y8 := cx.cell 8 _ rfl
 go_cut [8] (fun v W => v = .bool (opensB s) ∧ KBox w K W ∧ Bx W mB 33 [.int .i64 s.k, .int .i64 s.e, .int .i64 s.b, .int .i64 s.r, .int .i64 s.d, .int .i64 s.g, .int .i64 s.q, .int .i64 s.f, .bool s.o] ∧ LiesG fBl W P left)
 case first =>
  cases ho : s.o
  ·rw [ho] at y8
   have HV : Hid (opensB s = false) := by unfold Hid opensB; rw [ho]; rfl
   go_wp2
   go_meet
   case rel => exact ⟨by rw [HV.out], bb, cx, hrl⟩
  ·rw [ho] at y8
   cases k2 : (s.k == 2)
   ·cases k3 : (s.k == 3)
    ·have HV : Hid (opensB s = false) := by unfold Hid opensB; rw [ho, k2, k3]; rfl
     go_wp2
     go_meet
     case rel => exact ⟨by rw [HV.out], bb, cx, hrl⟩
    ·have HV : Hid (opensB s = true) := by unfold Hid opensB; rw [ho, k2, k3]; rfl
     go_wp2
     go_meet
     case rel => exact ⟨by rw [HV.out], bb, cx, hrl⟩
   ·have HV : Hid (opensB s = true) := by unfold Hid opensB; rw [ho, k2]; rfl
    go_wp2
    go_meet
    case rel => exact ⟨by rw [HV.out], bb, cx, hrl⟩
 case rest =>
  clear bb cx hrl y0 y1 y2 y3 y4 y5 y6 y7 y8
  obtain ⟨rfl, bb, cx, hrl⟩ := hcut
  obtain ⟨op, hop⟩ : ∃ op, opensB s = op := ⟨_, rfl⟩
  rw [hop]
  have HOP : Hid _ := hop
  have g2 := bb.cs
  obtain ⟨r, hr⟩ : ∃ r, runN K.sl[i].p (K.sl.drop (i + 1)) = r := ⟨_, rfl⟩
  have HE0 := fun W (hW : Lies W K.sP K.sl) => endSpec_any K.sP K.sc i K.sl W hlen hW hi r hr
  obtain ⟨en, hen⟩ : ∃ en, i + r + 1 = en := ⟨_, rfl⟩
  rw [hen] at HE0
  have HE : Hid _ := HE0
  rw [HS.out] at hr
  have HEn : Hid (i + 1 + runN s.p (K.sl.drop (i + 1)) = en) := by unfold Hid; omega
  clear hop hr hen HE0
  go_upto_region 4 with (go_at_call 94; refine Calls.mono (HE.out _ bb.b.s) ?_; rintro e W2 ⟨rfl, hb2⟩)
  have bb2 := bb.below hb2
  have cx2 := cx.below hb2
  have hrl2 := hrl.below hb2
  clear bb cx hrl hb2 g2 HE
  have HF : Hid (freeB K.sl left i = (List.range K.sl.length).all (fun j => !stopsB K.sl left i s j)) := by unfold Hid freeB; rw [List.getElem?_eq_getElem hi, HS.out]
  have HNO : Hid (∀ k, k < K.sl.length → stopsB K.sl left i s k = true → freeB K.sl left i = false) := fun k hk hx => by rw [HF.out, List.all_eq_false]; exact ⟨k, List.mem_range.2 hk, by simp [hx]⟩
  go_wp2
  go_loopw [10] (fun v W => freeInv w K mB [.int .i64 s.k, .int .i64 s.e, .int .i64 s.b, .int .i64 s.r, .int .i64 s.d, .int .i64 s.g, .int .i64 s.q, .int .i64 s.f, .bool s.o] P left i s v W) (fun v W => K.sl.length - (intOf v).toNat)
  case atStart => exact ⟨0, Nat.zero_le _, rfl, fun j hj => absurd hj (Nat.not_lt_zero _), bb2, cx2, hrl2⟩
  case round =>
   clear bb2 cx2 hrl2
   obtain ⟨k, hk, rfl, hno, bb, cx, hrl⟩ := hrel
   have HN : Hid _ := hno
   clear hno
   by_cases hlt : k < K.sl.length
   ·have hk1 : (k : Int) < (K.sl.length : Int) := by omega
    have hk2 : (k : Int) < (left.length : Int) := by omega
    have hll2 : left.length ≤ 1048576 := by omega
    have hltl : k < left.length := by omega
    have g2 := bb.cs
    obtain ⟨Bl, Ol, rfl⟩ := hrl.has hltl
    have cl := cell_regrown (hrl.at hltl 0 _ rfl)
    simp only [fBl, Nat.add_zero, Nat.mul_one] at cl
    have p2 := cell_regrown bb.cs
    have hrow := bb.b.s
    rw [HPs.out] at p2 hrow g2
    have cu := cell_regrown (hrow.cells B O rfl k hlt).c0
    have y0 := cell_regrown (cx.cell 0 _ rfl)
    have y1 := cell_regrown (cx.cell 1 _ rfl)
    have y2 := cell_regrown (cx.cell 2 _ rfl)
    have HI0 := fun W => inSpec_bel K.sl[k].t 4 s.e (szI s.k s.b) W
    obtain ⟨iv, hiv⟩ : ∃ iv, inB K.sl[k].t 4 s.e (szI s.k s.b) = iv := ⟨_, rfl⟩
    rw [hiv] at HI0
    have HI : Hid _ := HI0
    have HX : Hid (stopsB K.sl left i s k = (left[k] && ((decide (i < k) && decide (k < en)) || (op && iv)))) := by
     unfold Hid stopsB stopB
     rw [HEn.out, HOP.out, List.getElem?_eq_getElem hlt, List.getD_eq_getElem?_getD, List.getElem?_eq_getElem hltl]
     simp only [hiv, Option.getD_some]
    clear HI0 hiv hrow
    obtain ⟨lv, hlv⟩ : ∃ lv, left[k] = lv := ⟨_, rfl⟩
    rw [hlv] at cl HX
    clear hlv
    have a1i : decide ((i : Int) < (k : Int)) = decide (i < k) := by simp
    have a2i : decide ((k : Int) < (en : Int)) = decide (k < en) := by simp
    generalize ha1 : decide (i < k) = a1 at a1i HX
    generalize ha2 : decide (k < en) = a2 at a2i HX
    cases lv
    ·as_aux_lemma =>
     go_upto_region 7 with fail
     refine wq_region (by kernel_rfl) (by kernel_rfl) ?_
     repeat (first | (refine wq_step (fun K hK => ?_); go_simp; first | (refine hK _ ?_; clear hK K) | (apply Exists.intro; refine ⟨fun _ => ?_, hK _ ?_⟩; (first | (go_at_call 136; exact Calls.regrown_of (sizeSpec_bel s.k s.b _)) | (go_at_call 135; exact Calls.regrown_of (HI.out _))); clear hK K)))
     refine wq_nil ?_
     intro _ hw'
     obtain ⟨⟨dq, osq⟩, hw''⟩ := hw'
     subst hw''
     have bb2 := bb.below (below_regrown _ dq osq)
     have HY : Hid (stopsB K.sl left i s k = false) := by unfold Hid; rw [HX.out]; rfl
     have cx2 := cx.below (below_regrown _ dq osq)
     have hrl2 := hrl.below (below_regrown _ dq osq)
     go_wp2
     go_roundw
     case rel => exact ⟨k + 1, by omega, by go_num, fun j hj => by by_cases e : j = k; subst e; exact HY.out; exact HN.out j (by omega), bb2, cx2, hrl2⟩
     case measure => simp [intOf]; omega
    ·cases a1
     ·cases op
      ·as_aux_lemma =>
       go_upto_region 7 with fail
       refine wq_region (by kernel_rfl) (by kernel_rfl) ?_
       repeat (first | (refine wq_step (fun K hK => ?_); go_simp; first | (refine hK _ ?_; clear hK K) | (apply Exists.intro; refine ⟨fun _ => ?_, hK _ ?_⟩; (first | (go_at_call 136; exact Calls.regrown_of (sizeSpec_bel s.k s.b _)) | (go_at_call 135; exact Calls.regrown_of (HI.out _))); clear hK K)))
       refine wq_nil ?_
       intro _ hw'
       obtain ⟨⟨dq, osq⟩, hw''⟩ := hw'
       subst hw''
       have bb2 := bb.below (below_regrown _ dq osq)
       have HY : Hid (stopsB K.sl left i s k = false) := by unfold Hid; rw [HX.out]; rfl
       have cx2 := cx.below (below_regrown _ dq osq)
       have hrl2 := hrl.below (below_regrown _ dq osq)
       go_wp2
       go_roundw
       case rel => exact ⟨k + 1, by omega, by go_num, fun j hj => by by_cases e : j = k; subst e; exact HY.out; exact HN.out j (by omega), bb2, cx2, hrl2⟩
       case measure => simp [intOf]; omega
      ·cases iv
       ·as_aux_lemma =>
        go_upto_region 7 with fail
        refine wq_region (by kernel_rfl) (by kernel_rfl) ?_
        repeat (first | (refine wq_step (fun K hK => ?_); go_simp; first | (refine hK _ ?_; clear hK K) | (apply Exists.intro; refine ⟨fun _ => ?_, hK _ ?_⟩; (first | (go_at_call 136; exact Calls.regrown_of (sizeSpec_bel s.k s.b _)) | (go_at_call 135; exact Calls.regrown_of (HI.out _))); clear hK K)))
        refine wq_nil ?_
        intro _ hw'
        obtain ⟨⟨dq, osq⟩, hw''⟩ := hw'
        subst hw''
        have bb2 := bb.below (below_regrown _ dq osq)
        have HY : Hid (stopsB K.sl left i s k = false) := by unfold Hid; rw [HX.out]; rfl
        have cx2 := cx.below (below_regrown _ dq osq)
        have hrl2 := hrl.below (below_regrown _ dq osq)
        go_wp2
        go_roundw
        case rel => exact ⟨k + 1, by omega, by go_num, fun j hj => by by_cases e : j = k; subst e; exact HY.out; exact HN.out j (by omega), bb2, cx2, hrl2⟩
        case measure => simp [intOf]; omega
       ·as_aux_lemma =>
        go_upto_region 7 with fail
        refine wq_region (by kernel_rfl) (by kernel_rfl) ?_
        repeat (first | (refine wq_step (fun K hK => ?_); go_simp; first | (refine hK _ ?_; clear hK K) | (apply Exists.intro; refine ⟨fun _ => ?_, hK _ ?_⟩; (first | (go_at_call 136; exact Calls.regrown_of (sizeSpec_bel s.k s.b _)) | (go_at_call 135; exact Calls.regrown_of (HI.out _))); clear hK K)))
        refine wq_nil ?_
        intro _ hw'
        obtain ⟨⟨dq, osq⟩, hw''⟩ := hw'
        subst hw''
        have bb2 := bb.below (below_regrown _ dq osq)
        have HY : Hid (stopsB K.sl left i s k = true) := by unfold Hid; rw [HX.out]; rfl
        go_wp2
        go_ret
        exact ⟨ret_bool (HNO.out k hlt HY.out).symm, bb2.bw⟩
     ·cases a2
      ·cases op
       ·as_aux_lemma =>
        go_upto_region 7 with fail
        refine wq_region (by kernel_rfl) (by kernel_rfl) ?_
        repeat (first | (refine wq_step (fun K hK => ?_); go_simp; first | (refine hK _ ?_; clear hK K) | (apply Exists.intro; refine ⟨fun _ => ?_, hK _ ?_⟩; (first | (go_at_call 136; exact Calls.regrown_of (sizeSpec_bel s.k s.b _)) | (go_at_call 135; exact Calls.regrown_of (HI.out _))); clear hK K)))
        refine wq_nil ?_
        intro _ hw'
        obtain ⟨⟨dq, osq⟩, hw''⟩ := hw'
        subst hw''
        have bb2 := bb.below (below_regrown _ dq osq)
        have HY : Hid (stopsB K.sl left i s k = false) := by unfold Hid; rw [HX.out]; rfl
        have cx2 := cx.below (below_regrown _ dq osq)
        have hrl2 := hrl.below (below_regrown _ dq osq)
        go_wp2
        go_roundw
        case rel => exact ⟨k + 1, by omega, by go_num, fun j hj => by by_cases e : j = k; subst e; exact HY.out; exact HN.out j (by omega), bb2, cx2, hrl2⟩
        case measure => simp [intOf]; omega
       ·cases iv
        ·as_aux_lemma =>
         go_upto_region 7 with fail
         refine wq_region (by kernel_rfl) (by kernel_rfl) ?_
         repeat (first | (refine wq_step (fun K hK => ?_); go_simp; first | (refine hK _ ?_; clear hK K) | (apply Exists.intro; refine ⟨fun _ => ?_, hK _ ?_⟩; (first | (go_at_call 136; exact Calls.regrown_of (sizeSpec_bel s.k s.b _)) | (go_at_call 135; exact Calls.regrown_of (HI.out _))); clear hK K)))
         refine wq_nil ?_
         intro _ hw'
         obtain ⟨⟨dq, osq⟩, hw''⟩ := hw'
         subst hw''
         have bb2 := bb.below (below_regrown _ dq osq)
         have HY : Hid (stopsB K.sl left i s k = false) := by unfold Hid; rw [HX.out]; rfl
         have cx2 := cx.below (below_regrown _ dq osq)
         have hrl2 := hrl.below (below_regrown _ dq osq)
         go_wp2
         go_roundw
         case rel => exact ⟨k + 1, by omega, by go_num, fun j hj => by by_cases e : j = k; subst e; exact HY.out; exact HN.out j (by omega), bb2, cx2, hrl2⟩
         case measure => simp [intOf]; omega
        ·as_aux_lemma =>
         go_upto_region 7 with fail
         refine wq_region (by kernel_rfl) (by kernel_rfl) ?_
         repeat (first | (refine wq_step (fun K hK => ?_); go_simp; first | (refine hK _ ?_; clear hK K) | (apply Exists.intro; refine ⟨fun _ => ?_, hK _ ?_⟩; (first | (go_at_call 136; exact Calls.regrown_of (sizeSpec_bel s.k s.b _)) | (go_at_call 135; exact Calls.regrown_of (HI.out _))); clear hK K)))
         refine wq_nil ?_
         intro _ hw'
         obtain ⟨⟨dq, osq⟩, hw''⟩ := hw'
         subst hw''
         have bb2 := bb.below (below_regrown _ dq osq)
         have HY : Hid (stopsB K.sl left i s k = true) := by unfold Hid; rw [HX.out]; rfl
         go_wp2
         go_ret
         exact ⟨ret_bool (HNO.out k hlt HY.out).symm, bb2.bw⟩
      ·as_aux_lemma =>
       go_upto_region 7 with fail
       refine wq_region (by kernel_rfl) (by kernel_rfl) ?_
       repeat (first | (refine wq_step (fun K hK => ?_); go_simp; first | (refine hK _ ?_; clear hK K) | (apply Exists.intro; refine ⟨fun _ => ?_, hK _ ?_⟩; (first | (go_at_call 136; exact Calls.regrown_of (sizeSpec_bel s.k s.b _)) | (go_at_call 135; exact Calls.regrown_of (HI.out _))); clear hK K)))
       refine wq_nil ?_
       intro _ hw'
       obtain ⟨⟨dq, osq⟩, hw''⟩ := hw'
       subst hw''
       have bb2 := bb.below (below_regrown _ dq osq)
       have HY : Hid (stopsB K.sl left i s k = true) := by unfold Hid; rw [HX.out]; rfl
       go_wp2
       go_ret
       exact ⟨ret_bool (HNO.out k hlt HY.out).symm, bb2.bw⟩
   ·have hk1 : ¬ (k : Int) < (K.sl.length : Int) := by omega
    have g2 := bb.cs
    have HY : Hid (freeB K.sl left i = true) := by unfold Hid; rw [HF.out, List.all_eq_true]; intro j hj; rw [HN.out j (by have := List.mem_range.1 hj; omega)]; rfl
    go_wp2
    go_ret
    exact ⟨ret_bool HY.out.symm, bb.bw⟩

end Go.Proofs.YtigpbjcmmgdiaaaGreat
/-
 Whether all slots can be taken back, one behind the other, by the specification. Condition: the state lies in memory.
-/
namespace Go.Proofs.YtigpbjcmmgdiaaaGreat
open Go.ChangeShapes Go.WideShapes Go.ChangeAt Go.RowKit
set_option linter.unusedVariables false

/-- The one keeps the other from going. -/
def stopR (L : List Sl) (j i : Nat) : Prop := ∃ s, L[i]? = some s ∧ stopB L i (i + 1 + runN s.p (L.drop (i + 1))) s j = true
theorem free_yes {L : List Sl} {left : List Bool} {i : Nat} (h : freeB L left i = true) : ∀ j, j < L.length → left.getD j false = true → ¬ stopR L j i := by
 rintro j hj hl ⟨s, hs, hst⟩
 unfold freeB at h
 rw [hs] at h
 simp only [List.all_eq_true] at h
 have := h j (List.mem_range.2 hj)
 unfold stopsB at this
 rw [hl, hst] at this
 cases this
theorem free_no {L : List Sl} {left : List Bool} {i : Nat} (hi : i < L.length) (h : freeB L left i = false) : ∃ j, j < L.length ∧ left.getD j false = true ∧ stopR L j i := by
 unfold freeB at h
 rw [List.getElem?_eq_getElem hi] at h
 simp only [List.all_eq_false] at h
 obtain ⟨j, hj, hx⟩ := h
 have hx2 : stopsB L left i L[i] j = true := by simpa using hx
 unfold stopsB at hx2
 rw [Bool.and_eq_true] at hx2
 exact ⟨j, List.mem_range.1 hj, hx2.1, L[i], List.getElem?_eq_getElem hi, hx2.2⟩
theorem boolInfo : (Tryz.prog.info? 4).map (fun i => (i.zero, i.size, i.bytes)) = some (some (.bool false), 1, 1) := by kernel_rfl
theorem makeBools (n : Nat) (hn : n ≤ 1048577) (w : World) :
  (Instr.makeSlice 189 (.int .i64 (n : Int)) (.int .i64 (n : Int))).run Tryz.prog w = .ok (.slice (some ⟨w.heap.size, 0, none⟩) n n) (w.alloc (.cells (Array.replicate n (Value.bool false)) 4)) := by
 obtain ⟨i, hi, hzz⟩ := Option.map_eq_some_iff.1 boolInfo
 simp only [Prod.mk.injEq] at hzz
 obtain ⟨hz, hs, hb⟩ := hzz
 have := run_make (P := Tryz.prog) w 189 4 i _ Tryz.underlying189 hi hz .i64 .i64 n n (by omega) (Int.le_refl _) (by rw [hb]; omega) (by omega)
 rw [hs] at this
 have hm : madeCells (Value.bool false).cells ((n : Int).toNat * 1) = Array.replicate n (Value.bool false) := by
  unfold madeCells
  apply Array.ext'
  simp [Value.cells]
  apply List.ext_getElem
  ·simp
  ·intro j h1 h2
   simp
   rw [Nat.mod_one]; rfl
 rw [hm] at this
 exact this
/-- A row of bools in a block of its own. -/
def BoolsAt (W : World) (mB : Nat) (L : List Bool) : Prop := Bx W mB 4 (L.map Value.bool)
theorem BoolsAt.lies {W : World} {mB : Nat} {L : List Bool} (h : BoolsAt W mB L) : LiesG fBl W (some ⟨mB, 0, none⟩) L := by
 refine ⟨.inr ⟨mB, 0, rfl⟩, fun B O e i hi j hj => ?_⟩
 injection e with e
 injection e with e1 e2
 subst e1; subst e2
 have hj0 : j = 0 := by have : j < 1 := hj; omega
 subst hj0
 have := Bx.cell h i (.bool L[i]) (by simp [hi])
 simpa [fBl] using this
theorem BoolsAt.set {W : World} {mB : Nat} {L : List Bool} (h : BoolsAt W mB L) (k : Nat) (b : Bool) : BoolsAt (W.setCell ⟨mB, k, none⟩ (.bool b)) mB (L.set k b) := by
 have := Bx.set h k (.bool b)
 unfold BoolsAt
 rw [List.map_set]; exact this

theorem LiesG.outB {α : Type} {F : Form α} {W W' : World} {B O n : Nat} {L : List α} (h : LiesG F W (some ⟨B, O, none⟩) L) (hb : Below n W W') (hB : B < n) : LiesG F W' (some ⟨B, O, none⟩) L := by
 refine ⟨.inr ⟨B, O, rfl⟩, fun B' O' e i hi j hj => ?_⟩
 injection e with e
 injection e with e1 e2
 subst e1; subst e2
 rw [hb.cell (p := ⟨B, O + i * F.n + j, none⟩) hB]
 exact h.cells B O rfl i hi j hj
/-- A store into a block of the call's own leaves the box and the rows. -/
theorem KBox.keep {w W W' : World} {K : QK} (h0 : KernIn w K) (h : KBox w K W) (hb : Below (w.heap.size + 1) W W') : KBox w K W' := by
 have bw := h.bw.trans (hb.mono (Nat.le_succ _))
 exact ⟨h.a.outB hb (Nat.lt_succ_self _), h0.below bw, bw, Nat.lt_of_lt_of_le h.lt hb.size⟩
theorem KBox.store {w W : World} {K : QK} (h0 : KernIn w K) (h : KBox w K W) {mB k : Nat} (hm : w.heap.size < mB) (v : Value) : KBox w K (W.setCell ⟨mB, k, none⟩ v) :=
 h.keep h0 ((Below.refl _ _).setCell (p := ⟨mB, k, none⟩) hm v)

def cntB (L : List Bool) : Nat := L.countP (fun b => b)
theorem cnt_set {L : List Bool} {i : Nat} (hi : i < L.length) (h : L[i] = true) : cntB (L.set i false) + 1 = cntB L := by
 induction L generalizing i with
 | nil => simp at hi
 | cons a L ih =>
  cases i with
  | zero => simp at h; subst h; simp [cntB]
  | succ j =>
   have := ih (i := j) (by simpa using hi) (by simpa using h)
   unfold cntB at this ⊢
   simp only [List.set_cons_succ, List.countP_cons]; omega
theorem cnt_zero {L : List Bool} : cntB L = 0 ↔ ∀ x, x < L.length → L.getD x false = false := by
 unfold cntB
 rw [List.countP_eq_zero]
 constructor
 ·intro h x hx
  rw [List.getD_eq_getElem?_getD, List.getElem?_eq_getElem hx]
  have := h L[x] (List.getElem_mem hx)
  simpa using this
 ·intro h b hb
  obtain ⟨x, hx, rfl⟩ := List.mem_iff_getElem.1 hb
  have := h x hx
  rw [List.getD_eq_getElem?_getD, List.getElem?_eq_getElem hx] at this
  simpa using this
structure FallI (w W : World) (K : QK) (mB : Nat) (L : List Bool) : Prop where
 len : L.length = K.sl.length
 bl : BoolsAt W mB L
 bb : KBox w K W
 gone : Gone K.sl.length (stopR K.sl) (fun x => L.getD x false)
def fillInv (w : World) (K : QK) (mB : Nat) (v : Value) (W : World) : Prop :=
 ∃ k : Nat, k ≤ K.sl.length ∧ v = .int .i64 (k : Int) ∧ BoolsAt W mB (List.replicate k true ++ List.replicate (K.sl.length - k) false) ∧ KBox w K W
def outInv (w : World) (K : QK) (mB : Nat) (c m : Value) (W : World) : Prop :=
 ∃ (L : List Bool) (mo : Bool), c = .int .i64 ((cntB L : Nat) : Int) ∧ m = .bool mo ∧ FallI w W K mB L ∧ (mo = false → ∀ i, i < K.sl.length → L.getD i false = true → freeB K.sl L i = false)
def inInv (w : World) (K : QK) (mB c0 : Nat) (c m v : Value) (W : World) : Prop :=
 ∃ (L : List Bool) (mo : Bool) (k : Nat), k ≤ K.sl.length ∧ v = .int .i64 ((k : Int) - 1) ∧ c = .int .i64 ((cntB L : Nat) : Int) ∧ m = .bool mo ∧ FallI w W K mB L ∧ cntB L ≤ c0 ∧ (mo = true → cntB L < c0) ∧ (mo = false → ∀ i, k ≤ i → i < K.sl.length → L.getD i false = true → freeB K.sl L i = false)
def FallsTo (K : QK) (e : Ending) : Prop := ∃ b : Bool, e = .returned (.bool b) ∧ (b = true ↔ Acyc K.sl.length (stopR K.sl))
theorem fallsTo {K : QK} {e : Ending} {b : Bool} (he : e = .returned (.bool b)) (hb : b = true ↔ Acyc K.sl.length (stopR K.sl)) : FallsTo K e := ⟨b, he, hb⟩
def moreN : Value → Nat
 | .bool true => 1
 | _ => 0

set_option maxRecDepth 100000 in
set_option maxHeartbeats 8000000 in
theorem l4Falls_any (K : QK) (w : World) (hs : K.Short) (h : KernIn w K) :
  Calls Tryz.prog 95 #[.agg #[.int .i64 K.bits, .int .i64 K.ticks, .slice K.sP K.sl.length K.sc, .slice K.tP K.tl.length K.tc, .slice K.eP K.el.length K.ec, .slice K.nP K.nl.length K.nc, .slice K.fP K.fl.length K.fc, .slice K.r0.P K.r0.l.length K.r0.c, .slice K.r1.P K.r1.l.length K.r1.c, .slice K.r2.P K.r2.l.length K.r2.c, .slice K.r3.P K.r3.l.length K.r3.c, .slice K.r4.P K.r4.l.length K.r4.c, .slice K.r5.P K.r5.l.length K.r5.c, .slice K.r6.P K.r6.l.length K.r6.c, .slice K.r7.P K.r7.l.length K.r7.c]] w fun e w' => FallsTo K e ∧ Below w.heap.size w w' := by
 have hb0 := KBox.new h 42
 have hlen := hs.s
 go_enter Tryz.func95, Tryz.ntmps95
 go_upto_region 1 with fail
 generalize w.alloc (.cells #[.int .i64 K.bits, .int .i64 K.ticks, .slice K.sP K.sl.length K.sc, .slice K.tP K.tl.length K.tc, .slice K.eP K.el.length K.ec, .slice K.nP K.nl.length K.nc, .slice K.fP K.fl.length K.fc, .slice K.r0.P K.r0.l.length K.r0.c, .slice K.r1.P K.r1.l.length K.r1.c, .slice K.r2.P K.r2.l.length K.r2.c, .slice K.r3.P K.r3.l.length K.r3.c, .slice K.r4.P K.r4.l.length K.r4.c, .slice K.r5.P K.r5.l.length K.r5.c, .slice K.r6.P K.r6.l.length K.r6.c, .slice K.r7.P K.r7.l.length K.r7.c] 42) = W0 at hb0 ⊢
 have g2 := hb0.cs
 have hmk := makeBools K.sl.length (by omega) W0
 go_upto_region 2 with fail
 have bb := hb0.below ((Below.refl _ _).alloc (Nat.le_refl _) (.cells (Array.replicate K.sl.length (Value.bool false)) 4))
 have bl : BoolsAt (W0.alloc (.cells (Array.replicate K.sl.length (Value.bool false)) 4)) W0.heap.size (List.replicate K.sl.length false) := by
  unfold BoolsAt; rw [List.map_replicate]; have hn := Bx.newAt W0 4 (List.replicate K.sl.length (Value.bool false)) (c := W0.heap.size) rfl; simpa using hn
 have hm := hb0.lt
 clear g2 hmk hb0
 generalize W0.alloc (.cells (Array.replicate K.sl.length (Value.bool false)) 4) = W1 at bb bl ⊢
 generalize W0.heap.size = mB at bl hm ⊢
 go_wp2
 go_loopw [4] (fun v W => fillInv w K mB v W) (fun v W => K.sl.length - (intOf v).toNat)
 case atStart => exact ⟨0, Nat.zero_le _, rfl, by simpa using bl, bb⟩
 case round =>
  clear bb bl
  obtain ⟨k, hk, rfl, bl, bb⟩ := hrel
  by_cases hlt : k < K.sl.length
  ·have hk1 : (k : Int) < (K.sl.length : Int) := by omega
   have c0 := bl.cell k (.bool false) (by simp [List.getElem?_append, List.getElem?_replicate]; omega)
   have cz := bl.frozen k
   go_wp2
   go_roundw
   case rel =>
    refine ⟨k + 1, by omega, by go_num, ?_, bb.store h hm _⟩
    have hset := BoolsAt.set bl k true
    have : (List.replicate k true ++ List.replicate (K.sl.length - k) false).set k true = List.replicate (k + 1) true ++ List.replicate (K.sl.length - (k + 1)) false := by
     have e1 : K.sl.length - k = (K.sl.length - (k + 1)) + 1 := by omega
     rw [e1, List.replicate_succ, List.set_append_right _ _ (by simp)]
     simp [List.replicate_succ', List.append_assoc]
    rw [← this]; exact hset
   case measure => simp [intOf]; omega
  ·have hk1 : ¬ (k : Int) < (K.sl.length : Int) := by omega
   have hke : k = K.sl.length := by omega
   have bl2 : BoolsAt wr mB (List.replicate K.sl.length true) := by rw [hke] at bl; simpa using bl
   have F0 : FallI w wr K mB (List.replicate K.sl.length true) := ⟨by simp, bl2, bb, gone_all (fun x hx => by simp [hx])⟩
   have hc0 : ((K.sl.length : Nat) : Int) = ((cntB (List.replicate K.sl.length true) : Nat) : Int) := by simp [cntB, List.countP_replicate]
   clear bl bb bl2 hke
   go_wp2
   go_loopw [5, 6] (fun c m W => outInv w K mB c m W) (fun c m W => (intOf c).toNat + moreN m)
   case atStart => exact ⟨_, true, by rw [← hc0], rfl, F0, fun e => by cases e⟩
   case round =>
    clear F0 hc0
    obtain ⟨L, mo, rfl, rfl, F, hst⟩ := hrel
    have HSt : Hid _ := hst
    clear hst
    have hcl : cntB L ≤ K.sl.length := by have := List.countP_le_length (p := fun b : Bool => b) (l := L); unfold cntB; rw [F.len] at this; exact this
    cases mo
    ·have HA : Hid ((cntB L == 0) = true ↔ Acyc K.sl.length (stopR K.sl)) := by
      unfold Hid
      have he := gone_end F.gone (fun x hx hl => free_no hx (HSt.out rfl x hx hl))
      rw [he, beq_iff_eq, cnt_zero, F.len]
     obtain ⟨cz, hcz⟩ : ∃ cz, cntB L = cz := ⟨_, rfl⟩
     rw [hcz] at HA ⊢
     have hcz2 : ((cz : Int) == 0) = (cz == 0) := by rw [Bool.eq_iff_iff]; simp
     clear hcz
     go_wp2
     go_ret
     exact ⟨fallsTo (b := cz == 0) (ret_bool rfl) HA.out, F.bb.bw⟩
    ·clear HSt
     go_wp2
     go_loopw [5, 6, 7] (fun c m v W => inInv w K mB (cntB L) c m v W) (fun c m v W => (intOf v + 1).toNat)
     case atStart => exact ⟨L, false, K.sl.length, Nat.le_refl _, rfl, rfl, rfl, F, Nat.le_refl _, (fun e => by cases e), (fun _ i h1 h2 => by omega)⟩
     case round =>
      clear F
      obtain ⟨M, mo, k, hk, hv, rfl, rfl, F, hc1, hc2, hc3⟩ := hrel
      have HC3 : Hid _ := hc3
      have HC2 : Hid _ := hc2
      clear hc3 hc2
      by_cases hk0 : k = 0
      ·have hv2 : ((k : Int) - 1) = -1 := by omega
       rw [hv2] at hv
       subst hv
       go_wp2
       go_roundw
       case rel => exact ⟨M, mo, rfl, rfl, F, fun e i hi => HC3.out e i (by omega) hi⟩
       case measure =>
        cases mo
        ·simp [intOf, moreN]; omega
        ·have := HC2.out rfl
         simp [intOf, moreN]; omega
      ·obtain ⟨j, hj⟩ : ∃ j, k = j + 1 := ⟨k - 1, by omega⟩
       have hv2 : ((k : Int) - 1) = (j : Int) := by omega
       rw [hv2] at hv
       subst hv
       have HJ : Hid (k = j + 1) := hj
       have hjl : j < K.sl.length := by omega
       have hjm : j < M.length := by rw [F.len]; exact hjl
       clear hj hk0 hk hv2
       have hM : M.length ≤ 1048576 := by rw [F.len]; exact hlen
       have cl := F.bl.cell j (.bool M[j]) (by simp [hjm])
       have hk1 : (j : Int) < (K.sl.length : Int) := by omega
       have hk2 : (0 : Int) ≤ (j : Int) := by omega
       have hwj : IntKind.i64.wrap ((j : Int) - 1) = (j : Int) - 1 := by rw [IntKind.wrap_i64]; omega
       have HFr0 := fun W (hW : KernIn W K) (hL : LiesG fBl W (some ⟨mB, 0, none⟩) M) => l4Free_any K (some ⟨mB, 0, none⟩) K.sl.length M j W hs hW hjl F.len hL
       rw [F.len] at HFr0
       have HFr : Hid _ := HFr0
       clear HFr0
       obtain ⟨g0, g1, g2, g3, g4, g5, g6, g7, g8, g9, g10, g11, g12, g13, g14⟩ := KBox.facts F.bb
       cases hb : M[j]
       ·as_aux_lemma =>
        rw [hb] at cl
        have HB : Hid (M.getD j false = false) := by unfold Hid; rw [List.getD_eq_getElem?_getD, List.getElem?_eq_getElem hjm, hb]; rfl
        have F2 := F
        go_wp2
        go_roundw
        case rel => exact ⟨M, mo, j, by omega, rfl, rfl, rfl, F2, hc1, HC2.out, fun e i h1 h2 h3 => by by_cases ei : i = j; subst ei; rw [HB.out] at h3; cases h3; exact HC3.out e i (by have := HJ.out; omega) h2 h3⟩
        case measure => simp [intOf]
       ·rw [hb] at cl
        cases hf : freeB K.sl M j
        ·as_aux_lemma =>
         have HFF : Hid _ := hf
         have HFr2 := HFr.out
         rw [hf] at HFr2
         have HFr3 : Hid _ := HFr2
         clear HFr HFr2 hf
         go_wp2_with (go_at_call 152; refine Calls.mono (HFr3.out _ F.bb.b F.bl.lies) ?_; rintro e w3 ⟨rfl, hb3⟩; have F2 : FallI w w3 K mB M := ⟨F.len, Bx.below F.bl hb3, F.bb.below hb3, F.gone⟩)
         go_roundw
         case rel => exact ⟨M, mo, j, by omega, rfl, rfl, rfl, F2, hc1, HC2.out, fun e i h1 h2 h3 => by by_cases ei : i = j; subst ei; exact HFF.out; exact HC3.out e i (by have := HJ.out; omega) h2 h3⟩
         case measure => simp [intOf]
        ·as_aux_lemma =>
         have HFF : Hid _ := free_yes hf
         have HFr2 := HFr.out
         rw [hf] at HFr2
         have HFr3 : Hid _ := HFr2
         have hcs := cnt_set hjm hb
         clear HFr HFr2 hf
         obtain ⟨cn, hcn⟩ : ∃ cn, cntB (M.set j false) = cn := ⟨_, rfl⟩
         have hcM : cntB M = cn + 1 := by omega
         have hwn : IntKind.i64.wrap (((cn + 1 : Nat) : Int) - 1) = (cn : Int) := by rw [IntKind.wrap_i64]; omega
         have hwn2 : IntKind.i64.wrap ((cn : Int) + 1 - 1) = (cn : Int) := by rw [IntKind.wrap_i64]; omega
         rw [hcM] at hc1 ⊢
         go_upto_region 14 with (go_at_call 152; refine Calls.mono (HFr3.out _ F.bb.b F.bl.lies) ?_; rintro e W2 ⟨rfl, hb3⟩)
         have bl2 : BoolsAt W2 mB M := Bx.below F.bl hb3
         have bb2 := F.bb.below hb3
         clear cl g0 g1 g2 g3 g4 g5 g6 g7 g8 g9 g10 g11 g12 g13 g14 hcM
         have c0 := bl2.cell j (.bool M[j]) (by simp [hjm])
         have cz := bl2.frozen j
         have F2 : FallI w (W2.setCell ⟨mB, j, none⟩ (.bool false)) K mB (M.set j false) := ⟨by rw [List.length_set]; exact F.len, bl2.set j false, bb2.store h hm _, gone_step F.gone hjl (fun y hy hly => HFF.out y hy hly) (fun x hx hne => by rw [List.getD_eq_getElem?_getD, List.getD_eq_getElem?_getD, List.getElem?_set_ne (Ne.symm hne)])⟩
         go_wp2
         go_roundw
         case rel => exact ⟨M.set j false, true, j, by omega, rfl, by rw [hcn], rfl, F2, by omega, (fun _ => by omega), (fun e => by cases e)⟩
         case measure => simp [intOf]

end Go.Proofs.YtigpbjcmmgdiaaaGreat
