/-
 Whether each thread stands just where its state says, by the program. Conditions: the view lies in memory, with the map of its threads.
-/
import Derived.Test.YtigpbjcmmgdiaaaGreatRp
import Derived.Test.YtigpbjcmmgdiaaaGreatRm
import Derived.BigRegion
import Derived.Test.YtigpbjcmmgdiaaaGreatRl
import Derived.Test.YtigpbjcmmgdiaaaGreatBb
namespace Go.Proofs.YtigpbjcmmgdiaaaGreat
open Go.ChangeShapes Go.WideShapes Go.ChangeAt Go.RowKit
set_option linter.unusedVariables false

/-- What stands between two steps. -/
structure QuV (w0 : World) (K : QK) (vB tB n : Nat) (fs : List Value) (w : World) (P : Prs) (W : World) : Prop where
 v : View w0 K vB fs W
 m : MapV W tB (n + P.length) (quF K.tl P)
 e : Ent K.tl P
 z : NzP P
 b : But tB w W
theorem QuV.below {w0 : World} {K : QK} {vB tB n : Nat} {fs : List Value} {w W W' : World} {P : Prs} (h : QuV w0 K vB tB n fs w P W) (hb : Below W.heap.size W W') : QuV w0 K vB tB n fs w P W' := ⟨h.v.below hb, h.m.below hb, h.e, h.z, h.b.trans (But.of tB hb)⟩
def quInvE (w0 : World) (K : QK) (vB tB n : Nat) (fs : List Value) (w : World) (v : Value) (W : World) : Prop :=
 ∃ j : Nat, j ≤ K.el.length ∧ v = .int .i64 (j : Int) ∧ (∀ i (hi : i < K.el.length), i < j → endShapeB K.el[i] = true) ∧ QuV w0 K vB tB n fs w (pE K j) W
def quInvN (w0 : World) (K : QK) (vB tB n : Nat) (fs : List Value) (w : World) (v : Value) (W : World) : Prop :=
 ∃ j : Nat, j ≤ K.nl.length ∧ v = .int .i64 (j : Int) ∧ (∀ i (hi : i < K.nl.length), i < j → noteShapeB K.nl[i] = true) ∧ QuV w0 K vB tB n fs w (pN K j) W
def quInvR (w0 : World) (K : QK) (vB tB n : Nat) (fs : List Value) (w : World) (v : Value) (W : World) : Prop :=
 ∃ j : Nat, j ≤ 8 ∧ v = .int .i64 (j : Int) ∧ QuV w0 K vB tB n fs w (pR K j) W
def quInvT (w0 : World) (K : QK) (vB tB n : Nat) (fs : List Value) (w : World) (v : Value) (W : World) : Prop :=
 ∃ j : Nat, j ≤ K.tl.length ∧ v = .int .i64 (j : Int) ∧ (∀ i (hi : i < K.tl.length), i < j → hdP (pR K 8) K.tl[i].a0 = belongsI K.tl[i]) ∧ QuV w0 K vB tB n fs w (pR K 8) W
theorem end_nz {e : QE} (h : endShapeB e = true) : NzP (prs (e.kd + 1, e.ad) e.l) := by
 unfold endShapeB at h
 by_cases e0 : e.kd = 0
 ·rw [if_pos e0] at h
  have h2 : e.l = [] := List.length_eq_zero_iff.1 (by simpa using h)
  rw [h2]; exact NzP.nil
 ·rw [if_neg e0] at h
  by_cases e1 : e.kd = 1 ∨ e.kd = 2
  ·exact prs_nz (show e.kd + 1 ≠ 0 by omega)
  ·rw [if_neg e1] at h; cases h
theorem neqH_run (x y a b : Int) (w : World) : (binOp .neq 83 (.agg #[.int .i64 x, .int .i64 y]) (.agg #[.int .i64 a, .int .i64 b])).run Tryz.prog w = .ok (.bool (!decide ((x, y) = (a, b)))) w := by
 by_cases h1 : x = a
 ·subst h1
  by_cases h2 : y = b
  ·subst h2; simp [go_sem]
  ·go_simp
 ·go_simp
set_option maxRecDepth 100000 in
theorem idxR (K : QK) (j : Nat) (hj : j < 8) (W : World) : (Instr.index 28 (.agg #[.slice K.r0.P K.r0.l.length K.r0.c, .slice K.r1.P K.r1.l.length K.r1.c, .slice K.r2.P K.r2.l.length K.r2.c, .slice K.r3.P K.r3.l.length K.r3.c, .slice K.r4.P K.r4.l.length K.r4.c, .slice K.r5.P K.r5.l.length K.r5.c, .slice K.r6.P K.r6.l.length K.r6.c, .slice K.r7.P K.r7.l.length K.r7.c]) (.int .i64 (j : Int))).run Tryz.prog W = .ok (.slice (readyQ K j).P (readyQ K j).l.length (readyQ K j).c) W := by
 have hc : j = 0 ∨ j = 1 ∨ j = 2 ∨ j = 3 ∨ j = 4 ∨ j = 5 ∨ j = 6 ∨ j = 7 := by omega
 clear hj
 rcases hc with rfl | rfl | rfl | rfl | rfl | rfl | rfl | rfl
 all_goals (go_simp; try rfl)
set_option maxRecDepth 100000 in
set_option maxHeartbeats 16000000 in
theorem queuesOk_any (w0 : World) (K : QK) (vB tB : Nat) (fs : List Value) (w : World) (hs : K.Short) (h : View w0 K vB fs w) (hf : fs[12]? = some (.map (some tB))) (hm : MapV w tB K.tl.length (thrF K.tl K.tl.length)) (hta : (K.tl.map QT.a0).Pairwise (· < ·)) (htf : ∀ t ∈ K.tl, FitI t.a0) (hef : ∀ e ∈ K.el, ∀ a ∈ e.l, FitI a) (hnf : ∀ n ∈ K.nl, ∀ a ∈ n.l, FitI a) (hrf : ∀ q ∈ [K.r0, K.r1, K.r2, K.r3, K.r4, K.r5, K.r6, K.r7], ∀ a ∈ q.l, FitI a) (hvt : vB ≠ tB) (htw : w0.heap.size ≤ tB) (bq : Bool) (hq : bq = true ↔ QueuesP K) :
  Calls Tryz.prog 72 #[.pointer (some ⟨vB, 0, none⟩)] w fun e w' => e = .returned (.bool bq) ∧ But tB w w' ∧ (bq = true → ∃ m, MapV w' tB m (quF K.tl (pR K 8))) := by
 have HS : Hid (K.Short) := hs
 have HF : Hid (fs[12]? = some (.map (some tB))) := hf
 have HTA : Hid ((K.tl.map QT.a0).Pairwise (· < ·)) := hta
 have HTF : Hid (∀ t ∈ K.tl, FitI t.a0) := htf
 have HEF : Hid (∀ e ∈ K.el, ∀ a ∈ e.l, FitI a) := hef
 have HNF : Hid (∀ n ∈ K.nl, ∀ a ∈ n.l, FitI a) := hnf
 have HRF : Hid (∀ q ∈ [K.r0, K.r1, K.r2, K.r3, K.r4, K.r5, K.r6, K.r7], ∀ a ∈ q.l, FitI a) := hrf
 have HVT : Hid (vB ≠ tB) := hvt
 have HTW : Hid (w0.heap.size ≤ tB) := htw
 have HQ : Hid (bq = true ↔ ((∀ e ∈ K.el, endShapeB e = true) ∧ (∀ n ∈ K.nl, noteShapeB n = true) ∧ Ent K.tl (pR K 8) ∧ ∀ t ∈ K.tl, hdP (pR K 8) t.a0 = belongsI t)) := by unfold Hid; rw [hq, queues_all]
 have S0 : QuV w0 K vB tB K.tl.length fs w [] w := ⟨h, by rw [← thr_qu hta]; exact hm, Ent.nil _, NzP.nil, But.of tB (Below.refl _ _)⟩
 have g4 := h.ce
 have hlt := hs.t
 clear hs hf hta htf hef hnf hrf hvt htw hq h hm
 obtain ⟨n, hn⟩ : ∃ n, K.tl.length = n := ⟨_, rfl⟩
 rw [hn] at S0 hlt
 have HNn : Hid (K.tl.length = n) := hn
 clear hn
 rw [← pE_zero K] at S0
 go_enter Tryz.func72, Tryz.ntmps72
 go_wp2
 go_loopw [18] (fun v W => quInvE w0 K vB tB n fs w v W) (fun v W => K.el.length - (intOf v).toNat)
 case atStart => exact ⟨0, Nat.zero_le _, rfl, fun i hi h => absurd h (Nat.not_lt_zero _), S0⟩
 case round =>
  clear S0 g4
  have hle9 := HS.out.e
  obtain ⟨j, hj, rfl, hno, S⟩ := hrel
  have HN : Hid _ := hno
  clear hno
  by_cases hlt : j < K.el.length
  ·have hk1 : (j : Int) < (K.el.length : Int) := by omega
   have hrow := S.v.b.e
   obtain ⟨B, O, hP⟩ := hrow.has hlt
   rw [hP] at hrow
   obtain ⟨e, he⟩ : ∃ e, K.el[j] = e := ⟨_, rfl⟩
   have hmem : e ∈ K.el := by rw [← he]; exact List.getElem_mem hlt
   have HE9 : Hid (K.el[j] = e) := he
   have HEm : Hid (e ∈ K.el) := hmem
   have c0 := hrow.at hlt 0 _ rfl
   have c1 := hrow.at hlt 1 _ rfl
   have c2 := hrow.at hlt 2 _ rfl
   simp only [fE, Nat.add_zero, he] at c0 c1 c2
   have hix : ∀ W, (Instr.indexAt 38 (.slice K.eP K.el.length K.ec) (.int .i64 (j : Int))).run Tryz.prog W = .ok (.pointer (some ⟨B, O + j * 3, none⟩)) W := fun W => by rw [hP]; go_simp
   have hl0 := S.v.h0.ei e hmem
   have hnx : pE K (j + 1) = pE K j ++ prs (e.kd + 1, e.ad) e.l := by rw [pE_next hlt, he]
   have HPr : Hid (bq = true → endShapeB e = true ∧ Ent K.tl (pE K j ++ prs (e.kd + 1, e.ad) e.l)) := fun hb => by
    obtain ⟨q1, _, q3, _⟩ := HQ.out.1 hb
    obtain ⟨R, hR⟩ := pE_pre (K := K) (j := j + 1)
    rw [hR] at q3
    rw [← hnx]
    exact ⟨q1 e hmem, q3.pre⟩
   have HNx : Hid _ := hnx
   obtain ⟨b, hb⟩ := boolOf (endShapeB e = true ∧ Ent K.tl (pE K j ++ prs (e.kd + 1, e.ad) e.l))
   have S1 := S.below ((Below.refl _ _).alloc (Nat.le_refl _) (.cells #[.int .i64 e.ad, .int .i64 e.kd, .slice e.P e.l.length e.c] 114))
   have cx := Bx.newAt wr 114 [.int .i64 e.ad, .int .i64 e.kd, .slice e.P e.l.length e.c] (c := wr.heap.size) rfl
   have hpl : (pE K j).length ≤ n := by rw [← HNn.out]; exact S.e.len
   have hell := HS.out.ei e hmem
   have HCl : Hid (∀ W, QuV w0 K vB tB n fs w (pE K j) W → _) := fun W SW => enterEnd_any w0 K vB tB (n + (pE K j).length) fs W (pE K j) e.ad e.kd e.l e.P e.c SW.v HF.out SW.m (by omega) SW.e SW.z hl0 hell (HEF.out e hmem) HVT.out HTW.out b hb
   have HBb : Hid (b = true ↔ endShapeB e = true ∧ Ent K.tl (pE K j ++ prs (e.kd + 1, e.ad) e.l)) := hb
   clear hP hrow he hmem hl0 hnx hb hpl hell
   go_upto_region 4 with fail
   clear c0 c1 c2 hix S
   generalize wr.alloc (.cells #[.int .i64 e.ad, .int .i64 e.kd, .slice e.P e.l.length e.c] 114) = W1 at S1 cx ⊢
   generalize wr.heap.size = cB at cx ⊢
   have y0 := cx.cell 0 _ rfl
   have y1 := cx.cell 1 _ rfl
   have y2 := cx.cell 2 _ rfl
   have HC2 : Hid _ := HCl.out W1 S1
   cases b
   ·have HX : Hid (bq = false) := by
     unfold Hid
     cases hbb : bq with
     | false => rfl
     | true => have := HBb.out.2 (HPr.out hbb); cases this
    go_wp2_with (go_at_call 130; refine Calls.mono HC2.out ?_; rintro e w5 ⟨rfl, hbt, _⟩)
    go_ret
    exact ⟨ret_bool HX.out.symm, S1.b.trans hbt, fun h => by rw [HX.out] at h; cases h⟩
   ·go_wp2_with (go_at_call 130; refine Calls.mono HC2.out ?_; rintro e w5 ⟨rfl, hbt, hmv⟩)
    go_roundw
    case rel =>
     obtain ⟨z1, z2⟩ := HBb.out.1 (by first | rfl | trivial)
     have hmv := hmv (by first | rfl | trivial)
     rw [Nat.add_assoc] at hmv
     have hl9 : (pE K j).length + e.l.length = (pE K (j + 1)).length := by rw [HNx.out, List.length_append, prs_len]
     rw [hl9, ← HNx.out] at hmv
     rw [← HNx.out] at z2
     refine ⟨j + 1, by omega, by go_num, fun i hi h => ?_, S1.v.but hbt HVT.out HTW.out, hmv, z2, ?_, S1.b.trans hbt⟩
     ·by_cases ei : i = j
      ·subst ei; rw [HE9.out]; exact z1
      ·exact HN.out i hi (by omega)
     ·rw [HNx.out]; exact S1.z.app (end_nz z1)
    case measure => simp [intOf]; omega
  ·have hk1 : ¬ (j : Int) < (K.el.length : Int) := by omega
   have hje : j = K.el.length := by omega
   have HEs : Hid (∀ e ∈ K.el, endShapeB e = true) := fun e he => by
    obtain ⟨i, hi, rfl⟩ := List.mem_iff_getElem.1 he
    exact HN.out i hi (by omega)
   have S1 : QuV w0 K vB tB n fs w (pN K 0) wr := by rw [pN_zero, ← hje]; exact S
   have g5 := S1.v.cn
   clear S hje HN
   go_wp2
   go_loopw [33] (fun v W => quInvN w0 K vB tB n fs w v W) (fun v W => K.nl.length - (intOf v).toNat)
   case atStart => exact ⟨0, Nat.zero_le _, rfl, fun i hi h => absurd h (Nat.not_lt_zero _), S1⟩
   case round =>
    clear S1 g5 hk1
    have hle9 := HS.out.n
    obtain ⟨j, hj, rfl, hno, S⟩ := hrel
    have HN : Hid _ := hno
    clear hno
    by_cases hlt : j < K.nl.length
    ·as_aux_lemma =>
     have hk1 : (j : Int) < (K.nl.length : Int) := by omega
     have hrow := S.v.b.n
     obtain ⟨B, O, hP⟩ := hrow.has hlt
     rw [hP] at hrow
     obtain ⟨m, he⟩ : ∃ m, K.nl[j] = m := ⟨_, rfl⟩
     have hmem : m ∈ K.nl := by rw [← he]; exact List.getElem_mem hlt
     have HE9 : Hid (K.nl[j] = m) := he
     have c0 := hrow.at hlt 0 _ rfl
     have c1 := hrow.at hlt 1 _ rfl
     have c2 := hrow.at hlt 2 _ rfl
     have c3 := hrow.at hlt 3 _ rfl
     simp only [fN, Nat.add_zero, he] at c0 c1 c2 c3
     have hix : ∀ W, (Instr.indexAt 39 (.slice K.nP K.nl.length K.nc) (.int .i64 (j : Int))).run Tryz.prog W = .ok (.pointer (some ⟨B, O + j * 4, none⟩)) W := fun W => by rw [hP]; go_simp
     have hl0 := S.v.h0.ni m hmem
     have hnx : pN K (j + 1) = pN K j ++ prs (5, m.ad) m.l := by rw [pN_next hlt, he]
     have HPr : Hid (bq = true → noteShapeB m = true ∧ Ent K.tl (pN K j ++ prs (5, m.ad) m.l)) := fun hb => by
      obtain ⟨_, q1, q3, _⟩ := HQ.out.1 hb
      obtain ⟨R, hR⟩ := pN_pre (K := K) (j := j + 1)
      rw [hR] at q3
      rw [← hnx]
      exact ⟨q1 m hmem, q3.pre⟩
     have HNx : Hid _ := hnx
     obtain ⟨b, hb⟩ := boolOf (noteShapeB m = true ∧ Ent K.tl (pN K j ++ prs (5, m.ad) m.l))
     have S1 := S.below ((Below.refl _ _).alloc (Nat.le_refl _) (.cells #[.int .i64 m.ad, .bool m.ac, .int .i64 m.wd, .slice m.P m.l.length m.c] 116))
     have cx := Bx.newAt wr 116 [.int .i64 m.ad, .bool m.ac, .int .i64 m.wd, .slice m.P m.l.length m.c] (c := wr.heap.size) rfl
     have hpl : (pN K j).length ≤ n := by rw [← HNn.out]; exact S.e.len
     have hell := HS.out.ni m hmem
     have HCl : Hid (∀ W, QuV w0 K vB tB n fs w (pN K j) W → _) := fun W SW => enterNote_any w0 K vB tB (n + (pN K j).length) fs W (pN K j) m.ad m.wd m.ac m.l m.P m.c SW.v HF.out SW.m (by omega) SW.e SW.z hl0 hell (HNF.out m hmem) HVT.out HTW.out b hb
     have HBb : Hid (b = true ↔ noteShapeB m = true ∧ Ent K.tl (pN K j ++ prs (5, m.ad) m.l)) := hb
     clear hP hrow he hmem hl0 hnx hb hpl hell
     go_upto_region 10 with fail
     clear c0 c1 c2 c3 hix S
     generalize wr.alloc (.cells #[.int .i64 m.ad, .bool m.ac, .int .i64 m.wd, .slice m.P m.l.length m.c] 116) = W1 at S1 cx ⊢
     generalize wr.heap.size = cB at cx ⊢
     have y0 := cx.cell 0 _ rfl
     have y1 := cx.cell 1 _ rfl
     have y2 := cx.cell 2 _ rfl
     have y3 := cx.cell 3 _ rfl
     have HC2 : Hid _ := HCl.out W1 S1
     cases b
     ·have HX : Hid (bq = false) := by
       unfold Hid
       cases hbb : bq with
       | false => rfl
       | true => have := HBb.out.2 (HPr.out hbb); cases this
      go_wp2_with (go_at_call 131; refine Calls.mono HC2.out ?_; rintro e w5 ⟨rfl, hbt, _⟩)
      go_ret
      exact ⟨ret_bool HX.out.symm, S1.b.trans hbt, fun h => by rw [HX.out] at h; cases h⟩
     ·go_wp2_with (go_at_call 131; refine Calls.mono HC2.out ?_; rintro e w5 ⟨rfl, hbt, hmv⟩)
      go_roundw
      case rel =>
       obtain ⟨z1, z2⟩ := HBb.out.1 (by first | rfl | trivial)
       have hmv := hmv (by first | rfl | trivial)
       rw [Nat.add_assoc] at hmv
       have hl9 : (pN K j).length + m.l.length = (pN K (j + 1)).length := by rw [HNx.out, List.length_append, prs_len]
       rw [hl9, ← HNx.out] at hmv
       rw [← HNx.out] at z2
       refine ⟨j + 1, by omega, by go_num, fun i hi h => ?_, S1.v.but hbt HVT.out HTW.out, hmv, z2, ?_, S1.b.trans hbt⟩
       ·by_cases ei : i = j
        ·subst ei; rw [HE9.out]; exact z1
        ·exact HN.out i hi (by omega)
       ·rw [HNx.out]; exact S1.z.app (prs_nz (show (5 : Int) ≠ 0 by decide))
      case measure => simp [intOf]; omega
    ·have hk1 : ¬ (j : Int) < (K.nl.length : Int) := by omega
     have hje : j = K.nl.length := by omega
     have HNs : Hid (∀ m ∈ K.nl, noteShapeB m = true) := fun m hm => by
      obtain ⟨i, hi, rfl⟩ := List.mem_iff_getElem.1 hm
      exact HN.out i hi (by omega)
     have S1 : QuV w0 K vB tB n fs w (pR K 0) wr := by rw [pR_zero, ← hje]; exact S
     have hr0 := S1.v.cr0; have hr1 := S1.v.cr1; have hr2 := S1.v.cr2; have hr3 := S1.v.cr3; have hr4 := S1.v.cr4; have hr5 := S1.v.cr5; have hr6 := S1.v.cr6; have hr7 := S1.v.cr7
     clear S hje HN
     go_wp2
     go_loopw [47] (fun v W => quInvR w0 K vB tB n fs w v W) (fun v W => 8 - (intOf v).toNat)
     case atStart => exact ⟨0, by omega, rfl, S1⟩
     case round =>
      clear S1 hr0 hr1 hr2 hr3 hr4 hr5 hr6 hr7 hk1
      obtain ⟨j, hj, rfl, S⟩ := hrel
      by_cases hlt : j < 8
      ·have hk1 : (j : Int) < 8 := by omega
       have hqm := readyQ_mem K j
       have hidx := idxR K j hlt
       have hl0 := S.v.h0.r (readyQ K j) hqm
       have hell := HS.out.r (readyQ K j) hqm
       have hfq := HRF.out (readyQ K j) hqm
       have hnx := pR_next K j
       have HPr : Hid (bq = true → Ent K.tl (pR K j ++ prs (1, (j : Int)) (readyQ K j).l)) := fun hb => by
        obtain ⟨_, _, q3, _⟩ := HQ.out.1 hb
        obtain ⟨R, hR⟩ := pR_pre (K := K) (j := j + 1) (by omega)
        rw [hR] at q3
        rw [← hnx]
        exact q3.pre
       have HNx : Hid (pR K (j + 1) = pR K j ++ prs (1, (j : Int)) (readyQ K j).l) := hnx
       obtain ⟨b, hb⟩ := boolOf (Ent K.tl (pR K j ++ prs (1, (j : Int)) (readyQ K j).l))
       have hpl : (pR K j).length ≤ n := by rw [← HNn.out]; exact S.e.len
       have HC2 : Hid _ := enter_any w0 K vB tB (n + (pR K j).length) fs wr (pR K j) (readyQ K j).l (readyQ K j).P (readyQ K j).c 1 (j : Int) S.v HF.out S.m (by omega) S.e S.z (by decide) hl0 hell hfq HVT.out HTW.out b hb
       have HBb : Hid (b = true ↔ Ent K.tl (pR K j ++ prs (1, (j : Int)) (readyQ K j).l)) := hb
       have HSv : Hid _ := S
       clear hqm hl0 hell hfq hnx hb hpl S
       cases b
       ·have HX : Hid (bq = false) := by
         unfold Hid
         cases hbb : bq with
         | false => rfl
         | true => have := HBb.out.2 (HPr.out hbb); cases this
        go_wp2_with (go_at_call 132; refine Calls.mono HC2.out ?_; rintro e w5 ⟨rfl, hbt, _⟩)
        go_ret
        exact ⟨ret_bool HX.out.symm, HSv.out.b.trans hbt, fun h => by rw [HX.out] at h; cases h⟩
       ·go_wp2_with (go_at_call 132; refine Calls.mono HC2.out ?_; rintro e w5 ⟨rfl, hbt, hmv⟩)
        go_roundw
        case rel =>
         have S := HSv.out
         have z2 := HBb.out.1 (by first | rfl | trivial)
         have hmv := hmv (by first | rfl | trivial)
         rw [Nat.add_assoc] at hmv
         have hl9 : (pR K j).length + (readyQ K j).l.length = (pR K (j + 1)).length := by rw [HNx.out, List.length_append, prs_len]
         rw [hl9, ← HNx.out] at hmv
         rw [← HNx.out] at z2
         refine ⟨j + 1, by omega, by go_num, S.v.but hbt HVT.out HTW.out, hmv, z2, ?_, S.b.trans hbt⟩
         rw [HNx.out]; exact S.z.app (prs_nz (show (1 : Int) ≠ 0 by decide))
        case measure => simp [intOf]; omega
      ·have hk1 : ¬ (j : Int) < 8 := by omega
       have hje : j = 8 := by omega
       have S1 : QuV w0 K vB tB n fs w (pR K 8) wr := by rw [← hje]; exact S
       have g3 := S1.v.ct
       clear S hje
       go_wp2
       go_loopw [64] (fun v W => quInvT w0 K vB tB n fs w v W) (fun v W => K.tl.length - (intOf v).toNat)
       case atStart => exact ⟨0, Nat.zero_le _, rfl, fun i hi h => absurd h (Nat.not_lt_zero _), S1⟩
       case round =>
        clear S1 g3 hk1
        have hle9 := HS.out.t
        obtain ⟨i, hi, rfl, hno, S⟩ := hrel
        have HN : Hid _ := hno
        clear hno
        by_cases hlt : i < K.tl.length
        ·as_aux_lemma =>
         have hk1 : (i : Int) < (K.tl.length : Int) := by omega
         have hrow := S.v.b.t
         obtain ⟨B, O, hP⟩ := hrow.has hlt
         rw [hP] at hrow
         obtain ⟨t, htl⟩ : ∃ t, K.tl[i] = t := ⟨_, rfl⟩
         have HTl : Hid (K.tl[i] = t) := htl
         have hmem : t ∈ K.tl := by rw [← htl]; exact List.getElem_mem hlt
         have c0 := hrow.at hlt 0 _ rfl; have c1 := hrow.at hlt 1 _ rfl; have c2 := hrow.at hlt 2 _ rfl; have c3 := hrow.at hlt 3 _ rfl; have c4 := hrow.at hlt 4 _ rfl; have c5 := hrow.at hlt 5 _ rfl; have c6 := hrow.at hlt 6 _ rfl; have c7 := hrow.at hlt 7 _ rfl; have c8 := hrow.at hlt 8 _ rfl; have c9 := hrow.at hlt 9 _ rfl; have c10 := hrow.at hlt 10 _ rfl; have c11 := hrow.at hlt 11 _ rfl; have c12 := hrow.at hlt 12 _ rfl; have c13 := hrow.at hlt 13 _ rfl; have c14 := hrow.at hlt 14 _ rfl
         simp only [fT, Nat.add_zero, htl] at c0 c1 c2 c3 c4 c5 c6 c7 c8 c9 c10 c11 c12 c13 c14
         have hft := HTF.out t hmem
         have hix : ∀ W, (Instr.indexAt 37 (.slice K.tP K.tl.length K.tc) (.int .i64 (i : Int))).run Tryz.prog W = .ok (.pointer (some ⟨B, O + i * 15, none⟩)) W := fun W => by rw [hP]; go_simp
         have hqf : quF K.tl (pR K 8) t.a0 = some (memH (hdP (pR K 8) t.a0) t) := by
          unfold quF
          have hfo : K.tl.find? (fun u => u.a0 == t.a0) = some t := find_one (f := QT.a0) HTA.out hmem
          rw [hfo]; rfl
         have HPr : Hid (bq = true → hdP (pR K 8) t.a0 = belongsI t) := fun hb => (HQ.out.1 hb).2.2.2 t hmem
         have S1 := S.below ((Below.refl _ _).alloc (Nat.le_refl _) (.cells #[.int .i64 t.a0, .int .i64 t.a1, .int .i64 t.a2, .int .i64 t.a3, .int .i64 t.a4, .int .i64 t.a5, .int .i64 t.a6, .int .u32 t.a7, .int .i64 t.a8, .int .u32 t.a9, .int .u32 t.a10, .int .u32 t.a11, .int .u32 t.a12, .int .i64 t.a13, .int .u32 t.a14] 50))
         have cx := Bx.newAt wr 50 [.int .i64 t.a0, .int .i64 t.a1, .int .i64 t.a2, .int .i64 t.a3, .int .i64 t.a4, .int .i64 t.a5, .int .i64 t.a6, .int .u32 t.a7, .int .i64 t.a8, .int .u32 t.a9, .int .u32 t.a10, .int .u32 t.a11, .int .u32 t.a12, .int .i64 t.a13, .int .u32 t.a14] (c := wr.heap.size) rfl
         clear hP hrow htl hmem
         go_upto_region 22 with fail
         clear c0 c1 c2 c3 c4 c5 c6 c7 c8 c9 c10 c11 c12 c13 c14 hix S
         generalize wr.alloc (.cells #[.int .i64 t.a0, .int .i64 t.a1, .int .i64 t.a2, .int .i64 t.a3, .int .i64 t.a4, .int .i64 t.a5, .int .i64 t.a6, .int .u32 t.a7, .int .i64 t.a8, .int .u32 t.a9, .int .u32 t.a10, .int .u32 t.a11, .int .u32 t.a12, .int .i64 t.a13, .int .u32 t.a14] 50) = W1 at S1 cx ⊢
         generalize wr.heap.size = cB at cx ⊢
         have y0 := cx.cell 0 _ rfl
         have f12 := S1.v.snd 12 _ HF.out
         have hlk := (S1.m.below (Below.refl _ _).drew).look Tryz.underlying90 (zeroMem W1.drew) hft
         rw [hqf] at hlk
         have bZ := (Below.refl W1.heap.size W1).alloc (Nat.le_refl _) (.cells #[.int .i64 0, .int .i64 0, .int .i64 0, .int .i64 0, .int .i64 0, .int .i64 0, .int .i64 0, .int .i64 0, .int .i64 0, .int .u32 0, .int .i64 0, .int .u32 0, .int .u32 0, .int .u32 0, .int .u32 0, .int .i64 0, .int .u32 0] 85)
         have hlkA := ((S1.m.below bZ).below (Below.refl _ _).drew).look Tryz.underlying90 (zeroMem (W1.alloc (.cells #[.int .i64 0, .int .i64 0, .int .i64 0, .int .i64 0, .int .i64 0, .int .i64 0, .int .i64 0, .int .i64 0, .int .i64 0, .int .u32 0, .int .i64 0, .int .u32 0, .int .u32 0, .int .u32 0, .int .u32 0, .int .i64 0, .int .u32 0] 85)).drew) hft
         rw [hqf] at hlkA
         obtain ⟨⟨hx, hy⟩, hhd⟩ : ∃ q : Hd, hdP (pR K 8) t.a0 = q := ⟨_, rfl⟩
         rw [hhd] at hlk hlkA
         simp only [Option.getD_some, memH_eq] at hlk hlkA
         have y0A := cellB y0 (.cells #[.int .i64 0, .int .i64 0, .int .i64 0, .int .i64 0, .int .i64 0, .int .i64 0, .int .i64 0, .int .i64 0, .int .i64 0, .int .u32 0, .int .i64 0, .int .u32 0, .int .u32 0, .int .u32 0, .int .u32 0, .int .i64 0, .int .u32 0] 85)
         have f12A := cellB f12 (.cells #[.int .i64 0, .int .i64 0, .int .i64 0, .int .i64 0, .int .i64 0, .int .i64 0, .int .i64 0, .int .i64 0, .int .i64 0, .int .u32 0, .int .i64 0, .int .u32 0, .int .u32 0, .int .u32 0, .int .u32 0, .int .i64 0, .int .u32 0] 85)
         have HHd : Hid (hdP (pR K 8) t.a0 = (hx, hy)) := hhd
         clear hhd hqf bZ
         as_aux_lemma =>
         go_region
         all_goals as_aux_lemma => (
          go_upto_region 23 with fail
          have S2 := (S1.below ((Below.refl _ _).alloc (Nat.le_refl _) (.cells #[.int .i64 hx, .int .i64 hy, .int .i64 t.a0, .int .i64 t.a1, .int .i64 t.a2, .int .i64 t.a3, .int .i64 t.a4, .int .i64 t.a5, .int .i64 t.a6, .int .u32 t.a7, .int .i64 t.a8, .int .u32 t.a9, .int .u32 t.a10, .int .u32 t.a11, .int .u32 t.a12, .int .i64 t.a13, .int .u32 t.a14] 85))).below (Below.refl _ _).drew
          have ck := (Bx.newAt W1 85 [.int .i64 hx, .int .i64 hy, .int .i64 t.a0, .int .i64 t.a1, .int .i64 t.a2, .int .i64 t.a3, .int .i64 t.a4, .int .i64 t.a5, .int .i64 t.a6, .int .u32 t.a7, .int .i64 t.a8, .int .u32 t.a9, .int .u32 t.a10, .int .u32 t.a11, .int .u32 t.a12, .int .i64 t.a13, .int .u32 t.a14] (c := W1.heap.size) rfl).drew
          clear S1 cx y0 f12 hlk hlkA y0A f12A
          generalize (W1.alloc (.cells #[.int .i64 hx, .int .i64 hy, .int .i64 t.a0, .int .i64 t.a1, .int .i64 t.a2, .int .i64 t.a3, .int .i64 t.a4, .int .i64 t.a5, .int .i64 t.a6, .int .u32 t.a7, .int .i64 t.a8, .int .u32 t.a9, .int .u32 t.a10, .int .u32 t.a11, .int .u32 t.a12, .int .i64 t.a13, .int .u32 t.a14] 85)).drew = W2 at S2 ck ⊢
          have k0 := cell_regrown (ck.cell 0 _ rfl); have k1 := cell_regrown (ck.cell 1 _ rfl); have k2 := cell_regrown (ck.cell 2 _ rfl); have k3 := cell_regrown (ck.cell 3 _ rfl); have k4 := cell_regrown (ck.cell 4 _ rfl); have k5 := cell_regrown (ck.cell 5 _ rfl); have k6 := cell_regrown (ck.cell 6 _ rfl); have k7 := cell_regrown (ck.cell 7 _ rfl); have k8 := cell_regrown (ck.cell 8 _ rfl); have k9 := cell_regrown (ck.cell 9 _ rfl); have k10 := cell_regrown (ck.cell 10 _ rfl); have k11 := cell_regrown (ck.cell 11 _ rfl); have k12 := cell_regrown (ck.cell 12 _ rfl); have k13 := cell_regrown (ck.cell 13 _ rfl); have k14 := cell_regrown (ck.cell 14 _ rfl); have k15 := cell_regrown (ck.cell 15 _ rfl); have k16 := cell_regrown (ck.cell 16 _ rfl)
          clear ck
          have HBe0 := fun W => belongs_any t hx hy W
          obtain ⟨⟨bx, by9⟩, hbb⟩ : ∃ q : Hd, belongsI t = q := ⟨_, rfl⟩
          rw [hbb] at HBe0
          have HBe : Hid _ := HBe0
          have HBI : Hid (belongsI t = (bx, by9)) := hbb
          have hneq := neqH_run hx hy bx by9
          clear HBe0 hbb
          cases hdd : decide ((hx, hy) = (bx, by9))
          ·as_aux_lemma =>
           have HX : Hid (bq = false) := by
            unfold Hid
            cases hq : bq with
            | false => rfl
            | true => have := HPr.out hq; rw [HHd.out, HBI.out] at this; simp only [decide_eq_false_iff_not] at hdd; exact absurd this hdd
           rw [hdd] at hneq
           simp only [Bool.not_false] at hneq
           clear hdd
           refine wq_region (by kernel_rfl) (by kernel_rfl) ?_
           repeat (first | (refine wq_step (fun K9 hK => ?_); go_simp; first | (refine hK _ ?_; clear hK K9) | (apply Exists.intro; refine ⟨fun _ => ?_, hK _ ?_⟩; (first | (go_at_call 133; exact Calls.regrown_of (HBe.out _))); clear hK K9)))
           refine wq_nil ?_
           intro _ hw'
           obtain ⟨⟨dq, osq⟩, hw''⟩ := hw'
           subst hw''
           have S3 := S2.below (below_regrown W2 dq osq)
           go_wp2
           go_ret
           exact ⟨ret_bool HX.out.symm, S3.b, fun h => by rw [HX.out] at h; cases h⟩
          ·as_aux_lemma =>
           have HX : Hid (hdP (pR K 8) t.a0 = belongsI t) := by unfold Hid; rw [HHd.out, HBI.out]; simpa using hdd
           rw [hdd] at hneq
           simp only [Bool.not_true] at hneq
           clear hdd
           refine wq_region (by kernel_rfl) (by kernel_rfl) ?_
           repeat (first | (refine wq_step (fun K9 hK => ?_); go_simp; first | (refine hK _ ?_; clear hK K9) | (apply Exists.intro; refine ⟨fun _ => ?_, hK _ ?_⟩; (first | (go_at_call 133; exact Calls.regrown_of (HBe.out _))); clear hK K9)))
           refine wq_nil ?_
           intro _ hw'
           obtain ⟨⟨dq, osq⟩, hw''⟩ := hw'
           subst hw''
           have S3 := S2.below (below_regrown W2 dq osq)
           go_wp2
           go_roundw
           case rel => exact ⟨i + 1, by omega, by go_num, fun m hm h => by by_cases e : m = i; subst e; rw [HTl.out]; exact HX.out; exact HN.out m hm (by omega), S3⟩
           case measure => simp [intOf]; omega)
        ·have hk1 : ¬ (i : Int) < (K.tl.length : Int) := by omega
         have HX : Hid (bq = true) := HQ.out.2 ⟨HEs.out, HNs.out, S.e, fun t ht => by
          obtain ⟨m, hm, rfl⟩ := List.mem_iff_getElem.1 ht
          exact HN.out m hm (by omega)⟩
         have hb9 := S.b
         have hm9 := S.m
         clear S
         go_wp2
         go_ret
         exact ⟨ret_bool HX.out.symm, hb9, fun _ => ⟨_, hm9⟩⟩

end Go.Proofs.YtigpbjcmmgdiaaaGreat
