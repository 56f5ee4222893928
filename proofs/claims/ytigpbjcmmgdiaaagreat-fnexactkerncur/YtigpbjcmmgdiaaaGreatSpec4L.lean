/-
 Whether a capability is there rightly, by the specification. Conditions: the state lies in memory; what its slots hold is ok.
-/
import Derived.Test.YtigpbjcmmgdiaaaGreatRv
import Derived.Test.YtigpbjcmmgdiaaaGreatBa
import Derived.Test.YtigpbjcmmgdiaaaGreatRb
namespace Go.Proofs.YtigpbjcmmgdiaaaGreat
open Go.ChangeShapes Go.WideShapes Go.ChangeAt Go.RowKit
set_option linter.unusedVariables false

/-- Between two rounds. -/
def bornInv (w : World) (K : QK) (mB : Nat) (cl : List Value) (i : Nat) (s : Sl) (up : Int) (v : Value) (W : World) : Prop :=
 ∃ k : Nat, k ≤ i ∧ v = .int .i64 (k : Int) ∧ (∀ j, j < k → meetsB s up K.sl j = false) ∧ KBox w K W ∧ Bx W mB 33 cl
theorem wordSizeL_bel (b : Int) (w : World) :
  Calls Tryz.prog 87 #[.int .i64 b] w fun e w' => e = .returned (.int .i64 (sizeI b)) ∧ Below w.heap.size w w' :=
 (sizeSpec_any b w).mono fun e w' ⟨h1, h2⟩ => ⟨h1, by rw [h2]; exact Below.refl _ _⟩
theorem meetSpec_bel (a s b t : Int) (w : World) :
  Calls Tryz.prog 150 #[.int .i64 a, .int .i64 s, .int .i64 b, .int .i64 t] w fun e w' => e = .returned (.bool (meetB a s b t)) ∧ Below w.heap.size w w' :=
 (meetSpec_any a s b t w).mono fun e w' ⟨h1, h2⟩ => ⟨h1, by rw [h2]; exact Below.refl _ _⟩
theorem okB_bounds {k a b r d g q f : Int} {o : Bool} (h : okB k a b r d g q f o = true) : 0 ≤ a ∧ a ≤ 4096 ∧ 0 ≤ r ∧ r ≤ 7 ∧ 1 ≤ k ∧ k ≤ 7 := by
 unfold okB at h
 simp only [Bool.and_eq_true] at h
 obtain ⟨⟨⟨⟨⟨h1, h2⟩, h3⟩, h4⟩, h5⟩, h6⟩ := h
 have hm := maxI_bd k
 simp only [withinB, decide_eq_true_eq] at h1 h2
 have := align_fine h3
 omega

set_option maxRecDepth 100000 in
set_option maxHeartbeats 16000000 in
theorem l4Born_any (K : QK) (i : Nat) (w : World) (hs : K.Short) (h : KernIn w K) (hi : i < K.sl.length) (hok : ∀ s ∈ K.sl, okB s.k s.e s.b s.r s.d s.g s.q s.f s.o = true) :
  Calls Tryz.prog 92 #[.agg #[.int .i64 K.bits, .int .i64 K.ticks, .slice K.sP K.sl.length K.sc, .slice K.tP K.tl.length K.tc, .slice K.eP K.el.length K.ec, .slice K.nP K.nl.length K.nc, .slice K.fP K.fl.length K.fc, .slice K.r0.P K.r0.l.length K.r0.c, .slice K.r1.P K.r1.l.length K.r1.c, .slice K.r2.P K.r2.l.length K.r2.c, .slice K.r3.P K.r3.l.length K.r3.c, .slice K.r4.P K.r4.l.length K.r4.c, .slice K.r5.P K.r5.l.length K.r5.c, .slice K.r6.P K.r6.l.length K.r6.c, .slice K.r7.P K.r7.l.length K.r7.c], .int .i64 (i : Int)] w fun e w' => e = .returned (.bool (bornB K.bits K.sl i)) ∧ Below w.heap.size w w' := by
 have hb0 := KBox.new h 42
 have hlen := hs.s
 go_enter Tryz.func92, Tryz.ntmps92
 go_upto_region 1 with fail
 generalize w.alloc (.cells #[.int .i64 K.bits, .int .i64 K.ticks, .slice K.sP K.sl.length K.sc, .slice K.tP K.tl.length K.tc, .slice K.eP K.el.length K.ec, .slice K.nP K.nl.length K.nc, .slice K.fP K.fl.length K.fc, .slice K.r0.P K.r0.l.length K.r0.c, .slice K.r1.P K.r1.l.length K.r1.c, .slice K.r2.P K.r2.l.length K.r2.c, .slice K.r3.P K.r3.l.length K.r3.c, .slice K.r4.P K.r4.l.length K.r4.c, .slice K.r5.P K.r5.l.length K.r5.c, .slice K.r6.P K.r6.l.length K.r6.c, .slice K.r7.P K.r7.l.length K.r7.c] 42) = W0 at hb0 ⊢
 obtain ⟨s, hsl⟩ : ∃ s, K.sl[i] = s := ⟨_, rfl⟩
 have hrow := hb0.b.s
 obtain ⟨B, O, hP⟩ := hrow.some hi
 rw [hP] at hrow
 have hcc := hrow.cells B O rfl i hi
 rw [hsl] at hcc
 have g2 := hb0.cs
 rw [hP] at g2
 have HS : Hid (K.sl[i]? = some s) := by unfold Hid; rw [List.getElem?_eq_getElem hi, hsl]
 have HPs : Hid (K.sP = some ⟨B, O, none⟩) := hP
 have HBd : Hid (0 ≤ s.e ∧ s.e ≤ 4096 ∧ 0 ≤ s.r ∧ s.r ≤ 7 ∧ 1 ≤ s.k ∧ s.k ≤ 7) := okB_bounds (hok s (by rw [← hsl]; exact List.getElem_mem hi))
 have HOk : Hid _ := hok
 obtain ⟨c0, c1, c2, c3, c4, c5, c6, c7, c8, c9, c10⟩ := hcc
 have hi1 : (i : Int) < (K.sl.length : Int) := by omega
 clear hP hsl hrow hok
 go_upto_region 2 with fail
 clear g2 c0 c1 c2 c3 c4 c5 c6 c7 c8 c9 c10
 have bb := hb0.below ((Below.refl _ _).alloc (Nat.le_refl _) (.cells #[.int .i64 s.k, .int .i64 s.e, .int .i64 s.b, .int .i64 s.r, .int .i64 s.d, .int .i64 s.g, .int .i64 s.q, .int .i64 s.f, .bool s.o] 33))
 have cx := Bx.newAt W0 33 [.int .i64 s.k, .int .i64 s.e, .int .i64 s.b, .int .i64 s.r, .int .i64 s.d, .int .i64 s.g, .int .i64 s.q, .int .i64 s.f, .bool s.o] rfl
 generalize W0.alloc (.cells #[.int .i64 s.k, .int .i64 s.e, .int .i64 s.b, .int .i64 s.r, .int .i64 s.d, .int .i64 s.g, .int .i64 s.q, .int .i64 s.f, .bool s.o] 33) = W1 at bb cx ⊢
 generalize W0.heap.size = mB at cx ⊢
 clear hb0
 have y0 := cx.cell 0 _ rfl; have y1 := cx.cell 1 _ rfl; have y2 := cx.cell 2 _ rfl; have y3 := cx.cell 3 _ rfl; have y4 := cx.cell 4 _ rfl; have y5 := cx.cell 5 _ rfl; have y6 := cx.cell 6 _ rfl; have y7 := cx.cell 7 _ rfl; have y8 := cx.cell 8 _ rfl
 go_upto_region 3 with (go_at_call 136; refine (sizeSpecKind_any _ _ _).mono ?_; rintro e w' ⟨rfl, rfl⟩)
 go_upto_if 24 with fail
 go_cut [6] (fun v W => v = .int .i64 (bornSz s) ∧ KBox w K W ∧ Bx W mB 33 [.int .i64 s.k, .int .i64 s.e, .int .i64 s.b, .int .i64 s.r, .int .i64 s.d, .int .i64 s.g, .int .i64 s.q, .int .i64 s.f, .bool s.o])
 case first =>
  cases k7 : (s.k == 7)
  ·have HV : Hid (bornSz s = szI s.k s.b) := by unfold Hid bornSz; rw [k7]; rfl
   go_wp2
   go_meet
   case rel => exact ⟨by rw [HV.out], bb, cx⟩
  ·have HV : Hid (bornSz s = 32) := by unfold Hid bornSz; rw [k7]; rfl
   go_wp2
   go_meet
   case rel => exact ⟨by rw [HV.out], bb, cx⟩
 case rest =>
  clear bb cx
  clear y0 y1 y2 y3 y4 y5 y6 y7 y8
  obtain ⟨rfl, bb, cx⟩ := hcut
  have HSB : Hid (0 ≤ bornSz s ∧ bornSz s ≤ 4096) := bornSz_bd s
  obtain ⟨sz, hsz⟩ : ∃ sz, bornSz s = sz := ⟨_, rfl⟩
  rw [hsz] at HSB ⊢
  have HSZ : Hid _ := hsz
  clear hsz
  have y1 := cell_regrown (cx.cell 1 _ rfl)
  have p0 := cell_regrown bb.bits
  have HWS0 := fun W => wordSizeL_bel K.bits W
  have HWS : Hid _ := HWS0
  clear HWS0
  have hwr : IntKind.i64.wrap (s.e + sz) = s.e + sz := by have := HBd.out; have := HSB.out; rw [IntKind.wrap_i64]; omega
  cases ha1' : decide (s.e < 128)
  ·cases ha2' : decide (sizeI K.bits < s.e + sz)
   ·have HMM : Hid (memB K.bits s = true) := by unfold Hid memB; rw [HSZ.out, ha1', ha2']; rfl
    go_upto_region 5 with fail
    refine wq_region (by kernel_rfl) (by kernel_rfl) ?_
    repeat (first | (refine wq_step (fun K hK => ?_); go_simp; first | (refine hK _ ?_; clear hK K) | (apply Exists.intro; refine ⟨fun _ => ?_, hK _ ?_⟩; (first | (go_at_call 87; exact Calls.regrown_of (HWS.out _))); clear hK K)))
    refine wq_nil ?_
    intro _ hw'
    obtain ⟨⟨dq, osq⟩, hw''⟩ := hw'
    subst hw''
    have bb2 := bb.below (below_regrown _ dq osq)
    clear bb y1 p0 ha1' ha2' hwr
    have cx2 := cx.below (below_regrown _ dq osq)
    clear cx
    generalize Sort.grow (redrawn wc dq) osq = W2 at bb2 cx2 ⊢
    have HU0 : ∀ W, Lies W K.sP K.sl → Calls Tryz.prog 149 #[.slice K.sP K.sl.length K.sc, .int .i64 (i : Int)] W fun e w' => e = .returned (.int .i64 (cameI K.sl i)) ∧ Below W.heap.size W w' := fun W hW => l3UpSpec_any K.sP K.sc i K.sl W hlen hW hi
    obtain ⟨up, hup⟩ : ∃ up, cameI K.sl i = up := ⟨_, rfl⟩
    rw [hup] at HU0
    have HUP : Hid _ := hup
    have HU : Hid _ := HU0
    clear hup HU0
    have g2 := bb2.cs
    go_upto_region 8 with (go_at_call 149; refine Calls.mono (HU.out _ bb2.b.s) ?_; rintro e W3 ⟨rfl, hb3⟩)
    have bb := bb2.below hb3
    have cx := cx2.below hb3
    clear bb2 cx2 hb3 g2 HU
    have y0 := cx.cell 0 _ rfl; have y1 := cx.cell 1 _ rfl; have y2 := cx.cell 2 _ rfl; have y3 := cx.cell 3 _ rfl; have y4 := cx.cell 4 _ rfl; have y5 := cx.cell 5 _ rfl; have y6 := cx.cell 6 _ rfl; have y7 := cx.cell 7 _ rfl; have y8 := cx.cell 8 _ rfl
    cases ho : s.o
    ·as_aux_lemma =>
     have HO : Hid _ := ho
     rw [ho] at y8
     have hcase := cameI_or K.sl i hi
     rw [HUP.out] at hcase
     rcases hcase with ⟨e1, e2⟩ | ⟨u, hu, hui, e1, e2⟩
     ·have HUS : Hid _ := e2
      clear e2
      subst e1
      go_wp2
      go_ret
      exact ⟨ret_bool (by rw [born_copy HS.out HMM.out HO.out, HUS.out]), bb.bw⟩
     ·have HUS : Hid _ := e2
      clear e2
      subst e1
      obtain ⟨p, hp⟩ : ∃ p, K.sl[u] = p := ⟨_, rfl⟩
      have HPb : Hid (0 ≤ p.e ∧ p.e ≤ 4096 ∧ 0 ≤ p.r ∧ p.r ≤ 7 ∧ 1 ≤ p.k ∧ p.k ≤ 7) := okB_bounds (HOk.out p (by rw [← hp]; exact List.getElem_mem hu))
      rw [hp] at HUS
      have hrow := bb.b.s
      rw [HPs.out] at hrow
      have hcc := hrow.cells B O rfl u hu
      rw [hp] at hcc
      have g2 := bb.cs
      rw [HPs.out] at g2
      obtain ⟨c0, c1, c2, c3, c4, c5, c6, c7, c8, c9, c10⟩ := hcc
      have hu0 : ¬ (u : Int) < 0 := by omega
      have hu1 : (u : Int) < (K.sl.length : Int) := by omega
      clear hp hrow
      go_upto_region 19 with fail
      clear g2 c0 c1 c2 c3 c4 c5 c6 c7 c8 c9 c10
      clear y0 y1 y2 y3 y4 y5 y6 y7 y8
      have bb2 := bb.below ((Below.refl _ _).alloc (Nat.le_refl _) (.cells #[.int .i64 p.k, .int .i64 p.e, .int .i64 p.b, .int .i64 p.r, .int .i64 p.d, .int .i64 p.g, .int .i64 p.q, .int .i64 p.f, .bool p.o] 33))
      have cx2 := cx.below ((Below.refl _ _).alloc (Nat.le_refl _) (.cells #[.int .i64 p.k, .int .i64 p.e, .int .i64 p.b, .int .i64 p.r, .int .i64 p.d, .int .i64 p.g, .int .i64 p.q, .int .i64 p.f, .bool p.o] 33))
      have px := Bx.newAt W3 33 [.int .i64 p.k, .int .i64 p.e, .int .i64 p.b, .int .i64 p.r, .int .i64 p.d, .int .i64 p.g, .int .i64 p.q, .int .i64 p.f, .bool p.o] rfl
      clear bb cx
      generalize W3.alloc (.cells #[.int .i64 p.k, .int .i64 p.e, .int .i64 p.b, .int .i64 p.r, .int .i64 p.d, .int .i64 p.g, .int .i64 p.q, .int .i64 p.f, .bool p.o] 33) = W4 at bb2 cx2 px ⊢
      generalize W3.heap.size = pB at px ⊢
      have y0 := cx2.cell 0 _ rfl; have y1 := cx2.cell 1 _ rfl; have y2 := cx2.cell 2 _ rfl; have y3 := cx2.cell 3 _ rfl; have y4 := cx2.cell 4 _ rfl; have y5 := cx2.cell 5 _ rfl; have y6 := cx2.cell 6 _ rfl; have y7 := cx2.cell 7 _ rfl; have y8 := cx2.cell 8 _ rfl
      have x0 := px.cell 0 _ rfl; have x1 := px.cell 1 _ rfl; have x2 := px.cell 2 _ rfl; have x3 := px.cell 3 _ rfl; have x4 := px.cell 4 _ rfl; have x5 := px.cell 5 _ rfl; have x6 := px.cell 6 _ rfl; have x7 := px.cell 7 _ rfl; have x8 := px.cell 8 _ rfl
      rw [HO.out] at y8
      cases k7 : (s.k == 7)
      ·have HX : Hid (derB s p = belowB s.k s.e s.b s.r s.d s.g s.q s.f s.o p.k p.e p.b p.r p.d p.g p.q p.f p.o) := by unfold Hid derB; rw [k7]; rfl
       have HBe := fun W => belowSpec_any s.k s.e s.b s.r s.d s.g s.q s.f p.k p.e p.b p.r p.d p.g p.q p.f s.o p.o W (by have := HBd.out; omega) (by have := HBd.out; omega) (by have := HPb.out; omega) (by have := HPb.out; omega)
       obtain ⟨bv, hbv⟩ : ∃ bv, belowB s.k s.e s.b s.r s.d s.g s.q s.f s.o p.k p.e p.b p.r p.d p.g p.q p.f p.o = bv := ⟨_, rfl⟩
       rw [hbv] at HBe HX
       rw [HO.out] at HBe
       clear hbv
       go_wp2_with (go_at_call 151; refine (HBe _).mono ?_; rintro e W5 ⟨rfl, hb5⟩)
       go_ret
       exact ⟨ret_bool (by rw [born_copy HS.out HMM.out HO.out, HUS.out]; exact HX.out.symm), (bb2.below hb5).bw⟩
      ·have HX : Hid (derB s p = (p.k == 3 && p.o && (p.e == s.e))) := by unfold Hid derB; rw [k7]; rfl
       have HF : ∀ b, (p.k == 3 && p.o && (p.e == s.e)) = b → Ending.returned (.bool b) = .returned (.bool (bornB K.bits K.sl i)) := fun b hb => ret_bool (by rw [born_copy HS.out HMM.out HO.out, HUS.out]; show b = derB s p; rw [HX.out, hb])
       have HFh : Hid _ := HF
       clear HF
       cases q1 : (p.k == 3)
       ·have HV : Hid ((p.k == 3 && p.o && (p.e == s.e)) = false) := by unfold Hid; rw [q1]; rfl
        go_wp2
        go_ret
        exact ⟨HFh.out _ HV.out, bb2.bw⟩
       ·cases q2 : p.o
        ·have HV : Hid ((p.k == 3 && p.o && (p.e == s.e)) = false) := by unfold Hid; rw [q1, q2]; rfl
         rw [q2] at x8
         go_wp2
         go_ret
         exact ⟨HFh.out _ HV.out, bb2.bw⟩
        ·rw [q2] at x8
         cases q3 : (p.e == s.e)
         ·have HV : Hid ((p.k == 3 && p.o && (p.e == s.e)) = false) := by unfold Hid; rw [q1, q2, q3]; rfl
          go_wp2
          go_ret
          exact ⟨HFh.out _ HV.out, bb2.bw⟩
         ·have HV : Hid ((p.k == 3 && p.o && (p.e == s.e)) = true) := by unfold Hid; rw [q1, q2, q3]; rfl
          go_wp2
          go_ret
          exact ⟨HFh.out _ HV.out, bb2.bw⟩
    ·as_aux_lemma =>
     have HO : Hid _ := ho
     rw [ho] at y8
     go_wp2
     go_loopw [8] (fun v W => bornInv w K mB [.int .i64 s.k, .int .i64 s.e, .int .i64 s.b, .int .i64 s.r, .int .i64 s.d, .int .i64 s.g, .int .i64 s.q, .int .i64 s.f, .bool s.o] i s up v W) (fun v W => i - (intOf v).toNat)
     case atStart => exact ⟨0, Nat.zero_le _, rfl, fun j hj => absurd hj (Nat.not_lt_zero _), bb, cx⟩
     case round =>
      clear bb cx
      clear y0 y1 y2 y3 y4 y5 y6 y7 y8
      obtain ⟨k, hk, rfl, hno, bb, cx⟩ := hrel
      have HN : Hid _ := hno
      clear hno
      by_cases hlt : k < i
      ·have hkl : k < K.sl.length := by omega
       have hk0 : (k : Int) < (i : Int) := by omega
       have hk1 : (k : Int) < (K.sl.length : Int) := by omega
       obtain ⟨u, hu⟩ : ∃ u, K.sl[k] = u := ⟨_, rfl⟩
       have hrow := bb.b.s
       rw [HPs.out] at hrow
       have hcc := hrow.cells B O rfl k hkl
       rw [hu] at hcc
       have g2 := bb.cs
       rw [HPs.out] at g2
       obtain ⟨c0, c1, c2, c3, c4, c5, c6, c7, c8, c9, c10⟩ := hcc
       have HX0 : Hid (meetsB s up K.sl k = (u.o && (cameI K.sl k == up) && meetB s.e (bornSz s) u.e (szI u.k u.b))) := by unfold Hid meetsB; rw [List.getElem?_eq_getElem hkl, hu]
       clear hrow hu
       go_upto_region 13 with fail
       clear g2 c0 c1 c2 c3 c4 c5 c6 c7 c8 c9 c10
       have bb1 := bb.below ((Below.refl _ _).alloc (Nat.le_refl _) (.cells #[.int .i64 u.k, .int .i64 u.e, .int .i64 u.b, .int .i64 u.r, .int .i64 u.d, .int .i64 u.g, .int .i64 u.q, .int .i64 u.f, .bool u.o] 33))
       have cx1 := cx.below ((Below.refl _ _).alloc (Nat.le_refl _) (.cells #[.int .i64 u.k, .int .i64 u.e, .int .i64 u.b, .int .i64 u.r, .int .i64 u.d, .int .i64 u.g, .int .i64 u.q, .int .i64 u.f, .bool u.o] 33))
       have ux := Bx.newAt wr 33 [.int .i64 u.k, .int .i64 u.e, .int .i64 u.b, .int .i64 u.r, .int .i64 u.d, .int .i64 u.g, .int .i64 u.q, .int .i64 u.f, .bool u.o] rfl
       clear bb cx
       generalize wr.alloc (.cells #[.int .i64 u.k, .int .i64 u.e, .int .i64 u.b, .int .i64 u.r, .int .i64 u.d, .int .i64 u.g, .int .i64 u.q, .int .i64 u.f, .bool u.o] 33) = W5 at bb1 cx1 ux ⊢
       generalize wr.heap.size = uB at ux ⊢
       have bb := bb1
       have cx := cx1
       clear bb1 cx1
       have y1 := cell_regrown (cx.cell 1 _ rfl)
       have x0 := cell_regrown (ux.cell 0 _ rfl); have x1 := cell_regrown (ux.cell 1 _ rfl); have x2 := cell_regrown (ux.cell 2 _ rfl); have x8 := cell_regrown (ux.cell 8 _ rfl)
       have p2 := cell_regrown bb.cs
       have HUk0 : ∀ W, Lies W K.sP K.sl → Calls Tryz.prog 149 #[.slice K.sP K.sl.length K.sc, .int .i64 (k : Int)] W fun e w' => e = .returned (.int .i64 (cameI K.sl k)) ∧ Below W.heap.size W w' := fun W hW => l3UpSpec_any K.sP K.sc k K.sl W hlen hW hkl
       obtain ⟨uk, huk⟩ : ∃ uk, cameI K.sl k = uk := ⟨_, rfl⟩
       rw [huk] at HUk0 HX0
       have HUk : Hid _ := HUk0
       have HM0 := fun W => meetSpec_bel s.e sz u.e (szI u.k u.b) W
       rw [HSZ.out] at HX0
       obtain ⟨mv, hmv⟩ : ∃ mv, meetB s.e sz u.e (szI u.k u.b) = mv := ⟨_, rfl⟩
       rw [hmv] at HM0 HX0
       have HM : Hid _ := HM0
       clear HUk0 HM0 huk hmv
       obtain ⟨uo, huo⟩ : ∃ uo, u.o = uo := ⟨_, rfl⟩
       rw [huo] at x8 HX0
       clear huo
       have HX := HX0
       clear HX0
       cases uo
       ·clear x0 x1 x2 y1
        as_aux_lemma =>
        go_upto_region 13 with fail
        refine wq_region (by kernel_rfl) (by kernel_rfl) ?_
        repeat (first | (refine wq_step (fun K hK => ?_); go_simp; first | (refine hK _ ?_; clear hK K) | (apply Exists.intro; refine ⟨fun _ => ?_, hK _ ?_⟩; (first | (go_at_call 149; exact Calls.regrown_of (HUk.out _ (bb.b.s.below (below_regrown _ _ _)))) | (go_at_call 136; exact Calls.regrown_of (sizeSpec_bel u.k u.b _)) | (go_at_call 150; exact Calls.regrown_of (HM.out _))); clear hK K)))
        refine wq_nil ?_
        intro _ hw'
        obtain ⟨⟨dq, osq⟩, hw''⟩ := hw'
        subst hw''
        have bb2 := bb.below (below_regrown _ dq osq)
        have HY : Hid (meetsB s up K.sl k = false) := by unfold Hid; rw [HX.out]; rfl
        have cx2 := cx.below (below_regrown _ dq osq)
        go_wp2
        go_roundw
        case rel => exact ⟨k + 1, by omega, by go_num, fun j hj => by by_cases e : j = k; subst e; exact HY.out; exact HN.out j (by omega), bb2, cx2⟩
        case measure => simp [intOf]; omega
       ·cases hq : (uk == up)
        ·rw [hq] at HX
         as_aux_lemma =>
         go_upto_region 13 with fail
         refine wq_region (by kernel_rfl) (by kernel_rfl) ?_
         repeat (first | (refine wq_step (fun K hK => ?_); go_simp; first | (refine hK _ ?_; clear hK K) | (apply Exists.intro; refine ⟨fun _ => ?_, hK _ ?_⟩; (first | (go_at_call 149; exact Calls.regrown_of (HUk.out _ (bb.b.s.below (below_regrown _ _ _)))) | (go_at_call 136; exact Calls.regrown_of (sizeSpec_bel u.k u.b _)) | (go_at_call 150; exact Calls.regrown_of (HM.out _))); clear hK K)))
         refine wq_nil ?_
         intro _ hw'
         obtain ⟨⟨dq, osq⟩, hw''⟩ := hw'
         subst hw''
         have bb2 := bb.below (below_regrown _ dq osq)
         have HY : Hid (meetsB s up K.sl k = false) := by unfold Hid; rw [HX.out]; rfl
         have cx2 := cx.below (below_regrown _ dq osq)
         go_wp2
         go_roundw
         case rel => exact ⟨k + 1, by omega, by go_num, fun j hj => by by_cases e : j = k; subst e; exact HY.out; exact HN.out j (by omega), bb2, cx2⟩
         case measure => simp [intOf]; omega
        ·rw [hq] at HX
         cases mv
         ·skip
          as_aux_lemma =>
          go_upto_region 13 with fail
          refine wq_region (by kernel_rfl) (by kernel_rfl) ?_
          repeat (first | (refine wq_step (fun K hK => ?_); go_simp; first | (refine hK _ ?_; clear hK K) | (apply Exists.intro; refine ⟨fun _ => ?_, hK _ ?_⟩; (first | (go_at_call 149; exact Calls.regrown_of (HUk.out _ (bb.b.s.below (below_regrown _ _ _)))) | (go_at_call 136; exact Calls.regrown_of (sizeSpec_bel u.k u.b _)) | (go_at_call 150; exact Calls.regrown_of (HM.out _))); clear hK K)))
          refine wq_nil ?_
          intro _ hw'
          obtain ⟨⟨dq, osq⟩, hw''⟩ := hw'
          subst hw''
          have bb2 := bb.below (below_regrown _ dq osq)
          have HY : Hid (meetsB s up K.sl k = false) := by unfold Hid; rw [HX.out]; rfl
          have cx2 := cx.below (below_regrown _ dq osq)
          go_wp2
          go_roundw
          case rel => exact ⟨k + 1, by omega, by go_num, fun j hj => by by_cases e : j = k; subst e; exact HY.out; exact HN.out j (by omega), bb2, cx2⟩
          case measure => simp [intOf]; omega
         ·skip
          as_aux_lemma =>
          go_upto_region 13 with fail
          refine wq_region (by kernel_rfl) (by kernel_rfl) ?_
          repeat (first | (refine wq_step (fun K hK => ?_); go_simp; first | (refine hK _ ?_; clear hK K) | (apply Exists.intro; refine ⟨fun _ => ?_, hK _ ?_⟩; (first | (go_at_call 149; exact Calls.regrown_of (HUk.out _ (bb.b.s.below (below_regrown _ _ _)))) | (go_at_call 136; exact Calls.regrown_of (sizeSpec_bel u.k u.b _)) | (go_at_call 150; exact Calls.regrown_of (HM.out _))); clear hK K)))
          refine wq_nil ?_
          intro _ hw'
          obtain ⟨⟨dq, osq⟩, hw''⟩ := hw'
          subst hw''
          have bb2 := bb.below (below_regrown _ dq osq)
          have HY : Hid (meetsB s up K.sl k = true) := by unfold Hid; rw [HX.out]; rfl
          go_wp2
          go_ret
          exact ⟨ret_bool (born_meet HS.out HO.out (by omega) (by rw [HUP.out]; exact HY.out)).symm, bb2.bw⟩
      ·have hke : ¬ (k : Int) < (i : Int) := by omega
       have y1 := cell_regrown (cx.cell 1 _ rfl)
       have hcase := cameI_or K.sl i hi
       rw [HUP.out] at hcase
       rcases hcase with ⟨e1, e2⟩ | ⟨u, hu, hui, e1, e2⟩
       ·have HUS : Hid _ := e2
        clear e2
        subst e1
        as_aux_lemma =>
        go_upto_region 15 with fail
        refine wq_region (by kernel_rfl) (by kernel_rfl) ?_
        repeat (first | (refine wq_step (fun K hK => ?_); go_simp; first | (refine hK _ ?_; clear hK K) | (apply Exists.intro; refine ⟨fun _ => ?_, hK _ ?_⟩; (first | (go_at_call 135; exact Calls.regrown_of (HI.out _))); clear hK K)))
        refine wq_nil ?_
        intro _ hw'
        obtain ⟨⟨dq, osq⟩, hw''⟩ := hw'
        subst hw''
        have bb2 := bb.below (below_regrown _ dq osq)
        go_wp2
        go_ret
        exact ⟨ret_bool (by rw [born_orig HS.out HMM.out HO.out (fun j hj => by rw [HUP.out]; exact HN.out j (by omega))]; rw [HUS.out]; try (first | rfl | exact HX.out.symm)), bb2.bw⟩
       ·have HUS : Hid _ := e2
        clear e2
        subst e1
        obtain ⟨p, hp⟩ : ∃ p, K.sl[u] = p := ⟨_, rfl⟩
        rw [hp] at HUS
        have hrow := bb.b.s
        rw [HPs.out] at hrow
        have hcc := hrow.cells B O rfl u hu
        rw [hp] at hcc
        have p2 := cell_regrown bb.cs
        rw [HPs.out] at p2
        obtain ⟨c0, c1, c2, c3, c4, c5, c6, c7, c8, c9, c10⟩ := hcc
        have q1 := cell_regrown c1
        have q2 := cell_regrown c2
        have q8 := cell_regrown c8
        have hu0 : decide ((u : Int) < 0) = false := by simp
        have hu1 : (u : Int) < (K.sl.length : Int) := by omega
        have hu2 : (0 : Int) ≤ (u : Int) := by omega
        have HX0 : Hid (usedB s p = (p.k == 1 && inB s.e (bornSz s) p.e p.f)) := rfl
        have HI0 := fun W => inSpec_bel s.e sz p.e p.f W
        rw [HSZ.out] at HX0
        obtain ⟨iv, hiv⟩ : ∃ iv, inB s.e sz p.e p.f = iv := ⟨_, rfl⟩
        rw [hiv] at HI0 HX0
        have HI : Hid _ := HI0
        clear HI0 hiv hp hrow c0 c1 c2 c3 c4 c5 c6 c7 c8 c9 c10
        cases hk1 : (p.k == 1)
        ·have HX : Hid (usedB s p = false) := by unfold Hid; rw [HX0.out, hk1]; rfl
         as_aux_lemma =>
         go_upto_region 15 with fail
         refine wq_region (by kernel_rfl) (by kernel_rfl) ?_
         repeat (first | (refine wq_step (fun K hK => ?_); go_simp; first | (refine hK _ ?_; clear hK K) | (apply Exists.intro; refine ⟨fun _ => ?_, hK _ ?_⟩; (first | (go_at_call 135; exact Calls.regrown_of (HI.out _))); clear hK K)))
         refine wq_nil ?_
         intro _ hw'
         obtain ⟨⟨dq, osq⟩, hw''⟩ := hw'
         subst hw''
         have bb2 := bb.below (below_regrown _ dq osq)
         go_wp2
         go_ret
         exact ⟨ret_bool (by rw [born_orig HS.out HMM.out HO.out (fun j hj => by rw [HUP.out]; exact HN.out j (by omega))]; rw [HUS.out]; try (first | rfl | exact HX.out.symm)), bb2.bw⟩
        ·have HX : Hid (usedB s p = iv) := by unfold Hid; rw [HX0.out, hk1]; rfl
         as_aux_lemma =>
         go_upto_region 15 with fail
         refine wq_region (by kernel_rfl) (by kernel_rfl) ?_
         repeat (first | (refine wq_step (fun K hK => ?_); go_simp; first | (refine hK _ ?_; clear hK K) | (apply Exists.intro; refine ⟨fun _ => ?_, hK _ ?_⟩; (first | (go_at_call 135; exact Calls.regrown_of (HI.out _))); clear hK K)))
         refine wq_nil ?_
         intro _ hw'
         obtain ⟨⟨dq, osq⟩, hw''⟩ := hw'
         subst hw''
         have bb2 := bb.below (below_regrown _ dq osq)
         go_wp2
         go_ret
         exact ⟨ret_bool (by rw [born_orig HS.out HMM.out HO.out (fun j hj => by rw [HUP.out]; exact HN.out j (by omega))]; rw [HUS.out]; try (first | rfl | exact HX.out.symm)), bb2.bw⟩
   ·have ha1 : Hid _ := ha1'
    have ha2 : Hid _ := ha2'
    as_aux_lemma =>
    go_upto_region 5 with fail
    refine wq_region (by kernel_rfl) (by kernel_rfl) ?_
    repeat (first | (refine wq_step (fun K hK => ?_); go_simp; first | (refine hK _ ?_; clear hK K) | (apply Exists.intro; refine ⟨fun _ => ?_, hK _ ?_⟩; (first | (go_at_call 87; exact Calls.regrown_of (HWS.out _))); clear hK K)))
    refine wq_nil ?_
    intro _ hw'
    obtain ⟨⟨dq, osq⟩, hw''⟩ := hw'
    subst hw''
    have bb2 := bb.below (below_regrown _ dq osq)
    have HY : Hid (memB K.bits s = false) := by unfold Hid memB; rw [HSZ.out]; simp only [ha1.out, ha2.out]; rfl
    go_wp2
    go_ret
    exact ⟨ret_bool (born_mem HS.out HY.out).symm, bb2.bw⟩
  ·obtain ⟨a2, ha2⟩ : ∃ a2, decide (sizeI K.bits < s.e + sz) = a2 := ⟨_, rfl⟩
   have ha1 : Hid _ := ha1'
   have ha2 : Hid _ := ha2
   as_aux_lemma =>
   go_upto_region 5 with fail
   refine wq_region (by kernel_rfl) (by kernel_rfl) ?_
   repeat (first | (refine wq_step (fun K hK => ?_); go_simp; first | (refine hK _ ?_; clear hK K) | (apply Exists.intro; refine ⟨fun _ => ?_, hK _ ?_⟩; (first | (go_at_call 87; exact Calls.regrown_of (HWS.out _))); clear hK K)))
   refine wq_nil ?_
   intro _ hw'
   obtain ⟨⟨dq, osq⟩, hw''⟩ := hw'
   subst hw''
   have bb2 := bb.below (below_regrown _ dq osq)
   have HY : Hid (memB K.bits s = false) := by unfold Hid memB; rw [HSZ.out]; simp only [ha1.out]; rfl
   go_wp2
   go_ret
   exact ⟨ret_bool (born_mem HS.out HY.out).symm, bb2.bw⟩

end Go.Proofs.YtigpbjcmmgdiaaaGreat
