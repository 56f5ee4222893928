/-
  Texts of the proof, put together: ViewA, CameImpl, UpsImpl, ViewB.
-/
import Derived.Test.YtigpbjcmmgdiaaaGreatRa
import Derived.Test.YtigpbjcmmgdiaaaGreatRb
import Derived.Test.YtigpbjcmmgdiaaaGreatBi
import Derived.Test.YtigpbjcmmgdiaaaGreatRc
import Derived.Test.YtigpbjcmmgdiaaaGreatBb
import Derived.Test.YtigpbjcmmgdiaaaGreatBw
/-
 What the first checks of a view answer: its bounds, whether each object lies in memory. Conditions: the view lies in memory; what its slots hold is ok.
-/
namespace Go.Proofs.YtigpbjcmmgdiaaaGreat
open Go.ChangeShapes Go.WideShapes Go.ChangeAt Go.RowKit
set_option linter.unusedVariables false

def boundsB (K : QK) : Bool := withinB K.bits 9 12 && withinB K.ticks 0 1000000
/-- It lies in memory, by the program. -/
def memI (bits : Int) (s : Sl) : Bool := decide (128 ≤ s.e ∧ s.e + bornSz s ≤ 128 + (sizeI bits - 128))
theorem memI_same {bits : Int} (s : Sl) : memI bits s = memB bits s := by
 unfold memI memB
 rw [Bool.eq_iff_iff]; simp; omega
theorem size_bits {bits : Int} (h : withinB bits 9 12 = true) : 512 ≤ sizeI bits ∧ sizeI bits ≤ 4096 := by
 unfold withinB at h; simp only [decide_eq_true_eq] at h
 have : bits = 9 ∨ bits = 10 ∨ bits = 11 ∨ bits = 12 := by omega
 rcases this with e | e | e | e <;> subst e <;> decide

set_option maxRecDepth 100000 in
set_option maxHeartbeats 4000000 in
theorem boundsOk_any (w0 : World) (K : QK) (vB : Nat) (fs : List Value) (w : World) (h : View w0 K vB fs w) :
  Calls Tryz.prog 62 #[.pointer (some ⟨vB, 0, none⟩)] w fun e w' => e = .returned (.bool (boundsB K)) ∧ w' = w := by
 have g0 := h.bits
 have g1 := h.ticks
 have HB : Hid (boundsB K = (withinB K.bits 9 12 && withinB K.ticks 0 1000000)) := rfl
 cases h1 : withinB K.bits 9 12
 ·have HX : Hid (boundsB K = false) := by unfold Hid; rw [HB.out, h1]; rfl
  go_enter Tryz.func62, Tryz.ntmps62
  go_wp2_with (go_at_call 99; refine (within_no _ _ _ _ h1).mono ?_; rintro e w' ⟨rfl, rfl⟩)
  go_ret
  exact ⟨ret_bool HX.out.symm, rfl⟩
 ·cases h2 : withinB K.ticks 0 1000000
  ·have HX : Hid (boundsB K = false) := by unfold Hid; rw [HB.out, h1, h2]; rfl
   go_enter Tryz.func62, Tryz.ntmps62
   go_wp2_with (go_at_call 99; first | (have _q := mk1; refine (within_no _ _ _ _ h2).mono ?_; rintro e w' ⟨rfl, rfl⟩) | (refine (within_yes _ _ _ _ h1).mono ?_; rintro e w' ⟨rfl, rfl⟩; have mk1 := True.intro))
   go_ret
   exact ⟨ret_bool HX.out.symm, rfl⟩
  ·have HX : Hid (boundsB K = true) := by unfold Hid; rw [HB.out, h1, h2]; rfl
   go_enter Tryz.func62, Tryz.ntmps62
   go_wp2_with (go_at_call 99; first | (have _q := mk1; refine (within_yes _ _ _ _ h2).mono ?_; rintro e w' ⟨rfl, rfl⟩) | (refine (within_yes _ _ _ _ h1).mono ?_; rintro e w' ⟨rfl, rfl⟩; have mk1 := True.intro))
   go_ret
   exact ⟨ret_bool HX.out.symm, rfl⟩

def memInv (w0 : World) (K : QK) (vB mB : Nat) (fs : List Value) (sz : Int) (w : World) (v : Value) (W : World) : Prop :=
 ∃ k : Nat, k ≤ K.sl.length ∧ v = .int .i64 (k : Int) ∧ (∀ i (hi : i < K.sl.length), i < k → memI K.bits K.sl[i] = true) ∧ View w0 K vB fs W ∧ Bx W mB 152 [.int .u32 128, .int .u32 sz] ∧ Below w.heap.size w W
set_option maxRecDepth 100000 in
set_option maxHeartbeats 8000000 in
theorem memoryOk_any (w0 : World) (K : QK) (vB : Nat) (fs : List Value) (w : World) (hs : K.Short) (hb : withinB K.bits 9 12 = true) (hok : ∀ s ∈ K.sl, okB s.k s.e s.b s.r s.d s.g s.q s.f s.o = true) (h : View w0 K vB fs w) :
  Calls Tryz.prog 64 #[.pointer (some ⟨vB, 0, none⟩)] w fun e w' => e = .returned (.bool (K.sl.all (memI K.bits))) ∧ Below w.heap.size w w' := by
 have hlen := hs.s
 have g0 := h.bits
 have hsz := size_bits hb
 have HMI : Hid (∀ s, memI K.bits s = decide (128 ≤ s.e ∧ s.e + bornSz s ≤ 128 + (sizeI K.bits - 128))) := fun s => rfl
 obtain ⟨sz, hszq⟩ : ∃ sz, sizeI K.bits = sz := ⟨_, rfl⟩
 have HS0 := fun W => sizeImpl_any K.bits W
 rw [hszq] at HS0 hsz
 have HSz : Hid _ := hszq
 clear hszq
 have hf : fineB 128 (sz - 128) = true := fineB_mk (by omega)
 have HR0 := fun W => rangeOf_fine 128 (sz - 128) W hf
 have hw1 : IntKind.i64.wrap (sz - 128) = sz - 128 := by rw [IntKind.wrap_i64]; omega
 have hbel := Below.refl w.heap.size w
 have HOk : Hid _ := hok
 clear hok hf
 go_enter Tryz.func64, Tryz.ntmps64
 go_upto_region 2 with (first
  | (go_at_call 105; refine (HS0 _).mono ?_; rintro e w1 ⟨rfl, hw⟩; have hw := hw.symm; subst hw)
  | (go_at_call 104; refine (HR0 _).mono ?_; rintro e w2 ⟨rfl, hw⟩; subst hw))
 have hx1 := h.below ((Below.refl _ _).alloc (Nat.le_refl _) (.cells #[.int .u32 128, .int .u32 (sz - 128)] 152))
 have hx2 := hx1.below ((Below.refl _ _).alloc (Nat.le_refl _) (.cells #[.int .u32 128, .int .u32 (sz - 128)] 152))
 have rx2 := Bx.newAt (w.alloc (.cells #[.int .u32 128, .int .u32 (sz - 128)] 152)) 152 [.int .u32 128, .int .u32 (sz - 128)] (c := w.heap.size + 1) (by simp)
 have hb2 : Below w.heap.size w ((w.alloc (.cells #[.int .u32 128, .int .u32 (sz - 128)] 152)).alloc (.cells #[.int .u32 128, .int .u32 (sz - 128)] 152)) := ((Below.refl _ _).alloc (Nat.le_refl _) _).alloc (by simp) _
 clear hx1 h g0 hbel HS0 HR0 hw1
 generalize (w.alloc (.cells #[.int .u32 128, .int .u32 (sz - 128)] 152)).alloc (.cells #[.int .u32 128, .int .u32 (sz - 128)] 152) = W1 at hx2 rx2 hb2 ⊢
 generalize w.heap.size + 1 = mB at rx2 ⊢
 have g2 := hx2.cs
 have HNo : Hid (∀ (k : Nat) (hk : k < K.sl.length), memI K.bits K.sl[k] = false → K.sl.all (memI K.bits) = false) := fun k hk hx => by rw [List.all_eq_false]; exact ⟨_, List.getElem_mem hk, by simp [hx]⟩
 have HYes : Hid ((∀ i (hi : i < K.sl.length), memI K.bits K.sl[i] = true) → K.sl.all (memI K.bits) = true) := fun hx => by
  rw [List.all_eq_true]; intro s hs2
  obtain ⟨i, hi, rfl⟩ := List.mem_iff_getElem.1 hs2
  exact hx i hi
 go_wp2
 go_loopw [19] (fun v W => memInv w0 K vB mB fs (sz - 128) w v W) (fun v W => K.sl.length - (intOf v).toNat)
 case atStart => exact ⟨0, Nat.zero_le _, rfl, fun i hi h => absurd h (Nat.not_lt_zero _), hx2, rx2, hb2⟩
 case round =>
  clear hx2 rx2 hb2 g2
  obtain ⟨k, hk, rfl, hno, hv, hr, hbl⟩ := hrel
  have HN : Hid _ := hno
  clear hno
  by_cases hlt : k < K.sl.length
  ·have hk1 : (k : Int) < (K.sl.length : Int) := by omega
   have hrow := hv.b.s
   obtain ⟨B, O, hP⟩ := hrow.some hlt
   rw [hP] at hrow
   have hcc := hrow.cells B O rfl k hlt
   obtain ⟨s, hsl⟩ : ∃ s, K.sl[k] = s := ⟨_, rfl⟩
   rw [hsl] at hcc
   have g2 := hv.cs
   rw [hP] at g2
   have p := ok_parts (HOk.out s (by rw [← hsl]; exact List.getElem_mem hlt))
   have HCR0 := fun W => capRange_any s.k s.e s.b s.r s.d s.g s.q s.f s.o W p.1 p.2.1 (by rw [p.2.2.2.2.2.2.2.2.1]; exact fineB_mk (by omega))
   have HWi0 := fun W => withinM_any s.e (bornSz s) 128 (sz - 128) W (by omega) (by omega) (by omega) (by omega) (by omega) (by omega) (by omega) (by omega)
   have HX0 : Hid (memI K.bits K.sl[k] = decide (128 ≤ s.e ∧ s.e + bornSz s ≤ 128 + (sz - 128))) := by unfold Hid; rw [hsl, HMI.out, HSz.out]
   rw [p.2.2.2.2.2.2.2.2.1] at HCR0
   generalize bornSz s = bz at HCR0 HWi0 HX0
   obtain ⟨dv, hdv⟩ : ∃ dv, decide (128 ≤ s.e ∧ s.e + bz ≤ 128 + (sz - 128)) = dv := ⟨_, rfl⟩
   rw [hdv] at HWi0 HX0
   have HCR : Hid _ := HCR0
   have HWi : Hid _ := HWi0
   clear hdv HCR0 HWi0 p hP hrow hsl
   obtain ⟨c0, c1, c2, c3, c4, c5, c6, c7, c8, c9, c10⟩ := hcc
   have p2 := cell_regrown g2
   have d1 := cell_regrown c1
   have d2 := cell_regrown c2
   have d3 := cell_regrown c3
   have d4 := cell_regrown c4
   have d5 := cell_regrown c5
   have d6 := cell_regrown c6
   have d7 := cell_regrown c7
   have d8 := cell_regrown c8
   have d9 := cell_regrown c9
   have r0 := cell_regrown (hr.cell 0 _ rfl)
   have r1 := cell_regrown (hr.cell 1 _ rfl)
   clear c0 c1 c2 c3 c4 c5 c6 c7 c8 c9 c10
   go_upto_region 5 with fail
   refine wq_region (by kernel_rfl) (by kernel_rfl) ?_
   repeat (first | (refine wq_step (fun K hK => ?_); go_simp; first | (refine hK _ ?_; clear hK K) | (apply Exists.intro; refine ⟨fun _ => ?_, hK _ ?_⟩; (first | (go_at_call 106; exact Calls.regrown_of (HCR.out _)) | (go_at_call 107; exact Calls.regrown_of (HWi.out _))); clear hK K)))
   refine wq_nil ?_
   intro _ hw'
   obtain ⟨⟨dq, osq⟩, hw''⟩ := hw'
   subst hw''
   have hv2 := hv.below (below_regrown _ dq osq)
   have hr2 := hr.below (below_regrown _ dq osq)
   have hbl2 := hbl.trans ((below_regrown _ dq osq).mono hbl.size)
   cases dv
   ·go_wp2
    go_ret
    exact ⟨ret_bool (HNo.out k hlt HX0.out).symm, hbl2⟩
   ·go_wp2
    go_roundw
    case rel => exact ⟨k + 1, by omega, by go_num, fun i hi h => by by_cases e : i = k; subst e; exact HX0.out; exact HN.out i hi (by omega), hv2, hr2, hbl2⟩
    case measure => simp [intOf]; omega
  ·have hk1 : ¬ (k : Int) < (K.sl.length : Int) := by omega
   go_wp2
   go_ret
   exact ⟨ret_bool (HYes.out (fun i hi => HN.out i hi (by omega))).symm, hbl⟩

end Go.Proofs.YtigpbjcmmgdiaaaGreat
/-
 Whether a capability may have come of another one, by the program. Condition: both are ok.
-/
namespace Go.Proofs.YtigpbjcmmgdiaaaGreat
open Go.ChangeShapes Go.WideShapes Go.ChangeAt Go.RowKit
set_option linter.unusedVariables false

theorem okB_bounds9 {k a b r d g q f : Int} {o : Bool} (h : okB k a b r d g q f o = true) : 0 ≤ r ∧ r ≤ 7 := by
 unfold okB at h
 simp only [Bool.and_eq_true] at h
 obtain ⟨⟨⟨⟨⟨h1, h2⟩, h3⟩, h4⟩, h5⟩, h6⟩ := h
 have hm := maxI_bd k
 simp only [withinB, decide_eq_true_eq] at h1 h2
 omega
theorem rangeOf_p (a s : Int) (h0 : 0 ≤ a) (h1 : a ≤ 4096) (h2 : 0 ≤ s) (h3 : s ≤ 4096) : ∃ ra rs : Int, 0 ≤ ra ∧ ra ≤ 4096 ∧ 0 ≤ rs ∧ rs ≤ 4096 ∧ (∀ w, Calls Tryz.prog 104 #[.int .i64 a, .int .i64 s] w fun e w' => e = .returned (.agg #[.int .u32 ra, .int .u32 rs]) ∧ Below w.heap.size w w') ∧ ∀ b t : Int, 0 ≤ b → 0 < t → b ≤ 4096 → t ≤ 4096 → decide (ra ≤ b ∧ b + t ≤ ra + rs) = inB b t a s := by
 by_cases hz : 0 < s
 ·exact ⟨a, s, h0, h1, h2, h3, fun w => rangeOf_b a s w (fineB_mk (by omega)), fun b t k1 k2 k3 k4 => by rw [Bool.eq_iff_iff, in_iff, decide_eq_true_eq]; omega⟩
 ·refine ⟨0, 0, by omega, by omega, by omega, by omega, fun w => ?_, fun b t k1 k2 k3 k4 => by rw [Bool.eq_iff_iff, in_iff, decide_eq_true_eq]; omega⟩
  exact (rangeOf_no a s w (fineB_no (by omega))).mono fun e w' ⟨h1, h2⟩ => ⟨h1, by rw [h2]; exact (Below.refl _ _).alloc (Nat.le_refl _) _⟩
set_option maxRecDepth 100000 in
set_option maxHeartbeats 8000000 in
theorem kernCame_any (s p : Sl) (w : World) (hs : okB s.k s.e s.b s.r s.d s.g s.q s.f s.o = true) (hp : okB p.k p.e p.b p.r p.d p.g p.q p.f p.o = true) :
  Calls Tryz.prog 108 #[.agg #[.int .i64 s.k, .int .i64 s.e, .int .i64 s.b, .int .i64 s.r, .int .i64 s.d, .int .i64 s.g, .int .i64 s.q, .int .i64 s.f, .bool s.o], .agg #[.int .i64 p.k, .int .i64 p.e, .int .i64 p.b, .int .i64 p.r, .int .i64 p.d, .int .i64 p.g, .int .i64 p.q, .int .i64 p.f, .bool p.o]] w fun e w' => e = .returned (.bool (cameB s p)) ∧ Below w.heap.size w w' := by
 have xB := (Bx.new w 33 [.int .i64 s.k, .int .i64 s.e, .int .i64 s.b, .int .i64 s.r, .int .i64 s.d, .int .i64 s.g, .int .i64 s.q, .int .i64 s.f, .bool s.o]).alloc (.cells #[.int .i64 p.k, .int .i64 p.e, .int .i64 p.b, .int .i64 p.r, .int .i64 p.d, .int .i64 p.g, .int .i64 p.q, .int .i64 p.f, .bool p.o] 33)
 have yB := Bx.newAt (w.alloc (.cells #[.int .i64 s.k, .int .i64 s.e, .int .i64 s.b, .int .i64 s.r, .int .i64 s.d, .int .i64 s.g, .int .i64 s.q, .int .i64 s.f, .bool s.o] 33)) 33 [.int .i64 p.k, .int .i64 p.e, .int .i64 p.b, .int .i64 p.r, .int .i64 p.d, .int .i64 p.g, .int .i64 p.q, .int .i64 p.f, .bool p.o] (c := w.heap.size + 1) (by simp)
 have bw : Below w.heap.size w ((w.alloc (.cells #[.int .i64 s.k, .int .i64 s.e, .int .i64 s.b, .int .i64 s.r, .int .i64 s.d, .int .i64 s.g, .int .i64 s.q, .int .i64 s.f, .bool s.o] 33)).alloc (.cells #[.int .i64 p.k, .int .i64 p.e, .int .i64 p.b, .int .i64 p.r, .int .i64 p.d, .int .i64 p.g, .int .i64 p.q, .int .i64 p.f, .bool p.o] 33)) := ((Below.refl _ _).alloc (Nat.le_refl _) _).alloc (by simp) _
 have HS : Hid _ := hs
 have HP : Hid _ := hp
 have P1 := ok_parts hs
 have P2 := ok_parts hp
 have r1 := okB_bounds9 hs
 have r2 := okB_bounds9 hp
 clear hs hp
 go_enter Tryz.func108, Tryz.ntmps108
 go_upto_region 1 with fail
 generalize (w.alloc (.cells #[.int .i64 s.k, .int .i64 s.e, .int .i64 s.b, .int .i64 s.r, .int .i64 s.d, .int .i64 s.g, .int .i64 s.q, .int .i64 s.f, .bool s.o] 33)).alloc (.cells #[.int .i64 p.k, .int .i64 p.e, .int .i64 p.b, .int .i64 p.r, .int .i64 p.d, .int .i64 p.g, .int .i64 p.q, .int .i64 p.f, .bool p.o] 33) = W0 at xB yB bw ⊢
 have x0 := xB.cell 0 _ rfl; have x1 := xB.cell 1 _ rfl; have x2 := xB.cell 2 _ rfl; have x3 := xB.cell 3 _ rfl; have x4 := xB.cell 4 _ rfl; have x5 := xB.cell 5 _ rfl; have x6 := xB.cell 6 _ rfl; have x7 := xB.cell 7 _ rfl; have x8 := xB.cell 8 _ rfl
 have y0 := yB.cell 0 _ rfl; have y1 := yB.cell 1 _ rfl; have y2 := yB.cell 2 _ rfl; have y3 := yB.cell 3 _ rfl; have y4 := yB.cell 4 _ rfl; have y5 := yB.cell 5 _ rfl; have y6 := yB.cell 6 _ rfl; have y7 := yB.cell 7 _ rfl; have y8 := yB.cell 8 _ rfl
 cases ho : s.o
 ·rw [ho] at x8
  have HC0 : Hid (cameB s p = derB s p) := by unfold Hid cameB; rw [ho]; rfl
  have HO : Hid _ := ho
  clear ho P1 P2
  cases k7 : (s.k == 7)
  ·have HC : Hid (cameB s p = belowB s.k s.e s.b s.r s.d s.g s.q s.f s.o p.k p.e p.b p.r p.d p.g p.q p.f p.o) := by unfold Hid; rw [HC0.out]; unfold derB; rw [k7]; rfl
   have HBe := fun W => belowImpl_any s.k s.e s.b s.r s.d s.g s.q s.f p.k p.e p.b p.r p.d p.g p.q p.f s.o p.o W (by omega) (by omega) (by omega) (by omega)
   rw [← HC.out] at HBe
   obtain ⟨bv, hbv⟩ : ∃ bv, cameB s p = bv := ⟨_, rfl⟩
   rw [hbv] at HBe
   have HBV : Hid _ := hbv
   rw [HO.out] at HBe
   clear hbv
   go_wp2_with (go_at_call 159; refine (HBe _).mono ?_; rintro e W5 ⟨rfl, hb5⟩)
   go_ret
   exact ⟨ret_bool HBV.out.symm, bw.trans (hb5.mono bw.size)⟩
  ·have HC : Hid (cameB s p = (p.k == 3 && p.o && (p.e == s.e))) := by unfold Hid; rw [HC0.out]; unfold derB; rw [k7]; rfl
   have HF : Hid (∀ b, (p.k == 3 && p.o && (p.e == s.e)) = b → Ending.returned (.bool b) = .returned (.bool (cameB s p))) := fun b hb => ret_bool (by rw [HC.out, hb])
   cases q1 : (p.k == 3)
   ·have HV : Hid ((p.k == 3 && p.o && (p.e == s.e)) = false) := by unfold Hid; rw [q1]; rfl
    go_wp2
    go_ret
    exact ⟨HF.out _ HV.out, bw⟩
   ·cases q2 : p.o
    ·have HV : Hid ((p.k == 3 && p.o && (p.e == s.e)) = false) := by unfold Hid; rw [q1, q2]; rfl
     rw [q2] at y8
     go_wp2
     go_ret
     exact ⟨HF.out _ HV.out, bw⟩
    ·rw [q2] at y8
     cases q3 : (p.e == s.e)
     ·have HV : Hid ((p.k == 3 && p.o && (p.e == s.e)) = false) := by unfold Hid; rw [q1, q2, q3]; rfl
      go_wp2
      go_ret
      exact ⟨HF.out _ HV.out, bw⟩
     ·have HV : Hid ((p.k == 3 && p.o && (p.e == s.e)) = true) := by unfold Hid; rw [q1, q2, q3]; rfl
      go_wp2
      go_ret
      exact ⟨HF.out _ HV.out, bw⟩
 ·rw [ho] at x8
  have HC0 : Hid (cameB s p = (p.k == 1 && inB s.e (bornSz s) p.e p.f)) := by unfold Hid cameB usedB; rw [ho]; rfl
  cases k1 : (p.k == 1)
  ·have HC : Hid (cameB s p = false) := by unfold Hid; rw [HC0.out, k1]; rfl
   clear P1 P2
   have b0 := cell_regrown y0
   go_upto_region 2 with fail
   refine wq_region (by kernel_rfl) (by kernel_rfl) ?_
   repeat (first | (refine wq_step (fun K hK => ?_); go_simp; first | (refine hK _ ?_; clear hK K) | (apply Exists.intro; refine ⟨fun _ => ?_, hK _ ?_⟩; fail; clear hK K)))
   refine wq_nil ?_
   intro _ hw'
   obtain ⟨⟨dq, osq⟩, hw''⟩ := hw'
   subst hw''
   go_wp2
   go_ret
   exact ⟨ret_bool HC.out.symm, bw.trans ((below_regrown _ dq osq).mono bw.size)⟩
  ·have hk1 : p.k = 1 := by simpa using k1
   have hf := P2.2.2.2.2.2.2.2.2.2.1 hk1
   obtain ⟨ra, rs, h1, h2, h3, h4, HRO0, HIn⟩ := rangeOf_p p.e p.f (by omega) (by omega) (by omega) (by omega)
   have HCR0 := fun W => capRange_any s.k s.e s.b s.r s.d s.g s.q s.f s.o W P1.1 P1.2.1 (by rw [P1.2.2.2.2.2.2.2.2.1]; exact fineB_mk (by omega))
   rw [P1.2.2.2.2.2.2.2.2.1, ho] at HCR0
   have HWi0 := fun W => withinM_any s.e (bornSz s) ra rs W (by omega) (by omega) (by omega) (by omega) (by omega) (by omega) (by omega) (by omega)
   have HX := HIn s.e (bornSz s) (by omega) (by omega) (by omega) (by omega)
   obtain ⟨dv, hdv⟩ : ∃ dv, decide (ra ≤ s.e ∧ s.e + bornSz s ≤ ra + rs) = dv := ⟨_, rfl⟩
   rw [hdv] at HWi0 HX
   have HC : Hid (cameB s p = dv) := by unfold Hid; rw [HC0.out, k1, HX]; rfl
   generalize bornSz s = bz at HCR0 HWi0
   have HCR : Hid _ := HCR0
   have HRO : Hid _ := HRO0
   have HWi : Hid _ := HWi0
   clear hdv HX HIn HCR0 HRO0 HWi0 P1 P2 hf h1 h2 h3 h4
   have a0 := cell_regrown x0; have a1 := cell_regrown x1; have a2 := cell_regrown x2; have a3 := cell_regrown x3; have a4 := cell_regrown x4; have a5 := cell_regrown x5; have a6 := cell_regrown x6; have a7 := cell_regrown x7; have a8 := cell_regrown x8
   have b0 := cell_regrown y0; have b1 := cell_regrown y1; have b7 := cell_regrown y7
   go_upto_region 2 with fail
   refine wq_region (by kernel_rfl) (by kernel_rfl) ?_
   repeat (first | (refine wq_step (fun K hK => ?_); go_simp; first | (refine hK _ ?_; clear hK K) | (apply Exists.intro; refine ⟨fun _ => ?_, hK _ ?_⟩; (first | (go_at_call 106; exact Calls.regrown_of (HCR.out _)) | (go_at_call 104; exact Calls.regrown_of (HRO.out _)) | (go_at_call 107; exact Calls.regrown_of (HWi.out _))); clear hK K)))
   refine wq_nil ?_
   intro _ hw'
   obtain ⟨⟨dq, osq⟩, hw''⟩ := hw'
   subst hw''
   go_wp2
   go_ret
   exact ⟨ret_bool HC.out.symm, bw.trans ((below_regrown _ dq osq).mono bw.size)⟩

end Go.Proofs.YtigpbjcmmgdiaaaGreat
/-
 What treeUps of the program answers: of each slot the place of the one that it came of, in a row of its own. Condition: the slots are a tree.
-/
namespace Go.Proofs.YtigpbjcmmgdiaaaGreat
open Go.ChangeShapes Go.WideShapes Go.ChangeAt Go.RowKit
set_option linter.unusedVariables false

/-- The last place ahead of k of a depth, or 0. -/
def lastD (f : Nat → Int) : Nat → Int → Int
 | 0, _ => 0
 | k + 1, d => if f k = d then (k : Int) else lastD f k d
theorem lastD_step {f : Nat → Int} {k : Nat} {d : Int} : lastD f (k + 1) d = if f k = d then (k : Int) else lastD f k d := rfl
theorem lastD_at {f : Nat → Int} {d : Int} : ∀ {k u : Nat}, u < k → f u = d → (∀ j, u < j → j < k → f j ≠ d) → lastD f k d = (u : Int)
 | 0, u, h, _, _ => absurd h (Nat.not_lt_zero _)
 | k + 1, u, h, hu, hj => by
  rw [lastD_step]
  by_cases e : u = k
  ·subst e; rw [if_pos hu]
  ·rw [if_neg (hj k (by omega) (by omega))]
   exact lastD_at (by omega) hu (fun j h1 h2 => hj j h1 (by omega))
/-- What a slot of a tree came of: the last ahead of it that is one less deep. -/
theorem came_last {L : List Sl} (hT : treeB L = true) {k : Nat} (hk : k < L.length) (hd : 0 < depN L k) : cameI L k = lastD (depN L) k (depN L k - 1) := by
 unfold cameI
 rcases ups_first (depN L) (depN L k) k with ⟨e, hj⟩ | ⟨u, hu, hf, hj, e⟩
 ·exfalso
  have h0 := tree_slot hT 0 (by omega)
  by_cases hz : k = 0
  ·subst hz; have := h0.2.1 rfl; omega
  ·have h1 := hj 0 (by omega)
   have h2 := h0.2.1 rfl
   have h3 := h0.1
   omega
 ·rw [e]
  have hfu : depN L u = depN L k - 1 := by
   by_cases hn : u + 1 = k
   ·have := (tree_slot hT k hk).2.2.1 u hn; omega
   ·have h1 := (tree_slot hT (u + 1) (by omega)).2.2.1 u rfl
    have h2 := hj (u + 1) (by omega) (by omega)
    omega
  have := lastD_at (f := depN L) (d := depN L k - 1) hu hfu (fun j h1 h2 => by have := hj j h1 h2; omega)
  rw [this]; rfl
theorem came_zero {L : List Sl} (hT : treeB L = true) {k : Nat} (hk : k < L.length) (hd : depN L k = 0) : cameI L k = -1 := by
 unfold cameI
 rcases ups_first (depN L) (depN L k) k with ⟨e, hj⟩ | ⟨u, hu, hf, hj, e⟩
 ·rw [e]; rfl
 ·have := (tree_slot hT u (by omega)).1; omega
/-- The row, so far. -/
def upsV (L : List Sl) (n k : Nat) : List Value := (List.range k).map (fun i => Value.int .i64 (cameI L i)) ++ List.replicate (n - k) (.int .i64 0)
def lastV (f : Nat → Int) (k : Nat) : List Value := (List.range 13).map (fun d : Nat => Value.int .i64 (lastD f k d))
theorem upsV_set (L : List Sl) {n k : Nat} (hk : k < n) : (upsV L n k).set k (.int .i64 (cameI L k)) = upsV L n (k + 1) := by
 unfold upsV
 have e1 : n - k = (n - (k + 1)) + 1 := by omega
 rw [e1, List.replicate_succ, List.set_append_right _ _ (by simp)]
 simp [List.range_succ]
theorem upsV_at (L : List Sl) {n k : Nat} (hk : k < n) : (upsV L n k)[k]? = some (.int .i64 0) := by
 unfold upsV
 rw [List.getElem?_append_right (by simp)]
 simp only [List.length_map, List.length_range, Nat.sub_self]
 rw [List.getElem?_replicate, if_pos (by omega)]
theorem lastV_at (f : Nat → Int) (k d : Nat) (hd : d < 13) : (lastV f k)[d]? = some (.int .i64 (lastD f k d)) := by
 unfold lastV; simp [hd]
theorem lastV_set (f : Nat → Int) (k q : Nat) (hq : f k = (q : Int)) : (lastV f k).set q (.int .i64 (k : Int)) = lastV f (k + 1) := by
 unfold lastV
 apply List.ext_getElem
 ·simp
 ·intro d h1 h2
  rw [List.getElem_set]
  simp only [List.getElem_map, List.getElem_range]
  rw [lastD_step, hq]
  by_cases e : q = d
  ·subst e; simp
  ·rw [if_neg e, if_neg (by omega)]
theorem intInfo : (Tryz.prog.info? 3).map (fun i => (i.zero, i.size, i.bytes)) = some (some (.int .i64 0), 1, 8) := by kernel_rfl
theorem makeInts (n : Nat) (hn : n ≤ 1048577) (w : World) :
  (Instr.makeSlice 27 (.int .i64 (n : Int)) (.int .i64 (n : Int))).run Tryz.prog w = .ok (.slice (some ⟨w.heap.size, 0, none⟩) n n) (w.alloc (.cells (Array.replicate n (Value.int .i64 0)) 3)) := by
 obtain ⟨i, hi, hzz⟩ := Option.map_eq_some_iff.1 intInfo
 simp only [Prod.mk.injEq] at hzz
 obtain ⟨hz, hs, hb⟩ := hzz
 have := run_make (P := Tryz.prog) w 27 3 i _ Tryz.underlying27 hi hz .i64 .i64 n n (by omega) (Int.le_refl _) (by rw [hb]; omega) (by omega)
 rw [hs] at this
 have hm : madeCells (Value.int .i64 0).cells ((n : Int).toNat * 1) = Array.replicate n (Value.int .i64 0) := by
  unfold madeCells
  apply Array.ext'
  simp [Value.cells]
  apply List.ext_getElem
  ·simp
  ·intro j h1 h2
   simp
   rw [Nat.mod_one]; rfl
 rw [hm] at this
 exact this
def upsInv (L : List Sl) (gB lB : Nat) (w : World) (v : Value) (W : World) : Prop :=
 ∃ k : Nat, k ≤ L.length ∧ v = .int .i64 (k : Int) ∧ Bx W gB 3 (upsV L L.length k) ∧ Bx W lB 191 (lastV (depN L) k) ∧ Below w.heap.size w W

set_option maxRecDepth 100000 in
set_option maxHeartbeats 4000000 in
theorem treeUps_any (P : Option Addr) (c : Nat) (L : List Sl) (w : World) (hl : L.length ≤ 1048576) (h : Lies w P L) (hT : treeB L = true) :
  Calls Tryz.prog 101 #[.slice P L.length c] w fun e w' => e = .returned (.slice (some ⟨w.heap.size, 0, none⟩) L.length L.length) ∧ Bx w' w.heap.size 3 ((List.range L.length).map (fun i => Value.int .i64 (cameI L i))) ∧ Below w.heap.size w w' := by
 rcases h.place with hz | ⟨B, O, rfl⟩
 ·have HZ : Hid (L = []) := hz
  clear hz
  have hmk := makeInts L.length (by omega) w
  have HTh : Hid (treeB L = true) := hT
  clear hT
  go_enter Tryz.func101, Tryz.ntmps101
  go_upto_region 3 with fail
  have g1 : Bx (w.alloc (.cells (Array.replicate L.length (Value.int .i64 0)) 3)) w.heap.size 3 (upsV L L.length 0) := by
   have := Bx.new w 3 (List.replicate L.length (Value.int .i64 0))
   unfold upsV; simpa using this
  have g2 := g1.alloc (.cells #[Value.int IntKind.i64 0, Value.int IntKind.i64 0, Value.int IntKind.i64 0, Value.int IntKind.i64 0, Value.int IntKind.i64 0, Value.int IntKind.i64 0, Value.int IntKind.i64 0, Value.int IntKind.i64 0, Value.int IntKind.i64 0, Value.int IntKind.i64 0, Value.int IntKind.i64 0, Value.int IntKind.i64 0, Value.int IntKind.i64 0] 191)
  have l2 : Bx ((w.alloc (.cells (Array.replicate L.length (Value.int .i64 0)) 3)).alloc (.cells #[Value.int IntKind.i64 0, Value.int IntKind.i64 0, Value.int IntKind.i64 0, Value.int IntKind.i64 0, Value.int IntKind.i64 0, Value.int IntKind.i64 0, Value.int IntKind.i64 0, Value.int IntKind.i64 0, Value.int IntKind.i64 0, Value.int IntKind.i64 0, Value.int IntKind.i64 0, Value.int IntKind.i64 0, Value.int IntKind.i64 0] 191)) (w.heap.size + 1) 191 (lastV (depN L) 0) := Bx.newAt (w.alloc (.cells (Array.replicate L.length (Value.int .i64 0)) 3)) 191 (lastV (depN L) 0) (c := w.heap.size + 1) (by simp)
  have hb : Below w.heap.size w ((w.alloc (.cells (Array.replicate L.length (Value.int .i64 0)) 3)).alloc (.cells #[Value.int IntKind.i64 0, Value.int IntKind.i64 0, Value.int IntKind.i64 0, Value.int IntKind.i64 0, Value.int IntKind.i64 0, Value.int IntKind.i64 0, Value.int IntKind.i64 0, Value.int IntKind.i64 0, Value.int IntKind.i64 0, Value.int IntKind.i64 0, Value.int IntKind.i64 0, Value.int IntKind.i64 0, Value.int IntKind.i64 0] 191)) := ((Below.refl _ _).alloc (Nat.le_refl _) _).alloc (by simp) _
  generalize (w.alloc (.cells (Array.replicate L.length (Value.int .i64 0)) 3)).alloc (.cells #[Value.int IntKind.i64 0, Value.int IntKind.i64 0, Value.int IntKind.i64 0, Value.int IntKind.i64 0, Value.int IntKind.i64 0, Value.int IntKind.i64 0, Value.int IntKind.i64 0, Value.int IntKind.i64 0, Value.int IntKind.i64 0, Value.int IntKind.i64 0, Value.int IntKind.i64 0, Value.int IntKind.i64 0, Value.int IntKind.i64 0] 191) = W1 at g2 l2 hb ⊢
  clear g1 hmk
  have hgl : w.heap.size < w.heap.size + 1 := Nat.lt_succ_self _
  obtain ⟨gB, hgB⟩ : ∃ gB, gB = w.heap.size := ⟨_, rfl⟩
  obtain ⟨lB, hlB⟩ : ∃ lB, lB = w.heap.size + 1 := ⟨_, rfl⟩
  rw [← hlB] at l2 ⊢
  rw [← hgB] at g2 ⊢
  have HG : Hid (gB = w.heap.size) := hgB
  have HL : Hid (lB = w.heap.size + 1) := hlB
  clear hgB hlB hgl
  go_wp2
  go_loopw [12] (fun v W => upsInv L gB lB w v W) (fun v W => L.length - (intOf v).toNat)
  case atStart => exact ⟨0, Nat.zero_le _, rfl, g2, l2, hb⟩
  case round =>
   clear g2 l2 hb
   obtain ⟨k, hk, rfl, g, l, hb⟩ := hrel
   have hle : w.heap.size ≤ gB := by have := HG.out; omega
   have hle2 : w.heap.size ≤ lB := by have := HL.out; omega
   have hgl : gB ≠ lB := by have := HL.out; have := HG.out; omega
   have hlg : lB ≠ gB := Ne.symm hgl
   by_cases hlt : k < L.length
   ·rw [HZ.out] at hlt; exact absurd hlt (Nat.not_lt_zero _)
   ·have hk1 : ¬ (k : Int) < (L.length : Int) := by omega
    have hke : k = L.length := by omega
    have g9 : Bx wr gB 3 ((List.range L.length).map (fun i => Value.int .i64 (cameI L i))) := by
     have := g; rw [hke] at this; unfold upsV at this; simpa using this
    clear g l hke
    go_wp2
    go_ret
    exact ⟨by rw [HG.out]; rfl, by rw [← HG.out]; exact g9, hb⟩
 ·skip
  have hmk := makeInts L.length (by omega) w
  have HTh : Hid (treeB L = true) := hT
  clear hT
  go_enter Tryz.func101, Tryz.ntmps101
  go_upto_region 3 with fail
  have g1 : Bx (w.alloc (.cells (Array.replicate L.length (Value.int .i64 0)) 3)) w.heap.size 3 (upsV L L.length 0) := by
   have := Bx.new w 3 (List.replicate L.length (Value.int .i64 0))
   unfold upsV; simpa using this
  have g2 := g1.alloc (.cells #[Value.int IntKind.i64 0, Value.int IntKind.i64 0, Value.int IntKind.i64 0, Value.int IntKind.i64 0, Value.int IntKind.i64 0, Value.int IntKind.i64 0, Value.int IntKind.i64 0, Value.int IntKind.i64 0, Value.int IntKind.i64 0, Value.int IntKind.i64 0, Value.int IntKind.i64 0, Value.int IntKind.i64 0, Value.int IntKind.i64 0] 191)
  have l2 : Bx ((w.alloc (.cells (Array.replicate L.length (Value.int .i64 0)) 3)).alloc (.cells #[Value.int IntKind.i64 0, Value.int IntKind.i64 0, Value.int IntKind.i64 0, Value.int IntKind.i64 0, Value.int IntKind.i64 0, Value.int IntKind.i64 0, Value.int IntKind.i64 0, Value.int IntKind.i64 0, Value.int IntKind.i64 0, Value.int IntKind.i64 0, Value.int IntKind.i64 0, Value.int IntKind.i64 0, Value.int IntKind.i64 0] 191)) (w.heap.size + 1) 191 (lastV (depN L) 0) := Bx.newAt (w.alloc (.cells (Array.replicate L.length (Value.int .i64 0)) 3)) 191 (lastV (depN L) 0) (c := w.heap.size + 1) (by simp)
  have hb : Below w.heap.size w ((w.alloc (.cells (Array.replicate L.length (Value.int .i64 0)) 3)).alloc (.cells #[Value.int IntKind.i64 0, Value.int IntKind.i64 0, Value.int IntKind.i64 0, Value.int IntKind.i64 0, Value.int IntKind.i64 0, Value.int IntKind.i64 0, Value.int IntKind.i64 0, Value.int IntKind.i64 0, Value.int IntKind.i64 0, Value.int IntKind.i64 0, Value.int IntKind.i64 0, Value.int IntKind.i64 0, Value.int IntKind.i64 0] 191)) := ((Below.refl _ _).alloc (Nat.le_refl _) _).alloc (by simp) _
  generalize (w.alloc (.cells (Array.replicate L.length (Value.int .i64 0)) 3)).alloc (.cells #[Value.int IntKind.i64 0, Value.int IntKind.i64 0, Value.int IntKind.i64 0, Value.int IntKind.i64 0, Value.int IntKind.i64 0, Value.int IntKind.i64 0, Value.int IntKind.i64 0, Value.int IntKind.i64 0, Value.int IntKind.i64 0, Value.int IntKind.i64 0, Value.int IntKind.i64 0, Value.int IntKind.i64 0, Value.int IntKind.i64 0] 191) = W1 at g2 l2 hb ⊢
  clear g1 hmk
  have hgl : w.heap.size < w.heap.size + 1 := Nat.lt_succ_self _
  obtain ⟨gB, hgB⟩ : ∃ gB, gB = w.heap.size := ⟨_, rfl⟩
  obtain ⟨lB, hlB⟩ : ∃ lB, lB = w.heap.size + 1 := ⟨_, rfl⟩
  rw [← hlB] at l2 ⊢
  rw [← hgB] at g2 ⊢
  have HG : Hid (gB = w.heap.size) := hgB
  have HL : Hid (lB = w.heap.size + 1) := hlB
  clear hgB hlB hgl
  go_wp2
  go_loopw [12] (fun v W => upsInv L gB lB w v W) (fun v W => L.length - (intOf v).toNat)
  case atStart => exact ⟨0, Nat.zero_le _, rfl, g2, l2, hb⟩
  case round =>
   clear g2 l2 hb
   obtain ⟨k, hk, rfl, g, l, hb⟩ := hrel
   have hle : w.heap.size ≤ gB := by have := HG.out; omega
   have hle2 : w.heap.size ≤ lB := by have := HL.out; omega
   have hgl : gB ≠ lB := by have := HL.out; have := HG.out; omega
   have hlg : lB ≠ gB := Ne.symm hgl
   by_cases hlt : k < L.length
   ·have hk1 : (k : Int) < (L.length : Int) := by omega
    have hrow := h.below hb
    have c10 := (hrow.cells B O rfl k hlt).c10
    have hB : B ≠ gB ∧ B ≠ lB := by
     have h2 := (h.cells B O rfl k hlt).c10
     have h3 : B < w.heap.size := by
      apply Classical.byContradiction
      intro h4
      have h5 : w.heap[B]? = none := Array.getElem?_eq_none (by omega)
      simp [World.cell?, h5] at h2
     have := HL.out; have := HG.out
     omega
    have hd := tree_slot HTh.out k hlt
    have hdp := depN_at hlt
    obtain ⟨q, hq⟩ : ∃ q : Nat, depN L k = (q : Int) := ⟨(depN L k).toNat, by omega⟩
    have hq12 : q ≤ 12 := by omega
    rw [← hdp, hq] at c10
    have HQ : Hid _ := hq
    have gc := g.cell k _ (upsV_at L hlt)
    have gz := g.frozen k
    have lz := l.frozen q
    have lc := l.cell q _ (lastV_at (depN L) k q (by omega))
    clear hd hdp
    cases q with
    | zero =>
     have HC : Hid (cameI L k = -1) := came_zero HTh.out hlt HQ.out
     have e0 : decide ((0 : Int) < ((0 : Nat) : Int)) = false := by simp
     have c0 : wr.cell? ⟨B, O + k * 11 + 10, none⟩ = some (.int .i64 0) := c10
     clear c10 e0
     have HB := hB
     go_wp2
     go_roundw
     case rel =>
      refine ⟨k + 1, by omega, by go_num, ?_, ?_, (hb.setCell (p := ⟨gB, k, none⟩) hle _).setCell (p := ⟨lB, 0, none⟩) hle2 _⟩
      ·have q := (g.set k (.int .i64 (-1))).far (c := lB) (k := 0) (.int .i64 (k : Int)) hgl
       have e := upsV_set L hlt
       rw [HC.out] at e
       rw [e] at q; exact q
      ·have q := (l.far (c := gB) (k := k) (.int .i64 (-1)) hlg).set 0 (.int .i64 (k : Int))
       rw [lastV_set (depN L) k 0 HQ.out] at q; exact q
     case measure => simp [intOf]; omega
    | succ m =>
     have HC : Hid (cameI L k = lastD (depN L) k (m : Int)) := by
      have := came_last HTh.out hlt (by rw [HQ.out]; omega)
      unfold Hid; rw [this, HQ.out]; congr 1; omega
     have lm := l.cell m _ (lastV_at (depN L) k m (by omega))
     have hw1 : IntKind.i64.wrap (((m + 1 : Nat) : Int) - 1) = (m : Int) := by rw [IntKind.wrap_i64]; omega
     have hw2 : IntKind.i64.wrap ((m : Int) + 1 - 1) = (m : Int) := by rw [IntKind.wrap_i64]; omega
     have e1 : (0 : Int) < (m : Int) + 1 := by omega
     have e2 : m < 13 := by omega
     have e3 : m + 1 < 13 := by omega
     have HB := hB
     generalize lastD (depN L) k (m : Int) = vm at lm HC
     go_wp2
     go_roundw
     case rel =>
      refine ⟨k + 1, by omega, by go_num, ?_, ?_, ((hb.setCell (p := ⟨gB, k, none⟩) hle _).setCell (p := ⟨gB, k, none⟩) hle _).setCell (p := ⟨lB, m + 1, none⟩) hle2 _⟩
      ·have q := ((g.set k (.int .i64 (-1))).set k (.int .i64 vm)).far (c := lB) (k := m + 1) (.int .i64 (k : Int)) hgl
       have e := upsV_set L hlt
       rw [HC.out] at e
       rw [List.set_set, e] at q; exact q
      ·have q := ((l.far (c := gB) (k := k) (.int .i64 (-1)) hlg).far (c := gB) (k := k) (.int .i64 vm) hlg).set (m + 1) (.int .i64 (k : Int))
       rw [lastV_set (depN L) k (m + 1) HQ.out] at q; exact q
     case measure => simp [intOf]; omega
   ·have hk1 : ¬ (k : Int) < (L.length : Int) := by omega
    have hke : k = L.length := by omega
    have g9 : Bx wr gB 3 ((List.range L.length).map (fun i => Value.int .i64 (cameI L i))) := by
     have := g; rw [hke] at this; unfold upsV at this; simpa using this
    clear g l hke
    go_wp2
    go_ret
    exact ⟨by rw [HG.out]; rfl, by rw [← HG.out]; exact g9, hb⟩

end Go.Proofs.YtigpbjcmmgdiaaaGreat
/-
 Whether each capability may have come of what it came of, by the program. Conditions: the view lies in memory; its slots are a tree, what each came of stands in its row.
-/
namespace Go.Proofs.YtigpbjcmmgdiaaaGreat
open Go.ChangeShapes Go.WideShapes Go.ChangeAt Go.RowKit
set_option linter.unusedVariables false

def derP (L : List Sl) (i : Nat) (h : i < L.length) : Bool := match upSl L i with | none => L[i].o | some p => cameB L[i] p
def derAll (L : List Sl) : Bool := (List.range L.length).all (fun i => if h : i < L.length then derP L i h else true)
theorem derAll_iff (L : List Sl) : derAll L = true ↔ ∀ i (h : i < L.length), derP L i h = true := by
 unfold derAll
 rw [List.all_eq_true]
 constructor
 ·intro h i hi
  have := h i (List.mem_range.2 hi)
  rw [dif_pos hi] at this; exact this
 ·intro h i hi
  have := List.mem_range.1 hi
  rw [dif_pos this]; exact h i this
/-- The places that slots came of, in a row. -/
def upsRow (L : List Sl) : List Value := (List.range L.length).map (fun i => Value.int .i64 (cameI L i))
theorem upsRow_at (L : List Sl) {k : Nat} (hk : k < L.length) : (upsRow L)[k]? = some (.int .i64 (cameI L k)) := by unfold upsRow; simp [hk]
def derInv (w0 : World) (K : QK) (vB uB : Nat) (fs : List Value) (w : World) (v : Value) (W : World) : Prop :=
 ∃ k : Nat, k ≤ K.sl.length ∧ v = .int .i64 (k : Int) ∧ (∀ i (hi : i < K.sl.length), i < k → derP K.sl i hi = true) ∧ View w0 K vB fs W ∧ Bx W uB 3 (upsRow K.sl) ∧ Below w.heap.size w W
set_option maxRecDepth 100000 in
set_option maxHeartbeats 8000000 in
theorem derivedOk_any (w0 : World) (K : QK) (vB uB : Nat) (fs : List Value) (w : World) (hs : K.Short) (hT : treeB K.sl = true) (h : View w0 K vB fs w) (hf : fs[1]? = some (.slice (some ⟨uB, 0, none⟩) K.sl.length K.sl.length)) (hu : Bx w uB 3 (upsRow K.sl)) :
  Calls Tryz.prog 65 #[.pointer (some ⟨vB, 0, none⟩)] w fun e w' => e = .returned (.bool (derAll K.sl)) ∧ Below w.heap.size w w' := by
 have hlen := hs.s
 have f1 := h.snd 1 _ hf
 have hbel := Below.refl w.heap.size w
 have HOk : Hid (∀ s ∈ K.sl, okB s.k s.e s.b s.r s.d s.g s.q s.f s.o = true) := tree_okm hT
 have HNo : Hid (∀ (k : Nat) (hk : k < K.sl.length), derP K.sl k hk = false → derAll K.sl = false) := fun k hk hx => by
  cases hd : derAll K.sl with
  | false => rfl
  | true => have := (derAll_iff K.sl).1 hd k hk; rw [hx] at this; cases this
 have HYes : Hid ((∀ i (hi : i < K.sl.length), derP K.sl i hi = true) → derAll K.sl = true) := (derAll_iff K.sl).2
 clear hT hf
 go_enter Tryz.func65, Tryz.ntmps65
 go_wp2
 go_loopw [11] (fun v W => derInv w0 K vB uB fs w v W) (fun v W => K.sl.length - (intOf v).toNat)
 case atStart => exact ⟨0, Nat.zero_le _, rfl, fun i hi h => absurd h (Nat.not_lt_zero _), h, hu, hbel⟩
 case round =>
  clear h hu hbel f1
  obtain ⟨k, hk, rfl, hno, hv, hu, hbl⟩ := hrel
  have HN : Hid _ := hno
  clear hno
  by_cases hlt : k < K.sl.length
  ·have hk1 : (k : Int) < (K.sl.length : Int) := by omega
   have hrow := hv.b.s
   obtain ⟨B, O, hP⟩ := hrow.some hlt
   rw [hP] at hrow
   have hcc := hrow.cells B O rfl k hlt
   obtain ⟨s, hsl⟩ : ∃ s, K.sl[k] = s := ⟨_, rfl⟩
   rw [hsl] at hcc
   have HSl : Hid (K.sl[k] = s) := hsl
   have HPs : Hid (K.sP = some ⟨B, O, none⟩) := hP
   have hos := HOk.out s (by rw [← hsl]; exact List.getElem_mem hlt)
   have g2 := hv.cs
   rw [hP] at g2
   have uc := hu.cell k _ (upsRow_at K.sl hlt)
   obtain ⟨up, hup⟩ : ∃ up, cameI K.sl k = up := ⟨_, rfl⟩
   rw [hup] at uc
   have HUP : Hid _ := hup
   obtain ⟨c0, c1, c2, c3, c4, c5, c6, c7, c8, c9, c10⟩ := hcc
   clear hsl hP hup
   go_upto_region 5 with fail
   clear g2 c0 c1 c2 c3 c4 c5 c6 c7 c8 c9 c10 uc
   have hv1 := hv.below ((Below.refl _ _).alloc (Nat.le_refl _) (.cells #[.int .i64 s.k, .int .i64 s.e, .int .i64 s.b, .int .i64 s.r, .int .i64 s.d, .int .i64 s.g, .int .i64 s.q, .int .i64 s.f, .bool s.o] 33))
   have hu1 := hu.below ((Below.refl _ _).alloc (Nat.le_refl _) (.cells #[.int .i64 s.k, .int .i64 s.e, .int .i64 s.b, .int .i64 s.r, .int .i64 s.d, .int .i64 s.g, .int .i64 s.q, .int .i64 s.f, .bool s.o] 33))
   have hbl1 := hbl.trans (((Below.refl _ _).alloc (Nat.le_refl _) (.cells #[.int .i64 s.k, .int .i64 s.e, .int .i64 s.b, .int .i64 s.r, .int .i64 s.d, .int .i64 s.g, .int .i64 s.q, .int .i64 s.f, .bool s.o] 33)).mono hbl.size)
   have cx := Bx.newAt wr 33 [.int .i64 s.k, .int .i64 s.e, .int .i64 s.b, .int .i64 s.r, .int .i64 s.d, .int .i64 s.g, .int .i64 s.q, .int .i64 s.f, .bool s.o] rfl
   have hrow1 := hv1.b.s
   rw [HPs.out] at hrow1
   generalize wr.alloc (.cells #[.int .i64 s.k, .int .i64 s.e, .int .i64 s.b, .int .i64 s.r, .int .i64 s.d, .int .i64 s.g, .int .i64 s.q, .int .i64 s.f, .bool s.o] 33) = W1 at hv1 hu1 hbl1 cx hrow1 ⊢
   generalize wr.heap.size = cB at cx ⊢
   clear hv hu hbl hrow
   have y0 := cell_regrown (cx.cell 0 _ rfl); have y1 := cell_regrown (cx.cell 1 _ rfl); have y2 := cell_regrown (cx.cell 2 _ rfl); have y3 := cell_regrown (cx.cell 3 _ rfl); have y4 := cell_regrown (cx.cell 4 _ rfl); have y5 := cell_regrown (cx.cell 5 _ rfl); have y6 := cell_regrown (cx.cell 6 _ rfl); have y7 := cell_regrown (cx.cell 7 _ rfl); have y8 := cell_regrown (cx.cell 8 _ rfl)
   have hcase := cameI_or K.sl k hlt
   rw [HUP.out] at hcase
   rcases hcase with ⟨e1, e2⟩ | ⟨u, hul, hui, e1, e2⟩
   ·have HD : Hid (derP K.sl k hlt = s.o) := by unfold Hid derP; rw [e2]; exact congrArg Sl.o HSl.out
    clear e2
    subst e1
    clear y0 y1 y2 y3 y4 y5 y6 y7
    cases ho : s.o
    ·rw [ho] at y8
     have HX : Hid (derP K.sl k hlt = false) := by unfold Hid; rw [HD.out, ho]
     go_upto_region 5 with fail
     refine wq_region (by kernel_rfl) (by kernel_rfl) ?_
     repeat (first | (refine wq_step (fun K hK => ?_); go_simp; first | (refine hK _ ?_; clear hK K) | (apply Exists.intro; refine ⟨fun _ => ?_, hK _ ?_⟩; fail; clear hK K)))
     refine wq_nil ?_
     intro _ hw'
     obtain ⟨⟨dq, osq⟩, hw''⟩ := hw'
     subst hw''
     have hv2 := hv1.below (below_regrown _ dq osq)
     have hu2 := hu1.below (below_regrown _ dq osq)
     have hbl2 := hbl1.trans ((below_regrown _ dq osq).mono hbl1.size)
     go_wp2
     go_ret
     exact ⟨ret_bool (HNo.out k hlt HX.out).symm, hbl2⟩
    ·rw [ho] at y8
     have HX : Hid (derP K.sl k hlt = true) := by unfold Hid; rw [HD.out, ho]
     go_upto_region 5 with fail
     refine wq_region (by kernel_rfl) (by kernel_rfl) ?_
     repeat (first | (refine wq_step (fun K hK => ?_); go_simp; first | (refine hK _ ?_; clear hK K) | (apply Exists.intro; refine ⟨fun _ => ?_, hK _ ?_⟩; fail; clear hK K)))
     refine wq_nil ?_
     intro _ hw'
     obtain ⟨⟨dq, osq⟩, hw''⟩ := hw'
     subst hw''
     have hv2 := hv1.below (below_regrown _ dq osq)
     have hu2 := hu1.below (below_regrown _ dq osq)
     have hbl2 := hbl1.trans ((below_regrown _ dq osq).mono hbl1.size)
     go_wp2
     go_roundw
     case rel => exact ⟨k + 1, by omega, by go_num, fun i hi h => by by_cases e : i = k; subst e; exact HX.out; exact HN.out i hi (by omega), hv2, hu2, hbl2⟩
     case measure => simp [intOf]; omega
   ·obtain ⟨p, hp⟩ : ∃ p, K.sl[u] = p := ⟨_, rfl⟩
    rw [hp] at e2
    have HD : Hid (derP K.sl k hlt = cameB s p) := by unfold Hid derP; rw [e2]; exact congrArg (fun x => cameB x p) HSl.out
    have hop := HOk.out p (by rw [← hp]; exact List.getElem_mem hul)
    have hcc := hrow1.cells B O rfl u hul
    rw [hp] at hcc
    have g2 := hv1.cs
    rw [HPs.out] at g2
    have HKC0 := fun W => kernCame_any s p W hos hop
    obtain ⟨cv, hcv⟩ : ∃ cv, cameB s p = cv := ⟨_, rfl⟩
    rw [hcv] at HKC0
    have HCV : Hid _ := hcv
    have HKC : Hid _ := HKC0
    clear e2 HKC0 hcv hp
    subst e1
    obtain ⟨c0, c1, c2, c3, c4, c5, c6, c7, c8, c9, c10⟩ := hcc
    have p2 := cell_regrown g2
    have d1 := cell_regrown c1; have d2 := cell_regrown c2; have d3 := cell_regrown c3; have d4 := cell_regrown c4; have d5 := cell_regrown c5; have d6 := cell_regrown c6; have d7 := cell_regrown c7; have d8 := cell_regrown c8; have d9 := cell_regrown c9
    have hu0 : decide ((u : Int) < 0) = false := by simp
    have hu3 : decide ((0 : Int) ≤ (u : Int)) = true := by simp
    have hu1' : (u : Int) < (K.sl.length : Int) := by omega
    clear c0 c1 c2 c3 c4 c5 c6 c7 c8 c9 c10 g2
    cases cv
    ·have HX : Hid (derP K.sl k hlt = false) := by unfold Hid; rw [HD.out, HCV.out]
     go_upto_region 5 with fail
     refine wq_region (by kernel_rfl) (by kernel_rfl) ?_
     repeat (first | (refine wq_step (fun K hK => ?_); go_simp; first | (refine hK _ ?_; clear hK K) | (apply Exists.intro; refine ⟨fun _ => ?_, hK _ ?_⟩; (first | (go_at_call 108; exact Calls.regrown_of (HKC.out _))); clear hK K)))
     refine wq_nil ?_
     intro _ hw'
     obtain ⟨⟨dq, osq⟩, hw''⟩ := hw'
     subst hw''
     have hv2 := hv1.below (below_regrown _ dq osq)
     have hu2 := hu1.below (below_regrown _ dq osq)
     have hbl2 := hbl1.trans ((below_regrown _ dq osq).mono hbl1.size)
     go_wp2
     go_ret
     exact ⟨ret_bool (HNo.out k hlt HX.out).symm, hbl2⟩
    ·have HX : Hid (derP K.sl k hlt = true) := by unfold Hid; rw [HD.out, HCV.out]
     go_upto_region 5 with fail
     refine wq_region (by kernel_rfl) (by kernel_rfl) ?_
     repeat (first | (refine wq_step (fun K hK => ?_); go_simp; first | (refine hK _ ?_; clear hK K) | (apply Exists.intro; refine ⟨fun _ => ?_, hK _ ?_⟩; (first | (go_at_call 108; exact Calls.regrown_of (HKC.out _))); clear hK K)))
     refine wq_nil ?_
     intro _ hw'
     obtain ⟨⟨dq, osq⟩, hw''⟩ := hw'
     subst hw''
     have hv2 := hv1.below (below_regrown _ dq osq)
     have hu2 := hu1.below (below_regrown _ dq osq)
     have hbl2 := hbl1.trans ((below_regrown _ dq osq).mono hbl1.size)
     go_wp2
     go_roundw
     case rel => exact ⟨k + 1, by omega, by go_num, fun i hi h => by by_cases e : i = k; subst e; exact HX.out; exact HN.out i hi (by omega), hv2, hu2, hbl2⟩
     case measure => simp [intOf]; omega
  ·have hk1 : ¬ (k : Int) < (K.sl.length : Int) := by omega
   go_wp2
   go_ret
   exact ⟨ret_bool (HYes.out (fun i hi => HN.out i hi (by omega))).symm, hbl⟩

end Go.Proofs.YtigpbjcmmgdiaaaGreat
