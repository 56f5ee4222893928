/-
 Whether there is one reply for each thread that waits for one, by the program. Conditions: the view lies in memory; what its slots hold is ok; addresses are numbers.
-/
import Derived.Test.YtigpbjcmmgdiaaaGreatRi
import Derived.Test.YtigpbjcmmgdiaaaGreatRf
namespace Go.Proofs.YtigpbjcmmgdiaaaGreat
open Go.ChangeShapes Go.WideShapes Go.ChangeAt Go.RowKit
set_option linter.unusedVariables false

/-- How many replies to a thread there are among the first k slots. -/
def cntN (L : List Sl) (k : Nat) (x : Int) : Nat := (L.take k).countP (isReply x)
def cntF (L : List Sl) (k : Nat) (x : Int) : Option Int := if cntN L k x = 0 then none else some (cntN L k x : Int)
theorem cntF_get (L : List Sl) (k : Nat) (x : Int) : (cntF L k x).getD 0 = (cntN L k x : Int) := by
 unfold cntF; split
 ·rename_i h; rw [h]; rfl
 ·rfl
theorem cntN_step {L : List Sl} {k : Nat} (hk : k < L.length) (x : Int) : cntN L (k + 1) x = cntN L k x + (if isReply x L[k] = true then 1 else 0) := countP_take _ _ _ hk
theorem cntF_no {L : List Sl} {k : Nat} (hk : k < L.length) (h : (L[k].k == 7) = false) : cntF L (k + 1) = cntF L k := by
 funext x
 have : cntN L (k + 1) x = cntN L k x := by
  rw [cntN_step hk]
  have : ¬ isReply x L[k] = true := by unfold isReply; rw [h]; simp
  rw [if_neg this]; rfl
 unfold cntF; rw [this]
theorem cntF_yes {L : List Sl} {k : Nat} (hk : k < L.length) (h : (L[k].k == 7) = true) : putF (cntF L k) L[k].e ((cntN L k L[k].e : Int) + 1) = cntF L (k + 1) := by
 funext x
 unfold putF
 by_cases e : x = L[k].e
 ·subst e
  rw [if_pos rfl]
  have : cntN L (k + 1) L[k].e = cntN L k L[k].e + 1 := by
   rw [cntN_step hk]
   have : isReply L[k].e L[k] = true := by unfold isReply; rw [h]; simp
   rw [if_pos this]
  unfold cntF; rw [this, if_neg (by omega)]; rfl
 ·rw [if_neg e]
  have : cntN L (k + 1) x = cntN L k x := by
   rw [cntN_step hk]
   have : ¬ isReply x L[k] = true := by unfold isReply; simp; intro _ h2; exact e h2.symm
   rw [if_neg this]; rfl
  unfold cntF; rw [this]
theorem cntN_le (L : List Sl) (k : Nat) (x : Int) : cntN L k x ≤ k := by
 have := List.countP_le_length (p := isReply x) (l := L.take k)
 unfold cntN; simp at this; omega
def repB (K : QK) (t : QT) : Bool := (repN K t : Int) == (if t.a1 = 4 then 1 else 0)
theorem rep_iff (K : QK) : K.tl.all (repB K) = true ↔ RepliesP K := by
 unfold RepliesP repB
 rw [List.all_eq_true]
 simp only [beq_iff_eq]
theorem repN_all (K : QK) (t : QT) : (cntN K.sl K.sl.length t.a0 : Int) = (repN K t : Int) := by unfold cntN repN; rw [List.take_length]
def rep1 (w0 : World) (K : QK) (vB mB : Nat) (fs : List Value) (w : World) (v : Value) (W : World) : Prop :=
 ∃ k : Nat, k ≤ K.sl.length ∧ v = .int .i64 (k : Int) ∧ View w0 K vB fs W ∧ MapI W mB k (cntF K.sl k) ∧ Below w.heap.size w W
def rep2 (w0 : World) (K : QK) (vB mB : Nat) (fs : List Value) (w : World) (v : Value) (W : World) : Prop :=
 ∃ k : Nat, k ≤ K.tl.length ∧ v = .int .i64 (k : Int) ∧ (∀ i (hi : i < K.tl.length), i < k → repB K K.tl[i] = true) ∧ View w0 K vB fs W ∧ MapI W mB K.sl.length (cntF K.sl K.sl.length) ∧ Below w.heap.size w W
set_option maxRecDepth 100000 in
set_option maxHeartbeats 8000000 in
theorem repliesOk_any (w0 : World) (K : QK) (vB : Nat) (fs : List Value) (w : World) (hs : K.Short) (hok : ∀ s ∈ K.sl, okB s.k s.e s.b s.r s.d s.g s.q s.f s.o = true) (htf : ∀ t ∈ K.tl, FitI t.a0) (h : View w0 K vB fs w) :
  Calls Tryz.prog 73 #[.pointer (some ⟨vB, 0, none⟩)] w fun e w' => e = .returned (.bool (K.tl.all (repB K))) ∧ Below w.heap.size w w' := by
 have hlen := hs.s
 have hlent := hs.t
 have HOk : Hid _ := hok
 have HTf : Hid _ := htf
 have hmm := @run_makeMap Tryz.prog 88
 have HNo : Hid (∀ (k : Nat) (hk : k < K.tl.length), repB K K.tl[k] = false → K.tl.all (repB K) = false) := fun k hk hx => by rw [List.all_eq_false]; exact ⟨_, List.getElem_mem hk, by simp [hx]⟩
 have HYes : Hid ((∀ i (hi : i < K.tl.length), repB K K.tl[i] = true) → K.tl.all (repB K) = true) := fun hx => by
  rw [List.all_eq_true]; intro s hs2
  obtain ⟨i, hi, rfl⟩ := List.mem_iff_getElem.1 hs2
  exact hx i hi
 clear hok htf
 go_enter Tryz.func73, Tryz.ntmps73
 go_upto_region 2 with fail
 have hv := h.below ((Below.refl _ _).alloc (Nat.le_refl _) (.map #[] 0))
 have hm := MapI.new w
 have hb := (Below.refl w.heap.size w).alloc (Nat.le_refl _) (.map #[] 0)
 have hm0 : MapI (w.alloc (.map #[] 0)) w.heap.size 0 (cntF K.sl 0) := by
  have : cntF K.sl 0 = fun _ => none := by funext x; unfold cntF cntN; simp
  rw [this]; exact hm
 have hle : w.heap.size ≤ w.heap.size := Nat.le_refl _
 have HVm : Hid (vB < w.heap.size) := h.lt
 have HVw : Hid (w0.heap.size ≤ w.heap.size) := h.bw.size
 clear h hm hmm
 generalize w.alloc (.map #[] 0) = W1 at hv hm0 hb ⊢
 obtain ⟨mB, hmB⟩ : ∃ mB, w.heap.size = mB := ⟨_, rfl⟩
 rw [hmB] at hm0 ⊢
 have HMB : Hid (w.heap.size = mB) := hmB
 clear hmB hle
 have g2 := hv.cs
 go_wp2
 go_loopw [16] (fun v W => rep1 w0 K vB mB fs w v W) (fun v W => K.sl.length - (intOf v).toNat)
 case atStart => exact ⟨0, Nat.zero_le _, rfl, hv, hm0, hb⟩
 case round =>
  clear hv hm0 hb g2
  obtain ⟨k, hk, rfl, hv, hm, hbl⟩ := hrel
  by_cases hlt : k < K.sl.length
  ·have hk1 : (k : Int) < (K.sl.length : Int) := by omega
   have hrow := hv.b.s
   obtain ⟨B, O, hP⟩ := hrow.some hlt
   rw [hP] at hrow
   have hcc := hrow.cells B O rfl k hlt
   obtain ⟨s, hsl⟩ : ∃ s, K.sl[k] = s := ⟨_, rfl⟩
   rw [hsl] at hcc
   have HSl : Hid (K.sl[k] = s) := hsl
   have p := ok_parts (HOk.out s (by rw [← hsl]; exact List.getElem_mem hlt))
   have g2 := hv.cs
   rw [hP] at g2
   obtain ⟨c0, c1, c2, c3, c4, c5, c6, c7, c8, c9, c10⟩ := hcc
   clear hsl hP hrow
   go_upto_region 6 with fail
   clear g2 c0 c1 c2 c3 c4 c5 c6 c7 c8 c9 c10
   have hv1 := hv.below ((Below.refl _ _).alloc (Nat.le_refl _) (.cells #[.int .i64 s.k, .int .i64 s.e, .int .i64 s.b, .int .i64 s.r, .int .i64 s.d, .int .i64 s.g, .int .i64 s.q, .int .i64 s.f, .bool s.o] 33))
   have hm1 := hm.below ((Below.refl _ _).alloc (Nat.le_refl _) (.cells #[.int .i64 s.k, .int .i64 s.e, .int .i64 s.b, .int .i64 s.r, .int .i64 s.d, .int .i64 s.g, .int .i64 s.q, .int .i64 s.f, .bool s.o] 33))
   have hbl1 := hbl.trans (((Below.refl _ _).alloc (Nat.le_refl _) (.cells #[.int .i64 s.k, .int .i64 s.e, .int .i64 s.b, .int .i64 s.r, .int .i64 s.d, .int .i64 s.g, .int .i64 s.q, .int .i64 s.f, .bool s.o] 33)).mono hbl.size)
   have cx := Bx.newAt wr 33 [.int .i64 s.k, .int .i64 s.e, .int .i64 s.b, .int .i64 s.r, .int .i64 s.d, .int .i64 s.g, .int .i64 s.q, .int .i64 s.f, .bool s.o] rfl
   generalize wr.alloc (.cells #[.int .i64 s.k, .int .i64 s.e, .int .i64 s.b, .int .i64 s.r, .int .i64 s.d, .int .i64 s.g, .int .i64 s.q, .int .i64 s.f, .bool s.o] 33) = W1 at hv1 hm1 hbl1 cx ⊢
   generalize wr.heap.size = cB at cx ⊢
   clear hv hm hbl
   have y0 := cx.cell 0 _ rfl; have y1 := cx.cell 1 _ rfl
   cases k7 : (s.k == 7)
   ·have HF : Hid (cntF K.sl (k + 1) = cntF K.sl k) := cntF_no hlt (by rw [HSl.out]; exact k7)
    go_wp2
    go_roundw
    case rel => exact ⟨k + 1, by omega, by go_num, hv1, by rw [HF.out]; obtain ⟨D, h1, h2⟩ := hm1; exact ⟨D, h1.mono (Nat.le_succ _), h2⟩, hbl1⟩
    case measure => simp [intOf]; omega
   ·have HF : Hid (putF (cntF K.sl k) s.e ((cntN K.sl k s.e : Int) + 1) = cntF K.sl (k + 1)) := by have := cntF_yes hlt (by rw [HSl.out]; exact k7); rw [HSl.out] at this; exact this
    have hfe : FitI s.e := ⟨by omega, by omega⟩
    have hlk := hm1.look hfe
    rw [cntF_get] at hlk
    have hcl := cntN_le K.sl k s.e
    obtain ⟨W', hrun, hm2, hg⟩ := hm1.put (by unfold maxLen; omega) (x := s.e) (y := (cntN K.sl k s.e : Int) + 1) hfe ⟨by omega, by omega⟩
    rw [HF.out] at hm2
    have HG : Hid _ := hg
    have HM : Hid _ := hm2
    clear hg hm2 p HF
    generalize cntN K.sl k s.e = cn at hlk hrun hcl
    have hw1 : IntKind.i64.wrap ((cn : Int) + 1) = (cn : Int) + 1 := by rw [IntKind.wrap_i64]; omega
    go_wp2
    go_roundw
    case rel =>
     have hle := hv1.bw.size
     have hsz := hv1.lt
     have h3 : Below w.heap.size w W' := But.below hbl1 HG.out (by have := HMB.out; omega) hbl1.size
     exact ⟨k + 1, by omega, by go_num, hv1.but HG.out (by have := HVm.out; have := HMB.out; omega) (by have := HVw.out; have := HMB.out; omega), HM.out, h3⟩
    case measure => simp [intOf]; omega
  ·have hk1 : ¬ (k : Int) < (K.sl.length : Int) := by omega
   have hke : k = K.sl.length := by omega
   rw [hke] at hm
   clear hke hk
   have g3 := hv.ct
   go_wp2
   go_loopw [43] (fun v W => rep2 w0 K vB mB fs w v W) (fun v W => K.tl.length - (intOf v).toNat)
   case atStart => exact ⟨0, Nat.zero_le _, rfl, fun i hi h => absurd h (Nat.not_lt_zero _), hv, hm, hbl⟩
   case round =>
    clear hv hm hbl g3 hk1
    obtain ⟨k, hk, rfl, hno, hv, hm, hbl⟩ := hrel
    have HN : Hid _ := hno
    clear hno
    by_cases hlt : k < K.tl.length
    ·have hk1 : (k : Int) < (K.tl.length : Int) := by omega
     have hrow := hv.b.t
     obtain ⟨B, O, hP⟩ := hrow.has hlt
     rw [hP] at hrow
     obtain ⟨t, htl⟩ : ∃ t, K.tl[k] = t := ⟨_, rfl⟩
     have HTl : Hid (K.tl[k] = t) := htl
     have c0 := hrow.at hlt 0 _ rfl; have c1 := hrow.at hlt 1 _ rfl; have c2 := hrow.at hlt 2 _ rfl; have c3 := hrow.at hlt 3 _ rfl; have c4 := hrow.at hlt 4 _ rfl; have c5 := hrow.at hlt 5 _ rfl; have c6 := hrow.at hlt 6 _ rfl; have c7 := hrow.at hlt 7 _ rfl; have c8 := hrow.at hlt 8 _ rfl; have c9 := hrow.at hlt 9 _ rfl; have c10 := hrow.at hlt 10 _ rfl; have c11 := hrow.at hlt 11 _ rfl; have c12 := hrow.at hlt 12 _ rfl; have c13 := hrow.at hlt 13 _ rfl; have c14 := hrow.at hlt 14 _ rfl
     simp only [fT, Nat.add_zero, htl] at c0 c1 c2 c3 c4 c5 c6 c7 c8 c9 c10 c11 c12 c13 c14
     have hft := HTf.out t (by rw [← htl]; exact List.getElem_mem hlt)
     have hix : ∀ W, (Instr.indexAt 37 (.slice K.tP K.tl.length K.tc) (.int .i64 (k : Int))).run Tryz.prog W = .ok (.pointer (some ⟨B, O + k * 15, none⟩)) W := fun W => by rw [hP]; go_simp
     clear hP hrow htl
     go_upto_region 12 with fail
     clear c0 c1 c2 c3 c4 c5 c6 c7 c8 c9 c10 c11 c12 c13 c14 hix
     have hv1 := hv.below ((Below.refl _ _).alloc (Nat.le_refl _) (.cells #[.int .i64 t.a0, .int .i64 t.a1, .int .i64 t.a2, .int .i64 t.a3, .int .i64 t.a4, .int .i64 t.a5, .int .i64 t.a6, .int .u32 t.a7, .int .i64 t.a8, .int .u32 t.a9, .int .u32 t.a10, .int .u32 t.a11, .int .u32 t.a12, .int .i64 t.a13, .int .u32 t.a14] 50))
     have hm1 := hm.below ((Below.refl _ _).alloc (Nat.le_refl _) (.cells #[.int .i64 t.a0, .int .i64 t.a1, .int .i64 t.a2, .int .i64 t.a3, .int .i64 t.a4, .int .i64 t.a5, .int .i64 t.a6, .int .u32 t.a7, .int .i64 t.a8, .int .u32 t.a9, .int .u32 t.a10, .int .u32 t.a11, .int .u32 t.a12, .int .i64 t.a13, .int .u32 t.a14] 50))
     have hbl1 := hbl.trans (((Below.refl _ _).alloc (Nat.le_refl _) (.cells #[.int .i64 t.a0, .int .i64 t.a1, .int .i64 t.a2, .int .i64 t.a3, .int .i64 t.a4, .int .i64 t.a5, .int .i64 t.a6, .int .u32 t.a7, .int .i64 t.a8, .int .u32 t.a9, .int .u32 t.a10, .int .u32 t.a11, .int .u32 t.a12, .int .i64 t.a13, .int .u32 t.a14] 50)).mono hbl.size)
     have cx := Bx.newAt wr 50 [.int .i64 t.a0, .int .i64 t.a1, .int .i64 t.a2, .int .i64 t.a3, .int .i64 t.a4, .int .i64 t.a5, .int .i64 t.a6, .int .u32 t.a7, .int .i64 t.a8, .int .u32 t.a9, .int .u32 t.a10, .int .u32 t.a11, .int .u32 t.a12, .int .i64 t.a13, .int .u32 t.a14] rfl
     generalize wr.alloc (.cells #[.int .i64 t.a0, .int .i64 t.a1, .int .i64 t.a2, .int .i64 t.a3, .int .i64 t.a4, .int .i64 t.a5, .int .i64 t.a6, .int .u32 t.a7, .int .i64 t.a8, .int .u32 t.a9, .int .u32 t.a10, .int .u32 t.a11, .int .u32 t.a12, .int .i64 t.a13, .int .u32 t.a14] 50) = W1 at hv1 hm1 hbl1 cx ⊢
     generalize wr.heap.size = cB at cx ⊢
     clear hv hm hbl
     have y0 := cx.cell 0 _ rfl
     have y1 := cx.cell 1 _ rfl
     have hlk := hm1.look hft
     rw [cntF_get, repN_all] at hlk
     have HR : Hid (repB K K.tl[k] = ((repN K t : Int) == (if t.a1 = 4 then 1 else 0))) := by unfold Hid repB; rw [HTl.out]
     generalize (repN K t : Int) = rn at hlk HR
     cases h4 : (t.a1 == 4)
     ·have HW : Hid (repB K K.tl[k] = (rn == 0)) := by unfold Hid; rw [HR.out, if_neg (by simpa using h4)]
      cases hz : (rn == 0)
      ·have HX : Hid (repB K K.tl[k] = false) := by unfold Hid; rw [HW.out, hz]
       have hnz : (rn != 0) = true := by rw [bne, hz]; rfl
       go_wp2
       go_ret
       exact ⟨ret_bool (HNo.out k hlt HX.out).symm, hbl1⟩
      ·have HX : Hid (repB K K.tl[k] = true) := by unfold Hid; rw [HW.out, hz]
       have hnz : (rn != 0) = false := by rw [bne, hz]; rfl
       go_wp2
       go_roundw
       case rel => exact ⟨k + 1, by omega, by go_num, fun i hi h => by by_cases e : i = k; subst e; exact HX.out; exact HN.out i hi (by omega), hv1, hm1, hbl1⟩
       case measure => simp [intOf]; omega
     ·have HW : Hid (repB K K.tl[k] = (rn == 1)) := by unfold Hid; rw [HR.out, if_pos (by simpa using h4)]
      cases hz : (rn == 1)
      ·have HX : Hid (repB K K.tl[k] = false) := by unfold Hid; rw [HW.out, hz]
       have hnz : (rn != 1) = true := by rw [bne, hz]; rfl
       go_wp2
       go_ret
       exact ⟨ret_bool (HNo.out k hlt HX.out).symm, hbl1⟩
      ·have HX : Hid (repB K K.tl[k] = true) := by unfold Hid; rw [HW.out, hz]
       have hnz : (rn != 1) = false := by rw [bne, hz]; rfl
       go_wp2
       go_roundw
       case rel => exact ⟨k + 1, by omega, by go_num, fun i hi h => by by_cases e : i = k; subst e; exact HX.out; exact HN.out i hi (by omega), hv1, hm1, hbl1⟩
       case measure => simp [intOf]; omega
    ·have hk1 : ¬ (k : Int) < (K.tl.length : Int) := by omega
     go_wp2
     go_ret
     exact ⟨ret_bool (HYes.out (fun i hi => HN.out i hi (by omega))).symm, hbl⟩

end Go.Proofs.YtigpbjcmmgdiaaaGreat
