/-
  Texts of the proof, put together: ViewJ, ViewK.
-/
import Derived.Test.YtigpbjcmmgdiaaaGreatRl
import Derived.StillTailTactics
/-
 The threads of a list enter a queue, by the program. Conditions: the view lies in memory, its map of threads has the heads of those who entered.
-/
namespace Go.Proofs.YtigpbjcmmgdiaaaGreat
open Go.ChangeShapes Go.WideShapes Go.ChangeAt Go.RowKit
set_option linter.unusedVariables false

theorem zeroMem (W : World) : (zeroValue 85).run Tryz.prog W = .ok (.agg #[.int .i64 0, .int .i64 0, .int .i64 0, .int .i64 0, .int .i64 0, .int .i64 0, .int .i64 0, .int .i64 0, .int .i64 0, .int .u32 0, .int .i64 0, .int .u32 0, .int .u32 0, .int .u32 0, .int .u32 0, .int .i64 0, .int .u32 0]) W := by kernel_rfl
theorem memH_eq (x y : Int) (t : QT) : memH (x, y) t = .agg #[.int .i64 x, .int .i64 y, .int .i64 t.a0, .int .i64 t.a1, .int .i64 t.a2, .int .i64 t.a3, .int .i64 t.a4, .int .i64 t.a5, .int .i64 t.a6, .int .u32 t.a7, .int .i64 t.a8, .int .u32 t.a9, .int .u32 t.a10, .int .u32 t.a11, .int .u32 t.a12, .int .i64 t.a13, .int .u32 t.a14] := rfl
theorem MapV.le {W : World} {b n m : Nat} {f : Int → Option Value} (h : MapV W b n f) (hm : n ≤ m) : MapV W b m f := by
 obtain ⟨D, h1, h2⟩ := h; exact ⟨D, h1.mono hm, h2⟩
structure EntV (w0 : World) (K : QK) (vB tB hB n : Nat) (fs : List Value) (w : World) (h1 h2 : Int) (P : Prs) (l : List Int) (j : Nat) (W : World) : Prop where
 v : View w0 K vB fs W
 m : MapV W tB (n + j) (quF K.tl (P ++ prs (h1, h2) (l.take j)))
 e : Ent K.tl (P ++ prs (h1, h2) (l.take j))
 b : But tB w W
 h : Bx W hB 83 [.int .i64 h1, .int .i64 h2]
def entInv (w0 : World) (K : QK) (vB tB hB n : Nat) (fs : List Value) (w : World) (h1 h2 : Int) (P : Prs) (l : List Int) (v : Value) (W : World) : Prop :=
 ∃ j : Nat, j ≤ l.length ∧ v = .int .i64 (j : Int) ∧ EntV w0 K vB tB hB n fs w h1 h2 P l j W
set_option maxRecDepth 100000 in
set_option maxHeartbeats 16000000 in
theorem enter_any (w0 : World) (K : QK) (vB tB n : Nat) (fs : List Value) (w : World) (P : Prs) (l : List Int) (lP : Option Addr) (lc : Nat) (h1 h2 : Int) (h : View w0 K vB fs w) (hf : fs[12]? = some (.map (some tB))) (hm : MapV w tB n (quF K.tl P)) (hn : n + l.length < 1000000000) (hE : Ent K.tl P) (hz : NzP P) (hh : h1 ≠ 0) (hl : LiesG fI w0 lP l) (hlen : l.length ≤ 1048576) (hfit : ∀ a ∈ l, FitI a) (hvt : vB ≠ tB) (htw : w0.heap.size ≤ tB) (b : Bool) (hb : b = true ↔ Ent K.tl (P ++ prs (h1, h2) l)) :
  Calls Tryz.prog 132 #[.pointer (some ⟨vB, 0, none⟩), .slice lP l.length lc, .agg #[.int .i64 h1, .int .i64 h2]] w fun e w' => e = .returned (.bool b) ∧ But tB w w' ∧ (b = true → MapV w' tB (n + l.length) (quF K.tl (P ++ prs (h1, h2) l))) := by
 have HBb : Hid (b = true ↔ Ent K.tl (P ++ prs (h1, h2) l)) := hb
 have HBf : Hid (¬ Ent K.tl (P ++ prs (h1, h2) l) → b = false) := fun h => by
  cases hbb : b with
  | false => rfl
  | true => exact absurd (hb.1 hbb) h
 clear hb
 have HFit : Hid _ := hfit
 have HVT : Hid (vB ≠ tB) := hvt
 have HTW : Hid (w0.heap.size ≤ tB) := htw
 have HF : Hid _ := hf
 have HL : Hid (LiesG fI w0 lP l) := hl
 have HN : Hid (n + l.length < 1000000000) := hn
 have HZ : Hid (NzP P) := hz
 have HH : Hid (h1 ≠ 0) := hh
 have HT : Hid (tB < w.heap.size) := hm.lt
 have S0 : EntV w0 K vB tB w.heap.size n fs w h1 h2 P l 0 (w.alloc (.cells #[.int .i64 h1, .int .i64 h2] 83)) := by
  have hb := (Below.refl w.heap.size w).alloc (Nat.le_refl _) (.cells #[.int .i64 h1, .int .i64 h2] 83)
  refine ⟨h.below hb, ?_, ?_, But.of tB hb, Bx.newAt w _ _ rfl⟩
  ·have := hm.below hb
   simpa [prs] using this
  ·simpa [prs] using hE
 have hBe : Hid (w.heap.size ≤ w.heap.size) := Nat.le_refl _
 clear hfit hvt htw hf hl hn hz hh hm hE h
 go_enter Tryz.func132, Tryz.ntmps132
 go_upto_region 1 with fail
 generalize w.alloc (.cells #[.int .i64 h1, .int .i64 h2] 83) = W1 at S0 ⊢
 obtain ⟨hB, hhB⟩ : ∃ hB, w.heap.size = hB := ⟨_, rfl⟩
 rw [hhB] at S0 hBe ⊢
 have HB : Hid (w.heap.size = hB) := hhB
 clear hBe hhB
 go_wp2
 go_loopw [13] (fun v W => entInv w0 K vB tB hB n fs w h1 h2 P l v W) (fun v W => l.length - (intOf v).toNat)
 case atStart => exact ⟨0, Nat.zero_le _, rfl, S0⟩
 case round => as_aux_lemma =>
  clear S0
  obtain ⟨j, hj, rfl, S⟩ := hrel
  by_cases hlt : j < l.length
  ·have hk1 : (j : Int) < (l.length : Int) := by omega
   have hrow := HL.out.below S.v.bw
   obtain ⟨B, O, hP⟩ := hrow.has hlt
   rw [hP] at hrow
   have c0 := atI hrow hlt
   have hix : ∀ W, (Instr.indexAt 27 (.slice lP l.length lc) (.int .i64 (j : Int))).run Tryz.prog W = .ok (.pointer (some ⟨B, O + j, none⟩)) W := fun W => by rw [hP]; go_simp
   obtain ⟨a, ha⟩ : ∃ a, l[j] = a := ⟨_, rfl⟩
   have HA : Hid (l[j] = a) := ha
   have hfa := HFit.out a (by rw [← ha]; exact List.getElem_mem hlt)
   rw [ha] at c0
   clear hP hrow ha
   have f12 := S.v.snd 12 _ HF.out
   have hlk := S.m.look_ok Tryz.underlying90 (zeroMem wr) hfa
   have HNo : Hid (((∀ t ∈ K.tl, t.a0 ≠ a) ∨ ∃ e ∈ P ++ prs (h1, h2) (l.take j), e.1 = a) → ¬ Ent K.tl (P ++ prs (h1, h2) l)) := fun hx => ent_no hlt (by rw [HA.out]; exact hx)
   have HNz : Hid (NzP (P ++ prs (h1, h2) (l.take j))) := HZ.out.app (prs_nz HH.out)
   have hqu : quF K.tl (P ++ prs (h1, h2) (l.take j)) a = (K.tl.find? (fun t => t.a0 == a)).map (fun t => memH (hdP (P ++ prs (h1, h2) (l.take j)) a) t) := rfl
   rw [hqu] at hlk
   clear hqu
   cases hfd : K.tl.find? (fun t => t.a0 == a) with
   | none => as_aux_lemma =>
    rw [hfd] at hlk
    simp only [Option.map_none, Option.getD_none, Option.isSome_none] at hlk
    have HX : Hid (¬ Ent K.tl (P ++ prs (h1, h2) l)) := HNo.out (.inl fun t ht e => by have := List.find?_eq_none.1 hfd t ht; simp at this; exact this e)
    have HB9 : Hid (But tB w (wr.alloc (.cells #[.int .i64 0, .int .i64 0, .int .i64 0, .int .i64 0, .int .i64 0, .int .i64 0, .int .i64 0, .int .i64 0, .int .i64 0, .int .u32 0, .int .i64 0, .int .u32 0, .int .u32 0, .int .u32 0, .int .u32 0, .int .i64 0, .int .u32 0] 85))) := S.b.trans (But.of tB ((Below.refl _ _).alloc (Nat.le_refl _) _))
    clear hfd S HNo HNz
    go_wp2
    go_ret
    exact ⟨ret_bool (HBf.out HX.out).symm, HB9.out, fun e => by rw [HBf.out HX.out] at e; cases e⟩
   | some t => as_aux_lemma =>
    rw [hfd] at hlk
    simp only [Option.map_some, Option.getD_some, Option.isSome_some] at hlk
    have HFd : Hid _ := hfd
    clear hfd
    obtain ⟨⟨hx, hy⟩, hhd⟩ : ∃ q : Hd, hdP (P ++ prs (h1, h2) (l.take j)) a = q := ⟨_, rfl⟩
    rw [hhd, memH_eq] at hlk
    have HHd : Hid _ := hhd
    clear hhd
    have b1 := (Below.refl wr.heap.size wr).alloc (Nat.le_refl _) (.cells #[.int .i64 hx, .int .i64 hy, .int .i64 t.a0, .int .i64 t.a1, .int .i64 t.a2, .int .i64 t.a3, .int .i64 t.a4, .int .i64 t.a5, .int .i64 t.a6, .int .u32 t.a7, .int .i64 t.a8, .int .u32 t.a9, .int .u32 t.a10, .int .u32 t.a11, .int .u32 t.a12, .int .i64 t.a13, .int .u32 t.a14] 85)
    have v1 := S.v.below b1
    have m1 := S.m.below b1
    have u1 := S.b.trans (But.of tB b1)
    have e1 := S.e
    have x1 := S.h.below b1
    have cx1 := Bx.newAt wr 85 [.int .i64 hx, .int .i64 hy, .int .i64 t.a0, .int .i64 t.a1, .int .i64 t.a2, .int .i64 t.a3, .int .i64 t.a4, .int .i64 t.a5, .int .i64 t.a6, .int .u32 t.a7, .int .i64 t.a8, .int .u32 t.a9, .int .u32 t.a10, .int .u32 t.a11, .int .u32 t.a12, .int .i64 t.a13, .int .u32 t.a14] (c := wr.heap.size) rfl
    have HMs : Hid (hB < wr.heap.size) := S.h.lt
    have HTs : Hid (tB < wr.heap.size) := S.m.lt
    have hvs : Hid (vB < wr.heap.size) := S.v.lt
    have hws : Hid (w.heap.size ≤ wr.heap.size) := S.b.size
    have hws0 : Hid (w0.heap.size ≤ wr.heap.size) := S.v.bw.size
    clear S
    as_aux_lemma =>
    go_upto_region 5 with fail
    as_aux_lemma =>
    generalize wr.alloc (.cells #[.int .i64 hx, .int .i64 hy, .int .i64 t.a0, .int .i64 t.a1, .int .i64 t.a2, .int .i64 t.a3, .int .i64 t.a4, .int .i64 t.a5, .int .i64 t.a6, .int .u32 t.a7, .int .i64 t.a8, .int .u32 t.a9, .int .u32 t.a10, .int .u32 t.a11, .int .u32 t.a12, .int .i64 t.a13, .int .u32 t.a14] 85) = W1 at v1 m1 u1 x1 cx1 ⊢
    obtain ⟨mB, hmB⟩ : ∃ mB, wr.heap.size = mB := ⟨_, rfl⟩
    rw [hmB] at cx1 HMs HTs hvs hws hws0 ⊢
    clear hmB f12 c0 hix hlk
    have y0 := cx1.cell 0 _ rfl
    have y1 := cx1.cell 1 _ rfl
    have yz := cx1.frozen
    have HNn := fun W => hdNone_any hx hy W
    cases hnn : hdNone (hx, hy)
    ·as_aux_lemma =>
     rw [hnn] at HNn
     have HX : Hid (¬ Ent K.tl (P ++ prs (h1, h2) l)) := HNo.out (.inr (by
      apply Classical.byContradiction
      intro hc
      have := hdP_none (P := P ++ prs (h1, h2) (l.take j)) (x := a) (fun e he ex => hc ⟨e, he, ex⟩)
      rw [HHd.out] at this
      injection this with q1 q2
      unfold hdNone at hnn; rw [q1, q2] at hnn; cases hnn))
     clear hnn
     go_wp2_with (go_at_call 166; refine (HNn _).mono ?_; rintro e w2 ⟨rfl, hb2⟩)
     go_ret
     exact ⟨ret_bool (HBf.out HX.out).symm, u1.trans (But.of tB hb2), fun e => by rw [HBf.out HX.out] at e; cases e⟩
    ·as_aux_lemma =>
     rw [hnn] at HNn
     have HO : Hid (∀ e ∈ P ++ prs (h1, h2) (l.take j), e.1 ≠ a) := hdP_zero HNz.out (by rw [HHd.out]; unfold hdNone at hnn; simp only [Bool.and_eq_true, beq_iff_eq] at hnn; exact hnn.1)
     clear hnn
     go_upto_region 7 with (go_at_call 166; refine (HNn _).mono ?_; rintro e w2 ⟨rfl, hb2⟩)
     have v2 := v1.below hb2
     have m2 := m1.below hb2
     have u2 := u1.trans (But.of tB hb2)
     have x2 := x1.below hb2
     have cx2 := cx1.below hb2
     have hlm : mB < w2.heap.size := cx2.lt
     clear v1 m1 u1 x1 cx1 hb2 y0 y1 yz HNn
     have z0 := x2.cell 0 _ rfl
     have z1 := x2.cell 1 _ rfl
     have y0 := cx2.cell 0 _ rfl
     have y1 := cx2.cell 1 _ rfl
     have yz := cx2.frozen
     as_aux_lemma =>
     go_upto_region 8 with fail
     have hnm : hB ≠ mB := by have := HMs.out; omega
     have hvm : vB ≠ mB := by have := hvs.out; omega
     have htm : tB ≠ mB := by have := HTs.out; omega
     have v3 := (v2.far (c := mB) (k := 0) hvm hws0.out (.int .i64 h1)).far (c := mB) (k := 1) hvm hws0.out (.int .i64 h2)
     have m3 := (m2.setCell (a := ⟨mB, 0, none⟩) htm (.int .i64 h1)).setCell (a := ⟨mB, 1, none⟩) htm (.int .i64 h2)
     have u3 := (u2.out hws.out 0 (.int .i64 h1)).out hws.out 1 (.int .i64 h2)
     have x3 := (x2.far (c := mB) (k := 0) (.int .i64 h1) hnm).far (c := mB) (k := 1) (.int .i64 h2) hnm
     have cx3 := (cx2.set 0 (.int .i64 h1)).set 1 (.int .i64 h2)
     simp only [List.set_cons_zero, List.set_cons_succ] at cx3
     clear v2 m2 u2 x2 cx2 y0 y1 yz z0 z1
     generalize (w2.setCell ⟨mB, 0, none⟩ (.int .i64 h1)).setCell ⟨mB, 1, none⟩ (.int .i64 h2) = W3 at v3 m3 u3 x3 cx3 ⊢
     have y0 := cx3.cell 0 _ rfl; have y1 := cx3.cell 1 _ rfl; have y2 := cx3.cell 2 _ rfl; have y3 := cx3.cell 3 _ rfl; have y4 := cx3.cell 4 _ rfl; have y5 := cx3.cell 5 _ rfl; have y6 := cx3.cell 6 _ rfl; have y7 := cx3.cell 7 _ rfl; have y8 := cx3.cell 8 _ rfl; have y9 := cx3.cell 9 _ rfl; have y10 := cx3.cell 10 _ rfl; have y11 := cx3.cell 11 _ rfl; have y12 := cx3.cell 12 _ rfl; have y13 := cx3.cell 13 _ rfl; have y14 := cx3.cell 14 _ rfl; have y15 := cx3.cell 15 _ rfl; have y16 := cx3.cell 16 _ rfl
     have f12 := v3.snd 12 _ HF.out
     obtain ⟨W', hrun, hm4, hg⟩ := (m3.below (Below.refl _ _).drew).put Tryz.underlying90 (by have := HN.out; unfold maxLen; omega) (x := a) hfa (memH (h1, h2) t)
     rw [memH_eq] at hrun
     have HM : Hid (MapV W' tB (n + (j + 1)) (quF K.tl (P ++ prs (h1, h2) (l.take (j + 1))))) := by
      unfold Hid
      rw [prs_take hlt, HA.out, ← List.append_assoc, ← quF_put HO.out HFd.out]
      exact hm4
     have HE : Hid (Ent K.tl (P ++ prs (h1, h2) (l.take (j + 1)))) := by
      unfold Hid
      rw [prs_take hlt, HA.out, ← List.append_assoc]
      exact e1.snoc (find_thr.2 ⟨t, HFd.out⟩) HO.out
     have HG : Hid _ := hg
     have hlh : hB ≠ tB := by have := HB.out; have := HT.out; omega
     clear hm4 hg e1
     as_aux_lemma =>
     have hmx : Tryz.prog.follows .mixedOrders = true := by kernel_rfl
     go_still_tail 6, hmx
     go_wp2
     go_roundw
     case rel =>
      exact ⟨j + 1, by omega, by go_num, v3.drew.but HG.out HVT.out HTW.out, HM.out, HE.out, (u3.trans (But.of tB (Below.refl _ _).drew)).trans HG.out, x3.drew.but HG.out hlh⟩
     case measure => simp [intOf]; omega
  ·have hk1 : ¬ (j : Int) < (l.length : Int) := by omega
   have hje : j = l.length := by omega
   have hm := S.m
   have he := S.e
   have hb := S.b
   rw [hje, List.take_length] at hm he
   clear S hje
   go_wp2
   go_ret
   exact ⟨ret_bool (HBb.out.2 he).symm, hb, fun _ => hm⟩

end Go.Proofs.YtigpbjcmmgdiaaaGreat
/-
 Those who wait at an endpoint or a notification enter its queue, by the program. Conditions: the view lies in memory, its map of threads has the heads of those who entered.
-/
namespace Go.Proofs.YtigpbjcmmgdiaaaGreat
open Go.ChangeShapes Go.WideShapes Go.ChangeAt Go.RowKit
set_option linter.unusedVariables false

theorem boolOf (P : Prop) : ∃ b : Bool, b = true ↔ P := by
 by_cases h : P
 ·exact ⟨true, by simp [h]⟩
 ·exact ⟨false, by simp [h]⟩
theorem false_of {b : Bool} {P : Prop} (h : b = true ↔ P) (hn : ¬ P) : b = false := by
 cases hb : b with
 | false => rfl
 | true => exact absurd (h.1 hb) hn
set_option maxRecDepth 100000 in
set_option maxHeartbeats 16000000 in
theorem enterEnd_any (w0 : World) (K : QK) (vB tB n : Nat) (fs : List Value) (w : World) (P : Prs) (ad kd : Int) (l : List Int) (lP : Option Addr) (lc : Nat) (h : View w0 K vB fs w) (hf : fs[12]? = some (.map (some tB))) (hm : MapV w tB n (quF K.tl P)) (hn : n + l.length < 1000000000) (hE : Ent K.tl P) (hz : NzP P) (hl : LiesG fI w0 lP l) (hlen : l.length ≤ 1048576) (hfit : ∀ a ∈ l, FitI a) (hvt : vB ≠ tB) (htw : w0.heap.size ≤ tB) (b : Bool) (hb : b = true ↔ (endShapeB ⟨ad, kd, lP, lc, l⟩ = true ∧ Ent K.tl (P ++ prs (kd + 1, ad) l))) :
  Calls Tryz.prog 130 #[.pointer (some ⟨vB, 0, none⟩), .agg #[.int .i64 ad, .int .i64 kd, .slice lP l.length lc]] w fun e w' => e = .returned (.bool b) ∧ But tB w w' ∧ (b = true → MapV w' tB (n + l.length) (quF K.tl (P ++ prs (kd + 1, ad) l))) := by
 have hB0 := (Below.refl w.heap.size w).alloc (Nat.le_refl _) (.cells #[.int .i64 ad, .int .i64 kd, .slice lP l.length lc] 114)
 have v1 := h.below hB0
 have m1 := hm.below hB0
 have u1 := But.of tB hB0
 have x1 := Bx.newAt w 114 [.int .i64 ad, .int .i64 kd, .slice lP l.length lc] (c := w.heap.size) rfl
 have HEn : Hid (∀ (W : World) (k1 : Int) (b' : Bool), View w0 K vB fs W → MapV W tB n (quF K.tl P) → k1 ≠ 0 → (b' = true ↔ Ent K.tl (P ++ prs (k1, ad) l)) → _) := fun W k1 b' hv hmm hk hb' => enter_any w0 K vB tB n fs W P l lP lc k1 ad hv hf hmm hn hE hz hk hl hlen hfit hvt htw b' hb'
 have HBb : Hid (b = true ↔ (endShapeB ⟨ad, kd, lP, lc, l⟩ = true ∧ Ent K.tl (P ++ prs (kd + 1, ad) l))) := hb
 have HE : Hid (Ent K.tl P) := hE
 clear h hm hf hE hz hl hfit hvt htw hb hB0 hn
 go_enter Tryz.func130, Tryz.ntmps130
 go_upto_region 1 with fail
 generalize w.alloc (.cells #[.int .i64 ad, .int .i64 kd, .slice lP l.length lc] 114) = W1 at v1 m1 u1 x1 ⊢
 have y0 := x1.cell 0 _ rfl
 have y1 := x1.cell 1 _ rfl
 have y2 := x1.cell 2 _ rfl
 cases h0 : (kd == 0)
 ·have n0 : ¬ kd = 0 := by simpa using h0
  cases h1 : (kd == 1)
  ·have n1 : ¬ kd = 1 := by simpa using h1
   cases h2 : (kd == 2)
   ·have n2 : ¬ kd = 2 := by simpa using h2
    have HX : Hid (b = false) := false_of HBb.out (fun hc => by have := hc.1; unfold endShapeB at this; rw [if_neg n0, if_neg (fun h => h.elim n1 n2)] at this; cases this)
    clear n0 n1 n2
    go_wp2
    go_ret
    exact ⟨ret_bool HX.out.symm, u1, fun e => by rw [HX.out] at e; cases e⟩
   ·have e2 : kd = 2 := by simpa using h2
    have HK : Hid (kd + 1 = 3) := by unfold Hid; omega
    have HS : Hid (endShapeB ⟨ad, kd, lP, lc, l⟩ = decide (0 < l.length)) := by unfold Hid endShapeB; rw [if_neg n0, if_pos (.inr e2)]
    clear e2 n0 n1
    have hd : decide (0 < l.length) = decide ((0 : Int) < (l.length : Int)) := by rw [decide_eq_decide]; omega
    cases hl0 : decide ((0 : Int) < (l.length : Int))
    ·rw [hl0] at hd
     have HX : Hid (b = false) := false_of HBb.out (fun hc => by have := hc.1; rw [HS.out] at this; simp only [decide_eq_true_eq, decide_eq_false_iff_not] at this hl0; omega)
     go_wp2
     go_ret
     exact ⟨ret_bool HX.out.symm, u1, fun e => by rw [HX.out] at e; cases e⟩
    ·rw [hl0] at hd
     have hb2 : b = true ↔ Ent K.tl (P ++ prs (3, ad) l) := by
      rw [HBb.out, HS.out, HK.out]
      simp only [decide_eq_true_eq] at hl0 ⊢
      exact ⟨fun h => h.2, fun h => ⟨by omega, h⟩⟩
     have HC : Hid _ := HEn.out W1 3 b v1 m1 (by decide) hb2
     have HX : Hid (prs (kd + 1, ad) l = prs (3, ad) l) := by unfold Hid; rw [HK.out]
     clear hb2 v1 m1
     go_wp2_with (go_at_call 132; refine Calls.mono HC.out ?_; rintro e w2 ⟨rfl, hbt, hmv⟩)
     go_ret
     exact ⟨rfl, u1.trans hbt, fun e => by rw [HX.out]; exact hmv e⟩
  ·have e2 : kd = 1 := by simpa using h1
   have HK : Hid (kd + 1 = 2) := by unfold Hid; omega
   have HS : Hid (endShapeB ⟨ad, kd, lP, lc, l⟩ = decide (0 < l.length)) := by unfold Hid endShapeB; rw [if_neg n0, if_pos (.inl e2)]
   clear e2 n0
   have hd : decide (0 < l.length) = decide ((0 : Int) < (l.length : Int)) := by rw [decide_eq_decide]; omega
   cases hl0 : decide ((0 : Int) < (l.length : Int))
   ·rw [hl0] at hd
    have HX : Hid (b = false) := false_of HBb.out (fun hc => by have := hc.1; rw [HS.out] at this; simp only [decide_eq_true_eq, decide_eq_false_iff_not] at this hl0; omega)
    go_wp2
    go_ret
    exact ⟨ret_bool HX.out.symm, u1, fun e => by rw [HX.out] at e; cases e⟩
   ·rw [hl0] at hd
    have hb2 : b = true ↔ Ent K.tl (P ++ prs (2, ad) l) := by
     rw [HBb.out, HS.out, HK.out]
     simp only [decide_eq_true_eq] at hl0 ⊢
     exact ⟨fun h => h.2, fun h => ⟨by omega, h⟩⟩
    have HC : Hid _ := HEn.out W1 2 b v1 m1 (by decide) hb2
    have HX : Hid (prs (kd + 1, ad) l = prs (2, ad) l) := by unfold Hid; rw [HK.out]
    clear hb2 v1 m1
    go_wp2_with (go_at_call 132; refine Calls.mono HC.out ?_; rintro e w2 ⟨rfl, hbt, hmv⟩)
    go_ret
    exact ⟨rfl, u1.trans hbt, fun e => by rw [HX.out]; exact hmv e⟩
 ·have e0 : kd = 0 := by simpa using h0
  have HS : Hid (endShapeB ⟨ad, kd, lP, lc, l⟩ = (l.length == 0)) := by unfold Hid endShapeB; rw [if_pos e0]
  clear e0
  cases hl0 : ((l.length : Int) == 0)
  ·have HX : Hid (b = false) := false_of HBb.out (fun hc => by have := hc.1; rw [HS.out] at this; simp at this hl0; exact hl0 this)
   go_wp2
   go_ret
   exact ⟨ret_bool HX.out.symm, u1, fun e => by rw [HX.out] at e; cases e⟩
  ·have hln : l = [] := List.length_eq_zero_iff.1 (by simp at hl0; simpa using hl0)
   have HX : Hid (b = true ∧ P ++ prs (kd + 1, ad) l = P ∧ l.length = 0) := by
    have e : P ++ prs (kd + 1, ad) l = P := by rw [hln, prs_nil, List.append_nil]
    refine ⟨HBb.out.2 ⟨by rw [HS.out, hln]; rfl, by rw [e]; exact HE.out⟩, e, by rw [hln]; rfl⟩
   clear hln
   go_wp2
   go_ret
   exact ⟨ret_bool HX.out.1.symm, u1, fun _ => by rw [HX.out.2.1, HX.out.2.2]; exact m1⟩

set_option maxRecDepth 100000 in
set_option maxHeartbeats 16000000 in
theorem enterNote_any (w0 : World) (K : QK) (vB tB n : Nat) (fs : List Value) (w : World) (P : Prs) (ad wd : Int) (ac : Bool) (l : List Int) (lP : Option Addr) (lc : Nat) (h : View w0 K vB fs w) (hf : fs[12]? = some (.map (some tB))) (hm : MapV w tB n (quF K.tl P)) (hn : n + l.length < 1000000000) (hE : Ent K.tl P) (hz : NzP P) (hl : LiesG fI w0 lP l) (hlen : l.length ≤ 1048576) (hfit : ∀ a ∈ l, FitI a) (hvt : vB ≠ tB) (htw : w0.heap.size ≤ tB) (b : Bool) (hb : b = true ↔ (noteShapeB ⟨ad, ac, wd, lP, lc, l⟩ = true ∧ Ent K.tl (P ++ prs (5, ad) l))) :
  Calls Tryz.prog 131 #[.pointer (some ⟨vB, 0, none⟩), .agg #[.int .i64 ad, .bool ac, .int .i64 wd, .slice lP l.length lc]] w fun e w' => e = .returned (.bool b) ∧ But tB w w' ∧ (b = true → MapV w' tB (n + l.length) (quF K.tl (P ++ prs (5, ad) l))) := by
 have hB0 := (Below.refl w.heap.size w).alloc (Nat.le_refl _) (.cells #[.int .i64 ad, .bool ac, .int .i64 wd, .slice lP l.length lc] 116)
 have v1 := h.below hB0
 have m1 := hm.below hB0
 have u1 := But.of tB hB0
 have x1 := Bx.newAt w 116 [.int .i64 ad, .bool ac, .int .i64 wd, .slice lP l.length lc] (c := w.heap.size) rfl
 have HEn : Hid (∀ (W : World) (b' : Bool), View w0 K vB fs W → MapV W tB n (quF K.tl P) → (b' = true ↔ Ent K.tl (P ++ prs (5, ad) l)) → _) := fun W b' hv hmm hb' => enter_any w0 K vB tB n fs W P l lP lc 5 ad hv hf hmm hn hE hz (by decide) hl hlen hfit hvt htw b' hb'
 have HBb : Hid (b = true ↔ (noteShapeB ⟨ad, ac, wd, lP, lc, l⟩ = true ∧ Ent K.tl (P ++ prs (5, ad) l))) := hb
 have HE : Hid (Ent K.tl P) := hE
 clear h hm hf hE hz hl hfit hvt htw hb hB0 hn
 go_enter Tryz.func131, Tryz.ntmps131
 go_upto_region 1 with fail
 generalize w.alloc (.cells #[.int .i64 ad, .bool ac, .int .i64 wd, .slice lP l.length lc] 116) = W1 at v1 m1 u1 x1 ⊢
 have y0 := x1.cell 0 _ rfl
 have y1 := x1.cell 1 _ rfl
 have y2 := x1.cell 2 _ rfl
 have y3 := x1.cell 3 _ rfl
 cases hac : ac
 ·rw [hac] at y1
  have HS : Hid (noteShapeB ⟨ad, ac, wd, lP, lc, l⟩ = (wd == 0)) := by unfold Hid noteShapeB; rw [hac]; rfl
  clear hac
  cases hw0 : (wd == 0)
  ·have HX : Hid (b = false) := false_of HBb.out (fun hc => by have := hc.1; rw [HS.out, hw0] at this; cases this)
   go_wp2
   go_ret
   exact ⟨ret_bool HX.out.symm, u1, fun e => by rw [HX.out] at e; cases e⟩
  ·have hb2 : b = true ↔ Ent K.tl (P ++ prs (5, ad) l) := by
    rw [HBb.out, HS.out, hw0]
    exact ⟨fun h => h.2, fun h => ⟨rfl, h⟩⟩
   have HC : Hid _ := HEn.out W1 b v1 m1 hb2
   clear hb2 v1 m1
   go_wp2_with (go_at_call 132; refine Calls.mono HC.out ?_; rintro e w2 ⟨rfl, hbt, hmv⟩)
   go_ret
   exact ⟨rfl, u1.trans hbt, fun e => hmv e⟩
 ·rw [hac] at y1
  have HS : Hid (noteShapeB ⟨ad, ac, wd, lP, lc, l⟩ = ((l.length == 0) && withinB wd 0 65535)) := by unfold Hid noteShapeB; rw [hac]; rfl
  clear hac
  have HW0 := fun W => within_any wd 0 65535 W
  obtain ⟨wv, hwv⟩ : ∃ wv, withinB wd 0 65535 = wv := ⟨_, rfl⟩
  rw [hwv] at HW0 HS
  have HWv : Hid _ := hwv
  clear hwv
  cases hl0 : ((l.length : Int) == 0)
  ·have HX : Hid (b = false) := false_of HBb.out (fun hc => by have := hc.1; rw [HS.out] at this; simp at this hl0; exact hl0 this.1)
   go_wp2
   go_ret
   exact ⟨ret_bool HX.out.symm, u1, fun e => by rw [HX.out] at e; cases e⟩
  ·have hln : l = [] := List.length_eq_zero_iff.1 (by simp at hl0; simpa using hl0)
   have HX : Hid (b = wv ∧ P ++ prs (5, ad) l = P ∧ l.length = 0) := by
    have e : P ++ prs (5, ad) l = P := by rw [hln, prs_nil, List.append_nil]
    refine ⟨?_, e, by rw [hln]; rfl⟩
    have hs := HS.out
    have hs2 : (l.length == 0) = true := by rw [hln]; rfl
    rw [hs2, Bool.true_and] at hs
    cases wv with
    | false => exact false_of HBb.out (fun hc => by have := hc.1; rw [hs] at this; cases this)
    | true => exact HBb.out.2 ⟨hs, by rw [e]; exact HE.out⟩
   clear hln
   go_wp2_with (go_at_call 99; refine (HW0 _).mono ?_; rintro e w2 ⟨rfl, hw2⟩; have hw2 := hw2.symm; subst hw2)
   go_ret
   exact ⟨ret_bool HX.out.1.symm, u1, fun _ => by rw [HX.out.2.1, HX.out.2.2]; exact m1⟩

end Go.Proofs.YtigpbjcmmgdiaaaGreat
