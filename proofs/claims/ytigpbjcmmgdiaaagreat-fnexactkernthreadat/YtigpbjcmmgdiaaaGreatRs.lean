/-
  Texts of the proof, put together: ViewT, PlProg.
-/
import Derived.Test.YtigpbjcmmgdiaaaGreatRi
import Derived.Test.YtigpbjcmmgdiaaaGreatRj
import Derived.Test.YtigpbjcmmgdiaaaGreatRo
import Derived.Test.YtigpbjcmmgdiaaaGreatRn
import Derived.Test.YtigpbjcmmgdiaaaGreatViewX
import Derived.Test.YtigpbjcmmgdiaaaGreatRq
import Derived.Test.YtigpbjcmmgdiaaaGreatViewQ
import Derived.Test.YtigpbjcmmgdiaaaGreatViewD
import Derived.Test.YtigpbjcmmgdiaaaGreatRr
/-
 What the view of a state is behind each of the twelve checks, and each check told so. Conditions: the state's rows lie in memory and are not too long; its integers are such of 64 bits.
-/
namespace Go.Proofs.YtigpbjcmmgdiaaaGreat
open Go.ChangeShapes Go.WideShapes Go.ChangeAt Go.RowKit
set_option linter.unusedVariables false

theorem LiesG.sameL {α : Type} {F : Form α} {W W' : World} {P : Option Addr} {L : List α} (h : LiesG F W P L) (hb : ∀ B O, P = some ⟨B, O, none⟩ → W'.heap[B]? = W.heap[B]?) : LiesG F W' P L :=
 ⟨h.place, fun B O e i hi j hj => by rw [cell_same (hb B O e)]; exact h.cells B O e i hi j hj⟩
theorem MapI.but {W W' : World} {b n g : Nat} {f : Int → Option Int} (h : MapI W b n f) (hb : But g W W') (hg : b ≠ g) : MapI W' b n f :=
 h.grown hb (fun e => hg (by injection e))
theorem MapV.but {W W' : World} {b n g : Nat} {f : Int → Option Value} (h : MapV W b n f) (hb : But g W W') (hg : b ≠ g) : MapV W' b n f :=
 h.grown hb (fun e => hg (by injection e))
/-- The checks, in their order. -/
def fnL (vB : Nat) : List Value := [.func (.func 62) #[.pointer (some ⟨vB, 0, none⟩)] #[], .func (.func 63) #[.pointer (some ⟨vB, 0, none⟩)] #[], .func (.func 64) #[.pointer (some ⟨vB, 0, none⟩)] #[], .func (.func 65) #[.pointer (some ⟨vB, 0, none⟩)] #[], .func (.func 66) #[.pointer (some ⟨vB, 0, none⟩)] #[], .func (.func 67) #[.pointer (some ⟨vB, 0, none⟩)] #[], .func (.func 68) #[.pointer (some ⟨vB, 0, none⟩)] #[], .func (.func 69) #[.pointer (some ⟨vB, 0, none⟩)] #[], .func (.func 70) #[.pointer (some ⟨vB, 0, none⟩)] #[], .func (.func 71) #[.pointer (some ⟨vB, 0, none⟩)] #[], .func (.func 72) #[.pointer (some ⟨vB, 0, none⟩)] #[], .func (.func 73) #[.pointer (some ⟨vB, 0, none⟩)] #[]]
/-- What stays behind slotsOk. -/
structure ZS (w0 : World) (K : QK) (vB cB N uB pB : Nat) (P : Option Addr) (cap : Nat) (A : List Int) (fs : List Value) (W : World) : Prop where
 v : View w0 K vB fs W
 c : Bx W cB 121 (fnL vB)
 cv : vB < cB
 fl : fs.length = 13
 f0 : fs[0]? = some (.slice (some ⟨N, 0, none⟩) K.sl.length K.sl.length)
 f1 : fs[1]? = some (.slice (some ⟨uB, 0, none⟩) K.sl.length K.sl.length)
 f3 : fs[3]? = some (.map (some pB))
 f4 : fs[4]? = some (.slice P A.length cap)
 l : Linked W N K.sl
 ln : N < W.heap.size
 vn : vB < N ∧ vB < uB ∧ vB < pB
 u : Bx W uB 3 (upsRow K.sl)
 m : MapI W pB K.sl.length (placeR K.sl K.sl.length)
 a : LiesG fI W P A
 ha : AtsP (placeR K.sl K.sl.length) A
 ac : A.length ≤ cap
 am : cap ≤ 9223372036854775807
 pb : ∀ B O, P = some ⟨B, O, none⟩ → B < W.heap.size ∧ vB < B
 bo : boundsB K = true
 tr : treeB K.sl = true
theorem ZS.but {w0 : World} {K : QK} {vB cB N uB pB : Nat} {P : Option Addr} {cap : Nat} {A : List Int} {fs fs' : List Value} {W W' : World} {g : Nat} (h : ZS w0 K vB cB N uB pB P cap A fs W) (hv : View w0 K vB fs' W') (hb : But g W W') (hg : g = vB ∨ (cB < g ∧ N < g ∧ uB < g ∧ pB < g ∧ ∀ B O, P = some ⟨B, O, none⟩ → B < g)) (hl : fs'.length = 13) (h0 : fs'[0]? = fs[0]?) (h1 : fs'[1]? = fs[1]?) (h3 : fs'[3]? = fs[3]?) (h4 : fs'[4]? = fs[4]?) : ZS w0 K vB cB N uB pB P cap A fs' W' := by
 have hc := h.cv
 obtain ⟨n1, n2, n3⟩ := h.vn
 refine ⟨hv, h.c.but hb (by omega), hc, hl, h0.trans h.f0, h1.trans h.f1, h3.trans h.f3, h4.trans h.f4, h.l.but hb h.ln (by omega), Nat.lt_of_lt_of_le h.ln hb.size, h.vn, h.u.but hb (by omega), h.m.but hb (by omega), h.a.sameL fun B O e => hb.block B (h.pb B O e).1 (fun e2 => ?_), h.ha, h.ac, h.am, fun B O e => ⟨Nat.lt_of_lt_of_le (h.pb B O e).1 hb.size, (h.pb B O e).2⟩, h.bo, h.tr⟩
 injection e2 with e2
 have := h.pb B O e
 rcases hg with hg | ⟨_, _, _, _, hg⟩
 ·omega
 ·have := hg B O e; omega
theorem ZS.below {w0 : World} {K : QK} {vB cB N uB pB : Nat} {P : Option Addr} {cap : Nat} {A : List Int} {fs : List Value} {W W' : World} (h : ZS w0 K vB cB N uB pB P cap A fs W) (hb : Below W.heap.size W W') : ZS w0 K vB cB N uB pB P cap A fs W' :=
 h.but (h.v.below hb) (But.of vB hb) (.inl rfl) h.fl rfl rfl rfl rfl
/-- What stays behind objectsOk. -/
structure ZO (w0 : World) (K : QK) (vB cB N uB pB : Nat) (P : Option Addr) (cap : Nat) (A : List Int) (m0 : Nat) (fs : List Value) (W : World) : Prop where
 z : ZS w0 K vB cB N uB pB P cap A fs W
 f5 : ∀ i, i < 7 → fs[5 + i]? = some (.map (some (m0 + i)))
 mm : ∀ i : Nat, 2 ≤ i → i ≤ 6 → MapI W (m0 + i) K.sl.length (objR K.sl (i : Int) K.sl.length)
 vm : vB < m0
theorem ZO.but {w0 : World} {K : QK} {vB cB N uB pB : Nat} {P : Option Addr} {cap : Nat} {A : List Int} {m0 : Nat} {fs fs' : List Value} {W W' : World} {g : Nat} (h : ZO w0 K vB cB N uB pB P cap A m0 fs W) (hv : View w0 K vB fs' W') (hb : But g W W') (hg : g = vB ∨ (cB < g ∧ N < g ∧ uB < g ∧ pB < g ∧ (∀ B O, P = some ⟨B, O, none⟩ → B < g) ∧ m0 + 6 < g)) (hl : fs'.length = 13) (h0 : fs'[0]? = fs[0]?) (h1 : fs'[1]? = fs[1]?) (h3 : fs'[3]? = fs[3]?) (h4 : fs'[4]? = fs[4]?) (h5 : ∀ i, i < 7 → fs'[5 + i]? = fs[5 + i]?) : ZO w0 K vB cB N uB pB P cap A m0 fs' W' := by
 have hm := h.vm
 refine ⟨h.z.but hv hb (by rcases hg with hg | ⟨a, b, c, d, e, _⟩; exact .inl hg; exact .inr ⟨a, b, c, d, e⟩) hl h0 h1 h3 h4, fun i hi => (h5 i hi).trans (h.f5 i hi), fun i h1 h2 => (h.mm i h1 h2).but hb ?_, hm⟩
 rcases hg with hg | ⟨_, _, _, _, _, hg⟩ <;> omega
theorem ZO.below {w0 : World} {K : QK} {vB cB N uB pB : Nat} {P : Option Addr} {cap : Nat} {A : List Int} {m0 : Nat} {fs : List Value} {W W' : World} (h : ZO w0 K vB cB N uB pB P cap A m0 fs W) (hb : Below W.heap.size W W') : ZO w0 K vB cB N uB pB P cap A m0 fs W' :=
 h.but (h.z.v.below hb) (But.of vB hb) (.inl rfl) h.z.fl rfl rfl rfl rfl (fun _ _ => rfl)
/-- What stays behind homesOk. -/
structure ZH (w0 : World) (K : QK) (vB cB N uB pB : Nat) (P : Option Addr) (cap : Nat) (A : List Int) (m0 hB : Nat) (fs : List Value) (W : World) : Prop where
 o : ZO w0 K vB cB N uB pB P cap A m0 fs W
 f2 : fs[2]? = some (.slice (some ⟨hB, 0, none⟩) K.sl.length K.sl.length)
 h : Bx W hB 3 (homesRow K.sl)
 vh : vB < hB
theorem ZH.below {w0 : World} {K : QK} {vB cB N uB pB : Nat} {P : Option Addr} {cap : Nat} {A : List Int} {m0 hB : Nat} {fs : List Value} {W W' : World} (h : ZH w0 K vB cB N uB pB P cap A m0 hB fs W) (hb : Below W.heap.size W W') : ZH w0 K vB cB N uB pB P cap A m0 hB fs W' :=
 ⟨h.o.below hb, h.f2, h.h.below hb, h.vh⟩
/-- What stays behind threadsOk. -/
structure ZT (w0 : World) (K : QK) (vB cB N uB pB : Nat) (P : Option Addr) (cap : Nat) (A : List Int) (m0 hB tB n : Nat) (f : Int → Option Value) (fs : List Value) (W : World) : Prop where
 h : ZH w0 K vB cB N uB pB P cap A m0 hB fs W
 f12 : fs[12]? = some (.map (some tB))
 t : MapV W tB n f
 lt : cB < tB ∧ N < tB ∧ uB < tB ∧ pB < tB ∧ (∀ B O, P = some ⟨B, O, none⟩ → B < tB) ∧ m0 + 6 < tB ∧ hB < tB
theorem ZT.below {w0 : World} {K : QK} {vB cB N uB pB : Nat} {P : Option Addr} {cap : Nat} {A : List Int} {m0 hB tB n : Nat} {f : Int → Option Value} {fs : List Value} {W W' : World} (h : ZT w0 K vB cB N uB pB P cap A m0 hB tB n f fs W) (hb : Below W.heap.size W W') : ZT w0 K vB cB N uB pB P cap A m0 hB tB n f fs W' :=
 ⟨h.h.below hb, h.f12, h.t.below hb, h.lt⟩
def MemP (K : QK) : Prop := K.sl.all (memI K.bits) = true
def DerP (K : QK) : Prop := derAll K.sl = true
def ObjL (K : QK) : Prop := ListP K.sl 3 (K.tl.map QT.a0) ∧ ListP K.sl 4 (K.el.map QE.ad) ∧ ListP K.sl 5 (K.nl.map QN.ad) ∧ ListP K.sl 6 (K.fl.map QF.ad)
def FrmP (K : QK) : Prop := K.fl.all (frameOkB K.sl) = true
def HomP (K : QK) : Prop := (List.range K.sl.length).all (homeOkB K.sl) = true
def EmpP (K : QK) : Prop := Acyc K.sl.length (Holds (keepN K.sl))
def ThrP (K : QK) : Prop := K.tl.all threadB = true
def RepP (K : QK) : Prop := K.tl.all (repB K) = true
theorem sound_of {K : QK} (ht : treeB K.sl = true) (hm : MemP K) (hd : DerP K) (ha : ApartP K.sl) : Sound K.bits K.sl :=
 ⟨ht, fun i hi => by rw [← memI_same]; exact List.all_eq_true.1 hm _ (List.getElem_mem hi), (derAll_iff K.sl).1 hd, ha⟩
/-- The checks' own conditions, all of them. -/
theorem progP_iff (K : QK) : ProgP K ↔ boundsB K = true ∧ treeB K.sl = true ∧ MemP K ∧ DerP K ∧ ApartP K.sl ∧ ObjL K ∧ FrmP K ∧ HomP K ∧ EmpP K ∧ ThrP K ∧ QueuesP K ∧ RepP K := by
 constructor
 ·intro h
  obtain ⟨o1, o2, o3, o4, o5⟩ := h.objs
  exact ⟨h.bounds, h.tree, h.mem, (derAll_iff K.sl).2 h.der, h.apart, ⟨o1, o2, o3, o4⟩, List.all_eq_true.2 o5, List.all_eq_true.2 fun i hi => h.homes i (List.mem_range.1 hi), h.empt, List.all_eq_true.2 h.thr, h.que, (rep_iff K).2 h.rep⟩
 ·rintro ⟨h1, h2, h3, h4, h5, ⟨o1, o2, o3, o4⟩, h7, h8, h9, h10, h11, h12⟩
  exact ⟨h1, h2, h3, (derAll_iff K.sl).1 h4, h5, ⟨o1, o2, o3, o4, List.all_eq_true.1 h7⟩, fun i hi => List.all_eq_true.1 h8 i (List.mem_range.2 hi), h9, List.all_eq_true.1 h10, h11, (rep_iff K).1 h12⟩
def nilsP (fs : List Value) : Prop := fs[2]? = some (.slice none 0 0) ∧ fs[12]? = some (.map none) ∧ ∀ j, j < 7 → fs[5 + j]? = some (.map none)
/-- The view behind the first k checks. -/
def zA (w0 : World) (K : QK) (vB cB : Nat) (k : Nat) (W : World) : Prop :=
 match k with
 | 0 => View w0 K vB fs0 W ∧ Bx W cB 121 (fnL vB) ∧ vB < cB
 | 1 => View w0 K vB fs0 W ∧ Bx W cB 121 (fnL vB) ∧ vB < cB ∧ boundsB K = true
 | 2 => ∃ N uB pB P cap A fs, ZS w0 K vB cB N uB pB P cap A fs W ∧ nilsP fs
 | 3 => ∃ N uB pB P cap A fs, ZS w0 K vB cB N uB pB P cap A fs W ∧ nilsP fs ∧ MemP K
 | 4 => ∃ N uB pB P cap A fs, ZS w0 K vB cB N uB pB P cap A fs W ∧ nilsP fs ∧ MemP K ∧ DerP K
 | 5 => ∃ N uB pB P cap A fs, ZS w0 K vB cB N uB pB P cap A fs W ∧ nilsP fs ∧ Sound K.bits K.sl
 | 6 => ∃ N uB pB P cap A m0 fs, ZO w0 K vB cB N uB pB P cap A m0 fs W ∧ (fs[2]? = some (.slice none 0 0) ∧ fs[12]? = some (.map none)) ∧ Sound K.bits K.sl ∧ ObjL K
 | 7 => ∃ N uB pB P cap A m0 fs, ZO w0 K vB cB N uB pB P cap A m0 fs W ∧ (fs[2]? = some (.slice none 0 0) ∧ fs[12]? = some (.map none)) ∧ Sound K.bits K.sl ∧ ObjL K
 | 8 => ∃ N uB pB P cap A m0 hB fs, ZH w0 K vB cB N uB pB P cap A m0 hB fs W ∧ fs[12]? = some (.map none) ∧ Sound K.bits K.sl ∧ ObjL K
 | 9 => ∃ N uB pB P cap A m0 hB fs, ZH w0 K vB cB N uB pB P cap A m0 hB fs W ∧ fs[12]? = some (.map none) ∧ Sound K.bits K.sl ∧ ObjL K
 | 10 => ∃ N uB pB P cap A m0 hB tB fs, ZT w0 K vB cB N uB pB P cap A m0 hB tB K.tl.length (thrF K.tl K.tl.length) fs W ∧ Sound K.bits K.sl ∧ ObjL K
 | _ => ∃ N uB pB P cap A m0 hB tB n fs, ZT w0 K vB cB N uB pB P cap A m0 hB tB n (quF K.tl (pR K 8)) fs W ∧ Sound K.bits K.sl ∧ ObjL K
/-- The condition of each check. -/
def zP (K : QK) (k : Nat) : Prop :=
 match k with
 | 0 => boundsB K = true
 | 1 => treeB K.sl = true
 | 2 => MemP K
 | 3 => DerP K
 | 4 => ApartP K.sl
 | 5 => ObjL K
 | 6 => FrmP K
 | 7 => HomP K
 | 8 => EmpP K
 | 9 => ThrP K
 | 10 => QueuesP K
 | _ => RepP K
theorem bits_of {K : QK} (h : boundsB K = true) : withinB K.bits 9 12 = true := by
 unfold boundsB at h; rw [Bool.and_eq_true] at h; exact h.1
theorem view_below {w0 : World} {K : QK} {vB : Nat} {fs : List Value} {w w' : World} (h : View w0 K vB fs w) (hb : Below w.heap.size w w') : Below w0.heap.size w0 w' := (h.below hb).bw
theorem view_but {w0 : World} {K : QK} {vB g : Nat} {fs : List Value} {w w' : World} (h : View w0 K vB fs w) (hb : But g w w') (hg : w0.heap.size ≤ g) : Below w0.heap.size w0 w' := But.below h.bw hb hg h.bw.size
section
variable {w0 : World} {K : QK} {vB cB : Nat} {w : World}
theorem z0 (hs : K.Short) (hcap : K.sl.length ≤ K.sc) (hcm : K.sc ≤ 9223372036854775807) (hf : K.Fits) (h : zA w0 K vB cB 0 w) :
  (zP K 0 → Calls Tryz.prog 62 #[.pointer (some ⟨vB, 0, none⟩)] w fun e w' => e = .returned (.bool true) ∧ zA w0 K vB cB 1 w') ∧ (¬ zP K 0 → Calls Tryz.prog 62 #[.pointer (some ⟨vB, 0, none⟩)] w fun e w' => e = .returned (.bool false) ∧ Below w0.heap.size w0 w') := by
 refine ⟨fun hp => ?_, fun hp => ?_⟩
 ·refine Calls.mono (boundsOk_any w0 K vB fs0 w h.1) ?_
  rintro e w' ⟨rfl, rfl⟩
  exact ⟨by rw [show boundsB K = true from hp], h.1, h.2.1, h.2.2, hp⟩
 ·refine Calls.mono (boundsOk_any w0 K vB fs0 w h.1) ?_
  rintro e w' ⟨rfl, rfl⟩
  exact ⟨by rw [Bool.eq_false_iff.2 (show ¬ boundsB K = true from hp)], h.1.bw⟩
theorem z1 (hs : K.Short) (hcap : K.sl.length ≤ K.sc) (hcm : K.sc ≤ 9223372036854775807) (hf : K.Fits) (h : zA w0 K vB cB 1 w) :
  (zP K 1 → Calls Tryz.prog 63 #[.pointer (some ⟨vB, 0, none⟩)] w fun e w' => e = .returned (.bool true) ∧ zA w0 K vB cB 2 w') ∧ (¬ zP K 1 → Calls Tryz.prog 63 #[.pointer (some ⟨vB, 0, none⟩)] w fun e w' => e = .returned (.bool false) ∧ Below w0.heap.size w0 w') := by
 refine ⟨fun hp => ?_, fun hp => ?_⟩
 ·refine Calls.mono (slotsOk_but w0 K vB w hs hcap hcm hf.s hp h.1) ?_
  rintro e w' ⟨rfl, N, uB, pB, av, A, S, ho, hA, hb⟩
  obtain ⟨P, cap, rfl, hli, hac, ham, hform, _, hob⟩ := ho.form
  obtain ⟨n1, n2, n3⟩ := S.nv
  exact ⟨rfl, N, uB, pB, P, cap, A, _, ⟨S.v, h.2.1.but hb (by have := h.2.2.1; omega), h.2.2.1, rfl, rfl, rfl, rfl, rfl, S.l, S.ln, ⟨n1, by omega, by omega⟩, S.u, S.m, hli, hA, hac, ham, fun B O e => ⟨(hform B O e).2.1, by have := (hform B O e).1; omega⟩, h.2.2.2, hp⟩, rfl, rfl, fun j hj => by
   rcases (by omega : j = 0 ∨ j = 1 ∨ j = 2 ∨ j = 3 ∨ j = 4 ∨ j = 5 ∨ j = 6) with rfl | rfl | rfl | rfl | rfl | rfl | rfl <;> rfl⟩
 ·refine Calls.mono (slotsOk_no w0 K vB w hs hcap hcm hf.s (Bool.eq_false_iff.2 hp) h.1) ?_
  rintro e w' ⟨rfl, hb⟩
  exact ⟨rfl, hb⟩
theorem z2 (hs : K.Short) (hcap : K.sl.length ≤ K.sc) (hcm : K.sc ≤ 9223372036854775807) (hf : K.Fits) (h : zA w0 K vB cB 2 w) :
  (zP K 2 → Calls Tryz.prog 64 #[.pointer (some ⟨vB, 0, none⟩)] w fun e w' => e = .returned (.bool true) ∧ zA w0 K vB cB 3 w') ∧ (¬ zP K 2 → Calls Tryz.prog 64 #[.pointer (some ⟨vB, 0, none⟩)] w fun e w' => e = .returned (.bool false) ∧ Below w0.heap.size w0 w') := by
 obtain ⟨N, uB, pB, P, cap, A, fs, Z, hn⟩ := h
 refine ⟨fun hp => ?_, fun hp => ?_⟩
 ·refine Calls.mono (memoryOk_any w0 K vB fs w hs (bits_of Z.bo) (tree_okm Z.tr) Z.v) ?_
  rintro e w' ⟨rfl, hb⟩
  exact ⟨by rw [show K.sl.all (memI K.bits) = true from hp], N, uB, pB, P, cap, A, fs, Z.below hb, hn, hp⟩
 ·refine Calls.mono (memoryOk_any w0 K vB fs w hs (bits_of Z.bo) (tree_okm Z.tr) Z.v) ?_
  rintro e w' ⟨rfl, hb⟩
  exact ⟨by rw [Bool.eq_false_iff.2 (show ¬ K.sl.all (memI K.bits) = true from hp)], view_below Z.v hb⟩
theorem z3 (hs : K.Short) (hcap : K.sl.length ≤ K.sc) (hcm : K.sc ≤ 9223372036854775807) (hf : K.Fits) (h : zA w0 K vB cB 3 w) :
  (zP K 3 → Calls Tryz.prog 65 #[.pointer (some ⟨vB, 0, none⟩)] w fun e w' => e = .returned (.bool true) ∧ zA w0 K vB cB 4 w') ∧ (¬ zP K 3 → Calls Tryz.prog 65 #[.pointer (some ⟨vB, 0, none⟩)] w fun e w' => e = .returned (.bool false) ∧ Below w0.heap.size w0 w') := by
 obtain ⟨N, uB, pB, P, cap, A, fs, Z, hn, hm⟩ := h
 refine ⟨fun hp => ?_, fun hp => ?_⟩
 ·refine Calls.mono (derivedOk_any w0 K vB uB fs w hs Z.tr Z.v Z.f1 Z.u) ?_
  rintro e w' ⟨rfl, hb⟩
  exact ⟨by rw [show derAll K.sl = true from hp], N, uB, pB, P, cap, A, fs, Z.below hb, hn, hm, hp⟩
 ·refine Calls.mono (derivedOk_any w0 K vB uB fs w hs Z.tr Z.v Z.f1 Z.u) ?_
  rintro e w' ⟨rfl, hb⟩
  exact ⟨by rw [Bool.eq_false_iff.2 (show ¬ derAll K.sl = true from hp)], view_below Z.v hb⟩
theorem z4 (hs : K.Short) (hcap : K.sl.length ≤ K.sc) (hcm : K.sc ≤ 9223372036854775807) (hf : K.Fits) (h : zA w0 K vB cB 4 w) :
  (zP K 4 → Calls Tryz.prog 66 #[.pointer (some ⟨vB, 0, none⟩)] w fun e w' => e = .returned (.bool true) ∧ zA w0 K vB cB 5 w') ∧ (¬ zP K 4 → Calls Tryz.prog 66 #[.pointer (some ⟨vB, 0, none⟩)] w fun e w' => e = .returned (.bool false) ∧ Below w0.heap.size w0 w') := by
 obtain ⟨N, uB, pB, P, cap, A, fs, Z, hn, hm, hd⟩ := h
 refine ⟨fun hp => ?_, fun hp => ?_⟩
 ·refine Calls.mono (apartOk_any w0 K vB uB fs w hs Z.tr Z.v Z.f1 Z.u true (iff_of_true rfl hp)) ?_
  rintro e w' ⟨rfl, hb⟩
  exact ⟨rfl, N, uB, pB, P, cap, A, fs, Z.below hb, hn, sound_of Z.tr hm hd hp⟩
 ·refine Calls.mono (apartOk_any w0 K vB uB fs w hs Z.tr Z.v Z.f1 Z.u false (iff_of_false Bool.false_ne_true hp)) ?_
  rintro e w' ⟨rfl, hb⟩
  exact ⟨rfl, view_below Z.v hb⟩
theorem z5 (hs : K.Short) (hcap : K.sl.length ≤ K.sc) (hcm : K.sc ≤ 9223372036854775807) (hf : K.Fits) (h : zA w0 K vB cB 5 w) :
  (zP K 5 → Calls Tryz.prog 67 #[.pointer (some ⟨vB, 0, none⟩)] w fun e w' => e = .returned (.bool true) ∧ zA w0 K vB cB 6 w') ∧ (¬ zP K 5 → Calls Tryz.prog 67 #[.pointer (some ⟨vB, 0, none⟩)] w fun e w' => e = .returned (.bool false) ∧ Below w0.heap.size w0 w') := by
 obtain ⟨N, uB, pB, P, cap, A, fs, Z, hn, S⟩ := h
 refine ⟨fun hp => ?_, fun hp => ?_⟩
 ·refine Calls.mono (objectsOk_any w0 K vB fs w hs Z.tr Z.v Z.fl hn.2.2 true (iff_of_true rfl hp)) ?_
  rintro e w' ⟨rfl, X⟩
  have hvl := Z.v.lt
  have hlo := X.lo
  refine ⟨rfl, N, uB, pB, P, cap, A, w.heap.size, _, ⟨Z.but X.v X.b (.inl rfl) ?_ (fsO_get (by omega)) (fsO_get (by omega)) (fsO_get (by omega)) (fsO_get (by omega)), fun i hi => fsO_at Z.fl hi (Nat.le_refl _), X.m, by omega⟩, ⟨(fsO_get (by omega)).trans hn.1, (fsO_get (by omega)).trans hn.2.1⟩, S, hp⟩
  rw [fsO_len]; exact Z.fl
 ·refine Calls.mono (objectsOk_any w0 K vB fs w hs Z.tr Z.v Z.fl hn.2.2 false (iff_of_false Bool.false_ne_true hp)) ?_
  rintro e w' ⟨rfl, X⟩
  exact ⟨rfl, view_but Z.v X.b Z.v.le⟩
theorem z6 (hs : K.Short) (hcap : K.sl.length ≤ K.sc) (hcm : K.sc ≤ 9223372036854775807) (hf : K.Fits) (h : zA w0 K vB cB 6 w) :
  (zP K 6 → Calls Tryz.prog 68 #[.pointer (some ⟨vB, 0, none⟩)] w fun e w' => e = .returned (.bool true) ∧ zA w0 K vB cB 7 w') ∧ (¬ zP K 6 → Calls Tryz.prog 68 #[.pointer (some ⟨vB, 0, none⟩)] w fun e w' => e = .returned (.bool false) ∧ Below w0.heap.size w0 w') := by
 obtain ⟨N, uB, pB, P, cap, A, m0, fs, Z, hn, S, hO⟩ := h
 refine ⟨fun hp => ?_, fun hp => ?_⟩
 ·refine Calls.mono (framesOk_any w0 K vB (m0 + 6) K.sl.length fs w hs S hO.2.2.2 Z.z.v (Z.f5 6 (by omega)) (Z.mm 6 (by omega) (by omega))) ?_
  rintro e w' ⟨rfl, hb⟩
  exact ⟨by rw [show K.fl.all (frameOkB K.sl) = true from hp], N, uB, pB, P, cap, A, m0, fs, Z.below hb, hn, S, hO⟩
 ·refine Calls.mono (framesOk_any w0 K vB (m0 + 6) K.sl.length fs w hs S hO.2.2.2 Z.z.v (Z.f5 6 (by omega)) (Z.mm 6 (by omega) (by omega))) ?_
  rintro e w' ⟨rfl, hb⟩
  exact ⟨by rw [Bool.eq_false_iff.2 (show ¬ K.fl.all (frameOkB K.sl) = true from hp)], view_below Z.z.v hb⟩
theorem z7 (hs : K.Short) (hcap : K.sl.length ≤ K.sc) (hcm : K.sc ≤ 9223372036854775807) (hf : K.Fits) (h : zA w0 K vB cB 7 w) :
  (zP K 7 → Calls Tryz.prog 69 #[.pointer (some ⟨vB, 0, none⟩)] w fun e w' => e = .returned (.bool true) ∧ zA w0 K vB cB 8 w') ∧ (¬ zP K 7 → Calls Tryz.prog 69 #[.pointer (some ⟨vB, 0, none⟩)] w fun e w' => e = .returned (.bool false) ∧ Below w0.heap.size w0 w') := by
 obtain ⟨N, uB, pB, P, cap, A, m0, fs, Z, hn, S, hO⟩ := h
 refine ⟨fun hp => ?_, fun hp => ?_⟩
 ·refine Calls.mono (homesOk_any w0 K vB N uB pB K.sl.length fs P cap A w hs S Z.z.v Z.z.fl Z.z.f0 hn.1 Z.z.f3 Z.z.f4 Z.z.l Z.z.ln Z.z.m Z.z.a Z.z.ha Z.z.ac Z.z.am (fun B O e => ⟨(Z.z.pb B O e).1, by have := (Z.z.pb B O e).2; omega⟩) (by have := Z.z.vn; omega) (by have := Z.z.vn; omega)) ?_
  rintro e w' ⟨hB, hlo, rfl, hv, hh, hb⟩
  have hvl := Z.z.v.lt
  have hlf : 2 < fs.length := by rw [Z.z.fl]; omega
  exact ⟨by rw [show (List.range K.sl.length).all (homeOkB K.sl) = true from hp], N, uB, pB, P, cap, A, m0, hB, _, ⟨Z.but hv hb (.inl rfl) (by rw [List.length_set]; exact Z.z.fl) (List.getElem?_set_ne (by omega)) (List.getElem?_set_ne (by omega)) (List.getElem?_set_ne (by omega)) (List.getElem?_set_ne (by omega)) (fun i hi => List.getElem?_set_ne (by omega)), by rw [List.getElem?_set]; simp [hlf], hh, by omega⟩, (List.getElem?_set_ne (by omega)).trans hn.2, S, hO⟩
 ·refine Calls.mono (homesOk_any w0 K vB N uB pB K.sl.length fs P cap A w hs S Z.z.v Z.z.fl Z.z.f0 hn.1 Z.z.f3 Z.z.f4 Z.z.l Z.z.ln Z.z.m Z.z.a Z.z.ha Z.z.ac Z.z.am (fun B O e => ⟨(Z.z.pb B O e).1, by have := (Z.z.pb B O e).2; omega⟩) (by have := Z.z.vn; omega) (by have := Z.z.vn; omega)) ?_
  rintro e w' ⟨hB, hlo, rfl, hv, hh, hb⟩
  exact ⟨by rw [Bool.eq_false_iff.2 (show ¬ (List.range K.sl.length).all (homeOkB K.sl) = true from hp)], view_but Z.z.v hb Z.z.v.le⟩
theorem z8 (hs : K.Short) (hcap : K.sl.length ≤ K.sc) (hcm : K.sc ≤ 9223372036854775807) (hf : K.Fits) (h : zA w0 K vB cB 8 w) :
  (zP K 8 → Calls Tryz.prog 70 #[.pointer (some ⟨vB, 0, none⟩)] w fun e w' => e = .returned (.bool true) ∧ zA w0 K vB cB 9 w') ∧ (¬ zP K 8 → Calls Tryz.prog 70 #[.pointer (some ⟨vB, 0, none⟩)] w fun e w' => e = .returned (.bool false) ∧ Below w0.heap.size w0 w') := by
 obtain ⟨N, uB, pB, P, cap, A, m0, hB, fs, Z, hn, S, hO⟩ := h
 refine ⟨fun hp => ?_, fun hp => ?_⟩
 ·refine Calls.mono (emptiesOk_any w0 K vB uB hB fs w hs Z.o.z.v Z.o.z.f1 Z.f2 Z.o.z.u Z.h true (iff_of_true rfl hp)) ?_
  rintro e w' ⟨rfl, hb⟩
  exact ⟨rfl, N, uB, pB, P, cap, A, m0, hB, fs, Z.below hb, hn, S, hO⟩
 ·refine Calls.mono (emptiesOk_any w0 K vB uB hB fs w hs Z.o.z.v Z.o.z.f1 Z.f2 Z.o.z.u Z.h false (iff_of_false Bool.false_ne_true hp)) ?_
  rintro e w' ⟨rfl, hb⟩
  exact ⟨rfl, view_below Z.o.z.v hb⟩
theorem z9 (hs : K.Short) (hcap : K.sl.length ≤ K.sc) (hcm : K.sc ≤ 9223372036854775807) (hf : K.Fits) (h : zA w0 K vB cB 9 w) :
  (zP K 9 → Calls Tryz.prog 71 #[.pointer (some ⟨vB, 0, none⟩)] w fun e w' => e = .returned (.bool true) ∧ zA w0 K vB cB 10 w') ∧ (¬ zP K 9 → Calls Tryz.prog 71 #[.pointer (some ⟨vB, 0, none⟩)] w fun e w' => e = .returned (.bool false) ∧ Below w0.heap.size w0 w') := by
 obtain ⟨N, uB, pB, P, cap, A, m0, hB, fs, Z, hn, S, hO⟩ := h
 refine ⟨fun hp => ?_, fun hp => ?_⟩
 ·refine Calls.mono (threadsOk_any w0 K vB fs w hs hf.t hn Z.o.z.v) ?_
  rintro e w' ⟨tB, hlo, rfl, hb, hy⟩
  obtain ⟨hv, hm⟩ := hy hp
  have hlf : 12 < fs.length := by rw [Z.o.z.fl]; omega
  have h1 := Z.o.z.c.lt
  have h2 := Z.o.z.ln
  have h3 := Z.o.z.u.lt
  have h4 := Z.o.z.m.lt
  have h5 := (Z.o.mm 6 (by omega) (by omega)).lt
  have h6 := Z.h.lt
  have h7 := Z.vh
  exact ⟨by rw [show K.tl.all threadB = true from hp], N, uB, pB, P, cap, A, m0, hB, tB, _, ⟨⟨Z.o.but hv hb (.inl rfl) (by rw [List.length_set]; exact Z.o.z.fl) (List.getElem?_set_ne (by omega)) (List.getElem?_set_ne (by omega)) (List.getElem?_set_ne (by omega)) (List.getElem?_set_ne (by omega)) (fun i hi => List.getElem?_set_ne (by omega)), (List.getElem?_set_ne (by omega)).trans Z.f2, Z.h.but hb (by omega), Z.vh⟩, by rw [List.getElem?_set]; simp [hlf], hm, ⟨by omega, by omega, by omega, by omega, fun B O e => by have := (Z.o.z.pb B O e).1; omega, by omega, by omega⟩⟩, S, hO⟩
 ·refine Calls.mono (threadsOk_any w0 K vB fs w hs hf.t hn Z.o.z.v) ?_
  rintro e w' ⟨tB, hlo, rfl, hb, hy⟩
  exact ⟨by rw [Bool.eq_false_iff.2 (show ¬ K.tl.all threadB = true from hp)], view_but Z.o.z.v hb Z.o.z.v.le⟩
theorem z10 (hs : K.Short) (hcap : K.sl.length ≤ K.sc) (hcm : K.sc ≤ 9223372036854775807) (hf : K.Fits) (h : zA w0 K vB cB 10 w) :
  (zP K 10 → Calls Tryz.prog 72 #[.pointer (some ⟨vB, 0, none⟩)] w fun e w' => e = .returned (.bool true) ∧ zA w0 K vB cB 11 w') ∧ (¬ zP K 10 → Calls Tryz.prog 72 #[.pointer (some ⟨vB, 0, none⟩)] w fun e w' => e = .returned (.bool false) ∧ Below w0.heap.size w0 w') := by
 obtain ⟨N, uB, pB, P, cap, A, m0, hB, tB, fs, Z, S, hO⟩ := h
 refine ⟨fun hp => ?_, fun hp => ?_⟩
 ·refine Calls.mono (queuesOk_any w0 K vB tB fs w hs Z.h.o.z.v Z.f12 Z.t hO.1.1 hf.t hf.e hf.n hf.r (by have := Z.h.o.z.cv; have := Z.lt.1; omega) (by have := Z.h.o.z.v.le; have := Z.h.o.z.cv; have := Z.lt.1; omega) true (iff_of_true rfl hp)) ?_
  rintro e w' ⟨rfl, hb, hy⟩
  obtain ⟨m, hm⟩ := hy rfl
  have hw0 : w0.heap.size ≤ tB := by have := Z.h.o.z.v.le; have := Z.h.o.z.cv; have := Z.lt.1; omega
  have hvt : vB ≠ tB := by have := Z.h.o.z.cv; have := Z.lt.1; omega
  obtain ⟨l1, l2, l3, l4, l5, l6, l7⟩ := Z.lt
  exact ⟨rfl, N, uB, pB, P, cap, A, m0, hB, tB, m, fs, ⟨⟨Z.h.o.but (Z.h.o.z.v.but hb hvt hw0) hb (.inr ⟨l1, l2, l3, l4, l5, l6⟩) Z.h.o.z.fl rfl rfl rfl rfl (fun _ _ => rfl), Z.h.f2, Z.h.h.but hb (by omega), Z.h.vh⟩, Z.f12, hm, Z.lt⟩, S, hO⟩
 ·refine Calls.mono (queuesOk_any w0 K vB tB fs w hs Z.h.o.z.v Z.f12 Z.t hO.1.1 hf.t hf.e hf.n hf.r (by have := Z.h.o.z.cv; have := Z.lt.1; omega) (by have := Z.h.o.z.v.le; have := Z.h.o.z.cv; have := Z.lt.1; omega) false (iff_of_false Bool.false_ne_true hp)) ?_
  rintro e w' ⟨rfl, hb, hy⟩
  exact ⟨rfl, view_but Z.h.o.z.v hb (by have := Z.h.o.z.v.le; have := Z.h.o.z.cv; have := Z.lt.1; omega)⟩
theorem z11 (hs : K.Short) (hcap : K.sl.length ≤ K.sc) (hcm : K.sc ≤ 9223372036854775807) (hf : K.Fits) (h : zA w0 K vB cB 11 w) :
  (zP K 11 → Calls Tryz.prog 73 #[.pointer (some ⟨vB, 0, none⟩)] w fun e w' => e = .returned (.bool true) ∧ zA w0 K vB cB 12 w') ∧ (¬ zP K 11 → Calls Tryz.prog 73 #[.pointer (some ⟨vB, 0, none⟩)] w fun e w' => e = .returned (.bool false) ∧ Below w0.heap.size w0 w') := by
 obtain ⟨N, uB, pB, P, cap, A, m0, hB, tB, n, fs, Z, S, hO⟩ := h
 refine ⟨fun hp => ?_, fun hp => ?_⟩
 ·refine Calls.mono (repliesOk_any w0 K vB fs w hs (tree_okm Z.h.o.z.tr) hf.t Z.h.o.z.v) ?_
  rintro e w' ⟨rfl, hb⟩
  exact ⟨by rw [show K.tl.all (repB K) = true from hp], N, uB, pB, P, cap, A, m0, hB, tB, n, fs, Z.below hb, S, hO⟩
 ·refine Calls.mono (repliesOk_any w0 K vB fs w hs (tree_okm Z.h.o.z.tr) hf.t Z.h.o.z.v) ?_
  rintro e w' ⟨rfl, hb⟩
  exact ⟨by rw [Bool.eq_false_iff.2 (show ¬ K.tl.all (repB K) = true from hp)], view_below Z.h.o.z.v hb⟩
end

end Go.Proofs.YtigpbjcmmgdiaaaGreat
/-
 Whether a state is ok hangs on its plain data alone.
-/
namespace Go.Proofs.YtigpbjcmmgdiaaaGreat
open Go.ChangeShapes Go.WideShapes Go.ChangeAt Go.RowKit
set_option linter.unusedVariables false

theorem mem_pl {α β : Type} {f : α → β} {L L' : List α} (h : L'.map f = L.map f) {x : α} (hx : x ∈ L') : ∃ y ∈ L, f y = f x := by
 have h1 : f x ∈ L.map f := by rw [← h]; exact List.mem_map_of_mem hx
 obtain ⟨y, hy, e⟩ := List.mem_map.1 h1
 exact ⟨y, hy, e⟩
theorem map_pl {α β γ : Type} {f : α → β} (g : β → γ) {L L' : List α} (h : L'.map f = L.map f) : L'.map (fun x => g (f x)) = L.map (fun x => g (f x)) := by
 have := congrArg (List.map g) h
 simpa [List.map_map, Function.comp_def] using this
theorem progP_of {K K' : QK} (h : K'.pl = K.pl) (s : ProgP K) : ProgP K' := by
 have p1 : K'.bits = K.bits := congrArg (fun p => p.1.1) h
 have p2 : K'.ticks = K.ticks := congrArg (fun p => p.1.2) h
 have p3 : K'.sl = K.sl := congrArg (fun p => p.2.1) h
 have p4 : K'.tl = K.tl := congrArg (fun p => p.2.2.1) h
 have p5 : K'.el.map QE.pl = K.el.map QE.pl := congrArg (fun p => p.2.2.2.1) h
 have p6 : K'.nl.map QN.pl = K.nl.map QN.pl := congrArg (fun p => p.2.2.2.2.1) h
 have p7 : K'.fl.map QF.pl = K.fl.map QF.pl := congrArg (fun p => p.2.2.2.2.2.1) h
 have p8 : [K'.r0, K'.r1, K'.r2, K'.r3, K'.r4, K'.r5, K'.r6, K'.r7].map QR.l = [K.r0, K.r1, K.r2, K.r3, K.r4, K.r5, K.r6, K.r7].map QR.l := congrArg (fun p => p.2.2.2.2.2.2) h
 simp only [List.map_cons, List.map_nil, List.cons.injEq, and_true] at p8
 have hb : boundsB K' = boundsB K := by unfold boundsB; rw [p1, p2]
 have he : K'.el.map QE.ad = K.el.map QE.ad := map_pl (f := QE.pl) (fun p => p.1) p5
 have hn : K'.nl.map QN.ad = K.nl.map QN.ad := map_pl (f := QN.pl) (fun p => p.1) p6
 have hf : K'.fl.map QF.ad = K.fl.map QF.ad := map_pl (f := QF.pl) (fun p => p.1) p7
 have hr : ∀ p, (readyQ K' p).l = (readyQ K p).l := fun p => by
  obtain ⟨q0, q1, q2, q3, q4, q5, q6, q7⟩ := p8
  unfold readyQ
  repeat' (first | assumption | split)
 have hq : queuesL K' = queuesL K := by
  unfold queuesL
  have h1 : K'.el.map (fun e => ((e.kd + 1, e.ad), e.l)) = K.el.map (fun e => ((e.kd + 1, e.ad), e.l)) := map_pl (f := QE.pl) (fun p => ((p.2.1 + 1, p.1), p.2.2)) p5
  have h2 : K'.nl.map (fun n => (((5 : Int), n.ad), n.l)) = K.nl.map (fun n => (((5 : Int), n.ad), n.l)) := map_pl (f := QN.pl) (fun p => ((5, p.1), p.2.2.2)) p6
  rw [h1, h2]
  simp only [hr]
 refine ⟨hb.trans s.bounds, by rw [p3]; exact s.tree, by rw [p3, p1]; exact s.mem, fun i hi => ?_, by rw [p3]; exact s.apart, ?_, fun i hi => ?_, by rw [p3]; exact s.empt, by rw [p4]; exact s.thr, ?_, ?_⟩
 ·have := (derAll_iff K.sl).2 s.der
  rw [← p3] at this
  exact (derAll_iff K'.sl).1 this i hi
 ·obtain ⟨o1, o2, o3, o4, o5⟩ := s.objs
  refine ⟨by rw [p3, p4]; exact o1, by rw [p3, he]; exact o2, by rw [p3, hn]; exact o3, by rw [p3, hf]; exact o4, fun f hf2 => ?_⟩
  obtain ⟨y, hy, e⟩ := mem_pl p7 hf2
  have e1 : y.ad = f.ad := congrArg (fun p => p.1) e
  have e2 : y.l = f.l := congrArg (fun p => p.2) e
  have := o5 y hy
  unfold frameOkB at this ⊢
  rw [p3, ← e1, ← e2]; exact this
 ·rw [p3] at hi ⊢; exact s.homes i hi
 ·refine ⟨fun x hx => ?_, fun x hx => ?_, by rw [hq]; exact s.que.nodup, by rw [hq, p4]; exact s.que.thr, by rw [hq, p4]; exact s.que.head⟩
  ·obtain ⟨y, hy, e⟩ := mem_pl p5 hx
   have e1 : y.kd = x.kd := congrArg (fun p => p.2.1) e
   have e2 : y.l = x.l := congrArg (fun p => p.2.2) e
   have := s.que.ends y hy
   unfold endShapeB at this ⊢
   rw [← e1, ← e2]; exact this
  ·obtain ⟨y, hy, e⟩ := mem_pl p6 hx
   have e1 : y.ac = x.ac := congrArg (fun p => p.2.1) e
   have e2 : y.wd = x.wd := congrArg (fun p => p.2.2.1) e
   have e3 : y.l = x.l := congrArg (fun p => p.2.2.2) e
   have := s.que.notes y hy
   unfold noteShapeB at this ⊢
   rw [← e1, ← e2, ← e3]; exact this
 ·have := s.rep
  unfold RepliesP repN at this ⊢
  rw [p4, p3]; exact this
theorem progP_pl {K K' : QK} (h : K'.pl = K.pl) : ProgP K' ↔ ProgP K := ⟨progP_of h.symm, progP_of h⟩

end Go.Proofs.YtigpbjcmmgdiaaaGreat
