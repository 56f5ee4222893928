/-
  States: where they lie; what the laws' copy and size of one, and the program's compare of two, answer.
-/
import Derived.Test.YtoahhhmagcnjbabSlotsEq
import Derived.Test.YtoahhhmagcnjbabEqSlots
import Derived.Test.YtoahhhmagcnjbabThreads3
import Derived.Test.YtoahhhmagcnjbabNestE
import Derived.Test.YtoahhhmagcnjbabNestN
import Derived.Test.YtoahhhmagcnjbabNestF
import Derived.Test.YtoahhhmagcnjbabEight
namespace Go.Proofs.Ytoahhhmagcnjbab
open Go.ChangeShapes Go.WideShapes Go.ChangeAt Go.RowKit
set_option linter.unusedVariables false

/-- A state, with where its rows lie. -/
structure QK where
  bits : Int
  ticks : Int
  sP : Option Addr
  sc : Nat
  sl : List Sl
  tP : Option Addr
  tc : Nat
  tl : List QT
  eP : Option Addr
  ec : Nat
  el : List QE
  nP : Option Addr
  nc : Nat
  nl : List QN
  fP : Option Addr
  fc : Nat
  fl : List QF
  r0 : QR
  r1 : QR
  r2 : QR
  r3 : QR
  r4 : QR
  r5 : QR
  r6 : QR
  r7 : QR

/-- The rows of a state lie where it says. -/
structure KernIn (W : World) (K : QK) : Prop where
  s : Lies W K.sP K.sl
  t : LiesG fT W K.tP K.tl
  e : LiesG fE W K.eP K.el
  ei : InE W K.el
  n : LiesG fN W K.nP K.nl
  ni : InN W K.nl
  f : LiesG fF W K.fP K.fl
  fi : InF W K.fl
  r : InQ W [K.r0, K.r1, K.r2, K.r3, K.r4, K.r5, K.r6, K.r7]
theorem KernIn.below {W W' : World} {K : QK} (h : KernIn W K) (hb : Below W.heap.size W W') : KernIn W' K :=
  ⟨h.s.below hb, h.t.below hb, h.e.below hb, h.ei.below hb, h.n.below hb, h.ni.below hb, h.f.below hb, h.fi.below hb, h.r.below hb⟩

abbrev KP5 := List (Int × List Int) × List (List Int)
abbrev KP4 := List (Int × Bool × Int × List Int) × KP5
abbrev KP3 := List (Int × Int × List Int) × KP4
abbrev KP2 := List QT × KP3
abbrev KP1 := List Sl × KP2
instance instKP5 : DecidableEq KP5 := instDecidableEqProd
instance instKP4 : DecidableEq KP4 := @instDecidableEqProd _ _ inferInstance instKP5
instance instKP3 : DecidableEq KP3 := @instDecidableEqProd _ _ inferInstance instKP4
instance instKP2 : DecidableEq KP2 := @instDecidableEqProd _ _ inferInstance instKP3
instance instKP1 : DecidableEq KP1 := @instDecidableEqProd _ _ inferInstance instKP2
/-- What a state says. -/
def QK.pl (K : QK) : (Int × Int) × KP1 :=
  ((K.bits, K.ticks), K.sl, K.tl, K.el.map QE.pl, K.nl.map QN.pl, K.fl.map QF.pl, [K.r0, K.r1, K.r2, K.r3, K.r4, K.r5, K.r6, K.r7].map QR.l)

/-- How long all rows of a state are together. -/
def QK.sz (K : QK) : Nat := K.sl.length + K.tl.length + (K.el.length + sumE K.el) + (K.nl.length + sumN K.nl) + (K.fl.length + sumF K.fl) + sumQ [K.r0, K.r1, K.r2, K.r3, K.r4, K.r5, K.r6, K.r7]

/-- All rows are short. -/
structure QK.Short (K : QK) : Prop where
  s : K.sl.length ≤ 1048576
  t : K.tl.length ≤ 1048576
  e : K.el.length ≤ 1048576
  ei : ∀ x ∈ K.el, x.l.length ≤ 1048576
  n : K.nl.length ≤ 1048576
  ni : ∀ x ∈ K.nl, x.l.length ≤ 1048576
  f : K.fl.length ≤ 1048576
  fi : ∀ x ∈ K.fl, x.l.length ≤ 1048576
  r : ∀ x ∈ [K.r0, K.r1, K.r2, K.r3, K.r4, K.r5, K.r6, K.r7], x.l.length ≤ 1048576
theorem QK.short {K : QK} (h : K.sz ≤ 1048576) : K.Short := by
  unfold QK.sz at h
  exact ⟨by omega, by omega, by omega, fun x hx => by have := sumE_mem _ x hx; omega, by omega, fun x hx => by have := sumN_mem _ x hx; omega, by omega, fun x hx => by have := sumF_mem _ x hx; omega, fun x hx => by have := sumQ_mem _ x hx; omega⟩

/-- All rows are of a length that there can be. -/
structure QK.Long (K : QK) : Prop where
  s : K.sl.length ≤ 9223372036854775807
  t : K.tl.length ≤ 9223372036854775807
  e : K.el.length ≤ 9223372036854775807
  ei : ∀ x ∈ K.el, x.l.length ≤ 9223372036854775807
  n : K.nl.length ≤ 9223372036854775807
  ni : ∀ x ∈ K.nl, x.l.length ≤ 9223372036854775807
  f : K.fl.length ≤ 9223372036854775807
  fi : ∀ x ∈ K.fl, x.l.length ≤ 9223372036854775807
  r : ∀ x ∈ [K.r0, K.r1, K.r2, K.r3, K.r4, K.r5, K.r6, K.r7], x.l.length ≤ 9223372036854775807

/-- Values, one cell each. -/
def fV : Form Value := ⟨1, fun v => [v], fun _ => rfl, by decide⟩
theorem atV {W : World} {B : Nat} {L : List Value} (h : LiesG fV W (some ⟨B, 0, none⟩) L) (k : Nat) (v : Value) (hk : L[k]? = some v) : W.cell? ⟨B, k, none⟩ = some v := by
  obtain ⟨hlt, e⟩ := List.getElem?_eq_some_iff.1 hk
  have := h.at hlt 0 _ rfl
  rw [e] at this
  simpa [fV] using this
theorem mkV {W : World} {B : Nat} {L : List Value} (h : ∀ k v, L[k]? = some v → W.cell? ⟨B, k, none⟩ = some v) : LiesG fV W (some ⟨B, 0, none⟩) L := by
  refine ⟨.inr ⟨_, _, rfl⟩, fun B' O' e i hi j hj => ?_⟩
  injection e with e
  injection e with e1 e2
  subst e1
  subst e2
  have hj0 : j = 0 := by simp [fV] at hj; omega
  subst hj0
  have hn : 0 + i * fV.n + 0 = i := by simp [fV]
  rw [hn, h i L[i] (List.getElem?_eq_getElem hi)]
  rfl
theorem setV {W : World} {B j : Nat} {L : List Value} (h : LiesG fV W (some ⟨B, 0, none⟩) L) (hj : j < L.length) (v : Value) : LiesG fV (W.setCell ⟨B, j, none⟩ v) (some ⟨B, 0, none⟩) (L.set j v) := by
  apply mkV
  intro k u hk
  by_cases e : k = j
  · subst e
    rw [List.getElem?_set_self hj] at hk
    cases hk
    exact World.cell?_setCell_same' W ⟨B, k, none⟩ _ (by rw [atV h k L[k] (List.getElem?_eq_getElem hj)]; rfl)
  · rw [List.getElem?_set_ne (fun e' => e e'.symm)] at hk
    have h1 := atV h k u hk
    rw [World.cell?_setCell_other (h := by intro e'; injection e' with e1 e2; exact e e2.symm)]
    exact h1
theorem boxV (w : World) (K : QK) (T : Nat) : LiesG fV (w.alloc (.cells #[.int .i64 K.bits, .int .i64 K.ticks, .slice K.sP K.sl.length K.sc, .slice K.tP K.tl.length K.tc, .slice K.eP K.el.length K.ec, .slice K.nP K.nl.length K.nc, .slice K.fP K.fl.length K.fc, .slice K.r0.P K.r0.l.length K.r0.c, .slice K.r1.P K.r1.l.length K.r1.c, .slice K.r2.P K.r2.l.length K.r2.c, .slice K.r3.P K.r3.l.length K.r3.c, .slice K.r4.P K.r4.l.length K.r4.c, .slice K.r5.P K.r5.l.length K.r5.c, .slice K.r6.P K.r6.l.length K.r6.c, .slice K.r7.P K.r7.l.length K.r7.c] T)) (some ⟨w.heap.size, 0, none⟩) [.int .i64 K.bits, .int .i64 K.ticks, .slice K.sP K.sl.length K.sc, .slice K.tP K.tl.length K.tc, .slice K.eP K.el.length K.ec, .slice K.nP K.nl.length K.nc, .slice K.fP K.fl.length K.fc, .slice K.r0.P K.r0.l.length K.r0.c, .slice K.r1.P K.r1.l.length K.r1.c, .slice K.r2.P K.r2.l.length K.r2.c, .slice K.r3.P K.r3.l.length K.r3.c, .slice K.r4.P K.r4.l.length K.r4.c, .slice K.r5.P K.r5.l.length K.r5.c, .slice K.r6.P K.r6.l.length K.r6.c, .slice K.r7.P K.r7.l.length K.r7.c] := by
  apply mkV
  intro k v hk
  have hlt : k < 15 := (List.getElem?_eq_some_iff.1 hk).1
  rw [World.cell?_alloc_at _ _ _ _ rfl]
  simpa using hk

end Go.Proofs.Ytoahhhmagcnjbab
