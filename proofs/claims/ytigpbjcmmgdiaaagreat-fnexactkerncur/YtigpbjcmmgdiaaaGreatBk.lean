/-
  Texts of the proof, put together: KernData, KernBox.
-/
import Derived.Test.YtigpbjcmmgdiaaaGreatBc
import Derived.Test.YtigpbjcmmgdiaaaGreatBe
import Derived.Test.YtigpbjcmmgdiaaaGreatBn
import Derived.Test.YtigpbjcmmgdiaaaGreatEight
import Derived.Test.YtigpbjcmmgdiaaaGreatBb
import Derived.Test.YtigpbjcmmgdiaaaGreatBw
/-
 States: where they lie; what the laws' copy and size of one, and the program's compare of two, answer.
-/
namespace Go.Proofs.YtigpbjcmmgdiaaaGreat
open Go.ChangeShapes Go.WideShapes Go.ChangeAt Go.RowKit
set_option linter.unusedVariables false

/-- A state, with where its rows lie. -/
structure QK where
 bits : Int
 ticks : Int
 sP : Option Addr
 sc : Nat
 sl : List Sl
 tP : Option Addr
 tc : Nat
 tl : List QT
 eP : Option Addr
 ec : Nat
 el : List QE
 nP : Option Addr
 nc : Nat
 nl : List QN
 fP : Option Addr
 fc : Nat
 fl : List QF
 r0 : QR
 r1 : QR
 r2 : QR
 r3 : QR
 r4 : QR
 r5 : QR
 r6 : QR
 r7 : QR

/-- The rows of a state lie where it says. -/
structure KernIn (W : World) (K : QK) : Prop where
 s : Lies W K.sP K.sl
 t : LiesG fT W K.tP K.tl
 e : LiesG fE W K.eP K.el
 ei : InE W K.el
 n : LiesG fN W K.nP K.nl
 ni : InN W K.nl
 f : LiesG fF W K.fP K.fl
 fi : InF W K.fl
 r : InQ W [K.r0, K.r1, K.r2, K.r3, K.r4, K.r5, K.r6, K.r7]
theorem KernIn.below {W W' : World} {K : QK} (h : KernIn W K) (hb : Below W.heap.size W W') : KernIn W' K :=
 ⟨h.s.below hb, h.t.below hb, h.e.below hb, h.ei.below hb, h.n.below hb, h.ni.below hb, h.f.below hb, h.fi.below hb, h.r.below hb⟩

abbrev KP5 := List (Int × List Int) × List (List Int)
abbrev KP4 := List (Int × Bool × Int × List Int) × KP5
abbrev KP3 := List (Int × Int × List Int) × KP4
abbrev KP2 := List QT × KP3
abbrev KP1 := List Sl × KP2
instance instKP5 : DecidableEq KP5 := instDecidableEqProd
instance instKP4 : DecidableEq KP4 := @instDecidableEqProd _ _ inferInstance instKP5
instance instKP3 : DecidableEq KP3 := @instDecidableEqProd _ _ inferInstance instKP4
instance instKP2 : DecidableEq KP2 := @instDecidableEqProd _ _ inferInstance instKP3
instance instKP1 : DecidableEq KP1 := @instDecidableEqProd _ _ inferInstance instKP2
/-- What a state says. -/
def QK.pl (K : QK) : (Int × Int) × KP1 :=
 ((K.bits, K.ticks), K.sl, K.tl, K.el.map QE.pl, K.nl.map QN.pl, K.fl.map QF.pl, [K.r0, K.r1, K.r2, K.r3, K.r4, K.r5, K.r6, K.r7].map QR.l)

/-- How long all rows of a state are together. -/
def QK.sz (K : QK) : Nat := K.sl.length + K.tl.length + (K.el.length + sumE K.el) + (K.nl.length + sumN K.nl) + (K.fl.length + sumF K.fl) + sumQ [K.r0, K.r1, K.r2, K.r3, K.r4, K.r5, K.r6, K.r7]

/-- All rows are short. -/
structure QK.Short (K : QK) : Prop where
 s : K.sl.length ≤ 1048576
 t : K.tl.length ≤ 1048576
 e : K.el.length ≤ 1048576
 ei : ∀ x ∈ K.el, x.l.length ≤ 1048576
 n : K.nl.length ≤ 1048576
 ni : ∀ x ∈ K.nl, x.l.length ≤ 1048576
 f : K.fl.length ≤ 1048576
 fi : ∀ x ∈ K.fl, x.l.length ≤ 1048576
 r : ∀ x ∈ [K.r0, K.r1, K.r2, K.r3, K.r4, K.r5, K.r6, K.r7], x.l.length ≤ 1048576
theorem QK.short {K : QK} (h : K.sz ≤ 1048576) : K.Short := by
 unfold QK.sz at h
 exact ⟨by omega, by omega, by omega, fun x hx => by have := sumE_mem _ x hx; omega, by omega, fun x hx => by have := sumN_mem _ x hx; omega, by omega, fun x hx => by have := sumF_mem _ x hx; omega, fun x hx => by have := sumQ_mem _ x hx; omega⟩

/-- All rows are of a length that there can be. -/
structure QK.Long (K : QK) : Prop where
 s : K.sl.length ≤ 9223372036854775807
 t : K.tl.length ≤ 9223372036854775807
 e : K.el.length ≤ 9223372036854775807
 ei : ∀ x ∈ K.el, x.l.length ≤ 9223372036854775807
 n : K.nl.length ≤ 9223372036854775807
 ni : ∀ x ∈ K.nl, x.l.length ≤ 9223372036854775807
 f : K.fl.length ≤ 9223372036854775807
 fi : ∀ x ∈ K.fl, x.l.length ≤ 9223372036854775807
 r : ∀ x ∈ [K.r0, K.r1, K.r2, K.r3, K.r4, K.r5, K.r6, K.r7], x.l.length ≤ 9223372036854775807

theorem boxV (w : World) (K : QK) (T : Nat) : LiesG fV (w.alloc (.cells #[.int .i64 K.bits, .int .i64 K.ticks, .slice K.sP K.sl.length K.sc, .slice K.tP K.tl.length K.tc, .slice K.eP K.el.length K.ec, .slice K.nP K.nl.length K.nc, .slice K.fP K.fl.length K.fc, .slice K.r0.P K.r0.l.length K.r0.c, .slice K.r1.P K.r1.l.length K.r1.c, .slice K.r2.P K.r2.l.length K.r2.c, .slice K.r3.P K.r3.l.length K.r3.c, .slice K.r4.P K.r4.l.length K.r4.c, .slice K.r5.P K.r5.l.length K.r5.c, .slice K.r6.P K.r6.l.length K.r6.c, .slice K.r7.P K.r7.l.length K.r7.c] T)) (some ⟨w.heap.size, 0, none⟩) [.int .i64 K.bits, .int .i64 K.ticks, .slice K.sP K.sl.length K.sc, .slice K.tP K.tl.length K.tc, .slice K.eP K.el.length K.ec, .slice K.nP K.nl.length K.nc, .slice K.fP K.fl.length K.fc, .slice K.r0.P K.r0.l.length K.r0.c, .slice K.r1.P K.r1.l.length K.r1.c, .slice K.r2.P K.r2.l.length K.r2.c, .slice K.r3.P K.r3.l.length K.r3.c, .slice K.r4.P K.r4.l.length K.r4.c, .slice K.r5.P K.r5.l.length K.r5.c, .slice K.r6.P K.r6.l.length K.r6.c, .slice K.r7.P K.r7.l.length K.r7.c] := by
 apply mkV
 intro k v hk
 have hlt : k < 15 := (List.getElem?_eq_some_iff.1 hk).1
 rw [World.cell?_alloc_at _ _ _ _ rfl]
 simpa using hk

end Go.Proofs.YtigpbjcmmgdiaaaGreat
/-
 A state that lies in a box at the beginning of a function: its cells and its rows, in every later world. No conditions.
-/
namespace Go.Proofs.YtigpbjcmmgdiaaaGreat
open Go.ChangeShapes Go.WideShapes Go.ChangeAt Go.RowKit
set_option linter.unusedVariables false

/-- The box of a state, and the state's rows. -/
structure KBox (w : World) (K : QK) (W : World) : Prop where
 a : LiesG fV W (some ⟨w.heap.size, 0, none⟩) [.int .i64 K.bits, .int .i64 K.ticks, .slice K.sP K.sl.length K.sc, .slice K.tP K.tl.length K.tc, .slice K.eP K.el.length K.ec, .slice K.nP K.nl.length K.nc, .slice K.fP K.fl.length K.fc, .slice K.r0.P K.r0.l.length K.r0.c, .slice K.r1.P K.r1.l.length K.r1.c, .slice K.r2.P K.r2.l.length K.r2.c, .slice K.r3.P K.r3.l.length K.r3.c, .slice K.r4.P K.r4.l.length K.r4.c, .slice K.r5.P K.r5.l.length K.r5.c, .slice K.r6.P K.r6.l.length K.r6.c, .slice K.r7.P K.r7.l.length K.r7.c]
 b : KernIn W K
 bw : Below w.heap.size w W
 lt : w.heap.size < W.heap.size
theorem KBox.below {w W W' : World} {K : QK} (h : KBox w K W) (hb : Below W.heap.size W W') : KBox w K W' := ⟨h.a.below hb, h.b.below hb, h.bw.trans (hb.mono h.bw.size), Nat.lt_of_lt_of_le h.lt hb.size⟩
theorem KBox.new {w : World} {K : QK} (h : KernIn w K) (T : Nat) : KBox w K (w.alloc (.cells #[.int .i64 K.bits, .int .i64 K.ticks, .slice K.sP K.sl.length K.sc, .slice K.tP K.tl.length K.tc, .slice K.eP K.el.length K.ec, .slice K.nP K.nl.length K.nc, .slice K.fP K.fl.length K.fc, .slice K.r0.P K.r0.l.length K.r0.c, .slice K.r1.P K.r1.l.length K.r1.c, .slice K.r2.P K.r2.l.length K.r2.c, .slice K.r3.P K.r3.l.length K.r3.c, .slice K.r4.P K.r4.l.length K.r4.c, .slice K.r5.P K.r5.l.length K.r5.c, .slice K.r6.P K.r6.l.length K.r6.c, .slice K.r7.P K.r7.l.length K.r7.c] T)) :=
 ⟨boxV w K T, h.below ((Below.refl _ _).alloc (Nat.le_refl _) _), (Below.refl _ _).alloc (Nat.le_refl _) _, by simp⟩

theorem KBox.bits {w W : World} {K : QK} (h : KBox w K W) : W.cell? ⟨w.heap.size, 0, none⟩ = some (.int .i64 K.bits) := atV h.a 0 _ rfl
theorem KBox.ticks {w W : World} {K : QK} (h : KBox w K W) : W.cell? ⟨w.heap.size, 1, none⟩ = some (.int .i64 K.ticks) := atV h.a 1 _ rfl
theorem KBox.cs {w W : World} {K : QK} (h : KBox w K W) : W.cell? ⟨w.heap.size, 2, none⟩ = some (.slice K.sP K.sl.length K.sc) := atV h.a 2 _ rfl
theorem KBox.ct {w W : World} {K : QK} (h : KBox w K W) : W.cell? ⟨w.heap.size, 3, none⟩ = some (.slice K.tP K.tl.length K.tc) := atV h.a 3 _ rfl
theorem KBox.ce {w W : World} {K : QK} (h : KBox w K W) : W.cell? ⟨w.heap.size, 4, none⟩ = some (.slice K.eP K.el.length K.ec) := atV h.a 4 _ rfl
theorem KBox.cn {w W : World} {K : QK} (h : KBox w K W) : W.cell? ⟨w.heap.size, 5, none⟩ = some (.slice K.nP K.nl.length K.nc) := atV h.a 5 _ rfl
theorem KBox.cf {w W : World} {K : QK} (h : KBox w K W) : W.cell? ⟨w.heap.size, 6, none⟩ = some (.slice K.fP K.fl.length K.fc) := atV h.a 6 _ rfl
theorem KBox.cr0 {w W : World} {K : QK} (h : KBox w K W) : W.cell? ⟨w.heap.size, 7, none⟩ = some (.slice K.r0.P K.r0.l.length K.r0.c) := atV h.a 7 _ rfl
theorem KBox.cr1 {w W : World} {K : QK} (h : KBox w K W) : W.cell? ⟨w.heap.size, 8, none⟩ = some (.slice K.r1.P K.r1.l.length K.r1.c) := atV h.a 8 _ rfl
theorem KBox.cr2 {w W : World} {K : QK} (h : KBox w K W) : W.cell? ⟨w.heap.size, 9, none⟩ = some (.slice K.r2.P K.r2.l.length K.r2.c) := atV h.a 9 _ rfl
theorem KBox.cr3 {w W : World} {K : QK} (h : KBox w K W) : W.cell? ⟨w.heap.size, 10, none⟩ = some (.slice K.r3.P K.r3.l.length K.r3.c) := atV h.a 10 _ rfl
theorem KBox.cr4 {w W : World} {K : QK} (h : KBox w K W) : W.cell? ⟨w.heap.size, 11, none⟩ = some (.slice K.r4.P K.r4.l.length K.r4.c) := atV h.a 11 _ rfl
theorem KBox.cr5 {w W : World} {K : QK} (h : KBox w K W) : W.cell? ⟨w.heap.size, 12, none⟩ = some (.slice K.r5.P K.r5.l.length K.r5.c) := atV h.a 12 _ rfl
theorem KBox.cr6 {w W : World} {K : QK} (h : KBox w K W) : W.cell? ⟨w.heap.size, 13, none⟩ = some (.slice K.r6.P K.r6.l.length K.r6.c) := atV h.a 13 _ rfl
theorem KBox.cr7 {w W : World} {K : QK} (h : KBox w K W) : W.cell? ⟨w.heap.size, 14, none⟩ = some (.slice K.r7.P K.r7.l.length K.r7.c) := atV h.a 14 _ rfl

/-- The place of the first that is so, or -1. -/
def firstI {α : Type} (p : α → Bool) : List α → Int
 | [] => -1
 | s :: L => if p s = true then 0 else if firstI p L < 0 then -1 else firstI p L + 1
theorem firstI_at {α : Type} (p : α → Bool) : ∀ (L : List α) (k : Nat) (h : k < L.length), p L[k] = true → (∀ j (hj : j < k), p L[j] = false) → firstI p L = (k : Int)
 | [], k, h, _, _ => absurd h (Nat.not_lt_zero _)
 | a :: L, 0, h, hp, _ => by rw [firstI, if_pos (by simpa using hp)]; rfl
 | a :: L, k + 1, h, hp, hd => by
  have hk : k < L.length := by simpa using h
  have h0 := hd 0 (by omega)
  have ih := firstI_at p L k hk (by simpa using hp) (fun j hj => by simpa using hd (j + 1) (by omega))
  simp only [List.getElem_cons_zero] at h0
  rw [firstI, if_neg (by simp [h0]), ih, if_neg (by omega)]; push_cast; rfl
theorem firstI_none {α : Type} (p : α → Bool) : ∀ (L : List α), (∀ j (hj : j < L.length), p L[j] = false) → firstI p L = -1
 | [], _ => rfl
 | a :: L, hd => by
  have h0 := hd 0 (by simp)
  have ih := firstI_none p L (fun j hj => by have := hd (j + 1) (by simp; exact hj); rwa [List.getElem_cons_succ] at this)
  simp only [List.getElem_cons_zero] at h0
  rw [firstI, if_neg (by simp [h0]), ih]; rfl
theorem countP_take {α : Type} (p : α → Bool) (L : List α) (k : Nat) (hk : k < L.length) : (L.take (k + 1)).countP p = (L.take k).countP p + (if p L[k] = true then 1 else 0) := by
 rw [List.take_succ_eq_append_getElem hk, List.countP_append]; simp [List.countP_cons]
theorem countP_end {α : Type} (p : α → Bool) (L : List α) (k : Nat) (hk : L.length ≤ k) : (L.take k).countP p = L.countP p := by rw [List.take_of_length_le hk]
theorem countP_bd {α : Type} (p : α → Bool) (L : List α) (k : Nat) (hk : k ≤ L.length) : (L.take k).countP p ≤ k := by
 have := List.countP_le_length (p := p) (l := L.take k); simp at this; omega
theorem no_next {α : Type} {p : α → Bool} {L : List α} {k : Nat} (hk : k < L.length) (h : ∀ j (hj : j < k) (hl : j < L.length), p L[j] = false) (hp : p L[k] = false) : ∀ j (hj : j < k + 1) (hl : j < L.length), p L[j] = false := by
 intro j hj hl
 by_cases e : j = k
 ·subst e; exact hp
 ·exact h j (by omega) hl

/-- Between two rounds of a search. -/
def firstInv {α : Type} (w : World) (K : QK) (p : α → Bool) (L : List α) (v : Value) (W : World) : Prop :=
 ∃ k : Nat, k ≤ L.length ∧ v = .int .i64 (k : Int) ∧ (∀ j (hj : j < k) (hl : j < L.length), p L[j] = false) ∧ KBox w K W
/-- Between two rounds of a count. -/
def countInv {α : Type} (w : World) (K : QK) (p : α → Bool) (L : List α) (n v : Value) (W : World) : Prop :=
 ∃ k : Nat, k ≤ L.length ∧ v = .int .i64 (k : Int) ∧ n = .int .i64 ((L.take k).countP p : Int) ∧ KBox w K W

end Go.Proofs.YtigpbjcmmgdiaaaGreat
