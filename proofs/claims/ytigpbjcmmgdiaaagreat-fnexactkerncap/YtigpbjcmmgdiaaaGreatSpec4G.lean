/-
 Whether a capability may lie in its slot, by the specification. Conditions: the state lies in memory; a slot of a thread is one of its three.
-/
import Derived.Test.YtigpbjcmmgdiaaaGreatBq
import Derived.Test.YtigpbjcmmgdiaaaGreatRu
import Derived.BigRegion
namespace Go.Proofs.YtigpbjcmmgdiaaaGreat
open Go.ChangeShapes Go.WideShapes Go.ChangeAt Go.RowKit
set_option linter.unusedVariables false

/-- What may lie in the slots of a thread. -/
def slotKind (n : Nat) : Int := if n = 0 then 2 else if n = 1 then 7 else 4
/-- A capability may lie in its slot. -/
def fitsB (L : List Sl) (s : Sl) (n : Nat) : Bool := if holderI L s.t = -1 then false else if holderI L s.t = 3 then s.k == slotKind n && !s.o else s.k != 7

set_option maxRecDepth 100000 in
set_option maxHeartbeats 8000000 in
theorem l4Fits_any (K : QK) (s : Sl) (n : Nat) (w : World) (hs : K.Short) (h : KernIn w K) (hn : holderI K.sl s.t = 3 → n ≤ 2 ∧ (s.t.tmod 32).tdiv 4 = (n : Int)) :
  Calls Tryz.prog 91 #[.agg #[.int .i64 K.bits, .int .i64 K.ticks, .slice K.sP K.sl.length K.sc, .slice K.tP K.tl.length K.tc, .slice K.eP K.el.length K.ec, .slice K.nP K.nl.length K.nc, .slice K.fP K.fl.length K.fc, .slice K.r0.P K.r0.l.length K.r0.c, .slice K.r1.P K.r1.l.length K.r1.c, .slice K.r2.P K.r2.l.length K.r2.c, .slice K.r3.P K.r3.l.length K.r3.c, .slice K.r4.P K.r4.l.length K.r4.c, .slice K.r5.P K.r5.l.length K.r5.c, .slice K.r6.P K.r6.l.length K.r6.c, .slice K.r7.P K.r7.l.length K.r7.c], .agg #[.int .i64 s.t, .int .i64 s.k, .int .i64 s.e, .int .i64 s.b, .int .i64 s.r, .int .i64 s.d, .int .i64 s.g, .int .i64 s.q, .int .i64 s.f, .bool s.o, .int .i64 s.p]] w fun e w' => e = .returned (.bool (fitsB K.sl s n)) ∧ Below w.heap.size w w' := by
 have HH := fun W (hW : KernIn W K) => l4Holder_any K s.t W hs hW
 obtain ⟨hd, hhd⟩ : ∃ hd, holderI K.sl s.t = hd := ⟨_, rfl⟩
 rw [hhd] at HH hn
 have HD : Hid _ := hhd
 clear hhd
 have hb0 := (KBox.new h 42).below ((Below.refl _ _).alloc (Nat.le_refl _) (.cells #[.int .i64 s.t, .int .i64 s.k, .int .i64 s.e, .int .i64 s.b, .int .i64 s.r, .int .i64 s.d, .int .i64 s.g, .int .i64 s.q, .int .i64 s.f, .bool s.o, .int .i64 s.p] 66))
 have sb0 := At11.alloc (w.alloc (.cells #[.int .i64 K.bits, .int .i64 K.ticks, .slice K.sP K.sl.length K.sc, .slice K.tP K.tl.length K.tc, .slice K.eP K.el.length K.ec, .slice K.nP K.nl.length K.nc, .slice K.fP K.fl.length K.fc, .slice K.r0.P K.r0.l.length K.r0.c, .slice K.r1.P K.r1.l.length K.r1.c, .slice K.r2.P K.r2.l.length K.r2.c, .slice K.r3.P K.r3.l.length K.r3.c, .slice K.r4.P K.r4.l.length K.r4.c, .slice K.r5.P K.r5.l.length K.r5.c, .slice K.r6.P K.r6.l.length K.r6.c, .slice K.r7.P K.r7.l.length K.r7.c] 42)) s 66
 rw [World.size_alloc] at sb0
 have hz0 : w.heap.size + 1 < ((w.alloc (.cells #[.int .i64 K.bits, .int .i64 K.ticks, .slice K.sP K.sl.length K.sc, .slice K.tP K.tl.length K.tc, .slice K.eP K.el.length K.ec, .slice K.nP K.nl.length K.nc, .slice K.fP K.fl.length K.fc, .slice K.r0.P K.r0.l.length K.r0.c, .slice K.r1.P K.r1.l.length K.r1.c, .slice K.r2.P K.r2.l.length K.r2.c, .slice K.r3.P K.r3.l.length K.r3.c, .slice K.r4.P K.r4.l.length K.r4.c, .slice K.r5.P K.r5.l.length K.r5.c, .slice K.r6.P K.r6.l.length K.r6.c, .slice K.r7.P K.r7.l.length K.r7.c] 42)).alloc (.cells #[.int .i64 s.t, .int .i64 s.k, .int .i64 s.e, .int .i64 s.b, .int .i64 s.r, .int .i64 s.d, .int .i64 s.g, .int .i64 s.q, .int .i64 s.f, .bool s.o, .int .i64 s.p] 66)).heap.size := by simp
 go_enter Tryz.func91, Tryz.ntmps91
 go_upto_region 1 with fail
 generalize (w.alloc (.cells #[.int .i64 K.bits, .int .i64 K.ticks, .slice K.sP K.sl.length K.sc, .slice K.tP K.tl.length K.tc, .slice K.eP K.el.length K.ec, .slice K.nP K.nl.length K.nc, .slice K.fP K.fl.length K.fc, .slice K.r0.P K.r0.l.length K.r0.c, .slice K.r1.P K.r1.l.length K.r1.c, .slice K.r2.P K.r2.l.length K.r2.c, .slice K.r3.P K.r3.l.length K.r3.c, .slice K.r4.P K.r4.l.length K.r4.c, .slice K.r5.P K.r5.l.length K.r5.c, .slice K.r6.P K.r6.l.length K.r6.c, .slice K.r7.P K.r7.l.length K.r7.c] 42)).alloc (.cells #[.int .i64 s.t, .int .i64 s.k, .int .i64 s.e, .int .i64 s.b, .int .i64 s.r, .int .i64 s.d, .int .i64 s.g, .int .i64 s.q, .int .i64 s.f, .bool s.o, .int .i64 s.p] 66) = W0 at hb0 sb0 hz0 ⊢
 obtain ⟨g0, g1, g2, g3, g4, g5, g6, g7, g8, g9, g10, g11, g12, g13, g14⟩ := KBox.facts hb0
 obtain ⟨c0, c1, c2, c3, c4, c5, c6, c7, c8, c9, c10⟩ := id sb0
 simp only [Nat.zero_add] at c0 c1 c2 c3 c4 c5 c6 c7 c8 c9 c10
 go_upto_region 2 with ((go_at_call 93; refine (HH _ hb0.b).mono ?_; rintro e w1 ⟨rfl, hb1⟩))
 have bb := hb0.below hb1
 have sb : At11 w1 (w.heap.size + 1) 0 s := sb0.of fun j => (bcell hb1).1 _ _ hz0
 have hz1 : w.heap.size + 1 < w1.heap.size := Nat.lt_of_lt_of_le hz0 hb1.size
 have hz2 : ¬ w.heap.size + 1 = w1.heap.size := by omega
 have hz3 : ¬ w1.heap.size = w.heap.size + 1 := by omega
 clear g0 g1 g2 g3 g4 g5 g6 g7 g8 g9 g10 g11 g12 g13 g14 c0 c1 c2 c3 c4 c5 c6 c7 c8 c9 c10 hb0 sb0 hb1 HH hz0
 obtain ⟨c0, c1, c2, c3, c4, c5, c6, c7, c8, c9, c10⟩ := id sb
 simp only [Nat.zero_add] at c0 c1 c2 c3 c4 c5 c6 c7 c8 c9 c10
 cases h1 : (hd == -1)
 ·have h1' : ¬ hd = -1 := by simpa using h1
  cases h3 : (hd == 3)
  ·have h3' : ¬ hd = 3 := by simpa using h3
   have HX : Hid (fitsB K.sl s n = (s.k != 7)) := by unfold Hid; rw [fitsB, HD.out, if_neg h1', if_neg h3']
   clear h1' h3' hn
   go_wp2
   go_ret
   exact ⟨ret_bool (by rw [HX.out]), bb.bw⟩
  ·have h3' : hd = 3 := by simpa using h3
   obtain ⟨hn2, hn3⟩ := hn h3'
   have HX : Hid (fitsB K.sl s n = (s.k == slotKind n && !s.o)) := by unfold Hid; rw [fitsB, HD.out, if_neg h1', if_pos h3']
   clear h1' h3' hn
   have hn1 : n = 0 ∨ n = 1 ∨ n = 2 := by omega
   go_upto_region 5 with fail
   rcases hn1 with e | e | e <;> subst e
   ·have hk0 : slotKind 0 = 2 := by decide
    cases hk : (s.k == 2)
    ·have hkb := hk
     cases hso : s.o
     ·rw [hso] at c9
      have HV : Hid ((s.k == slotKind 0 && !s.o) = false) := by unfold Hid; rw [hk0, hk, hso]; rfl
      clear hk0
      go_region
      all_goals go_wp2
      all_goals go_ret
      all_goals exact ⟨ret_bool (by rw [HX.out, HV.out]), by repeat (first | exact bb.bw | exact bb.bw.drew | refine Below.drew ?_ | refine Below.alloc ?_ (by first | exact bb.bw.size | (simp; exact bb.bw.size)) _)⟩
     ·rw [hso] at c9
      have HV : Hid ((s.k == slotKind 0 && !s.o) = false) := by unfold Hid; rw [hk0, hk, hso]; rfl
      clear hk0
      go_region
      all_goals go_wp2
      all_goals go_ret
      all_goals exact ⟨ret_bool (by rw [HX.out, HV.out]), by repeat (first | exact bb.bw | exact bb.bw.drew | refine Below.drew ?_ | refine Below.alloc ?_ (by first | exact bb.bw.size | (simp; exact bb.bw.size)) _)⟩
    ·have hkb := hk
     cases hso : s.o
     ·rw [hso] at c9
      have HV : Hid ((s.k == slotKind 0 && !s.o) = true) := by unfold Hid; rw [hk0, hk, hso]; rfl
      clear hk0
      go_region
      all_goals go_wp2
      all_goals go_ret
      all_goals exact ⟨ret_bool (by rw [HX.out, HV.out]), by repeat (first | exact bb.bw | exact bb.bw.drew | refine Below.drew ?_ | refine Below.alloc ?_ (by first | exact bb.bw.size | (simp; exact bb.bw.size)) _)⟩
     ·rw [hso] at c9
      have HV : Hid ((s.k == slotKind 0 && !s.o) = false) := by unfold Hid; rw [hk0, hk, hso]; rfl
      clear hk0
      go_region
      all_goals go_wp2
      all_goals go_ret
      all_goals exact ⟨ret_bool (by rw [HX.out, HV.out]), by repeat (first | exact bb.bw | exact bb.bw.drew | refine Below.drew ?_ | refine Below.alloc ?_ (by first | exact bb.bw.size | (simp; exact bb.bw.size)) _)⟩
   ·have hk0 : slotKind 1 = 7 := by decide
    cases hk : (s.k == 7)
    ·have hkb := hk
     cases hso : s.o
     ·rw [hso] at c9
      have HV : Hid ((s.k == slotKind 1 && !s.o) = false) := by unfold Hid; rw [hk0, hk, hso]; rfl
      clear hk0
      go_region
      all_goals go_wp2
      all_goals go_ret
      all_goals exact ⟨ret_bool (by rw [HX.out, HV.out]), by repeat (first | exact bb.bw | exact bb.bw.drew | refine Below.drew ?_ | refine Below.alloc ?_ (by first | exact bb.bw.size | (simp; exact bb.bw.size)) _)⟩
     ·rw [hso] at c9
      have HV : Hid ((s.k == slotKind 1 && !s.o) = false) := by unfold Hid; rw [hk0, hk, hso]; rfl
      clear hk0
      go_region
      all_goals go_wp2
      all_goals go_ret
      all_goals exact ⟨ret_bool (by rw [HX.out, HV.out]), by repeat (first | exact bb.bw | exact bb.bw.drew | refine Below.drew ?_ | refine Below.alloc ?_ (by first | exact bb.bw.size | (simp; exact bb.bw.size)) _)⟩
    ·have hkb := hk
     cases hso : s.o
     ·rw [hso] at c9
      have HV : Hid ((s.k == slotKind 1 && !s.o) = true) := by unfold Hid; rw [hk0, hk, hso]; rfl
      clear hk0
      go_region
      all_goals go_wp2
      all_goals go_ret
      all_goals exact ⟨ret_bool (by rw [HX.out, HV.out]), by repeat (first | exact bb.bw | exact bb.bw.drew | refine Below.drew ?_ | refine Below.alloc ?_ (by first | exact bb.bw.size | (simp; exact bb.bw.size)) _)⟩
     ·rw [hso] at c9
      have HV : Hid ((s.k == slotKind 1 && !s.o) = false) := by unfold Hid; rw [hk0, hk, hso]; rfl
      clear hk0
      go_region
      all_goals go_wp2
      all_goals go_ret
      all_goals exact ⟨ret_bool (by rw [HX.out, HV.out]), by repeat (first | exact bb.bw | exact bb.bw.drew | refine Below.drew ?_ | refine Below.alloc ?_ (by first | exact bb.bw.size | (simp; exact bb.bw.size)) _)⟩
   ·have hk0 : slotKind 2 = 4 := by decide
    cases hk : (s.k == 4)
    ·have hkb := hk
     cases hso : s.o
     ·rw [hso] at c9
      have HV : Hid ((s.k == slotKind 2 && !s.o) = false) := by unfold Hid; rw [hk0, hk, hso]; rfl
      clear hk0
      go_region
      all_goals go_wp2
      all_goals go_ret
      all_goals exact ⟨ret_bool (by rw [HX.out, HV.out]), by repeat (first | exact bb.bw | exact bb.bw.drew | refine Below.drew ?_ | refine Below.alloc ?_ (by first | exact bb.bw.size | (simp; exact bb.bw.size)) _)⟩
     ·rw [hso] at c9
      have HV : Hid ((s.k == slotKind 2 && !s.o) = false) := by unfold Hid; rw [hk0, hk, hso]; rfl
      clear hk0
      go_region
      all_goals go_wp2
      all_goals go_ret
      all_goals exact ⟨ret_bool (by rw [HX.out, HV.out]), by repeat (first | exact bb.bw | exact bb.bw.drew | refine Below.drew ?_ | refine Below.alloc ?_ (by first | exact bb.bw.size | (simp; exact bb.bw.size)) _)⟩
    ·have hkb := hk
     cases hso : s.o
     ·rw [hso] at c9
      have HV : Hid ((s.k == slotKind 2 && !s.o) = true) := by unfold Hid; rw [hk0, hk, hso]; rfl
      clear hk0
      go_region
      all_goals go_wp2
      all_goals go_ret
      all_goals exact ⟨ret_bool (by rw [HX.out, HV.out]), by repeat (first | exact bb.bw | exact bb.bw.drew | refine Below.drew ?_ | refine Below.alloc ?_ (by first | exact bb.bw.size | (simp; exact bb.bw.size)) _)⟩
     ·rw [hso] at c9
      have HV : Hid ((s.k == slotKind 2 && !s.o) = false) := by unfold Hid; rw [hk0, hk, hso]; rfl
      clear hk0
      go_region
      all_goals go_wp2
      all_goals go_ret
      all_goals exact ⟨ret_bool (by rw [HX.out, HV.out]), by repeat (first | exact bb.bw | exact bb.bw.drew | refine Below.drew ?_ | refine Below.alloc ?_ (by first | exact bb.bw.size | (simp; exact bb.bw.size)) _)⟩
 ·have h1' : hd = -1 := by simpa using h1
  have HX : Hid (fitsB K.sl s n = false) := by unfold Hid; rw [fitsB, HD.out, if_pos h1']
  clear h1' hn
  go_wp2
  go_ret
  exact ⟨ret_bool (by rw [HX.out]), bb.bw⟩

end Go.Proofs.YtigpbjcmmgdiaaaGreat
