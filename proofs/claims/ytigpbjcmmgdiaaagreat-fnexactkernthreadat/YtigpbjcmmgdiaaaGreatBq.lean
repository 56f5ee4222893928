/-
  Texts of the proof, put together: Spec4F, Spec4HP.
-/
import Derived.Test.YtigpbjcmmgdiaaaGreatBp
import Derived.Test.YtigpbjcmmgdiaaaGreatBa
/-
 What the specification says a slot lies in. Condition: the state lies in memory.
-/
namespace Go.Proofs.YtigpbjcmmgdiaaaGreat
open Go.ChangeShapes Go.WideShapes Go.ChangeAt Go.RowKit
set_option linter.unusedVariables false

/-- What the object of a slot is to a place: a node, a thread that has it among its slots, or nothing. -/
def holdP (x : Int) (s : Sl) : Int := if (s.o && x.tmod 4 == 0) = true then (if (s.k == 2 && inB x 4 s.e (szI s.k s.b)) = true then 2 else if (s.k == 3 && inB x 4 s.e 12) = true then 3 else -1) else -1
def holdL (x : Int) : List Sl → Int
 | [] => -1
 | s :: L => if holdP x s = -1 then holdL x L else holdP x s
theorem holdL_at (x : Int) : ∀ (L : List Sl) (k : Nat) (h : k < L.length), (∀ j (hj : j < k) (hl : j < L.length), holdP x L[j] = -1) → holdP x L[k] ≠ -1 → holdL x L = holdP x L[k]
 | [], k, h, _, _ => absurd h (Nat.not_lt_zero _)
 | a :: L, 0, h, _, hp => by rw [holdL, if_neg (by simpa using hp)]; rfl
 | a :: L, k + 1, h, hd, hp => by
  have hk : k < L.length := by simpa using h
  have h0 : holdP x a = -1 := hd 0 (by omega) (by simp)
  rw [holdL, if_pos h0, holdL_at x L k hk (fun j hj hl => by have := hd (j + 1) (by omega) (by simpa using hl); rwa [List.getElem_cons_succ] at this) (by rwa [List.getElem_cons_succ] at hp)]
  rw [List.getElem_cons_succ]
theorem holdL_none (x : Int) : ∀ (L : List Sl), (∀ j (hl : j < L.length), holdP x L[j] = -1) → holdL x L = -1
 | [], _ => rfl
 | a :: L, hd => by
  have h0 : holdP x a = -1 := hd 0 (by simp)
  rw [holdL, if_pos h0]
  exact holdL_none x L (fun j hl => by have := hd (j + 1) (by simpa using hl); rwa [List.getElem_cons_succ] at this)
/-- What a slot lies in. -/
def holderI (L : List Sl) (x : Int) : Int := if (decide (64 ≤ x) && decide (x < 128) && x.tmod 4 == 0) = true then 0 else holdL x L
def holdInv (w : World) (K : QK) (x : Int) (v : Value) (W : World) : Prop :=
 ∃ k : Nat, k ≤ K.sl.length ∧ v = .int .i64 (k : Int) ∧ (∀ j (hj : j < k) (hl : j < K.sl.length), holdP x K.sl[j] = -1) ∧ KBox w K W
theorem hold_next {x : Int} {L : List Sl} {k : Nat} (hk : k < L.length) (h : ∀ j (hj : j < k) (hl : j < L.length), holdP x L[j] = -1) (hp : holdP x L[k] = -1) : ∀ j (hj : j < k + 1) (hl : j < L.length), holdP x L[j] = -1 := by
 intro j hj hl
 by_cases e : j = k
 ·subst e; exact hp
 ·exact h j (by omega) hl
theorem inSpec_bel (a s b t : Int) (w : World) :
  Calls Tryz.prog 135 #[.int .i64 a, .int .i64 s, .int .i64 b, .int .i64 t] w fun e w' => e = .returned (.bool (inB a s b t)) ∧ Below w.heap.size w w' :=
 (inSpec_any a s b t w).mono fun e w' ⟨h1, h2⟩ => ⟨h1, by rw [h2]; exact Below.refl _ _⟩
theorem sizeSpec_bel (k b : Int) (w : World) :
  Calls Tryz.prog 136 #[.int .i64 k, .int .i64 b] w fun e w' => e = .returned (.int .i64 (szI k b)) ∧ Below w.heap.size w w' :=
 (sizeSpecKind_any k b w).mono fun e w' ⟨h1, h2⟩ => ⟨h1, by rw [h2]; exact Below.refl _ _⟩

set_option maxRecDepth 100000 in
set_option maxHeartbeats 8000000 in
theorem l4Holder_any (K : QK) (x : Int) (w : World) (hs : K.Short) (h : KernIn w K) :
  Calls Tryz.prog 93 #[.agg #[.int .i64 K.bits, .int .i64 K.ticks, .slice K.sP K.sl.length K.sc, .slice K.tP K.tl.length K.tc, .slice K.eP K.el.length K.ec, .slice K.nP K.nl.length K.nc, .slice K.fP K.fl.length K.fc, .slice K.r0.P K.r0.l.length K.r0.c, .slice K.r1.P K.r1.l.length K.r1.c, .slice K.r2.P K.r2.l.length K.r2.c, .slice K.r3.P K.r3.l.length K.r3.c, .slice K.r4.P K.r4.l.length K.r4.c, .slice K.r5.P K.r5.l.length K.r5.c, .slice K.r6.P K.r6.l.length K.r6.c, .slice K.r7.P K.r7.l.length K.r7.c], .int .i64 x] w fun e w' => e = .returned (.int .i64 (holderI K.sl x)) ∧ Below w.heap.size w w' := by
 have hlen := hs.s
 have hb0 := KBox.new h 42
 go_enter Tryz.func93, Tryz.ntmps93
 go_upto_region 1 with fail
 generalize w.alloc (.cells #[.int .i64 K.bits, .int .i64 K.ticks, .slice K.sP K.sl.length K.sc, .slice K.tP K.tl.length K.tc, .slice K.eP K.el.length K.ec, .slice K.nP K.nl.length K.nc, .slice K.fP K.fl.length K.fc, .slice K.r0.P K.r0.l.length K.r0.c, .slice K.r1.P K.r1.l.length K.r1.c, .slice K.r2.P K.r2.l.length K.r2.c, .slice K.r3.P K.r3.l.length K.r3.c, .slice K.r4.P K.r4.l.length K.r4.c, .slice K.r5.P K.r5.l.length K.r5.c, .slice K.r6.P K.r6.l.length K.r6.c, .slice K.r7.P K.r7.l.length K.r7.c] 42) = W0 at hb0 ⊢
 obtain ⟨m, hm⟩ : ∃ m : Int, x.tmod 4 = m := ⟨_, rfl⟩
 have HM : Hid _ := hm
 have hroot : (decide (64 ≤ x) && decide (x < 128) && m == 0) = true ∨ (decide (64 ≤ x) && decide (x < 128) && m == 0) = false := by cases (decide (64 ≤ x) && decide (x < 128) && m == 0) <;> simp
 rcases hroot with hr | hr
 ·have HR : Hid _ := hr
  simp only [Bool.and_eq_true, decide_eq_true_eq] at hr
  obtain ⟨⟨r1, r2⟩, r3⟩ := hr
  go_wp2
  go_ret
  exact ⟨ret_int (by rw [holderI, HM.out, if_pos HR.out]), hb0.bw⟩
 ·have HR : Hid _ := hr
  have hq : ∃ b1 b2 : Bool, decide (64 ≤ x) = b1 ∧ decide (x < 128) = b2 := ⟨_, _, rfl, rfl⟩
  go_cut [17] (fun v W => v = .bool false ∧ KBox w K W)
  case first =>
   by_cases r1 : 64 ≤ x
   ·by_cases r2 : x < 128
    ·have r3 : (m == 0) = false := by simpa [r1, r2] using hr
     have r4 : ¬ m = 0 := by simpa using r3
     clear hr hq
     go_wp2
     go_meet
     case rel => exact ⟨by first | rfl | simp_all, hb0⟩
    ·clear hr hq
     go_wp2
     go_meet
     case rel => exact ⟨by first | rfl | simp_all, hb0⟩
   ·clear hr hq
    go_wp2
    go_meet
    case rel => exact ⟨by first | rfl | simp_all, hb0⟩
  case rest =>
   obtain ⟨rfl, hb1⟩ := hcut
   clear hb0
   have HH : Hid (holderI K.sl x = holdL x K.sl) := by unfold Hid; rw [holderI, HM.out, if_neg (by rw [HR.out]; simp)]
   clear hr hq HR
   go_wp2
   go_loopw [5, 6] (fun v z W => holdInv w K x v W) (fun v z W => K.sl.length - (intOf v).toNat)
   case atStart => exact ⟨0, Nat.zero_le _, rfl, fun j hj => absurd hj (Nat.not_lt_zero _), hb1⟩
   case round =>
    obtain ⟨k, hk, rfl, hno, bb⟩ := hrel
    have g0 := bb.cs
    have HN : Hid _ := hno
    clear hno hb1
    by_cases hlt : k < K.sl.length
    ·have hk1 : (k : Int) < (K.sl.length : Int) := by omega
     have hrow := bb.b.s
     obtain ⟨B, O, hP⟩ := hrow.some hlt
     rw [hP] at g0 hrow
     have hcc := hrow.cells B O rfl k hlt
     have HP : Hid _ := (rfl : holdP x K.sl[k] = holdP x K.sl[k])
     obtain ⟨s, hsl⟩ : ∃ s, K.sl[k] = s := ⟨_, rfl⟩
     rw [hsl] at hcc
     have HS : Hid _ := hsl
     obtain ⟨c0, c1, c2, c3, c4, c5, c6, c7, c8, c9, c10⟩ := hcc
     clear hrow HP hsl hP
     go_upto_region 7 with fail
     have bb1 := bb.below ((Below.refl _ _).alloc (Nat.le_refl _) (.cells #[.int .i64 s.k, .int .i64 s.e, .int .i64 s.b, .int .i64 s.r, .int .i64 s.d, .int .i64 s.g, .int .i64 s.q, .int .i64 s.f, .bool s.o] 33))
     have H9 := Holds9.alloc wr (.int .i64 s.k) (.int .i64 s.e) (.int .i64 s.b) (.int .i64 s.r) (.int .i64 s.d) (.int .i64 s.g) (.int .i64 s.q) (.int .i64 s.f) (.bool s.o) 33
     clear c0 c1 c2 c3 c4 c5 c6 c7 c8 c9 c10 g0 bb
     generalize wr.alloc (.cells #[.int .i64 s.k, .int .i64 s.e, .int .i64 s.b, .int .i64 s.r, .int .i64 s.d, .int .i64 s.g, .int .i64 s.q, .int .i64 s.f, .bool s.o] 33) = W1 at bb1 H9 ⊢
     generalize wr.heap.size = C at H9 ⊢
     obtain ⟨d0, d1, d2, d3, d4, d5, d6, d7, d8⟩ := id H9
     cases ho : s.o
     ·rw [ho] at d8
      have HX : Hid (holdP x K.sl[k] = -1) := by unfold Hid; rw [HS.out, holdP, HM.out]; simp [ho]
      go_wp2
      go_roundw
      case rel => exact ⟨k + 1, by omega, by go_num, hold_next hlt HN.out HX.out, bb1⟩
      case measure => simp [intOf]; omega
     ·rw [ho] at d8
      cases hm0 : (m == 0)
      ·have hm1 : (m != 0) = true := by rw [bne, hm0]; rfl
       have hm2 : ¬ m = 0 := by simpa using hm0
       have HX : Hid (holdP x K.sl[k] = -1) := by unfold Hid; rw [HS.out, holdP, HM.out]; simp [ho, hm0]
       go_wp2
       go_roundw
       case rel => exact ⟨k + 1, by omega, by go_num, hold_next hlt HN.out HX.out, bb1⟩
       case measure => simp [intOf]; omega
      ·have hm1 : (m != 0) = false := by rw [bne, hm0]; rfl
       have p0 := cell_regrown d0
       have p1 := cell_regrown d1
       have p2 := cell_regrown d2
       cases hk2 : (s.k == 2)
       ·go_upto_region 8 with fail
        refine wq_region (by kernel_rfl) (by kernel_rfl) ?_
        repeat (first | (refine wq_step (fun K hK => ?_); go_simp; first | (refine hK _ ?_; clear hK K) | (apply Exists.intro; refine ⟨fun _ => ?_, hK _ ?_⟩; fail; clear hK K)))
        refine wq_nil ?_
        intro _ hw'
        obtain ⟨⟨dq, osq⟩, hw''⟩ := hw'
        subst hw''
        have bb2 := bb1.below (below_regrown _ dq osq)
        have e0 := p0 dq osq
        have e1 := p1 dq osq
        clear p0 p1 p2 d0 d1 d2 d3 d4 d5 d6 d7 d8
        generalize Sort.grow (redrawn W1 dq) osq = W2 at bb2 e0 e1 ⊢
        cases hk3 : (s.k == 3)
        ·skip
         have HX : Hid (holdP x K.sl[k] = -1) := by unfold Hid; rw [HS.out, holdP, HM.out]; simp [ho, hm0, hk2, hk3]
         go_wp2
         go_roundw
         case rel => exact ⟨k + 1, by omega, by go_num, hold_next hlt HN.out HX.out, bb2⟩
         case measure => simp [intOf]; omega
        ·cases hy : inB x 4 s.e 12
         ·skip
          have HX : Hid (holdP x K.sl[k] = -1) := by unfold Hid; rw [HS.out, holdP, HM.out]; simp [ho, hm0, hk2, hk3, hy]
          have HI := fun W => inSpec_any x 4 s.e 12 W
          rw [hy] at HI
          go_wp2_with ((go_at_call 135; refine (HI _).mono ?_; rintro e w' ⟨rfl, rfl⟩))
          go_roundw
          case rel => exact ⟨k + 1, by omega, by go_num, hold_next hlt HN.out HX.out, bb2⟩
          case measure => simp [intOf]; omega
         ·have HX : Hid (holdP x K.sl[k] = 3) := by unfold Hid; rw [HS.out, holdP, HM.out]; simp [ho, hm0, hk2, hk3, hy]
          have HI := fun W => inSpec_any x 4 s.e 12 W
          rw [hy] at HI
          go_wp2_with ((go_at_call 135; refine (HI _).mono ?_; rintro e w' ⟨rfl, rfl⟩))
          go_ret
          exact ⟨ret_int (by rw [HH.out, holdL_at x K.sl k hlt HN.out (by rw [HX.out]; decide), HX.out]), bb2.bw⟩
       ·have hk3 : (s.k == 3) = false := by simp at hk2 ⊢; omega
        cases hy : inB x 4 s.e (szI s.k s.b)
        ·have HI := fun W => inSpec_bel x 4 s.e (szI s.k s.b) W
         rw [hy] at HI
         have HSz := fun W => sizeSpec_bel s.k s.b W
         have HX : Hid (holdP x K.sl[k] = -1) := by unfold Hid; rw [HS.out, holdP, HM.out]; simp [ho, hm0, hk2, hk3, hy]
         generalize szI s.k s.b = sz at HI HSz
         go_upto_region 8 with fail
         refine wq_region (by kernel_rfl) (by kernel_rfl) ?_
         repeat (first | (refine wq_step (fun K hK => ?_); go_simp; first | (refine hK _ ?_; clear hK K) | (apply Exists.intro; refine ⟨fun _ => ?_, hK _ ?_⟩; (first | (go_at_call 136; exact Calls.regrown_of (HSz _)) | (go_at_call 135; exact Calls.regrown_of (HI _))); clear hK K)))
         refine wq_nil ?_
         intro _ hw'
         obtain ⟨⟨dq, osq⟩, hw''⟩ := hw'
         subst hw''
         have bb2 := bb1.below (below_regrown _ dq osq)
         have e0 := p0 dq osq
         have e1 := p1 dq osq
         clear p0 p1 p2 d0 d1 d2 d3 d4 d5 d6 d7 d8
         generalize Sort.grow (redrawn W1 dq) osq = W2 at bb2 e0 e1 ⊢
         go_wp2
         go_roundw
         case rel => exact ⟨k + 1, by omega, by go_num, hold_next hlt HN.out HX.out, bb2⟩
         case measure => simp [intOf]; omega
        ·have HI := fun W => inSpec_bel x 4 s.e (szI s.k s.b) W
         rw [hy] at HI
         have HSz := fun W => sizeSpec_bel s.k s.b W
         have HX : Hid (holdP x K.sl[k] = 2) := by unfold Hid; rw [HS.out, holdP, HM.out]; simp [ho, hm0, hk2, hy]
         generalize szI s.k s.b = sz at HI HSz
         go_upto_region 8 with fail
         refine wq_region (by kernel_rfl) (by kernel_rfl) ?_
         repeat (first | (refine wq_step (fun K hK => ?_); go_simp; first | (refine hK _ ?_; clear hK K) | (apply Exists.intro; refine ⟨fun _ => ?_, hK _ ?_⟩; (first | (go_at_call 136; exact Calls.regrown_of (HSz _)) | (go_at_call 135; exact Calls.regrown_of (HI _))); clear hK K)))
         refine wq_nil ?_
         intro _ hw'
         obtain ⟨⟨dq, osq⟩, hw''⟩ := hw'
         subst hw''
         have bb2 := bb1.below (below_regrown _ dq osq)
         have e0 := p0 dq osq
         have e1 := p1 dq osq
         clear p0 p1 p2 d0 d1 d2 d3 d4 d5 d6 d7 d8
         generalize Sort.grow (redrawn W1 dq) osq = W2 at bb2 e0 e1 ⊢
         go_wp2
         go_ret
         exact ⟨ret_int (by rw [HH.out, holdL_at x K.sl k hlt HN.out (by rw [HX.out]; decide), HX.out]), bb2.bw⟩
    ·have hk1 : ¬ (k : Int) < (K.sl.length : Int) := by omega
     go_wp2
     go_ret
     exact ⟨ret_int (by rw [HH.out, holdL_none x K.sl (fun j hj => HN.out j (by omega) hj)]), bb.bw⟩

end Go.Proofs.YtigpbjcmmgdiaaaGreat
/-
 What the originals and the rows of objects are asked, by the specification: plain facts. No conditions.
-/
namespace Go.Proofs.YtigpbjcmmgdiaaaGreat
open Go.ChangeShapes Go.WideShapes Go.ChangeAt Go.RowKit
set_option linter.unusedVariables false

/-- The object at a place of a row has an original, and comes behind the one ahead of it. -/
def objAtB (sl : List Sl) (kd : Int) (ats : List Int) (j : Nat) : Bool := !decide (firstI (isObj kd (ats.getD j 0)) sl < 0) && (decide (j = 0) || decide (ats.getD (j - 1) 0 < ats.getD j 0))
def objsB (sl : List Sl) (kd : Int) (ats : List Int) : Bool := (List.range ats.length).all (objAtB sl kd ats)
/-- A frame has as many words as its original says. -/
def frameLenB (sl : List Sl) (f : QF) : Bool := match sl.find? (isObj 6 f.ad) with
 | none => false
 | some s => ((f.l.length : Nat) : Int) == sizeI s.b
def frameAtB (sl : List Sl) (fl : List QF) (j : Nat) : Bool := objAtB sl 6 (fl.map QF.ad) j && (match fl[j]? with | none => false | some f => frameLenB sl f)
def framesB (sl : List Sl) (fl : List QF) : Bool := (List.range fl.length).all (frameAtB sl fl)
def cntI (sl : List Sl) (kd : Int) : Int := ((sl.countP (isOrig kd) : Nat) : Int)
def objectsB (K : QK) : Bool :=
 ((K.tl.length : Int) == cntI K.sl 3) && ((K.el.length : Int) == cntI K.sl 4) && ((K.nl.length : Int) == cntI K.sl 5) && ((K.fl.length : Int) == cntI K.sl 6) &&
 objsB K.sl 3 (K.tl.map QT.a0) && objsB K.sl 4 (K.el.map QE.ad) && objsB K.sl 5 (K.nl.map QN.ad) && framesB K.sl K.fl
theorem range_no {n k : Nat} {p : Nat → Bool} (hk : k < n) (h : p k = false) : (List.range n).all p = false := by
 rw [List.all_eq_false]; exact ⟨k, List.mem_range.2 hk, by simp [h]⟩
theorem range_yes {n : Nat} {p : Nat → Bool} (h : ∀ j, j < n → p j = true) : (List.range n).all p = true := by
 rw [List.all_eq_true]; intro x hx; exact h x (List.mem_range.1 hx)
theorem range_next {k : Nat} {p : Nat → Bool} (h : ∀ j, j < k → p j = true) (hp : p k = true) : ∀ j, j < k + 1 → p j = true := by
 intro j hj
 by_cases e : j = k
 ·subst e; exact hp
 ·exact h j (by omega)
theorem objAt_none {sl : List Sl} {kd : Int} {ats : List Int} {j : Nat} (h : firstI (isObj kd (ats.getD j 0)) sl = -1) : objAtB sl kd ats j = false := by
 unfold objAtB; rw [h]; rfl
theorem objAt_zero {sl : List Sl} {kd : Int} {ats : List Int} {m : Nat} (h : firstI (isObj kd (ats.getD 0 0)) sl = (m : Int)) : objAtB sl kd ats 0 = true := by
 unfold objAtB; rw [h]; simp
theorem objAt_succ {sl : List Sl} {kd : Int} {ats : List Int} {j m : Nat} (h : firstI (isObj kd (ats.getD (j + 1) 0)) sl = (m : Int)) : objAtB sl kd ats (j + 1) = decide (ats.getD j 0 < ats.getD (j + 1) 0) := by
 unfold objAtB; rw [h]; simp
theorem objAt_zero' {sl : List Sl} {kd : Int} {ats : List Int} {k m : Nat} (hk : k = 0) (h : firstI (isObj kd (ats.getD k 0)) sl = (m : Int)) : objAtB sl kd ats k = true := by
 subst hk; exact objAt_zero h
theorem objAt_succ' {sl : List Sl} {kd : Int} {ats : List Int} {k j m : Nat} (hk : k = j + 1) (h : firstI (isObj kd (ats.getD k 0)) sl = (m : Int)) : objAtB sl kd ats k = decide (ats.getD j 0 < ats.getD k 0) := by
 subst hk; exact objAt_succ h
theorem getD_map {α : Type} {f : α → Int} {L : List α} {k : Nat} (h : k < L.length) : (L.map f).getD k 0 = f L[k] := by
 rw [List.getD_eq_getElem?_getD]; simp [h]
/-- Between two rounds. -/
def objInv (w : World) (K : QK) (n : Nat) (p : Nat → Bool) (v : Value) (W : World) : Prop :=
 ∃ k : Nat, k ≤ n ∧ v = .int .i64 (k : Int) ∧ (∀ j, j < k → p j = true) ∧ KBox w K W

end Go.Proofs.YtigpbjcmmgdiaaaGreat
