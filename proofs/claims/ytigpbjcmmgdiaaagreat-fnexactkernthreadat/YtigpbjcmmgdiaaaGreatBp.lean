/-
  Texts of the proof, put together: Spec4A, Spec4B, Spec4C.
-/
import Derived.Test.YtigpbjcmmgdiaaaGreatBk
import Derived.Test.YtigpbjcmmgdiaaaGreatBb
/-
 The specification's small searches over the rows of a state. Condition: the state lies in memory.
-/
namespace Go.Proofs.YtigpbjcmmgdiaaaGreat
open Go.ChangeShapes Go.WideShapes Go.ChangeAt Go.RowKit
set_option linter.unusedVariables false

set_option maxRecDepth 100000 in
set_option maxHeartbeats 2000000 in
theorem l4Thread_any (K : QK) (x : Int) (w : World) (hs : K.Short) (h : KernIn w K) :
  Calls Tryz.prog 42 #[.agg #[.int .i64 K.bits, .int .i64 K.ticks, .slice K.sP K.sl.length K.sc, .slice K.tP K.tl.length K.tc, .slice K.eP K.el.length K.ec, .slice K.nP K.nl.length K.nc, .slice K.fP K.fl.length K.fc, .slice K.r0.P K.r0.l.length K.r0.c, .slice K.r1.P K.r1.l.length K.r1.c, .slice K.r2.P K.r2.l.length K.r2.c, .slice K.r3.P K.r3.l.length K.r3.c, .slice K.r4.P K.r4.l.length K.r4.c, .slice K.r5.P K.r5.l.length K.r5.c, .slice K.r6.P K.r6.l.length K.r6.c, .slice K.r7.P K.r7.l.length K.r7.c], .int .i64 x] w fun e w' => e = .returned (.int .i64 (firstI (fun s => s.a0 == x) K.tl)) ∧ Below w.heap.size w w' := by
 have hlen := hs.t
 have hb0 := KBox.new h 42
 go_enter Tryz.func42, Tryz.ntmps42
 go_upto_region 1 with fail
 generalize w.alloc (.cells #[.int .i64 K.bits, .int .i64 K.ticks, .slice K.sP K.sl.length K.sc, .slice K.tP K.tl.length K.tc, .slice K.eP K.el.length K.ec, .slice K.nP K.nl.length K.nc, .slice K.fP K.fl.length K.fc, .slice K.r0.P K.r0.l.length K.r0.c, .slice K.r1.P K.r1.l.length K.r1.c, .slice K.r2.P K.r2.l.length K.r2.c, .slice K.r3.P K.r3.l.length K.r3.c, .slice K.r4.P K.r4.l.length K.r4.c, .slice K.r5.P K.r5.l.length K.r5.c, .slice K.r6.P K.r6.l.length K.r6.c, .slice K.r7.P K.r7.l.length K.r7.c] 42) = W0 at hb0 ⊢
 go_wp2
 go_loopw [5] (fun v W => firstInv w K (fun s => s.a0 == x) K.tl v W) (fun v W => K.tl.length - (intOf v).toNat)
 case atStart => exact ⟨0, Nat.zero_le _, rfl, fun j hj => absurd hj (Nat.not_lt_zero _), hb0⟩
 case round =>
  obtain ⟨k, hk, rfl, hno, bb⟩ := hrel
  have g0 := bb.ct
  by_cases hlt : k < K.tl.length
  ·have hk1 : (k : Int) < (K.tl.length : Int) := by omega
   obtain ⟨B, O, hP⟩ := bb.b.t.has hlt
   have hrow := bb.b.t
   rw [hP] at g0 hrow
   have hc := hrow.at hlt 0 _ rfl
   simp only [fT, Nat.add_zero] at hc
   have HN : Hid _ := hno
   clear hno hrow
   cases he : (K.tl[k].a0 == x)
   ·have HE : Hid _ := he
    go_wp2
    go_roundw
    case rel => exact ⟨k + 1, by omega, by go_num, no_next (p := fun s => s.a0 == x) hlt HN.out HE.out, bb⟩
    case measure => simp [intOf]; omega
   ·have HE : Hid _ := he
    go_wp2
    go_ret
    exact ⟨ret_int (firstI_at (fun s => s.a0 == x) K.tl k hlt HE.out (fun j hj => HN.out j hj (by omega))).symm, bb.bw⟩
  ·have hk1 : ¬ (k : Int) < (K.tl.length : Int) := by omega
   have HN : Hid _ := hno
   clear hno
   go_wp2
   go_ret
   exact ⟨ret_int (firstI_none (fun s => s.a0 == x) K.tl (fun j hj => HN.out j (by omega) hj)).symm, bb.bw⟩

set_option maxRecDepth 100000 in
set_option maxHeartbeats 2000000 in
theorem l4End_any (K : QK) (x : Int) (w : World) (hs : K.Short) (h : KernIn w K) :
  Calls Tryz.prog 171 #[.agg #[.int .i64 K.bits, .int .i64 K.ticks, .slice K.sP K.sl.length K.sc, .slice K.tP K.tl.length K.tc, .slice K.eP K.el.length K.ec, .slice K.nP K.nl.length K.nc, .slice K.fP K.fl.length K.fc, .slice K.r0.P K.r0.l.length K.r0.c, .slice K.r1.P K.r1.l.length K.r1.c, .slice K.r2.P K.r2.l.length K.r2.c, .slice K.r3.P K.r3.l.length K.r3.c, .slice K.r4.P K.r4.l.length K.r4.c, .slice K.r5.P K.r5.l.length K.r5.c, .slice K.r6.P K.r6.l.length K.r6.c, .slice K.r7.P K.r7.l.length K.r7.c], .int .i64 x] w fun e w' => e = .returned (.int .i64 (firstI (fun s => s.ad == x) K.el)) ∧ Below w.heap.size w w' := by
 have hlen := hs.e
 have hb0 := KBox.new h 42
 go_enter Tryz.func171, Tryz.ntmps171
 go_upto_region 1 with fail
 generalize w.alloc (.cells #[.int .i64 K.bits, .int .i64 K.ticks, .slice K.sP K.sl.length K.sc, .slice K.tP K.tl.length K.tc, .slice K.eP K.el.length K.ec, .slice K.nP K.nl.length K.nc, .slice K.fP K.fl.length K.fc, .slice K.r0.P K.r0.l.length K.r0.c, .slice K.r1.P K.r1.l.length K.r1.c, .slice K.r2.P K.r2.l.length K.r2.c, .slice K.r3.P K.r3.l.length K.r3.c, .slice K.r4.P K.r4.l.length K.r4.c, .slice K.r5.P K.r5.l.length K.r5.c, .slice K.r6.P K.r6.l.length K.r6.c, .slice K.r7.P K.r7.l.length K.r7.c] 42) = W0 at hb0 ⊢
 go_wp2
 go_loopw [5] (fun v W => firstInv w K (fun s => s.ad == x) K.el v W) (fun v W => K.el.length - (intOf v).toNat)
 case atStart => exact ⟨0, Nat.zero_le _, rfl, fun j hj => absurd hj (Nat.not_lt_zero _), hb0⟩
 case round =>
  obtain ⟨k, hk, rfl, hno, bb⟩ := hrel
  have g0 := bb.ce
  by_cases hlt : k < K.el.length
  ·have hk1 : (k : Int) < (K.el.length : Int) := by omega
   obtain ⟨B, O, hP⟩ := bb.b.e.has hlt
   have hrow := bb.b.e
   rw [hP] at g0 hrow
   have hc := hrow.at hlt 0 _ rfl
   simp only [fE, Nat.add_zero] at hc
   have HN : Hid _ := hno
   clear hno hrow
   cases he : (K.el[k].ad == x)
   ·have HE : Hid _ := he
    go_wp2
    go_roundw
    case rel => exact ⟨k + 1, by omega, by go_num, no_next (p := fun s => s.ad == x) hlt HN.out HE.out, bb⟩
    case measure => simp [intOf]; omega
   ·have HE : Hid _ := he
    go_wp2
    go_ret
    exact ⟨ret_int (firstI_at (fun s => s.ad == x) K.el k hlt HE.out (fun j hj => HN.out j hj (by omega))).symm, bb.bw⟩
  ·have hk1 : ¬ (k : Int) < (K.el.length : Int) := by omega
   have HN : Hid _ := hno
   clear hno
   go_wp2
   go_ret
   exact ⟨ret_int (firstI_none (fun s => s.ad == x) K.el (fun j hj => HN.out j (by omega) hj)).symm, bb.bw⟩

set_option maxRecDepth 100000 in
set_option maxHeartbeats 2000000 in
theorem l4Note_any (K : QK) (x : Int) (w : World) (hs : K.Short) (h : KernIn w K) :
  Calls Tryz.prog 172 #[.agg #[.int .i64 K.bits, .int .i64 K.ticks, .slice K.sP K.sl.length K.sc, .slice K.tP K.tl.length K.tc, .slice K.eP K.el.length K.ec, .slice K.nP K.nl.length K.nc, .slice K.fP K.fl.length K.fc, .slice K.r0.P K.r0.l.length K.r0.c, .slice K.r1.P K.r1.l.length K.r1.c, .slice K.r2.P K.r2.l.length K.r2.c, .slice K.r3.P K.r3.l.length K.r3.c, .slice K.r4.P K.r4.l.length K.r4.c, .slice K.r5.P K.r5.l.length K.r5.c, .slice K.r6.P K.r6.l.length K.r6.c, .slice K.r7.P K.r7.l.length K.r7.c], .int .i64 x] w fun e w' => e = .returned (.int .i64 (firstI (fun s => s.ad == x) K.nl)) ∧ Below w.heap.size w w' := by
 have hlen := hs.n
 have hb0 := KBox.new h 42
 go_enter Tryz.func172, Tryz.ntmps172
 go_upto_region 1 with fail
 generalize w.alloc (.cells #[.int .i64 K.bits, .int .i64 K.ticks, .slice K.sP K.sl.length K.sc, .slice K.tP K.tl.length K.tc, .slice K.eP K.el.length K.ec, .slice K.nP K.nl.length K.nc, .slice K.fP K.fl.length K.fc, .slice K.r0.P K.r0.l.length K.r0.c, .slice K.r1.P K.r1.l.length K.r1.c, .slice K.r2.P K.r2.l.length K.r2.c, .slice K.r3.P K.r3.l.length K.r3.c, .slice K.r4.P K.r4.l.length K.r4.c, .slice K.r5.P K.r5.l.length K.r5.c, .slice K.r6.P K.r6.l.length K.r6.c, .slice K.r7.P K.r7.l.length K.r7.c] 42) = W0 at hb0 ⊢
 go_wp2
 go_loopw [5] (fun v W => firstInv w K (fun s => s.ad == x) K.nl v W) (fun v W => K.nl.length - (intOf v).toNat)
 case atStart => exact ⟨0, Nat.zero_le _, rfl, fun j hj => absurd hj (Nat.not_lt_zero _), hb0⟩
 case round =>
  obtain ⟨k, hk, rfl, hno, bb⟩ := hrel
  have g0 := bb.cn
  by_cases hlt : k < K.nl.length
  ·have hk1 : (k : Int) < (K.nl.length : Int) := by omega
   obtain ⟨B, O, hP⟩ := bb.b.n.has hlt
   have hrow := bb.b.n
   rw [hP] at g0 hrow
   have hc := hrow.at hlt 0 _ rfl
   simp only [fN, Nat.add_zero] at hc
   have HN : Hid _ := hno
   clear hno hrow
   cases he : (K.nl[k].ad == x)
   ·have HE : Hid _ := he
    go_wp2
    go_roundw
    case rel => exact ⟨k + 1, by omega, by go_num, no_next (p := fun s => s.ad == x) hlt HN.out HE.out, bb⟩
    case measure => simp [intOf]; omega
   ·have HE : Hid _ := he
    go_wp2
    go_ret
    exact ⟨ret_int (firstI_at (fun s => s.ad == x) K.nl k hlt HE.out (fun j hj => HN.out j hj (by omega))).symm, bb.bw⟩
  ·have hk1 : ¬ (k : Int) < (K.nl.length : Int) := by omega
   have HN : Hid _ := hno
   clear hno
   go_wp2
   go_ret
   exact ⟨ret_int (firstI_none (fun s => s.ad == x) K.nl (fun j hj => HN.out j (by omega) hj)).symm, bb.bw⟩

end Go.Proofs.YtigpbjcmmgdiaaaGreat
/-
 The specification's counts over the rows of a state, and its search for an original. Condition: the state lies in memory.
-/
namespace Go.Proofs.YtigpbjcmmgdiaaaGreat
open Go.ChangeShapes Go.WideShapes Go.ChangeAt Go.RowKit
set_option linter.unusedVariables false

/-- A slot holds the original of an object of a kind. -/
def isOrig (x : Int) (s : Sl) : Bool := s.o && s.k == x
/-- A slot holds a reply to a thread. -/
def isReply (x : Int) (s : Sl) : Bool := s.k == 7 && s.e == x
/-- A slot holds the original of this object. -/
def isObj (x y : Int) (s : Sl) : Bool := s.o && s.k == x && s.e == y
def hasInv (w : World) (l : List Int) (x : Int) (n v : Value) (W : World) : Prop :=
 ∃ k : Nat, k ≤ l.length ∧ v = .int .i64 (k : Int) ∧ n = .int .i64 ((l.take k).countP (fun y => y == x) : Int) ∧ w = W

set_option maxRecDepth 100000 in
set_option maxHeartbeats 2000000 in
theorem l4Has_any (P : Option Addr) (c : Nat) (l : List Int) (x : Int) (w : World) (hs : l.length ≤ 1048576) (h : LiesG fI w P l) :
  Calls Tryz.prog 89 #[.slice P l.length c, .int .i64 x] w fun e w' => e = .returned (.int .i64 (l.countP (fun y => y == x) : Int)) ∧ w = w' := by
 go_enter Tryz.func89, Tryz.ntmps89
 go_wp2
 go_loopw [5, 6] (fun n v W => hasInv w l x n v W) (fun n v W => l.length - (intOf v).toNat)
 case atStart => exact ⟨0, Nat.zero_le _, rfl, by simp, rfl⟩
 case round =>
  obtain ⟨k, hk, rfl, rfl, rfl⟩ := hrel
  obtain ⟨m, hm⟩ : ∃ m, (l.take k).countP (fun y => y == x) = m := ⟨_, rfl⟩
  have hmb : m ≤ k := by rw [← hm]; exact countP_bd _ _ _ hk
  rw [hm]
  have HM : Hid _ := hm
  clear hm
  by_cases hlt : k < l.length
  ·have hk1 : (k : Int) < (l.length : Int) := by omega
   obtain ⟨B, O, rfl⟩ := h.has hlt
   have hc := h.at hlt 0 _ rfl
   simp only [fI, Nat.add_zero, Nat.mul_one] at hc
   have HC : Hid _ := countP_take (fun y => y == x) l k hlt
   cases he : (l[k] == x)
   ·have HX : Hid ((l[k] == x) = false) := he
    go_wp2
    go_roundw
    case rel => exact ⟨k + 1, by omega, by go_num, by rw [HC.out, HX.out, HM.out]; simp, rfl⟩
    case measure => simp [intOf]; omega
   ·have HX : Hid ((l[k] == x) = true) := he
    go_wp2
    go_roundw
    case rel => exact ⟨k + 1, by omega, by go_num, by rw [HC.out, HX.out, HM.out]; simp, rfl⟩
    case measure => simp [intOf]; omega
  ·have hk1 : ¬ (k : Int) < (l.length : Int) := by omega
   go_wp2
   go_ret
   exact ⟨ret_int (by rw [← HM.out, countP_end _ _ _ (by omega)]), rfl⟩

set_option maxRecDepth 100000 in
set_option maxHeartbeats 2000000 in
theorem l4Count_any (K : QK) (x : Int) (w : World) (hs : K.Short) (h : KernIn w K) :
  Calls Tryz.prog 85 #[.agg #[.int .i64 K.bits, .int .i64 K.ticks, .slice K.sP K.sl.length K.sc, .slice K.tP K.tl.length K.tc, .slice K.eP K.el.length K.ec, .slice K.nP K.nl.length K.nc, .slice K.fP K.fl.length K.fc, .slice K.r0.P K.r0.l.length K.r0.c, .slice K.r1.P K.r1.l.length K.r1.c, .slice K.r2.P K.r2.l.length K.r2.c, .slice K.r3.P K.r3.l.length K.r3.c, .slice K.r4.P K.r4.l.length K.r4.c, .slice K.r5.P K.r5.l.length K.r5.c, .slice K.r6.P K.r6.l.length K.r6.c, .slice K.r7.P K.r7.l.length K.r7.c], .int .i64 x] w fun e w' => e = .returned (.int .i64 (K.sl.countP (isOrig x) : Int)) ∧ Below w.heap.size w w' := by
 have hlen := hs.s
 have hb0 := KBox.new h 42
 go_enter Tryz.func85, Tryz.ntmps85
 go_upto_region 1 with fail
 generalize w.alloc (.cells #[.int .i64 K.bits, .int .i64 K.ticks, .slice K.sP K.sl.length K.sc, .slice K.tP K.tl.length K.tc, .slice K.eP K.el.length K.ec, .slice K.nP K.nl.length K.nc, .slice K.fP K.fl.length K.fc, .slice K.r0.P K.r0.l.length K.r0.c, .slice K.r1.P K.r1.l.length K.r1.c, .slice K.r2.P K.r2.l.length K.r2.c, .slice K.r3.P K.r3.l.length K.r3.c, .slice K.r4.P K.r4.l.length K.r4.c, .slice K.r5.P K.r5.l.length K.r5.c, .slice K.r6.P K.r6.l.length K.r6.c, .slice K.r7.P K.r7.l.length K.r7.c] 42) = W0 at hb0 ⊢
 go_wp2
 go_loopw [5, 6] (fun n v W => countInv w K (isOrig x) K.sl n v W) (fun n v W => K.sl.length - (intOf v).toNat)
 case atStart => exact ⟨0, Nat.zero_le _, rfl, by simp, hb0⟩
 case round =>
  obtain ⟨k, hk, rfl, rfl, bb⟩ := hrel
  have g0 := bb.cs
  obtain ⟨m, hm⟩ : ∃ m, (K.sl.take k).countP (isOrig x) = m := ⟨_, rfl⟩
  have hmb : m ≤ k := by rw [← hm]; exact countP_bd _ _ _ hk
  rw [hm]
  have HM : Hid _ := hm
  clear hm
  by_cases hlt : k < K.sl.length
  ·have hk1 : (k : Int) < (K.sl.length : Int) := by omega
   have hrow := bb.b.s
   obtain ⟨B, O, hP⟩ := hrow.some hlt
   rw [hP] at g0 hrow
   obtain ⟨c0, c1, c2, c3, c4, c5, c6, c7, c8, c9, c10⟩ := hrow.cells B O rfl k hlt
   have HC : Hid _ := countP_take (isOrig x) K.sl k hlt
   clear hrow
   cases ho : K.sl[k].o
   ·skip
    have HX : Hid (((isOrig x)) K.sl[k] = false) := by unfold Hid; simp [isOrig, ho]
    go_wp2
    go_roundw
    case rel => exact ⟨k + 1, by omega, by go_num, by rw [HC.out, HX.out, HM.out]; simp, bb⟩
    case measure => simp [intOf]; omega
   ·skip
    cases he : (K.sl[k].k == x)
    ·skip
     have HX : Hid (((isOrig x)) K.sl[k] = false) := by unfold Hid; simp [isOrig, ho, he]
     go_wp2
     go_roundw
     case rel => exact ⟨k + 1, by omega, by go_num, by rw [HC.out, HX.out, HM.out]; simp, bb⟩
     case measure => simp [intOf]; omega
    ·skip
     have HX : Hid (((isOrig x)) K.sl[k] = true) := by unfold Hid; simp [isOrig, ho, he]
     go_wp2
     go_roundw
     case rel => exact ⟨k + 1, by omega, by go_num, by rw [HC.out, HX.out, HM.out]; simp, bb⟩
     case measure => simp [intOf]; omega
  ·have hk1 : ¬ (k : Int) < (K.sl.length : Int) := by omega
   go_wp2
   go_ret
   exact ⟨ret_int (by rw [← HM.out, countP_end _ _ _ (by omega)]), bb.bw⟩

set_option maxRecDepth 100000 in
set_option maxHeartbeats 2000000 in
theorem l4Replies_any (K : QK) (x : Int) (w : World) (hs : K.Short) (h : KernIn w K) :
  Calls Tryz.prog 147 #[.agg #[.int .i64 K.bits, .int .i64 K.ticks, .slice K.sP K.sl.length K.sc, .slice K.tP K.tl.length K.tc, .slice K.eP K.el.length K.ec, .slice K.nP K.nl.length K.nc, .slice K.fP K.fl.length K.fc, .slice K.r0.P K.r0.l.length K.r0.c, .slice K.r1.P K.r1.l.length K.r1.c, .slice K.r2.P K.r2.l.length K.r2.c, .slice K.r3.P K.r3.l.length K.r3.c, .slice K.r4.P K.r4.l.length K.r4.c, .slice K.r5.P K.r5.l.length K.r5.c, .slice K.r6.P K.r6.l.length K.r6.c, .slice K.r7.P K.r7.l.length K.r7.c], .int .i64 x] w fun e w' => e = .returned (.int .i64 (K.sl.countP (isReply x) : Int)) ∧ Below w.heap.size w w' := by
 have hlen := hs.s
 have hb0 := KBox.new h 42
 go_enter Tryz.func147, Tryz.ntmps147
 go_upto_region 1 with fail
 generalize w.alloc (.cells #[.int .i64 K.bits, .int .i64 K.ticks, .slice K.sP K.sl.length K.sc, .slice K.tP K.tl.length K.tc, .slice K.eP K.el.length K.ec, .slice K.nP K.nl.length K.nc, .slice K.fP K.fl.length K.fc, .slice K.r0.P K.r0.l.length K.r0.c, .slice K.r1.P K.r1.l.length K.r1.c, .slice K.r2.P K.r2.l.length K.r2.c, .slice K.r3.P K.r3.l.length K.r3.c, .slice K.r4.P K.r4.l.length K.r4.c, .slice K.r5.P K.r5.l.length K.r5.c, .slice K.r6.P K.r6.l.length K.r6.c, .slice K.r7.P K.r7.l.length K.r7.c] 42) = W0 at hb0 ⊢
 go_wp2
 go_loopw [5, 6] (fun n v W => countInv w K (isReply x) K.sl n v W) (fun n v W => K.sl.length - (intOf v).toNat)
 case atStart => exact ⟨0, Nat.zero_le _, rfl, by simp, hb0⟩
 case round =>
  obtain ⟨k, hk, rfl, rfl, bb⟩ := hrel
  have g0 := bb.cs
  obtain ⟨m, hm⟩ : ∃ m, (K.sl.take k).countP (isReply x) = m := ⟨_, rfl⟩
  have hmb : m ≤ k := by rw [← hm]; exact countP_bd _ _ _ hk
  rw [hm]
  have HM : Hid _ := hm
  clear hm
  by_cases hlt : k < K.sl.length
  ·have hk1 : (k : Int) < (K.sl.length : Int) := by omega
   have hrow := bb.b.s
   obtain ⟨B, O, hP⟩ := hrow.some hlt
   rw [hP] at g0 hrow
   obtain ⟨c0, c1, c2, c3, c4, c5, c6, c7, c8, c9, c10⟩ := hrow.cells B O rfl k hlt
   have HC : Hid _ := countP_take (isReply x) K.sl k hlt
   clear hrow
   cases ho : (K.sl[k].k == 7)
   ·skip
    have HX : Hid (((isReply x)) K.sl[k] = false) := by unfold Hid; simp [isReply, ho]
    go_wp2
    go_roundw
    case rel => exact ⟨k + 1, by omega, by go_num, by rw [HC.out, HX.out, HM.out]; simp, bb⟩
    case measure => simp [intOf]; omega
   ·skip
    cases he : (K.sl[k].e == x)
    ·skip
     have HX : Hid (((isReply x)) K.sl[k] = false) := by unfold Hid; simp [isReply, ho, he]
     go_wp2
     go_roundw
     case rel => exact ⟨k + 1, by omega, by go_num, by rw [HC.out, HX.out, HM.out]; simp, bb⟩
     case measure => simp [intOf]; omega
    ·skip
     have HX : Hid (((isReply x)) K.sl[k] = true) := by unfold Hid; simp [isReply, ho, he]
     go_wp2
     go_roundw
     case rel => exact ⟨k + 1, by omega, by go_num, by rw [HC.out, HX.out, HM.out]; simp, bb⟩
     case measure => simp [intOf]; omega
  ·have hk1 : ¬ (k : Int) < (K.sl.length : Int) := by omega
   go_wp2
   go_ret
   exact ⟨ret_int (by rw [← HM.out, countP_end _ _ _ (by omega)]), bb.bw⟩

set_option maxRecDepth 100000 in
set_option maxHeartbeats 2000000 in
theorem l4Orig_any (K : QK) (x y : Int) (w : World) (hs : K.Short) (h : KernIn w K) :
  Calls Tryz.prog 86 #[.agg #[.int .i64 K.bits, .int .i64 K.ticks, .slice K.sP K.sl.length K.sc, .slice K.tP K.tl.length K.tc, .slice K.eP K.el.length K.ec, .slice K.nP K.nl.length K.nc, .slice K.fP K.fl.length K.fc, .slice K.r0.P K.r0.l.length K.r0.c, .slice K.r1.P K.r1.l.length K.r1.c, .slice K.r2.P K.r2.l.length K.r2.c, .slice K.r3.P K.r3.l.length K.r3.c, .slice K.r4.P K.r4.l.length K.r4.c, .slice K.r5.P K.r5.l.length K.r5.c, .slice K.r6.P K.r6.l.length K.r6.c, .slice K.r7.P K.r7.l.length K.r7.c], .int .i64 x, .int .i64 y] w fun e w' => e = .returned (.int .i64 (firstI (isObj x y) K.sl)) ∧ Below w.heap.size w w' := by
 have hlen := hs.s
 have hb0 := KBox.new h 42
 go_enter Tryz.func86, Tryz.ntmps86
 go_upto_region 1 with fail
 generalize w.alloc (.cells #[.int .i64 K.bits, .int .i64 K.ticks, .slice K.sP K.sl.length K.sc, .slice K.tP K.tl.length K.tc, .slice K.eP K.el.length K.ec, .slice K.nP K.nl.length K.nc, .slice K.fP K.fl.length K.fc, .slice K.r0.P K.r0.l.length K.r0.c, .slice K.r1.P K.r1.l.length K.r1.c, .slice K.r2.P K.r2.l.length K.r2.c, .slice K.r3.P K.r3.l.length K.r3.c, .slice K.r4.P K.r4.l.length K.r4.c, .slice K.r5.P K.r5.l.length K.r5.c, .slice K.r6.P K.r6.l.length K.r6.c, .slice K.r7.P K.r7.l.length K.r7.c] 42) = W0 at hb0 ⊢
 go_wp2
 go_loopw [7, 8] (fun v z W => firstInv w K (isObj x y) K.sl v W) (fun v z W => K.sl.length - (intOf v).toNat)
 case atStart => exact ⟨0, Nat.zero_le _, rfl, fun j hj => absurd hj (Nat.not_lt_zero _), hb0⟩
 case round =>
  obtain ⟨k, hk, rfl, hno, bb⟩ := hrel
  have g0 := bb.cs
  have HN : Hid _ := hno
  clear hno
  by_cases hlt : k < K.sl.length
  ·have hk1 : (k : Int) < (K.sl.length : Int) := by omega
   have hrow := bb.b.s
   obtain ⟨B, O, hP⟩ := hrow.some hlt
   rw [hP] at g0 hrow
   obtain ⟨c0, c1, c2, c3, c4, c5, c6, c7, c8, c9, c10⟩ := hrow.cells B O rfl k hlt
   clear hrow
   have bb2 := fun o => bb.below ((Below.refl _ _).alloc (Nat.le_refl _) o)
   cases ho : K.sl[k].o
   ·skip
    have HX : Hid (isObj x y K.sl[k] = false) := by unfold Hid; simp [isObj, ho]
    go_wp2
    go_roundw
    case rel => exact ⟨k + 1, by omega, by go_num, no_next hlt HN.out HX.out, bb2 _⟩
    case measure => simp [intOf]; omega
   ·skip
    cases he : (K.sl[k].k == x)
    ·skip
     have HX : Hid (isObj x y K.sl[k] = false) := by unfold Hid; simp [isObj, ho, he]
     go_wp2
     go_roundw
     case rel => exact ⟨k + 1, by omega, by go_num, no_next hlt HN.out HX.out, bb2 _⟩
     case measure => simp [intOf]; omega
    ·skip
     cases hf : (K.sl[k].e == y)
     ·skip
      have HX : Hid (isObj x y K.sl[k] = false) := by unfold Hid; simp [isObj, ho, he, hf]
      go_wp2
      go_roundw
      case rel => exact ⟨k + 1, by omega, by go_num, no_next hlt HN.out HX.out, bb2 _⟩
      case measure => simp [intOf]; omega
     ·skip
      have HX : Hid (isObj x y K.sl[k] = true) := by unfold Hid; simp [isObj, ho, he, hf]
      go_wp2
      go_ret
      exact ⟨ret_int (firstI_at (isObj x y) K.sl k hlt HX.out (fun j hj => HN.out j hj (by omega))).symm, (bb2 _).bw⟩
  ·have hk1 : ¬ (k : Int) < (K.sl.length : Int) := by omega
   go_wp2
   go_ret
   exact ⟨ret_int (firstI_none (isObj x y) K.sl (fun j hj => HN.out j (by omega) hj)).symm, bb.bw⟩

end Go.Proofs.YtigpbjcmmgdiaaaGreat
/-
 What the specification asks of the threads in a list. Condition: the state lies in memory.
-/
namespace Go.Proofs.YtigpbjcmmgdiaaaGreat
open Go.ChangeShapes Go.WideShapes Go.ChangeAt Go.RowKit
set_option linter.unusedVariables false

theorem KBox.facts {w W : World} {K : QK} (h : KBox w K W) : W.cell? ⟨w.heap.size, 0, none⟩ = some (.int .i64 K.bits) ∧ W.cell? ⟨w.heap.size, 1, none⟩ = some (.int .i64 K.ticks) ∧ W.cell? ⟨w.heap.size, 2, none⟩ = some (.slice K.sP K.sl.length K.sc) ∧ W.cell? ⟨w.heap.size, 3, none⟩ = some (.slice K.tP K.tl.length K.tc) ∧ W.cell? ⟨w.heap.size, 4, none⟩ = some (.slice K.eP K.el.length K.ec) ∧ W.cell? ⟨w.heap.size, 5, none⟩ = some (.slice K.nP K.nl.length K.nc) ∧ W.cell? ⟨w.heap.size, 6, none⟩ = some (.slice K.fP K.fl.length K.fc) ∧ W.cell? ⟨w.heap.size, 7, none⟩ = some (.slice K.r0.P K.r0.l.length K.r0.c) ∧ W.cell? ⟨w.heap.size, 8, none⟩ = some (.slice K.r1.P K.r1.l.length K.r1.c) ∧ W.cell? ⟨w.heap.size, 9, none⟩ = some (.slice K.r2.P K.r2.l.length K.r2.c) ∧ W.cell? ⟨w.heap.size, 10, none⟩ = some (.slice K.r3.P K.r3.l.length K.r3.c) ∧ W.cell? ⟨w.heap.size, 11, none⟩ = some (.slice K.r4.P K.r4.l.length K.r4.c) ∧ W.cell? ⟨w.heap.size, 12, none⟩ = some (.slice K.r5.P K.r5.l.length K.r5.c) ∧ W.cell? ⟨w.heap.size, 13, none⟩ = some (.slice K.r6.P K.r6.l.length K.r6.c) ∧ W.cell? ⟨w.heap.size, 14, none⟩ = some (.slice K.r7.P K.r7.l.length K.r7.c) :=
 ⟨atV h.a 0 _ rfl, atV h.a 1 _ rfl, atV h.a 2 _ rfl, atV h.a 3 _ rfl, atV h.a 4 _ rfl, atV h.a 5 _ rfl, atV h.a 6 _ rfl, atV h.a 7 _ rfl, atV h.a 8 _ rfl, atV h.a 9 _ rfl, atV h.a 10 _ rfl, atV h.a 11 _ rfl, atV h.a 12 _ rfl, atV h.a 13 _ rfl, atV h.a 14 _ rfl⟩
theorem firstI_or {α : Type} (p : α → Bool) : ∀ L : List α, (firstI p L = -1 ∧ L.find? p = none) ∨ ∃ (k : Nat) (h : k < L.length), firstI p L = (k : Int) ∧ L.find? p = some L[k] ∧ p L[k] = true
 | [] => .inl ⟨rfl, rfl⟩
 | a :: L => by
  by_cases h : p a = true
  ·exact .inr ⟨0, by simp, by rw [firstI, if_pos h]; rfl, by simp [h], h⟩
  ·rcases firstI_or p L with ⟨h1, h2⟩ | ⟨k, hk, h1, h2, h3⟩
   ·exact .inl ⟨by rw [firstI, if_neg h, h1]; rfl, by simp [h, h2]⟩
   ·exact .inr ⟨k + 1, by simpa using hk, by rw [firstI, if_neg h, h1, if_neg (by omega)]; push_cast; rfl, by simp [h, h2], by simpa using h3⟩
theorem all_no {α : Type} {p : α → Bool} {l : List α} {k : Nat} (hk : k < l.length) (h : p l[k] = false) : l.all p = false := by
 rw [List.all_eq_false]; exact ⟨l[k], List.getElem_mem hk, by simp [h]⟩
theorem all_yes {α : Type} {p : α → Bool} {l : List α} (h : ∀ j (hj : j < l.length), p l[j] = true) : l.all p = true := by
 rw [List.all_eq_true]; intro x hx
 obtain ⟨i, hi, rfl⟩ := List.mem_iff_getElem.1 hx
 exact h i hi
theorem all_next {α : Type} {p : α → Bool} {l : List α} {k : Nat} (hk : k < l.length) (h : ∀ j (hj : j < k) (hl : j < l.length), p l[j] = true) (hp : p l[k] = true) : ∀ j (hj : j < k + 1) (hl : j < l.length), p l[j] = true := by
 intro j hj hl
 by_cases e : j = k
 ·subst e; exact hp
 ·exact h j (by omega) hl

theorem LiesG.low {α : Type} {F : Form α} {w W : World} {P : Option Addr} {L : List α} (h : LiesG F w P L) (hb : Below w.heap.size w W) : LiesG F W P L := h.below hb

/-- A thread waits there. -/
def thWaitB (tl : List QT) (st on a : Int) : Bool :=
 match tl.find? (fun s => s.a0 == a) with
 | none => false
 | some t => t.a1 == st && t.a5 == on
def waitInv (w : World) (K : QK) (l : List Int) (st on : Int) (v : Value) (W : World) : Prop :=
 ∃ k : Nat, k ≤ l.length ∧ v = .int .i64 (k : Int) ∧ (∀ j (hj : j < k) (hl : j < l.length), thWaitB K.tl st on l[j] = true) ∧ KBox w K W

set_option maxRecDepth 100000 in
set_option maxHeartbeats 4000000 in
theorem l4Wait_any (K : QK) (P : Option Addr) (c : Nat) (l : List Int) (st on : Int) (w : World) (hs : K.Short) (h : KernIn w K) (hl : l.length ≤ 1048576) (hL : LiesG fI w P l) :
  Calls Tryz.prog 90 #[.agg #[.int .i64 K.bits, .int .i64 K.ticks, .slice K.sP K.sl.length K.sc, .slice K.tP K.tl.length K.tc, .slice K.eP K.el.length K.ec, .slice K.nP K.nl.length K.nc, .slice K.fP K.fl.length K.fc, .slice K.r0.P K.r0.l.length K.r0.c, .slice K.r1.P K.r1.l.length K.r1.c, .slice K.r2.P K.r2.l.length K.r2.c, .slice K.r3.P K.r3.l.length K.r3.c, .slice K.r4.P K.r4.l.length K.r4.c, .slice K.r5.P K.r5.l.length K.r5.c, .slice K.r6.P K.r6.l.length K.r6.c, .slice K.r7.P K.r7.l.length K.r7.c], .slice P l.length c, .int .i64 st, .int .i64 on] w fun e w' => e = .returned (.bool (l.all (thWaitB K.tl st on))) ∧ Below w.heap.size w w' := by
 have hlen := hs.t
 have hb0 := KBox.new h 42
 go_enter Tryz.func90, Tryz.ntmps90
 go_upto_region 1 with fail
 generalize w.alloc (.cells #[.int .i64 K.bits, .int .i64 K.ticks, .slice K.sP K.sl.length K.sc, .slice K.tP K.tl.length K.tc, .slice K.eP K.el.length K.ec, .slice K.nP K.nl.length K.nc, .slice K.fP K.fl.length K.fc, .slice K.r0.P K.r0.l.length K.r0.c, .slice K.r1.P K.r1.l.length K.r1.c, .slice K.r2.P K.r2.l.length K.r2.c, .slice K.r3.P K.r3.l.length K.r3.c, .slice K.r4.P K.r4.l.length K.r4.c, .slice K.r5.P K.r5.l.length K.r5.c, .slice K.r6.P K.r6.l.length K.r6.c, .slice K.r7.P K.r7.l.length K.r7.c] 42) = W0 at hb0 ⊢
 go_wp2
 go_loopw [9, 10] (fun v z W => waitInv w K l st on v W) (fun v z W => l.length - (intOf v).toNat)
 case atStart => exact ⟨0, Nat.zero_le _, rfl, fun j hj => absurd hj (Nat.not_lt_zero _), hb0⟩
 case round =>
  obtain ⟨k, hk, rfl, hno, bb⟩ := hrel
  have HN : Hid _ := hno
  clear hno hb0
  by_cases hlt : k < l.length
  ·have hk1 : (k : Int) < (l.length : Int) := by omega
   have hrow := hL.low bb.bw
   obtain ⟨B, O, rfl⟩ := hrow.has hlt
   have hc := hrow.at hlt 0 _ rfl
   simp only [fI, Nat.add_zero, Nat.mul_one] at hc
   have pc := cell_regrown hc
   obtain ⟨g0, g1, g2, g3, g4, g5, g6, g7, g8, g9, g10, g11, g12, g13, g14⟩ := KBox.facts bb
   have p0 := cell_regrown g0
   have p1 := cell_regrown g1
   have p2 := cell_regrown g2
   have p3 := cell_regrown g3
   have p4 := cell_regrown g4
   have p5 := cell_regrown g5
   have p6 := cell_regrown g6
   have p7 := cell_regrown g7
   have p8 := cell_regrown g8
   have p9 := cell_regrown g9
   have p10 := cell_regrown g10
   have p11 := cell_regrown g11
   have p12 := cell_regrown g12
   have p13 := cell_regrown g13
   have p14 := cell_regrown g14
   have HT := fun W (hW : KernIn W K) => l4Thread_any K l[k] W hs hW
   clear hrow
   rcases firstI_or (fun s : QT => s.a0 == l[k]) K.tl with ⟨h1, h2⟩ | ⟨t, ht, h1, h2, h3⟩
   ·rw [h1] at HT
    have HX : Hid (thWaitB K.tl st on l[k] = false) := by unfold Hid; simp [thWaitB, h2]
    clear h1 h2
    go_upto_region 4 with fail
    refine wq_region (by kernel_rfl) (by kernel_rfl) ?_
    repeat (first | (refine wq_step (fun K hK => ?_); go_simp; first | (refine hK _ ?_; clear hK K) | (apply Exists.intro; refine ⟨fun _ => ?_, hK _ ?_⟩; (first | (go_at_call 42; exact Calls.regrown_of (HT _ (bb.b.below (below_regrown _ _ _))))); clear hK K)))
    refine wq_nil ?_
    intro _ hw'
    obtain ⟨⟨dq, osq⟩, hw''⟩ := hw'
    subst hw''
    have bb2 := bb.below (below_regrown _ dq osq)
    go_wp2
    go_ret
    exact ⟨ret_bool (all_no hlt HX.out).symm, bb2.bw⟩
   ·rw [h1] at HT
    have HF : Hid _ := h2
    clear h1 h2 h3
    go_upto_region 4 with fail
    refine wq_region (by kernel_rfl) (by kernel_rfl) ?_
    repeat (first | (refine wq_step (fun K hK => ?_); go_simp; first | (refine hK _ ?_; clear hK K) | (apply Exists.intro; refine ⟨fun _ => ?_, hK _ ?_⟩; (first | (go_at_call 42; exact Calls.regrown_of (HT _ (bb.b.below (below_regrown _ _ _))))); clear hK K)))
    refine wq_nil ?_
    intro _ hw'
    obtain ⟨⟨dq, osq⟩, hw''⟩ := hw'
    subst hw''
    have bb2 := bb.below (below_regrown _ dq osq)
    clear p0 p1 p2 p3 p4 p5 p6 p7 p8 p9 p10 p11 p12 p13 p14 g0 g1 g2 g3 g4 g5 g6 g7 g8 g9 g10 g11 g12 g13 g14 hc pc bb
    generalize Sort.grow (redrawn _ dq) osq = W2 at bb2 ⊢
    have g0 := bb2.ct
    have hrow := bb2.b.t
    obtain ⟨B2, O2, hP⟩ := hrow.has ht
    rw [hP] at g0 hrow
    have hc1 := hrow.at ht 1 _ rfl
    have hc5 := hrow.at ht 5 _ rfl
    simp only [fT] at hc1 hc5
    clear hrow
    have ht1 : (t : Int) < (K.tl.length : Int) := by omega
    have ht2 : ¬ (t : Int) < 0 := by omega
    cases he : (K.tl[t].a1 == st)
    ·have hn1 : (K.tl[t].a1 != st) = true := by rw [bne, he]; rfl
     have hm1 : ¬ K.tl[t].a1 = st := by simpa using he
     have HX : Hid (thWaitB K.tl st on l[k] = false) := by unfold Hid; rw [thWaitB, HF.out]; simp [he]
     go_wp2
     go_ret
     exact ⟨ret_bool (all_no hlt HX.out).symm, bb2.bw⟩
    ·have hn1 : (K.tl[t].a1 != st) = false := by rw [bne, he]; rfl
     cases hf : (K.tl[t].a5 == on)
     ·have hn2 : (K.tl[t].a5 != on) = true := by rw [bne, hf]; rfl
      have hm2 : ¬ K.tl[t].a5 = on := by simpa using hf
      have HX : Hid (thWaitB K.tl st on l[k] = false) := by unfold Hid; rw [thWaitB, HF.out]; simp [he, hf]
      go_wp2
      go_ret
      exact ⟨ret_bool (all_no hlt HX.out).symm, bb2.bw⟩
     ·have hn2 : (K.tl[t].a5 != on) = false := by rw [bne, hf]; rfl
      have HX : Hid (thWaitB K.tl st on l[k] = true) := by unfold Hid; rw [thWaitB, HF.out]; simp [he, hf]
      go_wp2
      go_roundw
      case rel => exact ⟨k + 1, by omega, by go_num, all_next hlt HN.out HX.out, bb2⟩
      case measure => simp [intOf]; omega
  ·have hk1 : ¬ (k : Int) < (l.length : Int) := by omega
   go_wp2
   go_ret
   exact ⟨ret_bool (all_yes (fun j hj => HN.out j (by omega) hj)).symm, bb.bw⟩

end Go.Proofs.YtigpbjcmmgdiaaaGreat
