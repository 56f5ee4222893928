/-
  Texts of the proof, put together: ViewF, ViewFr, ViewFh, ViewFk, ViewFb.
-/
import Derived.Test.YtigpbjcmmgdiaaaGreatRf
import Derived.Test.YtigpbjcmmgdiaaaGreatRk
import Derived.Test.YtigpbjcmmgdiaaaGreatRb
import Derived.Test.YtigpbjcmmgdiaaaGreatRa
import Derived.Test.YtigpbjcmmgdiaaaGreatRg
/-
 What the small functions answer that the checks of a view call: a slot's kind, the head of a queue, where a thread belongs, whom a slot keeps from going, the addresses of objects, the room of an original, its iterator. Conditions: what is read lies in memory.
-/
namespace Go.Proofs.YtigpbjcmmgdiaaaGreat
open Go.ChangeShapes Go.WideShapes Go.ChangeAt Go.RowKit
set_option linter.unusedVariables false

set_option maxRecDepth 100000 in
set_option maxHeartbeats 8000000 in
theorem slotKind_any (a : Int) (w : World) :
  Calls Tryz.prog 164 #[.int .i64 a] w fun e w' => e = .returned (.int .i64 (slotKindI a)) ∧ w' = w := by
 cases h0 : (a == 0)
 ·cases h4 : (a == 4)
  ·have HX : Hid (slotKindI a = 4) := by unfold Hid slotKindI; rw [if_neg (by simpa using h0), if_neg (by simpa using h4)]
   go_enter Tryz.func164, Tryz.ntmps164
   go_wp2
   go_ret
   exact ⟨by rw [HX.out]; rfl, rfl⟩
  ·have HX : Hid (slotKindI a = 7) := by unfold Hid slotKindI; rw [if_neg (by simpa using h0), if_pos (by simpa using h4)]
   go_enter Tryz.func164, Tryz.ntmps164
   go_wp2
   go_ret
   exact ⟨by rw [HX.out]; rfl, rfl⟩
 ·have HX : Hid (slotKindI a = 2) := by unfold Hid slotKindI; rw [if_pos (by simpa using h0)]
  go_enter Tryz.func164, Tryz.ntmps164
  go_wp2
  go_ret
  exact ⟨by rw [HX.out]; rfl, rfl⟩

def hdNone (h : Hd) : Bool := h.1 == 0 && h.2 == 0
set_option maxRecDepth 100000 in
set_option maxHeartbeats 8000000 in
theorem hdNone_any (x y : Int) (w : World) :
  Calls Tryz.prog 166 #[.agg #[.int .i64 x, .int .i64 y]] w fun e w' => e = .returned (.bool (hdNone (x, y))) ∧ Below w.heap.size w w' := by
 cases h0 : (x == 0)
 ·have HX : Hid (hdNone (x, y) = false) := by unfold Hid hdNone; rw [h0]; rfl
  go_enter Tryz.func166, Tryz.ntmps166
  go_wp2
  go_ret
  exact ⟨ret_bool HX.out.symm, (Below.refl _ _).alloc (Nat.le_refl _) _⟩
 ·cases h1 : (y == 0)
  ·have HX : Hid (hdNone (x, y) = false) := by unfold Hid hdNone; rw [h0, h1]; rfl
   go_enter Tryz.func166, Tryz.ntmps166
   go_wp2
   go_ret
   exact ⟨ret_bool HX.out.symm, (Below.refl _ _).alloc (Nat.le_refl _) _⟩
  ·have HX : Hid (hdNone (x, y) = true) := by unfold Hid hdNone; rw [h0, h1]; rfl
   go_enter Tryz.func166, Tryz.ntmps166
   go_wp2
   go_ret
   exact ⟨ret_bool HX.out.symm, (Below.refl _ _).alloc (Nat.le_refl _) _⟩

set_option maxRecDepth 100000 in
set_option maxHeartbeats 8000000 in
theorem objAt1_any (t : QT) (w : World) :
  Calls Tryz.prog 117 #[.agg #[.int .i64 t.a0, .int .i64 t.a1, .int .i64 t.a2, .int .i64 t.a3, .int .i64 t.a4, .int .i64 t.a5, .int .i64 t.a6, .int .u32 t.a7, .int .i64 t.a8, .int .u32 t.a9, .int .u32 t.a10, .int .u32 t.a11, .int .u32 t.a12, .int .i64 t.a13, .int .u32 t.a14]] w fun e w' => e = .returned (.int .i64 t.a0) ∧ Below w.heap.size w w' := by
 go_enter Tryz.func117, Tryz.ntmps117
 go_wp2
 go_ret
 exact ⟨rfl, (Below.refl _ _).alloc (Nat.le_refl _) _⟩

set_option maxRecDepth 100000 in
set_option maxHeartbeats 8000000 in
theorem objAt2_any (a k : Int) (P : Option Addr) (n c : Nat) (w : World) :
  Calls Tryz.prog 119 #[.agg #[.int .i64 a, .int .i64 k, .slice P n c]] w fun e w' => e = .returned (.int .i64 a) ∧ Below w.heap.size w w' := by
 go_enter Tryz.func119, Tryz.ntmps119
 go_wp2
 go_ret
 exact ⟨rfl, (Below.refl _ _).alloc (Nat.le_refl _) _⟩

set_option maxRecDepth 100000 in
set_option maxHeartbeats 8000000 in
theorem objAt3_any (a x : Int) (k : Bool) (P : Option Addr) (n c : Nat) (w : World) :
  Calls Tryz.prog 121 #[.agg #[.int .i64 a, .bool k, .int .i64 x, .slice P n c]] w fun e w' => e = .returned (.int .i64 a) ∧ Below w.heap.size w w' := by
 go_enter Tryz.func121, Tryz.ntmps121
 go_wp2
 go_ret
 exact ⟨rfl, (Below.refl _ _).alloc (Nat.le_refl _) _⟩

set_option maxRecDepth 100000 in
set_option maxHeartbeats 8000000 in
theorem objAt4_any (a : Int) (P : Option Addr) (n c : Nat) (w : World) :
  Calls Tryz.prog 123 #[.agg #[.int .i64 a, .slice P n c]] w fun e w' => e = .returned (.int .i64 a) ∧ Below w.heap.size w w' := by
 go_enter Tryz.func123, Tryz.ntmps123
 go_wp2
 go_ret
 exact ⟨rfl, (Below.refl _ _).alloc (Nat.le_refl _) _⟩

end Go.Proofs.YtigpbjcmmgdiaaaGreat
/-
 What the small functions answer that the checks of a view call: a slot's kind, the head of a queue, where a thread belongs, whom a slot keeps from going, the addresses of objects, the room of an original, its iterator. Conditions: what is read lies in memory.
-/
namespace Go.Proofs.YtigpbjcmmgdiaaaGreat
open Go.ChangeShapes Go.WideShapes Go.ChangeAt Go.RowKit
set_option linter.unusedVariables false

set_option maxRecDepth 100000 in
set_option maxHeartbeats 8000000 in
theorem room_any (s : Sl) (w : World) (hok : okB s.k s.e s.b s.r s.d s.g s.q s.f s.o = true) :
  Calls Tryz.prog 138 #[.agg #[.int .i64 s.k, .int .i64 s.e, .int .i64 s.b, .int .i64 s.r, .int .i64 s.d, .int .i64 s.g, .int .i64 s.q, .int .i64 s.f, .bool s.o]] w fun e w' => e = .returned (.agg #[.int .u32 (rmA s), .int .u32 (rmS s)]) ∧ Below w.heap.size w w' := by
 have p := ok_parts hok
 have hsp : spanI s.k s.b = bornSz s := p.2.2.2.2.2.2.2.2.1
 have HC : Hid _ := fun W => capRange_any s.k s.e s.b s.r s.d s.g s.q s.f true W p.1 p.2.1 (by rw [hsp]; exact fineB_mk (by omega))
 have HR : Hid _ := fun W => rangeOf_b s.e 12 W (fineB_mk (by omega))
 have xB := (Bx.new w 33 [.int .i64 s.k, .int .i64 s.e, .int .i64 s.b, .int .i64 s.r, .int .i64 s.d, .int .i64 s.g, .int .i64 s.q, .int .i64 s.f, .bool s.o]).alloc (.cells #[.int .u32 0, .int .u32 0] 152)
 have yB := Bx.newAt (w.alloc (.cells #[.int .i64 s.k, .int .i64 s.e, .int .i64 s.b, .int .i64 s.r, .int .i64 s.d, .int .i64 s.g, .int .i64 s.q, .int .i64 s.f, .bool s.o] 33)) 152 [.int .u32 0, .int .u32 0] (c := w.heap.size + 1) (by simp)
 have bw : Below w.heap.size w ((w.alloc (.cells #[.int .i64 s.k, .int .i64 s.e, .int .i64 s.b, .int .i64 s.r, .int .i64 s.d, .int .i64 s.g, .int .i64 s.q, .int .i64 s.f, .bool s.o] 33)).alloc (.cells #[.int .u32 0, .int .u32 0] 152)) := ((Below.refl w.heap.size w).alloc (Nat.le_refl _) _).alloc (by simp) _
 have HA : Hid (rmA s = if (s.o && s.k == 2) = true then s.e else if (s.o && s.k == 3) = true then s.e else 0) := rfl
 have HS : Hid (rmS s = if (s.o && s.k == 2) = true then spanI s.k s.b else if (s.o && s.k == 3) = true then 12 else 0) := by unfold Hid; rw [hsp]; rfl
 clear p hsp hok
 go_enter Tryz.func138, Tryz.ntmps138
 go_upto_region 1 with fail
 generalize (w.alloc (.cells #[.int .i64 s.k, .int .i64 s.e, .int .i64 s.b, .int .i64 s.r, .int .i64 s.d, .int .i64 s.g, .int .i64 s.q, .int .i64 s.f, .bool s.o] 33)).alloc (.cells #[.int .u32 0, .int .u32 0] 152) = W0 at xB yB bw ⊢
 have c0 := xB.cell 0 _ rfl; have c1 := xB.cell 1 _ rfl; have c2 := xB.cell 2 _ rfl; have c3 := xB.cell 3 _ rfl; have c4 := xB.cell 4 _ rfl; have c5 := xB.cell 5 _ rfl; have c6 := xB.cell 6 _ rfl; have c7 := xB.cell 7 _ rfl; have c8 := xB.cell 8 _ rfl
 have y0 := yB.cell 0 _ rfl
 have y1 := yB.cell 1 _ rfl
 have yz := yB.frozen
 have b1 : Hid (∀ W, Below W0.heap.size W0 W → Below w.heap.size w W) := fun W hW => bw.trans (hW.mono bw.size)
 cases ho : s.o
 ·have HX : Hid (rmA s = 0 ∧ rmS s = 0) := by unfold Hid; rw [HA.out, HS.out, ho]; exact ⟨rfl, rfl⟩
  rw [ho] at c8
  go_wp2
  refine bodyPost_ret (v := .agg #[.int .u32 0, .int .u32 0]) (by simp [results, Tryz.results138, go_sem, y0, y1]) rfl ⟨by rw [HX.out.1, HX.out.2], ?_⟩
  exact (bw.setCell (p := ⟨w.heap.size + 1, 0, none⟩) (by simp) _).setCell (p := ⟨w.heap.size + 1, 1, none⟩) (by simp) _
 ·rw [ho] at c8
  cases h2 : (s.k == 2)
  ·cases h3 : (s.k == 3)
   ·have HX : Hid (rmA s = 0 ∧ rmS s = 0) := by unfold Hid; rw [HA.out, HS.out, ho, h2, h3]; exact ⟨rfl, rfl⟩
    go_wp2
    refine bodyPost_ret (v := .agg #[.int .u32 0, .int .u32 0]) (by simp [results, Tryz.results138, go_sem, y0, y1]) rfl ⟨by rw [HX.out.1, HX.out.2], ?_⟩
    exact (bw.setCell (p := ⟨w.heap.size + 1, 0, none⟩) (by simp) _).setCell (p := ⟨w.heap.size + 1, 1, none⟩) (by simp) _
   ·have HX : Hid (rmA s = s.e ∧ rmS s = 12) := by unfold Hid; rw [HA.out, HS.out, ho, h2, h3]; exact ⟨rfl, rfl⟩
    go_wp2_with (go_at_call 104; refine (HR.out _).mono ?_; rintro e w1 ⟨rfl, hb1⟩; have y2 := yB.below hb1; have q0 := y2.cell 0 _ rfl; have q1 := y2.cell 1 _ rfl; have qz := y2.frozen)
    refine bodyPost_ret (v := .agg #[.int .u32 s.e, .int .u32 12]) (by simp [results, Tryz.results138, go_sem, q0, q1]) rfl ⟨by rw [HX.out.1, HX.out.2], ?_⟩
    exact ((b1.out _ hb1).setCell (p := ⟨w.heap.size + 1, 0, none⟩) (by simp) _).setCell (p := ⟨w.heap.size + 1, 1, none⟩) (by simp) _
  ·have HX : Hid (rmA s = s.e ∧ rmS s = spanI s.k s.b) := by unfold Hid; rw [HA.out, HS.out, ho, h2]; exact ⟨rfl, rfl⟩
   go_wp2_with (go_at_call 106; refine (HC.out _).mono ?_; rintro e w1 ⟨rfl, hb1⟩; have y2 := yB.below hb1; have q0 := y2.cell 0 _ rfl; have q1 := y2.cell 1 _ rfl; have qz := y2.frozen)
   refine bodyPost_ret (v := .agg #[.int .u32 s.e, .int .u32 (spanI s.k s.b)]) (by simp [results, Tryz.results138, go_sem, q0, q1]) rfl ⟨by rw [HX.out.1, HX.out.2], ?_⟩
   exact ((b1.out _ hb1).setCell (p := ⟨w.heap.size + 1, 0, none⟩) (by simp) _).setCell (p := ⟨w.heap.size + 1, 1, none⟩) (by simp) _

end Go.Proofs.YtigpbjcmmgdiaaaGreat
/-
 What the small functions answer that the checks of a view call: a slot's kind, the head of a queue, where a thread belongs, whom a slot keeps from going, the addresses of objects, the room of an original, its iterator. Conditions: what is read lies in memory.
-/
namespace Go.Proofs.YtigpbjcmmgdiaaaGreat
open Go.ChangeShapes Go.WideShapes Go.ChangeAt Go.RowKit
set_option linter.unusedVariables false

set_option maxRecDepth 100000 in
set_option maxHeartbeats 8000000 in
theorem held_any (w0 : World) (K : QK) (vB i : Nat) (fs : List Value) (w : World) (h : View w0 K vB fs w) (hT : treeB K.sl = true) (hi : i < K.sl.length) (hlen : K.sl.length ≤ 1048576) :
  Calls Tryz.prog 82 #[.pointer (some ⟨vB, 0, none⟩), .int .i64 (i : Int)] w fun e w' => ∃ rB, w.heap.size < rB ∧ e = .returned (.func (.func 139) #[] #[.pointer (some ⟨w.heap.size, 0, none⟩), .pointer (some ⟨rB, 0, none⟩)]) ∧ Bx w' w.heap.size 73 [.pointer (some ⟨vB, 0, none⟩)] ∧ Bx w' rB 152 [.int .u32 (rmA K.sl[i]), .int .u32 (rmS K.sl[i])] ∧ Below w.heap.size w w' := by
 have hok := (tree_ok hT i hi).2.2.2
 obtain ⟨s, hsl⟩ : ∃ s, K.sl[i] = s := ⟨_, rfl⟩
 rw [hsl] at hok ⊢
 have HR : Hid _ := fun W => room_any s W hok
 have hrow0 := h.b.s
 obtain ⟨B, O, hP⟩ := hrow0.some hi
 have v1 := h.below ((Below.refl _ _).alloc (Nat.le_refl _) (.cells #[.pointer (some ⟨vB, 0, none⟩)] 73))
 have xB := Bx.new w 73 [.pointer (some ⟨vB, 0, none⟩)]
 have bw : Below w.heap.size w (w.alloc (.cells #[.pointer (some ⟨vB, 0, none⟩)] 73)) := (Below.refl w.heap.size w).alloc (Nat.le_refl _) _
 clear hok h hrow0 hT
 go_enter Tryz.func82, Tryz.ntmps82
 go_upto_region 1 with fail
 generalize w.alloc (.cells #[.pointer (some ⟨vB, 0, none⟩)] 73) = W0 at v1 xB bw ⊢
 have hrow := v1.b.s
 rw [hP] at hrow
 have hcc := hrow.cells B O rfl i hi
 rw [hsl] at hcc
 obtain ⟨c0, c1, c2, c3, c4, c5, c6, c7, c8, c9, c10⟩ := hcc
 have g2 := v1.cs
 rw [hP] at g2
 have x0 := xB.cell 0 _ rfl
 have hi1 : (i : Int) < (K.sl.length : Int) := by omega
 clear hP hrow
 go_wp2_with (go_at_call 138; refine (HR.out _).mono ?_; rintro e w1 ⟨rfl, hb1⟩)
 go_ret
 have bw1 := bw.trans (hb1.mono bw.size)
 have hx := xB.below hb1
 refine ⟨w1.heap.size, Nat.lt_of_lt_of_le xB.lt hb1.size, rfl, hx.alloc _, Bx.newAt w1 152 _ rfl, bw1.alloc bw1.size _⟩

end Go.Proofs.YtigpbjcmmgdiaaaGreat
/-
 What the small functions answer that the checks of a view call: a slot's kind, the head of a queue, where a thread belongs, whom a slot keeps from going, the addresses of objects, the room of an original, its iterator. Conditions: what is read lies in memory.
-/
namespace Go.Proofs.YtigpbjcmmgdiaaaGreat
open Go.ChangeShapes Go.WideShapes Go.ChangeAt Go.RowKit
set_option linter.unusedVariables false

set_option maxRecDepth 100000 in
set_option maxHeartbeats 8000000 in
theorem keeps_any (w0 : World) (K : QK) (vB uB hB i : Nat) (fs : List Value) (w : World) (h : View w0 K vB fs w) (hf1 : fs[1]? = some (.slice (some ⟨uB, 0, none⟩) K.sl.length K.sl.length)) (hf2 : fs[2]? = some (.slice (some ⟨hB, 0, none⟩) K.sl.length K.sl.length)) (hu : Bx w uB 3 (upsRow K.sl)) (hh : Bx w hB 3 (homesRow K.sl)) (hi : i < K.sl.length) (hlen : K.sl.length ≤ 1048576) :
  Calls Tryz.prog 126 #[.pointer (some ⟨vB, 0, none⟩), .int .i64 (i : Int)] w fun e w' => e = .returned (.agg #[.int .i64 (keepN K.sl i 0), .int .i64 (keepN K.sl i 1)]) ∧ Below w.heap.size w w' := by
 have e0 : keepN K.sl i 0 = cameI K.sl i := rfl
 have e1 : keepN K.sl i 1 = homeI K.sl K.sl[i].t := by unfold keepN; rw [if_neg (by omega), List.getElem?_eq_getElem hi]
 rw [e0, e1]
 have v1 := h.below ((Below.refl _ _).alloc (Nat.le_refl _) (.cells #[.int .i64 0, .int .i64 0] 174))
 have u1 := hu.alloc (.cells #[.int .i64 0, .int .i64 0] 174)
 have h1 := hh.alloc (.cells #[.int .i64 0, .int .i64 0] 174)
 have yB := Bx.newAt w 174 [.int .i64 0, .int .i64 0] (c := w.heap.size) rfl
 have bw : Below w.heap.size w (w.alloc (.cells #[.int .i64 0, .int .i64 0] 174)) := (Below.refl w.heap.size w).alloc (Nat.le_refl _) _
 go_enter Tryz.func126, Tryz.ntmps126
 go_upto_region 1 with fail
 clear h hu hh
 generalize w.alloc (.cells #[.int .i64 0, .int .i64 0] 174) = W0 at v1 u1 h1 yB bw ⊢
 have f1 := v1.snd 1 _ hf1
 have f2 := v1.snd 2 _ hf2
 have cu := u1.cell i _ (upsRow_at K.sl hi)
 have ch := h1.cell i _ (homesRow_at hi)
 obtain ⟨x, hx⟩ : ∃ x, cameI K.sl i = x := ⟨_, rfl⟩
 obtain ⟨y, hy⟩ : ∃ y, homeI K.sl K.sl[i].t = y := ⟨_, rfl⟩
 rw [hx] at cu
 rw [hy] at ch
 have HX : Hid _ := hx
 have HY : Hid _ := hy
 clear hx hy e0 e1
 have y0 := yB.cell 0 _ rfl
 have y1 := yB.cell 1 _ rfl
 have yz := yB.frozen
 have hi1 : (i : Int) < (K.sl.length : Int) := by omega
 go_region
 go_wp2
 refine bodyPost_ret (v := .agg #[.int .i64 x, .int .i64 y]) (by simp [results, Tryz.results126, go_sem, y0, y1]) rfl ⟨by rw [HX.out, HY.out], ?_⟩
 exact (bw.drew.setCell (p := ⟨w.heap.size, 0, none⟩) (by simp) _).setCell (p := ⟨w.heap.size, 1, none⟩) (by simp) _

end Go.Proofs.YtigpbjcmmgdiaaaGreat
/-
 What the small functions answer that the checks of a view call: a slot's kind, the head of a queue, where a thread belongs, whom a slot keeps from going, the addresses of objects, the room of an original, its iterator. Conditions: what is read lies in memory.
-/
namespace Go.Proofs.YtigpbjcmmgdiaaaGreat
open Go.ChangeShapes Go.WideShapes Go.ChangeAt Go.RowKit
set_option linter.unusedVariables false

set_option maxRecDepth 100000 in
set_option maxHeartbeats 8000000 in
theorem belongs_any (t : QT) (x y : Int) (w : World) :
  Calls Tryz.prog 133 #[.agg #[.int .i64 x, .int .i64 y, .int .i64 t.a0, .int .i64 t.a1, .int .i64 t.a2, .int .i64 t.a3, .int .i64 t.a4, .int .i64 t.a5, .int .i64 t.a6, .int .u32 t.a7, .int .i64 t.a8, .int .u32 t.a9, .int .u32 t.a10, .int .u32 t.a11, .int .u32 t.a12, .int .i64 t.a13, .int .u32 t.a14]] w fun e w' => e = .returned (.agg #[.int .i64 (belongsI t).1, .int .i64 (belongsI t).2]) ∧ Below w.heap.size w w' := by
 have xB := (Bx.new w 85 [.int .i64 x, .int .i64 y, .int .i64 t.a0, .int .i64 t.a1, .int .i64 t.a2, .int .i64 t.a3, .int .i64 t.a4, .int .i64 t.a5, .int .i64 t.a6, .int .u32 t.a7, .int .i64 t.a8, .int .u32 t.a9, .int .u32 t.a10, .int .u32 t.a11, .int .u32 t.a12, .int .i64 t.a13, .int .u32 t.a14]).alloc (.cells #[.int .i64 0, .int .i64 0] 83)
 have yB := Bx.newAt (w.alloc (.cells #[.int .i64 x, .int .i64 y, .int .i64 t.a0, .int .i64 t.a1, .int .i64 t.a2, .int .i64 t.a3, .int .i64 t.a4, .int .i64 t.a5, .int .i64 t.a6, .int .u32 t.a7, .int .i64 t.a8, .int .u32 t.a9, .int .u32 t.a10, .int .u32 t.a11, .int .u32 t.a12, .int .i64 t.a13, .int .u32 t.a14] 85)) 83 [.int .i64 0, .int .i64 0] (c := w.heap.size + 1) (by simp)
 have bw : Below w.heap.size w ((w.alloc (.cells #[.int .i64 x, .int .i64 y, .int .i64 t.a0, .int .i64 t.a1, .int .i64 t.a2, .int .i64 t.a3, .int .i64 t.a4, .int .i64 t.a5, .int .i64 t.a6, .int .u32 t.a7, .int .i64 t.a8, .int .u32 t.a9, .int .u32 t.a10, .int .u32 t.a11, .int .u32 t.a12, .int .i64 t.a13, .int .u32 t.a14] 85)).alloc (.cells #[.int .i64 0, .int .i64 0] 83)) := ((Below.refl w.heap.size w).alloc (Nat.le_refl _) _).alloc (by simp) _
 go_enter Tryz.func133, Tryz.ntmps133
 go_upto_region 1 with fail
 generalize (w.alloc (.cells #[.int .i64 x, .int .i64 y, .int .i64 t.a0, .int .i64 t.a1, .int .i64 t.a2, .int .i64 t.a3, .int .i64 t.a4, .int .i64 t.a5, .int .i64 t.a6, .int .u32 t.a7, .int .i64 t.a8, .int .u32 t.a9, .int .u32 t.a10, .int .u32 t.a11, .int .u32 t.a12, .int .i64 t.a13, .int .u32 t.a14] 85)).alloc (.cells #[.int .i64 0, .int .i64 0] 83) = W0 at xB yB bw ⊢
 have c3 := xB.cell 3 _ rfl
 have c4 := xB.cell 4 _ rfl
 have c7 := xB.cell 7 _ rfl
 have y0 := yB.cell 0 _ rfl
 have y1 := yB.cell 1 _ rfl
 have yz := yB.frozen
 cases h1 : (t.a1 == 1)
 ·cases h2 : (t.a1 == 2)
  ·cases h3 : (t.a1 == 3)
   ·cases h5 : (t.a1 == 5)
    ·have HX : Hid (belongsI t = (0, 0)) := by unfold Hid belongsI belongs; simp only [beq_eq_false_iff_ne] at h1 h2 h3 h5; rw [if_neg h1, if_neg (by omega)]; rfl
     go_wp2
     refine bodyPost_ret (v := .agg #[.int .i64 0, .int .i64 0]) (by simp [results, Tryz.results133, go_sem, *]) rfl ⟨by rw [HX.out], ?_⟩
     exact (bw.setCell (p := ⟨w.heap.size + 1, 0, none⟩) (by simp) _).setCell (p := ⟨w.heap.size + 1, 1, none⟩) (by simp) _
    ·have HX : Hid (belongsI t = (t.a1, t.a5)) := by unfold Hid belongsI belongs; simp only [beq_iff_eq, beq_eq_false_iff_ne] at h1 h5; rw [if_neg h1, if_pos (by omega)]; rfl
     go_wp2
     refine bodyPost_ret (v := .agg #[.int .i64 t.a1, .int .i64 t.a5]) (by simp [results, Tryz.results133, go_sem, *]) rfl ⟨by rw [HX.out], ?_⟩
     exact (bw.setCell (p := ⟨w.heap.size + 1, 0, none⟩) (by simp) _).setCell (p := ⟨w.heap.size + 1, 1, none⟩) (by simp) _
   ·have HX : Hid (belongsI t = (t.a1, t.a5)) := by unfold Hid belongsI belongs; simp only [beq_iff_eq, beq_eq_false_iff_ne] at h1 h3; rw [if_neg h1, if_pos (by omega)]; rfl
    go_wp2
    refine bodyPost_ret (v := .agg #[.int .i64 t.a1, .int .i64 t.a5]) (by simp [results, Tryz.results133, go_sem, *]) rfl ⟨by rw [HX.out], ?_⟩
    exact (bw.setCell (p := ⟨w.heap.size + 1, 0, none⟩) (by simp) _).setCell (p := ⟨w.heap.size + 1, 1, none⟩) (by simp) _
  ·have HX : Hid (belongsI t = (t.a1, t.a5)) := by unfold Hid belongsI belongs; simp only [beq_iff_eq, beq_eq_false_iff_ne] at h1 h2; rw [if_neg h1, if_pos (by omega)]; rfl
   go_wp2
   refine bodyPost_ret (v := .agg #[.int .i64 t.a1, .int .i64 t.a5]) (by simp [results, Tryz.results133, go_sem, *]) rfl ⟨by rw [HX.out], ?_⟩
   exact (bw.setCell (p := ⟨w.heap.size + 1, 0, none⟩) (by simp) _).setCell (p := ⟨w.heap.size + 1, 1, none⟩) (by simp) _
 ·have HX : Hid (belongsI t = (1, t.a2)) := by unfold Hid belongsI belongs; rw [if_pos (by simpa using h1)]; rfl
  go_wp2
  refine bodyPost_ret (v := .agg #[.int .i64 1, .int .i64 t.a2]) (by simp [results, Tryz.results133, go_sem, *]) rfl ⟨by rw [HX.out], ?_⟩
  exact (bw.setCell (p := ⟨w.heap.size + 1, 0, none⟩) (by simp) _).setCell (p := ⟨w.heap.size + 1, 1, none⟩) (by simp) _

end Go.Proofs.YtigpbjcmmgdiaaaGreat
