/-
  Texts of the proof, put together: Slots, Held, CapIn, ToSlots, RowG, QuietFast, ValRow.
-/
import Derived.Test.YtigpbjcmmgdiaaaGreatBa
import Derived.Handy
import Derived.Lib.SmallJoins
import Derived.Deep.DeepCutAuto
import Derived.Laws.MakeOwn
import Derived.Laws.IdiomCopy
import Derived.Deep.QuietTactic
import Derived.BigQuiet
import Derived.Lib.QuietBelow
/-
 Slots: the eleven cells of one; a list of them in memory.
-/
namespace Go.Proofs.YtigpbjcmmgdiaaaGreat
open Go.ChangeShapes Go.WideShapes Go.ChangeAt Go.RowKit
set_option linter.unusedVariables false

/-- A slot: its At, the nine fields of its capability, its Depth. -/
structure Sl where
 t : Int
 k : Int
 e : Int
 b : Int
 r : Int
 d : Int
 g : Int
 q : Int
 f : Int
 o : Bool
 p : Int

instance : Inhabited Sl := ⟨⟨0, 0, 0, 0, 0, 0, 0, 0, 0, false, 0⟩⟩

/-- Its integers are such of 64 bits. -/
structure Sl.Fit (s : Sl) : Prop where
 t : -9223372036854775808 ≤ s.t ∧ s.t ≤ 9223372036854775807
 r : -9223372036854775808 ≤ s.r ∧ s.r ≤ 9223372036854775807
 p : -9223372036854775808 ≤ s.p ∧ s.p ≤ 9223372036854775807

/-- Eleven cells from an offset on. -/
structure At11 (W : World) (B O : Nat) (s : Sl) : Prop where
 c0 : W.cell? ⟨B, O, none⟩ = some (.int .i64 s.t)
 c1 : W.cell? ⟨B, O + 1, none⟩ = some (.int .i64 s.k)
 c2 : W.cell? ⟨B, O + 2, none⟩ = some (.int .i64 s.e)
 c3 : W.cell? ⟨B, O + 3, none⟩ = some (.int .i64 s.b)
 c4 : W.cell? ⟨B, O + 4, none⟩ = some (.int .i64 s.r)
 c5 : W.cell? ⟨B, O + 5, none⟩ = some (.int .i64 s.d)
 c6 : W.cell? ⟨B, O + 6, none⟩ = some (.int .i64 s.g)
 c7 : W.cell? ⟨B, O + 7, none⟩ = some (.int .i64 s.q)
 c8 : W.cell? ⟨B, O + 8, none⟩ = some (.int .i64 s.f)
 c9 : W.cell? ⟨B, O + 9, none⟩ = some (.bool s.o)
 c10 : W.cell? ⟨B, O + 10, none⟩ = some (.int .i64 s.p)

/-- A list of slots in memory. -/
structure Lies (W : World) (P : Option Addr) (L : List Sl) : Prop where
 place : L = [] ∨ ∃ B O, P = some ⟨B, O, none⟩
 cells : ∀ B O, P = some ⟨B, O, none⟩ → ∀ i (h : i < L.length), At11 W B (O + i * 11) L[i]

theorem Lies.some {W : World} {P : Option Addr} {L : List Sl} (h : Lies W P L) {i : Nat} (hi : i < L.length) : ∃ B O, P = some ⟨B, O, none⟩ := by
 rcases h.place with e | e
 ·subst e; exact absurd hi (Nat.not_lt_zero _)
 ·exact e

theorem At11.lt {W : World} {B O : Nat} {s : Sl} (h : At11 W B O s) : B < W.heap.size := block_lt_of_cell h.c0

theorem At11.of {W W' : World} {B O : Nat} {s : Sl} (h : At11 W B O s) (hc : ∀ j, W'.cell? ⟨B, O + j, none⟩ = W.cell? ⟨B, O + j, none⟩) : At11 W' B O s :=
 ⟨(hc 0).trans h.c0, (hc 1).trans h.c1, (hc 2).trans h.c2, (hc 3).trans h.c3, (hc 4).trans h.c4, (hc 5).trans h.c5, (hc 6).trans h.c6, (hc 7).trans h.c7, (hc 8).trans h.c8, (hc 9).trans h.c9, (hc 10).trans h.c10⟩

theorem Lies.below {W W' : World} {P : Option Addr} {L : List Sl} (h : Lies W P L) (hb : Below W.heap.size W W') : Lies W' P L :=
 ⟨h.place, fun B O e i hi => (h.cells B O e i hi).of fun j => (bcell hb).1 _ _ (h.cells B O e i hi).lt⟩

theorem Lies.nil (W : World) (P : Option Addr) : Lies W P [] := ⟨.inl rfl, fun _ _ _ i hi => absurd hi (Nat.not_lt_zero _)⟩

theorem Lies.take {W : World} {P : Option Addr} {L : List Sl} (h : Lies W P L) (k : Nat) : Lies W P (L.take k) := by
 refine ⟨?_, fun B O e i hi => ?_⟩
 ·rcases h.place with e | e
  ·left; rw [e]; simp
  ·exact .inr e
 ·have hi' : i < L.length := by simp at hi; omega
  rw [List.getElem_take]
  exact h.cells B O e i hi'

end Go.Proofs.YtigpbjcmmgdiaaaGreat
/-
 Eleven cells of a block, told by their values.
-/
namespace Go.Proofs.YtigpbjcmmgdiaaaGreat
open Go.ChangeShapes Go.WideShapes Go.ChangeAt Go.RowKit
set_option linter.unusedVariables false

structure Holds11 (W : World) (B : Nat) (v0 v1 v2 v3 v4 v5 v6 v7 v8 v9 v10 : Value) : Prop where
 c0 : W.cell? ⟨B, 0, none⟩ = some v0
 c1 : W.cell? ⟨B, 1, none⟩ = some v1
 c2 : W.cell? ⟨B, 2, none⟩ = some v2
 c3 : W.cell? ⟨B, 3, none⟩ = some v3
 c4 : W.cell? ⟨B, 4, none⟩ = some v4
 c5 : W.cell? ⟨B, 5, none⟩ = some v5
 c6 : W.cell? ⟨B, 6, none⟩ = some v6
 c7 : W.cell? ⟨B, 7, none⟩ = some v7
 c8 : W.cell? ⟨B, 8, none⟩ = some v8
 c9 : W.cell? ⟨B, 9, none⟩ = some v9
 c10 : W.cell? ⟨B, 10, none⟩ = some v10
 z : ∀ i, W.frozen? ⟨B, i, none⟩ = false

theorem Holds11.alloc (w : World) (v0 v1 v2 v3 v4 v5 v6 v7 v8 v9 v10 : Value) (T : Nat) : Holds11 (w.alloc (.cells #[v0, v1, v2, v3, v4, v5, v6, v7, v8, v9, v10] T)) w.heap.size v0 v1 v2 v3 v4 v5 v6 v7 v8 v9 v10 := by
 constructor
 all_goals first | (intro i; go_simp) | go_simp

theorem Holds11.below {W W' : World} {B : Nat} {v0 v1 v2 v3 v4 v5 v6 v7 v8 v9 v10 : Value} (h : Holds11 W B v0 v1 v2 v3 v4 v5 v6 v7 v8 v9 v10) (hb : Below W.heap.size W W') (hB : B < W.heap.size) : Holds11 W' B v0 v1 v2 v3 v4 v5 v6 v7 v8 v9 v10 :=
 ⟨((bcell hb).1 _ _ hB).trans h.c0, ((bcell hb).1 _ _ hB).trans h.c1, ((bcell hb).1 _ _ hB).trans h.c2, ((bcell hb).1 _ _ hB).trans h.c3, ((bcell hb).1 _ _ hB).trans h.c4, ((bcell hb).1 _ _ hB).trans h.c5, ((bcell hb).1 _ _ hB).trans h.c6, ((bcell hb).1 _ _ hB).trans h.c7, ((bcell hb).1 _ _ hB).trans h.c8, ((bcell hb).1 _ _ hB).trans h.c9, ((bcell hb).1 _ _ hB).trans h.c10, fun i => ((bcell hb).2 _ _ hB).trans (h.z i)⟩

theorem Holds11.allocs {W : World} {B : Nat} {v0 v1 v2 v3 v4 v5 v6 v7 v8 v9 v10 : Value} (h : Holds11 W B v0 v1 v2 v3 v4 v5 v6 v7 v8 v9 v10) (hB : B < W.heap.size) (O : Obj) : Holds11 (W.alloc O) B v0 v1 v2 v3 v4 v5 v6 v7 v8 v9 v10 :=
 h.below ((Below.refl _ _).alloc (Nat.le_refl _) O) hB

/-- Three blocks of eleven, made one behind the other, and a call behind them. -/
theorem three11 {w w1 : World} {a0 a1 a2 a3 a4 a5 a6 a7 a8 a9 a10 b0 b1 b2 b3 b4 b5 b6 b7 b8 b9 b10 c0 c1 c2 c3 c4 c5 c6 c7 c8 c9 c10 : Value} {S T U : Nat}
  (hb : Below (((w.alloc (.cells #[a0, a1, a2, a3, a4, a5, a6, a7, a8, a9, a10] S)).alloc (.cells #[b0, b1, b2, b3, b4, b5, b6, b7, b8, b9, b10] T)).alloc (.cells #[c0, c1, c2, c3, c4, c5, c6, c7, c8, c9, c10] U)).heap.size (((w.alloc (.cells #[a0, a1, a2, a3, a4, a5, a6, a7, a8, a9, a10] S)).alloc (.cells #[b0, b1, b2, b3, b4, b5, b6, b7, b8, b9, b10] T)).alloc (.cells #[c0, c1, c2, c3, c4, c5, c6, c7, c8, c9, c10] U)) w1) :
  Holds11 w1 w.heap.size a0 a1 a2 a3 a4 a5 a6 a7 a8 a9 a10 ∧ Holds11 w1 (w.heap.size + 1) b0 b1 b2 b3 b4 b5 b6 b7 b8 b9 b10 ∧ Holds11 w1 (w.heap.size + 1 + 1) c0 c1 c2 c3 c4 c5 c6 c7 c8 c9 c10 ∧ Below w.heap.size w w1 ∧ w.heap.size + 1 + 1 < w1.heap.size := by
 refine ⟨(((Holds11.alloc w a0 a1 a2 a3 a4 a5 a6 a7 a8 a9 a10 S).allocs (by simp) _).allocs (by simp; omega) _).below hb (by simp; omega), ?_, ?_, ?_, ?_⟩
 ·have := ((Holds11.alloc (w.alloc (.cells #[a0, a1, a2, a3, a4, a5, a6, a7, a8, a9, a10] S)) b0 b1 b2 b3 b4 b5 b6 b7 b8 b9 b10 T).allocs (by simp) (.cells #[c0, c1, c2, c3, c4, c5, c6, c7, c8, c9, c10] U)).below hb (by simp)
  rw [World.size_alloc] at this
  exact this
 ·have := (Holds11.alloc ((w.alloc (.cells #[a0, a1, a2, a3, a4, a5, a6, a7, a8, a9, a10] S)).alloc (.cells #[b0, b1, b2, b3, b4, b5, b6, b7, b8, b9, b10] T)) c0 c1 c2 c3 c4 c5 c6 c7 c8 c9 c10 U).below hb (by simp)
  rw [World.size_alloc, World.size_alloc] at this
  exact this
 ·exact ((((Below.refl _ _).alloc (Nat.le_refl _) _).alloc (by simp) _).alloc (by simp; omega) _).trans (hb.mono (by simp; omega))
 ·have := hb.size; simp at this; omega

end Go.Proofs.YtigpbjcmmgdiaaaGreat
/-
 What toCap of the laws answers; a capability that came in, opened.
-/
namespace Go.Proofs.YtigpbjcmmgdiaaaGreat
open Go.ChangeShapes Go.WideShapes Go.ChangeAt Go.RowKit
set_option linter.unusedVariables false

set_option maxHeartbeats 400000 in
theorem toCap_any (k a b r d g q f : Int) (o : Bool) (w : World) :
  Calls Tryz.prog 96 #[.agg #[.int .i64 k, .int .i64 a, .int .i64 b, .int .i64 r, .int .i64 d, .int .i64 g, .int .i64 q, .int .i64 f, .bool o]] w fun e w' => e = .returned (.agg #[.int .i64 k, .int .i64 a, .int .i64 b, .int .i64 r, .int .i64 d, .int .i64 g, .int .i64 q, .int .i64 f, .bool o]) ∧ Below w.heap.size w w' := by
 go_enter Tryz.func96, Tryz.ntmps96
 go_wp2
 exact bodyPost_ret (v := .agg #[.int .i64 k, .int .i64 a, .int .i64 b, .int .i64 r, .int .i64 d, .int .i64 g, .int .i64 q, .int .i64 f, .bool o]) (by simp [results, Tryz.results96, go_sem]) rfl ⟨rfl, by go_grown⟩

theorem cell_int {H : Type} {enc : TypeId × Value → H} {W : World} {base n : Nat} {spare : Nat → Bool} {held : Bool} {v : Value} {y : DataW H × List MemPlace}
  (h : DataW.trod enc Tryz.prog W base spare held n 3 [v] = some y) : ∃ a, v = .int .i64 a ∧ (Lit.int .i64 a).wf = true := by
 obtain ⟨a, e, _, wa⟩ := DataW.trod_int Tryz.underlying3 h
 simp at e
 exact ⟨a, e, wa⟩

theorem cell_bool {H : Type} {enc : TypeId × Value → H} {W : World} {base n : Nat} {spare : Nat → Bool} {held : Bool} {v : Value} {y : DataW H × List MemPlace}
  (h : DataW.trod enc Tryz.prog W base spare held n 4 [v] = some y) : ∃ o, v = .bool o := by
 obtain ⟨a, e, _⟩ := DataW.trod_bool Tryz.underlying4 h
 simp at e
 exact ⟨a, e⟩

end Go.Proofs.YtigpbjcmmgdiaaaGreat
/-
 What toTreeSlot and toTreeSlotS of the laws answer.
-/
namespace Go.Proofs.YtigpbjcmmgdiaaaGreat
open Go.ChangeShapes Go.WideShapes Go.ChangeAt Go.RowKit
set_option linter.unusedVariables false

/-- What stands when the capability is stored: three blocks. -/
structure Mid (w wx : World) (s : Sl) : Prop where
 h0 : Holds11 wx w.heap.size (.int .i64 s.t) (.int .i64 s.k) (.int .i64 s.e) (.int .i64 s.b) (.int .i64 s.r) (.int .i64 s.d) (.int .i64 s.g) (.int .i64 s.q) (.int .i64 s.f) (.bool s.o) (.int .i64 s.p)
 h1 : Holds11 wx (w.heap.size + 1) (.int .i64 0) (.int .i64 0) (.int .i64 0) (.int .i64 0) (.int .i64 0) (.int .i64 0) (.int .i64 0) (.int .i64 0) (.int .i64 0) (.bool false) (.int .i64 0)
 h2 : Holds11 wx (w.heap.size + 1 + 1) (.int .i64 s.t) (.int .i64 s.k) (.int .i64 s.e) (.int .i64 s.b) (.int .i64 s.r) (.int .i64 s.d) (.int .i64 s.g) (.int .i64 s.q) (.int .i64 s.f) (.bool s.o) (.int .i64 0)
 hB : Below w.heap.size w wx
 hz : w.heap.size + 1 + 1 < wx.heap.size

theorem Holds11.far {W : World} {B C O : Nat} {v0 v1 v2 v3 v4 v5 v6 v7 v8 v9 v10 v : Value} (h : Holds11 W B v0 v1 v2 v3 v4 v5 v6 v7 v8 v9 v10) (hne : C ≠ B) : Holds11 (W.setCell ⟨C, O, none⟩ v) B v0 v1 v2 v3 v4 v5 v6 v7 v8 v9 v10 := by
 have hc : ∀ i, (W.setCell ⟨C, O, none⟩ v).cell? ⟨B, i, none⟩ = W.cell? ⟨B, i, none⟩ := fun i => World.cell?_setCell_far _ _ _ _ hne
 exact ⟨(hc _).trans h.c0, (hc _).trans h.c1, (hc _).trans h.c2, (hc _).trans h.c3, (hc _).trans h.c4, (hc _).trans h.c5, (hc _).trans h.c6, (hc _).trans h.c7, (hc _).trans h.c8, (hc _).trans h.c9, (hc _).trans h.c10, fun i => by rw [World.frozen?_setCell]; exact h.z i⟩

theorem Holds11.put9 {W : World} {B : Nat} {v0 u1 u2 u3 u4 u5 u6 u7 u8 u9 v10 : Value} (h : Holds11 W B v0 u1 u2 u3 u4 u5 u6 u7 u8 u9 v10) (v1 v2 v3 v4 v5 v6 v7 v8 v9 : Value) :
  Holds11 (((((((((W.setCell ⟨B, 1, none⟩ v1).setCell ⟨B, 2, none⟩ v2).setCell ⟨B, 3, none⟩ v3).setCell ⟨B, 4, none⟩ v4).setCell ⟨B, 5, none⟩ v5).setCell ⟨B, 6, none⟩ v6).setCell ⟨B, 7, none⟩ v7).setCell ⟨B, 8, none⟩ v8).setCell ⟨B, 9, none⟩ v9) B v0 v1 v2 v3 v4 v5 v6 v7 v8 v9 v10 := by
 obtain ⟨h0, h1, h2, h3, h4, h5, h6, h7, h8, h9, h10, hz⟩ := h
 constructor
 all_goals first | (intro i; go_simp; done) | (go_simp; done)

theorem Holds11.put11 {W : World} {B : Nat} {u0 u1 u2 u3 u4 u5 u6 u7 u8 u9 u10 : Value} (h : Holds11 W B u0 u1 u2 u3 u4 u5 u6 u7 u8 u9 u10) (v0 v1 v2 v3 v4 v5 v6 v7 v8 v9 v10 : Value) :
  Holds11 (((((((((((W.setCell ⟨B, 0, none⟩ v0).setCell ⟨B, 1, none⟩ v1).setCell ⟨B, 2, none⟩ v2).setCell ⟨B, 3, none⟩ v3).setCell ⟨B, 4, none⟩ v4).setCell ⟨B, 5, none⟩ v5).setCell ⟨B, 6, none⟩ v6).setCell ⟨B, 7, none⟩ v7).setCell ⟨B, 8, none⟩ v8).setCell ⟨B, 9, none⟩ v9).setCell ⟨B, 10, none⟩ v10) B v0 v1 v2 v3 v4 v5 v6 v7 v8 v9 v10 := by
 obtain ⟨h0, h1, h2, h3, h4, h5, h6, h7, h8, h9, h10, hz⟩ := h
 constructor
 all_goals first | (intro i; go_simp; done) | (go_simp; done)

theorem toSlot_res {W : World} {B : Nat} {v0 v1 v2 v3 v4 v5 v6 v7 v8 v9 v10 : Value} {tmps : Array Value} (hp : tmps.getD 2 undef = .pointer (some ⟨B, 0, none⟩)) (h : Holds11 W B v0 v1 v2 v3 v4 v5 v6 v7 v8 v9 v10) :
  (results Tryz.f56 tmps).run Tryz.prog W = .ok (.agg #[v0, v1, v2, v3, v4, v5, v6, v7, v8, v9, v10]) W := by
 obtain ⟨h0, h1, h2, h3, h4, h5, h6, h7, h8, h9, h10, hz⟩ := h
 have hp2 : tmps[2]?.getD undef = .pointer (some ⟨B, 0, none⟩) := by simpa [Array.getD_eq_getD_getElem?] using hp
 simp [results, Tryz.results56, go_sem, *]

set_option maxHeartbeats 1000000 in
theorem toSlot_any (s : Sl) (w : World) :
  Calls Tryz.prog 56 #[.agg #[.int .i64 s.t, .int .i64 s.k, .int .i64 s.e, .int .i64 s.b, .int .i64 s.r, .int .i64 s.d, .int .i64 s.g, .int .i64 s.q, .int .i64 s.f, .bool s.o, .int .i64 s.p]] w fun e w' => e = .returned (.agg #[.int .i64 s.t, .int .i64 s.k, .int .i64 s.e, .int .i64 s.b, .int .i64 s.r, .int .i64 s.d, .int .i64 s.g, .int .i64 s.q, .int .i64 s.f, .bool s.o, .int .i64 s.p]) ∧ Below w.heap.size w w' := by
 go_enter Tryz.func56, Tryz.ntmps56
 go_upto_region 3 with fail
 go_cut [] (fun wx => Mid w wx s)
 case first =>
  go_wp2_with (first
   | (go_at_call 96; refine (toCap_any _ _ _ _ _ _ _ _ _ _).mono ?_; rintro e w1 ⟨rfl, hb1⟩; obtain ⟨H0, H1, H2, hB, hz⟩ := three11 hb1; clear hb1; have y1 := H2.c1; have y2 := H2.c2; have y3 := H2.c3; have y4 := H2.c4; have y5 := H2.c5; have y6 := H2.c6; have y7 := H2.c7; have y8 := H2.c8; have y9 := H2.c9; have yz := H2.z))
  go_meet
  case rel =>
   refine ⟨?_, ?_, H2.put9 _ _ _ _ _ _ _ _ _, ?_, ?_⟩
   ·repeat (refine Holds11.far ?_ (by omega))
    exact H0
   ·repeat (refine Holds11.far ?_ (by omega))
    exact H1
   ·repeat (refine Below.setCell ?_ (by simp; try omega) _)
    exact hB
   ·simp; omega
 case rest =>
  obtain ⟨⟨x0, x1, x2, x3, x4, x5, x6, x7, x8, x9, x10, xz⟩, H1, ⟨z0, z1, z2, z3, z4, z5, z6, z7, z8, z9, z10, zz⟩, hB, hz⟩ := hcut
  have y0 := H1.c0
  have y1 := H1.c1
  have y2 := H1.c2
  have y3 := H1.c3
  have y4 := H1.c4
  have y5 := H1.c5
  have y6 := H1.c6
  have y7 := H1.c7
  have y8 := H1.c8
  have y9 := H1.c9
  have y10 := H1.c10
  have yz := H1.z
  go_wp2
  refine bodyPost_ret (toSlot_res rfl ((Holds11.far H1 (by omega)).put11 _ _ _ _ _ _ _ _ _ _ _)) rfl ⟨rfl, ?_⟩
  repeat (refine Below.setCell ?_ (by simp; try omega) _)
  exact hB

end Go.Proofs.YtigpbjcmmgdiaaaGreat
/-
 Rows of elements of n cells each, of any type: where they lie, and what writing one leaves.
-/
namespace Go.Proofs.YtigpbjcmmgdiaaaGreat
open Go.ChangeShapes Go.WideShapes Go.ChangeAt Go.RowKit
set_option linter.unusedVariables false

/-- How an element is laid: so many cells, which ones. -/
structure Form (α : Type) where
 n : Nat
 cel : α → List Value
 len : ∀ x, (cel x).length = n
 pos : 0 < n

/-- Elements one behind the other. -/
structure LiesG {α : Type} (F : Form α) (W : World) (P : Option Addr) (L : List α) : Prop where
 place : L = [] ∨ ∃ B O, P = some ⟨B, O, none⟩
 cells : ∀ B O, P = some ⟨B, O, none⟩ → ∀ i (hi : i < L.length) j, j < F.n → W.cell? ⟨B, O + i * F.n + j, none⟩ = (F.cel L[i])[j]?

section
variable {α : Type} {F : Form α} {W W' : World} {P : Option Addr} {L : List α}

theorem LiesG.has (h : LiesG F W P L) {i : Nat} (hi : i < L.length) : ∃ B O, P = some ⟨B, O, none⟩ := by
 rcases h.place with e | e
 ·subst e; exact absurd hi (by simp)
 ·exact e
theorem LiesG.lt {B O : Nat} (h : LiesG F W (some ⟨B, O, none⟩) L) {i : Nat} (hi : i < L.length) : B < W.heap.size := by
 have h1 := h.cells B O rfl i hi 0 F.pos
 have h2 : 0 < (F.cel L[i]).length := by rw [F.len]; exact F.pos
 rw [List.getElem?_eq_getElem h2] at h1
 exact block_lt_of_cell h1
theorem LiesG.nil (F : Form α) (W : World) (P : Option Addr) : LiesG F W P [] := ⟨.inl rfl, fun _ _ _ i hi => absurd hi (Nat.not_lt_zero _)⟩
theorem LiesG.below (h : LiesG F W P L) (hb : Below W.heap.size W W') : LiesG F W' P L :=
 ⟨h.place, fun B O e i hi j hj => by
  subst e
  rw [(bcell hb).1 _ _ (h.lt hi)]; exact h.cells B O rfl i hi j hj⟩
theorem LiesG.out {n : Nat} (h : LiesG F W P L) (hb : Below n W W') (hn : ∀ B O, P = some ⟨B, O, none⟩ → B < n) : LiesG F W' P L :=
 ⟨h.place, fun B O e i hi j hj => (hb.cell (p := ⟨B, _, none⟩) (hn B O e)).trans (h.cells B O e i hi j hj)⟩
theorem LiesG.drew (h : LiesG F W P L) : LiesG F W.drew P L := ⟨h.place, fun B O e i hi j hj => h.cells B O e i hi j hj⟩
/-- The j-th cell of the i-th element. -/
theorem LiesG.at {B O : Nat} (h : LiesG F W (some ⟨B, O, none⟩) L) {i : Nat} (hi : i < L.length) (j : Nat) (v : Value) (hj : (F.cel L[i])[j]? = some v) : W.cell? ⟨B, O + i * F.n + j, none⟩ = some v := by
 have hlt : j < F.n := by rw [← F.len L[i]]; exact (List.getElem?_eq_some_iff.1 hj).1
 rw [h.cells B O rfl i hi j hlt]; exact hj

/-- Room for m elements. -/
structure RoomG (F : Form α) (W : World) (B m : Nat) : Prop where
 c : ∀ j, j < m * F.n → (W.cell? ⟨B, j, none⟩).isSome = true
 z : ∀ j, W.frozen? ⟨B, j, none⟩ = false
 lt : B < W.heap.size
theorem RoomG.below {B m : Nat} (h : RoomG F W B m) (hb : Below W.heap.size W W') : RoomG F W' B m :=
 ⟨fun j hj => by rw [(bcell hb).1 _ _ h.lt]; exact h.c j hj, fun j => by rw [(bcell hb).2 _ _ h.lt]; exact h.z j, Nat.lt_of_lt_of_le h.lt hb.size⟩
theorem RoomG.new (F : Form α) (w : World) (m T : Nat) (z : Array Value) : RoomG F (w.alloc (.cells (madeCells z (m * F.n)) T)) w.heap.size m := by
 refine ⟨fun j hj => ?_, fun j => by go_simp, by simp⟩
 rw [World.cell?_alloc_at _ _ _ _ rfl]
 have : (madeCells z (m * F.n)).size = m * F.n := size_madeCells _ _
 simp [this, hj]

theorem sizeG_setCells (W : World) (B O : Nat) (vs : List Value) : (W.setCells B O vs).heap.size = W.heap.size := by
 induction vs generalizing O W with
 | nil => rfl
 | cons v vs ih => simp [World.setCells, ih]

theorem RoomG.set {B m O : Nat} (h : RoomG F W B m) (vs : List Value) (hO : O + vs.length ≤ m * F.n) : RoomG F (W.setCells B O vs) B m := by
 refine ⟨fun j hj => ?_, fun j => by rw [World.frozen?_setCells]; exact h.z j, by rw [sizeG_setCells]; exact h.lt⟩
 by_cases e : O ≤ j ∧ j < O + vs.length
 ·obtain ⟨i, rfl⟩ : ∃ i, j = O + i := ⟨j - O, by omega⟩
  rw [World.cell?_setCells_in B vs O W (fun i hi => h.c _ (by omega)) i (by omega)]
  rfl
 ·rw [World.cell?_setCells_out B vs O W ⟨B, j, none⟩ (fun _ _ => by simp; omega)]
  exact h.c j hj

/-- One more element behind those that lie there. -/
theorem LiesG.snoc {G m : Nat} (hL : LiesG F W (some ⟨G, 0, none⟩) L) (hR : RoomG F W G m) (x : α) (hm : L.length < m) :
  LiesG F (W.setCells G (L.length * F.n) (F.cel x)) (some ⟨G, 0, none⟩) (L ++ [x]) := by
 have hmul : (L.length + 1) * F.n ≤ m * F.n := Nat.mul_le_mul_right _ hm
 rw [Nat.add_mul, Nat.one_mul] at hmul
 refine ⟨.inr ⟨G, 0, rfl⟩, fun B O e i hi j hj => ?_⟩
 cases e
 by_cases e : i < L.length
 ·have h1 : (i + 1) * F.n ≤ L.length * F.n := Nat.mul_le_mul_right _ e
  rw [Nat.add_mul, Nat.one_mul] at h1
  rw [World.cell?_setCells_out G (F.cel x) (L.length * F.n) W ⟨G, 0 + i * F.n + j, none⟩ (fun _ _ => by simp; omega), List.getElem_append_left e]
  exact hL.cells G 0 rfl i e j hj
 ·obtain rfl : i = L.length := by simp at hi; omega
  have hlt : j < (F.cel x).length := by rw [F.len]; exact hj
  have hx := World.cell?_setCells_in G (F.cel x) (L.length * F.n) W (fun t ht => hR.c _ (by rw [F.len] at ht; omega)) j hlt
  rw [Nat.zero_add, hx]
  simp [List.getElem?_eq_getElem hlt]

theorem LiesG.apart {G O : Nat} (h : LiesG F W P L) (vs : List Value) (hB : ∀ b o, P = some ⟨b, o, none⟩ → b ≠ G) : LiesG F (W.setCells G O vs) P L :=
 ⟨h.place, fun b o e i hi j hj => by
  rw [World.cell?_setCells_out G vs O W ⟨b, o + i * F.n + j, none⟩ (fun e' => absurd e' (hB b o e))]
  exact h.cells b o e i hi j hj⟩
theorem LiesG.far {G O : Nat} {v : Value} (h : LiesG F W P L) (hB : ∀ b o, P = some ⟨b, o, none⟩ → b ≠ G) : LiesG F (W.setCell ⟨G, O, none⟩ v) P L := h.apart [v] hB
end

theorem belowG_drewN {B : Nat} {a w : World} (h : Below B a w) (n : Nat) : Below B a (w.drewN n) := h.trans ⟨rfl, rfl, rfl, Nat.le_refl _, fun _ _ => rfl⟩

end Go.Proofs.YtigpbjcmmgdiaaaGreat
/-
 The quiet walk of a region behind a structure, so that the whole walk is not laid open at each step.
-/
namespace Go.Proofs.YtigpbjcmmgdiaaaGreat
open Go Go.Sort

/-- The walk, shut. -/
structure WQ (P : Program) (ops : Array Oper) (C : World → Prop) (Q : Act → Prop) (l : List Oper) (a : Act) : Prop where
 h : wpQuiet P ops C Q l a

theorem wq_nil {P : Program} {ops : Array Oper} {C : World → Prop} {Q : Act → Prop} {a : Act} (h : Q a) : WQ P ops C Q [] a := ⟨h⟩

theorem wq_step {P : Program} {ops : Array Oper} {C : World → Prop} {Q : Act → Prop} {a : Act} {o : Oper} {rest : List Oper}
  (h : ∀ K : Act → Prop, (∀ a, WQ P ops C Q rest a → K a) → if Region.wanted o (yielded ops a.tmps) then o.quiet P a C K else K (a.put o.dst undef)) : WQ P ops C Q (o :: rest) a :=
 ⟨wpQuiet_step fun K hK => h K fun a ha => hK a ha.h⟩

theorem wq_region {P : Program} {id : Nat} {Q : Exit → Act → World → Prop} {a : Act} {w : World} {l : List Oper} (hm : P.follows .mixedOrders = true) (hB : Region.lexB .any l.toArray = true)
  (h : WQ P l.toArray (fun w' => ∃ p : Regrown, w' = grow (redrawn w p.d) p.os) (fun a' => ∀ w', (∃ p : Regrown, w' = grow (redrawn w p.d) p.os) → Q .normal a' w') l a) : (Code.region id l.toArray true).wp P Q a w :=
 wp_region_quiet_below hm hB h.h

end Go.Proofs.YtigpbjcmmgdiaaaGreat
/-
 Rows of values of one cell each, of any kind.
-/
namespace Go.Proofs.YtigpbjcmmgdiaaaGreat
open Go.ChangeShapes Go.WideShapes Go.ChangeAt Go.RowKit
set_option linter.unusedVariables false

/-- Values, one cell each. -/
def fV : Form Value := ⟨1, fun v => [v], fun _ => rfl, by decide⟩
theorem atV {W : World} {B : Nat} {L : List Value} (h : LiesG fV W (some ⟨B, 0, none⟩) L) (k : Nat) (v : Value) (hk : L[k]? = some v) : W.cell? ⟨B, k, none⟩ = some v := by
 obtain ⟨hlt, e⟩ := List.getElem?_eq_some_iff.1 hk
 have := h.at hlt 0 _ rfl
 rw [e] at this
 simpa [fV] using this
theorem mkV {W : World} {B : Nat} {L : List Value} (h : ∀ k v, L[k]? = some v → W.cell? ⟨B, k, none⟩ = some v) : LiesG fV W (some ⟨B, 0, none⟩) L := by
 refine ⟨.inr ⟨_, _, rfl⟩, fun B' O' e i hi j hj => ?_⟩
 injection e with e
 injection e with e1 e2
 subst e1
 subst e2
 have hj0 : j = 0 := by simp [fV] at hj; omega
 subst hj0
 have hn : 0 + i * fV.n + 0 = i := by simp [fV]
 rw [hn, h i L[i] (List.getElem?_eq_getElem hi)]
 rfl
theorem setV {W : World} {B j : Nat} {L : List Value} (h : LiesG fV W (some ⟨B, 0, none⟩) L) (hj : j < L.length) (v : Value) : LiesG fV (W.setCell ⟨B, j, none⟩ v) (some ⟨B, 0, none⟩) (L.set j v) := by
 apply mkV
 intro k u hk
 by_cases e : k = j
 ·subst e
  rw [List.getElem?_set_self hj] at hk
  cases hk
  exact World.cell?_setCell_same' W ⟨B, k, none⟩ _ (by rw [atV h k L[k] (List.getElem?_eq_getElem hj)]; rfl)
 ·rw [List.getElem?_set_ne (fun e' => e e'.symm)] at hk
  have h1 := atV h k u hk
  rw [World.cell?_setCell_other (h := by intro e'; injection e' with e1 e2; exact e e2.symm)]
  exact h1

end Go.Proofs.YtigpbjcmmgdiaaaGreat
