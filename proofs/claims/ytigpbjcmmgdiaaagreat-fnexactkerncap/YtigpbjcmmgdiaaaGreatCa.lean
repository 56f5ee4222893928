/-
  Texts of the proof, put together: BoxIO, CapAtS, SlotCapI, PlaceF, KernCapI.
-/
import Derived.Test.YtigpbjcmmgdiaaaGreatRa
import Derived.Laws.Cells
import Derived.Laws.AppendOwn
import Derived.Test.YtigpbjcmmgdiaaaGreatBk
import Derived.Test.YtigpbjcmmgdiaaaGreatBt
import Derived.Test.YtigpbjcmmgdiaaaGreatRk
import Derived.Test.YtigpbjcmmgdiaaaGreatKernOkB
/-
 A whole value of several cells is laid into a block of its own size, or read out of it, at one step.
-/
namespace Go.Proofs.YtigpbjcmmgdiaaaGreat
open Go.ChangeShapes Go.WideShapes Go.ChangeAt Go.RowKit
set_option linter.unusedVariables false

theorem addr_at (b o j : Nat) : Addr.add ⟨b, o, none⟩ j = ⟨b, o + j, none⟩ := by
 by_cases h : j = 0 <;> simp [Addr.add, h]
theorem box_storeCells (P : Program) (B : Nat) (T : TypeId) : ∀ (vs pre rest : List Value) (W : World), Bx W B T (pre ++ rest) → rest.length = vs.length → (∀ v ∈ vs, v.oneCell' = true) →
  ∃ W', (storeCells ⟨B, 0, none⟩ vs pre.length).run P W = .ok () W' ∧ Bx W' B T (pre ++ vs) ∧ But B W W'
 | [], pre, rest, W, hb, h, _ => by
  have : rest = [] := List.eq_nil_of_length_eq_zero h
  subst this
  exact ⟨W, by simp [storeCells], hb, But.of B (Below.refl _ _)⟩
 | v :: vs, pre, [], W, hb, h, _ => by simp at h
 | v :: vs, pre, r :: rest, W, hb, h, hv => by
  have hb2 := hb.set pre.length v
  have e : (pre ++ r :: rest).set pre.length v = (pre ++ [v]) ++ rest := by simp
  rw [e] at hb2
  obtain ⟨W', h1, h2, h3⟩ := box_storeCells P B T vs (pre ++ [v]) rest _ hb2 (by simpa using h) (fun x hx => hv x (List.mem_cons_of_mem _ hx))
  have hc := hb.cell pre.length r (by simp)
  have hf := hb.frozen pre.length
  have ha : Addr.add ⟨B, 0, none⟩ pre.length = ⟨B, pre.length, none⟩ := by rw [addr_at, Nat.zero_add]
  have h4 : (store (Addr.add ⟨B, 0, none⟩ pre.length) v).run P W = .ok () (W.setCell ⟨B, pre.length, none⟩ v) := by
   rw [run_store _ _ _ _ _ (hv v (List.mem_cons_self ..)), ha, hc, hf]
   rfl
  rw [List.length_append] at h1
  refine ⟨W', ?_, by simpa using h2, ((But.of B (Below.refl _ _)).set pre.length v).trans h3⟩
  simp only [storeCells, Sem.run_bind, h4, Result.andThen]
  simpa using h1
/-- A whole value is laid. -/
theorem box_store {P : Program} {B n : Nat} {T E : TypeId} {L vs : List Value} {W : World} (h : Bx W B T L) (hl : L.length = vs.length) (hv : ∀ v ∈ vs, v.oneCell' = true) (hs : (sizeOf E).run P W = .ok n W) (hn : n = vs.length) :
  ∃ W', (Instr.storeAt E (.pointer (some ⟨B, 0, none⟩)) (.agg vs.toArray)).run P W = .ok () W' ∧ Bx W' B T vs ∧ But B W W' := by
 obtain ⟨W', h2, h3, h4⟩ := box_storeCells P B T vs [] L W h hl hv
 refine ⟨W', ?_, h3, h4⟩
 simp only [Instr.storeAt, Instr.sureAddr, Sem.run_bind, Sem.run_pure, Result.andThen, storeVar, hs]
 subst hn
 have hc : (Value.agg vs.toArray).cells = vs.toArray := rfl
 simpa [hc] using h2
/-- The store of a whole value as one step of a walk. -/
theorem wpList_store {P : Program} {ops : Array Oper} {rest : List Oper} {o : Oper} {a : Act} {Q : Exit → Act → World → Prop} {w w' : World} (hgd : o.guard = none) (T : TypeId) (p x : Operand) (ho : o.op = .store T p x) (ptr v : Value) (hp : a.eval p = ptr) (hx : a.eval x = v) (h : (Instr.storeAt T ptr v).run P w = .ok () w') (hk : wpList P ops Q rest (a.put o.dst undef) w') : wpList P ops Q (o :: rest) a w :=
 wpList_plain hgd fun _ hK => by
  have e : (execOp a.eval o).run P w = .ok .skip w' := by
   unfold execOp
   rw [ho]
   simp only [hp, hx, Sem.run_bind, Sem.run_pure, h, Result.andThen]
  unfold Oper.wp
  rw [e]
  exact hK _ _ hk

end Go.Proofs.YtigpbjcmmgdiaaaGreat
/-
 The capability in a slot, by the specification. Conditions: the state's rows lie in memory and are not too long.
-/
namespace Go.Proofs.YtigpbjcmmgdiaaaGreat
open Go.ChangeShapes Go.WideShapes Go.ChangeAt Go.RowKit
set_option linter.unusedVariables false

def capC : Option Sl → Value
 | none => .agg #[.int .i64 0, .int .i64 0, .int .i64 0, .int .i64 0, .int .i64 0, .int .i64 0, .int .i64 0, .int .i64 0, .bool false]
 | some t => .agg #[.int .i64 t.k, .int .i64 t.e, .int .i64 t.b, .int .i64 t.r, .int .i64 t.d, .int .i64 t.g, .int .i64 t.q, .int .i64 t.f, .bool t.o]
theorem findI_ltS : ∀ {L : List Sl} {x : Int} {k : Nat}, findI L x = (k : Int) → 0 ≤ (k : Int) → k < L.length
 | [], x, k, h, _ => by rw [findI] at h; omega
 | s :: L, x, k, h, h0 => by
  rw [findI] at h
  by_cases h1 : s.t = x
  ·rw [if_pos h1] at h; simp; omega
  ·rw [if_neg h1] at h
   by_cases h2 : findI L x < 0
   ·rw [if_pos h2] at h; omega
   ·rw [if_neg h2] at h
    have := findI_ltS (L := L) (x := x) (k := k - 1) (by omega) (by omega)
    simp; omega
theorem capSize9 (w : World) : (sizeOf 33).run Tryz.prog w = .ok 9 w := by kernel_rfl
theorem capZero9 (w : World) : (Instr.build 33 #[]).run Tryz.prog w = .ok (.agg #[.int .i64 0, .int .i64 0, .int .i64 0, .int .i64 0, .int .i64 0, .int .i64 0, .int .i64 0, .int .i64 0, .bool false]) w := by kernel_rfl
set_option maxRecDepth 100000 in
set_option maxHeartbeats 8000000 in
theorem kernCapSpec_any (K : QK) (x : Int) (w : World) (b : Bool) (hs : K.Short) (HK : ∀ W, KernIn W K → Calls Tryz.prog 27 #[.agg #[.int .i64 K.bits, .int .i64 K.ticks, .slice K.sP K.sl.length K.sc, .slice K.tP K.tl.length K.tc, .slice K.eP K.el.length K.ec, .slice K.nP K.nl.length K.nc, .slice K.fP K.fl.length K.fc, .slice K.r0.P K.r0.l.length K.r0.c, .slice K.r1.P K.r1.l.length K.r1.c, .slice K.r2.P K.r2.l.length K.r2.c, .slice K.r3.P K.r3.l.length K.r3.c, .slice K.r4.P K.r4.l.length K.r4.c, .slice K.r5.P K.r5.l.length K.r5.c, .slice K.r6.P K.r6.l.length K.r6.c, .slice K.r7.P K.r7.l.length K.r7.c]] W fun e w' => e = .returned (.bool b) ∧ Below W.heap.size W w') (h : KernIn w K) (o : Option Sl) (ho : (if b = true then (if findI K.sl x < 0 then none else K.sl[(findI K.sl x).toNat]?) else none) = o) :
  Calls Tryz.prog 8 #[.agg #[.int .i64 K.bits, .int .i64 K.ticks, .slice K.sP K.sl.length K.sc, .slice K.tP K.tl.length K.tc, .slice K.eP K.el.length K.ec, .slice K.nP K.nl.length K.nc, .slice K.fP K.fl.length K.fc, .slice K.r0.P K.r0.l.length K.r0.c, .slice K.r1.P K.r1.l.length K.r1.c, .slice K.r2.P K.r2.l.length K.r2.c, .slice K.r3.P K.r3.l.length K.r3.c, .slice K.r4.P K.r4.l.length K.r4.c, .slice K.r5.P K.r5.l.length K.r5.c, .slice K.r6.P K.r6.l.length K.r6.c, .slice K.r7.P K.r7.l.length K.r7.c], .int .i64 x] w fun e w' => e = .returned (.tuple #[capC o, .bool o.isSome]) ∧ Below w.heap.size w w' := by
 have hlen := hs.s
 have hb1 := (KBox.new h 42).below ((Below.refl _ _).alloc (Nat.le_refl _) (.cells #[.int .i64 0, .int .i64 0, .int .i64 0, .int .i64 0, .int .i64 0, .int .i64 0, .int .i64 0, .int .i64 0, .bool false] 33))
 have hx1 := Bx.newAt (w.alloc (.cells #[.int .i64 K.bits, .int .i64 K.ticks, .slice K.sP K.sl.length K.sc, .slice K.tP K.tl.length K.tc, .slice K.eP K.el.length K.ec, .slice K.nP K.nl.length K.nc, .slice K.fP K.fl.length K.fc, .slice K.r0.P K.r0.l.length K.r0.c, .slice K.r1.P K.r1.l.length K.r1.c, .slice K.r2.P K.r2.l.length K.r2.c, .slice K.r3.P K.r3.l.length K.r3.c, .slice K.r4.P K.r4.l.length K.r4.c, .slice K.r5.P K.r5.l.length K.r5.c, .slice K.r6.P K.r6.l.length K.r6.c, .slice K.r7.P K.r7.l.length K.r7.c] 42)) 33 [.int .i64 0, .int .i64 0, .int .i64 0, .int .i64 0, .int .i64 0, .int .i64 0, .int .i64 0, .int .i64 0, .bool false] (c := w.heap.size + 1) (by simp)
 have hbz := capZero9
 clear h
 go_enter Tryz.func8, Tryz.ntmps8
 go_upto_region 1 with fail
 generalize (w.alloc (.cells #[.int .i64 K.bits, .int .i64 K.ticks, .slice K.sP K.sl.length K.sc, .slice K.tP K.tl.length K.tc, .slice K.eP K.el.length K.ec, .slice K.nP K.nl.length K.nc, .slice K.fP K.fl.length K.fc, .slice K.r0.P K.r0.l.length K.r0.c, .slice K.r1.P K.r1.l.length K.r1.c, .slice K.r2.P K.r2.l.length K.r2.c, .slice K.r3.P K.r3.l.length K.r3.c, .slice K.r4.P K.r4.l.length K.r4.c, .slice K.r5.P K.r5.l.length K.r5.c, .slice K.r6.P K.r6.l.length K.r6.c, .slice K.r7.P K.r7.l.length K.r7.c] 42)).alloc (.cells #[.int .i64 0, .int .i64 0, .int .i64 0, .int .i64 0, .int .i64 0, .int .i64 0, .int .i64 0, .int .i64 0, .bool false] 33) = W1 at hb1 hx1 ⊢
 obtain ⟨rB, hrB⟩ : ∃ rB, w.heap.size + 1 = rB := ⟨_, rfl⟩
 rw [hrB] at hx1 ⊢
 have HRB : Hid (w.heap.size + 1 = rB) := hrB
 clear hrB
 have HC0 : Hid _ := findSpec_any K.sP K.sl.length K.sc x K.sl W1 rfl hs.s hb1.b.s
 have g0 := atV hb1.a 0 _ rfl
 have g1 := atV hb1.a 1 _ rfl
 have g2 := atV hb1.a 2 _ rfl
 have g3 := atV hb1.a 3 _ rfl
 have g4 := atV hb1.a 4 _ rfl
 have g5 := atV hb1.a 5 _ rfl
 have g6 := atV hb1.a 6 _ rfl
 have g7 := atV hb1.a 7 _ rfl
 have g8 := atV hb1.a 8 _ rfl
 have g9 := atV hb1.a 9 _ rfl
 have g10 := atV hb1.a 10 _ rfl
 have g11 := atV hb1.a 11 _ rfl
 have g12 := atV hb1.a 12 _ rfl
 have g13 := atV hb1.a 13 _ rfl
 have g14 := atV hb1.a 14 _ rfl
 go_upto_region 2 with (go_at_call 26; refine Calls.mono HC0.out ?_; rintro e w2 ⟨rfl, rfl⟩; have hb2k := hb1; have hx2 := hx1)
 clear g0 g1 g2 g3 g4 g5 g6 g7 g8 g9 g10 g11 g12 g13 g14 hb1 hx1 HC0
 have HC1 : Hid _ := HK _ hb2k.b
 obtain ⟨z, hz⟩ : ∃ z, findI K.sl x = z := ⟨_, rfl⟩
 rw [hz]
 have hb1 := hb2k
 have HB2 : Hid _ := hb2k
 clear hb2k
 have g0 := atV hb1.a 0 _ rfl
 have g1 := atV hb1.a 1 _ rfl
 have g2 := atV hb1.a 2 _ rfl
 have g3 := atV hb1.a 3 _ rfl
 have g4 := atV hb1.a 4 _ rfl
 have g5 := atV hb1.a 5 _ rfl
 have g6 := atV hb1.a 6 _ rfl
 have g7 := atV hb1.a 7 _ rfl
 have g8 := atV hb1.a 8 _ rfl
 have g9 := atV hb1.a 9 _ rfl
 have g10 := atV hb1.a 10 _ rfl
 have g11 := atV hb1.a 11 _ rfl
 have g12 := atV hb1.a 12 _ rfl
 have g13 := atV hb1.a 13 _ rfl
 have g14 := atV hb1.a 14 _ rfl
 have HF : Hid (-1 ≤ z) := by unfold Hid; rw [← hz]; exact findI_ge K.sl x
 rw [hz] at ho
 have HZ : Hid _ := hz
 have HO : Hid _ := ho
 clear HK hb1 hz ho
 cases b
 ·have HOn : Hid (o = none) := by have := HO.out; unfold Hid; simpa using this.symm
  go_upto_region 3 with (go_at_call 27; refine Calls.mono HC1.out ?_; rintro e w3 ⟨rfl, hb3⟩; have hbb := HB2.out.below hb3; have hx := hx2.below hb3)
  clear g0 g1 g2 g3 g4 g5 g6 g7 g8 g9 g10 g11 g12 g13 g14
  obtain ⟨W4, hst, hx3, hbu⟩ := box_store hx (vs := [.int .i64 0, .int .i64 0, .int .i64 0, .int .i64 0, .int .i64 0, .int .i64 0, .int .i64 0, .int .i64 0, .bool false]) rfl (by intro v hv; simp only [List.mem_cons, List.not_mem_nil, or_false] at hv; rcases hv with rfl | rfl | rfl | rfl | rfl | rfl | rfl | rfl | rfl <;> rfl) (capSize9 _) rfl
  have HBw : Hid (Below w.heap.size w W4) := But.below hbb.bw hbu (by have := HRB.out; omega) hbb.bw.size
  clear hbb hx hbu hx2 hb3
  have r0 := hx3.cell 0 _ rfl
  have r1 := hx3.cell 1 _ rfl
  have r2 := hx3.cell 2 _ rfl
  have r3 := hx3.cell 3 _ rfl
  have r4 := hx3.cell 4 _ rfl
  have r5 := hx3.cell 5 _ rfl
  have r6 := hx3.cell 6 _ rfl
  have r7 := hx3.cell 7 _ rfl
  have r8 := hx3.cell 8 _ rfl
  go_wp2_with (refine wpList_store rfl _ _ _ rfl _ _ rfl rfl hst ?_)
  refine bodyPost_ret (show (results Tryz.f8 _).run Tryz.prog _ = .ok (.tuple #[.agg #[.int .i64 0, .int .i64 0, .int .i64 0, .int .i64 0, .int .i64 0, .int .i64 0, .int .i64 0, .int .i64 0, .bool false], .bool false]) _ from by simp [results, Tryz.results8, go_sem, *]) rfl ?_
  exact ⟨by rw [HOn.out]; rfl, HBw.out⟩
 ·by_cases hz0 : z < 0
  ·have HOn : Hid (o = none) := by have := HO.out; rw [if_pos rfl, if_pos hz0] at this; exact this.symm
   go_upto_region 3 with (go_at_call 27; refine Calls.mono HC1.out ?_; rintro e w3 ⟨rfl, hb3⟩; have hbb := HB2.out.below hb3; have hx := hx2.below hb3)
   clear g0 g1 g2 g3 g4 g5 g6 g7 g8 g9 g10 g11 g12 g13 g14
   obtain ⟨W4, hst, hx3, hbu⟩ := box_store hx (vs := [.int .i64 0, .int .i64 0, .int .i64 0, .int .i64 0, .int .i64 0, .int .i64 0, .int .i64 0, .int .i64 0, .bool false]) rfl (by intro v hv; simp only [List.mem_cons, List.not_mem_nil, or_false] at hv; rcases hv with rfl | rfl | rfl | rfl | rfl | rfl | rfl | rfl | rfl <;> rfl) (capSize9 _) rfl
   have HBw : Hid (Below w.heap.size w W4) := But.below hbb.bw hbu (by have := HRB.out; omega) hbb.bw.size
   clear hbb hx hbu hx2 hb3
   have r0 := hx3.cell 0 _ rfl
   have r1 := hx3.cell 1 _ rfl
   have r2 := hx3.cell 2 _ rfl
   have r3 := hx3.cell 3 _ rfl
   have r4 := hx3.cell 4 _ rfl
   have r5 := hx3.cell 5 _ rfl
   have r6 := hx3.cell 6 _ rfl
   have r7 := hx3.cell 7 _ rfl
   have r8 := hx3.cell 8 _ rfl
   go_wp2_with (refine wpList_store rfl _ _ _ rfl _ _ rfl rfl hst ?_)
   refine bodyPost_ret (show (results Tryz.f8 _).run Tryz.prog _ = .ok (.tuple #[.agg #[.int .i64 0, .int .i64 0, .int .i64 0, .int .i64 0, .int .i64 0, .int .i64 0, .int .i64 0, .int .i64 0, .bool false], .bool false]) _ from by simp [results, Tryz.results8, go_sem, *]) rfl ?_
   exact ⟨by rw [HOn.out]; rfl, HBw.out⟩
  ·obtain ⟨k, hzk⟩ : ∃ k : Nat, z = (k : Int) := ⟨z.toNat, by omega⟩
   subst hzk
   have hho := HO.out
   rw [if_pos rfl, if_neg hz0] at hho
   have hlt : k < K.sl.length := (findI_ltS HZ.out (by omega))
   obtain ⟨t, htk⟩ : ∃ t, K.sl[k] = t := ⟨_, rfl⟩
   have HOn : Hid (o = some t) := by unfold Hid; rw [← hho, ← htk]; simp [hlt]
   have hk1 : (k : Int) < (K.sl.length : Int) := by omega
   clear hho
   go_upto_region 4 with (go_at_call 27; refine Calls.mono HC1.out ?_; rintro e w3 ⟨rfl, hb3⟩; have hbb := HB2.out.below hb3; have hx := hx2.below hb3)
   clear g0 g1 g2 g3 g4 g5 g6 g7 g8 g9 g10 g11 g12 g13 g14
   have g3 := hbb.cs
   have hrow := hbb.b.s
   obtain ⟨B, O, hP⟩ := hrow.some hlt
   rw [hP] at hrow g3
   obtain ⟨c0, c1, c2, c3, c4, c5, c6, c7, c8, c9, c10⟩ := hrow.cells B O rfl k hlt
   rw [htk] at c0 c1 c2 c3 c4 c5 c6 c7 c8 c9 c10
   clear hrow hP htk
   obtain ⟨W4, hst, hx3, hbu⟩ := box_store hx (vs := [.int .i64 t.k, .int .i64 t.e, .int .i64 t.b, .int .i64 t.r, .int .i64 t.d, .int .i64 t.g, .int .i64 t.q, .int .i64 t.f, .bool t.o]) rfl (by intro v hv; simp only [List.mem_cons, List.not_mem_nil, or_false] at hv; rcases hv with rfl | rfl | rfl | rfl | rfl | rfl | rfl | rfl | rfl <;> rfl) (capSize9 _) rfl
   have HBw : Hid (Below w.heap.size w W4) := But.below hbb.bw hbu (by have := HRB.out; omega) hbb.bw.size
   clear hbb hx hbu hx2 hb3
   have r0 := hx3.cell 0 _ rfl
   have r1 := hx3.cell 1 _ rfl
   have r2 := hx3.cell 2 _ rfl
   have r3 := hx3.cell 3 _ rfl
   have r4 := hx3.cell 4 _ rfl
   have r5 := hx3.cell 5 _ rfl
   have r6 := hx3.cell 6 _ rfl
   have r7 := hx3.cell 7 _ rfl
   have r8 := hx3.cell 8 _ rfl
   go_wp2_with (refine wpList_store rfl _ _ _ rfl _ _ rfl rfl hst ?_)
   refine bodyPost_ret (show (results Tryz.f8 _).run Tryz.prog _ = .ok (.tuple #[.agg #[.int .i64 t.k, .int .i64 t.e, .int .i64 t.b, .int .i64 t.r, .int .i64 t.d, .int .i64 t.g, .int .i64 t.q, .int .i64 t.f, .bool t.o], .bool true]) _ from by simp [results, Tryz.results8, go_sem, *]) rfl ?_
   exact ⟨by rw [HOn.out]; rfl, HBw.out⟩

end Go.Proofs.YtigpbjcmmgdiaaaGreat
/-
 The capability in a slot, by the program's view. Conditions: the view lies in memory, with the places of its slots.
-/
namespace Go.Proofs.YtigpbjcmmgdiaaaGreat
open Go.ChangeShapes Go.WideShapes Go.ChangeAt Go.RowKit
set_option linter.unusedVariables false

set_option maxRecDepth 100000 in
set_option maxHeartbeats 8000000 in
theorem slotCap_any (w0 : World) (K : QK) (vB pB np : Nat) (fs : List Value) (w : World) (x : Int) (f : Int → Option Int) (hs : K.Short) (h : View w0 K vB fs w) (hf3 : fs[3]? = some (.map (some pB))) (hm : MapI w pB np f) (hx : FitI x) (o : Option Sl) (ho : (f x = none ∧ o = none) ∨ ∃ (k : Nat) (hk : k < K.sl.length), f x = some (k : Int) ∧ o = some K.sl[k]) :
  Calls Tryz.prog 35 #[.pointer (some ⟨vB, 0, none⟩), .int .i64 x] w fun e w' => e = .returned (.tuple #[capC o, .bool o.isSome]) ∧ Below w.heap.size w w' := by
 have hlen := hs.s
 have bA : Below w.heap.size w (w.alloc (.cells #[.int .i64 0, .int .i64 0, .int .i64 0, .int .i64 0, .int .i64 0, .int .i64 0, .int .i64 0, .int .i64 0, .bool false] 33)) := (Below.refl _ _).alloc (Nat.le_refl _) _
 have h1 := h.below bA
 have hx1 := Bx.newAt w 33 [.int .i64 0, .int .i64 0, .int .i64 0, .int .i64 0, .int .i64 0, .int .i64 0, .int .i64 0, .int .i64 0, .bool false] (c := w.heap.size) rfl
 have g18 := h1.snd 3 _ hf3
 have hbz := capZero9
 have hlk := (hm.below bA).look_ok hx
 have HFr : Hid (Below w.heap.size w (w.alloc (.cells #[.int .i64 0, .int .i64 0, .int .i64 0, .int .i64 0, .int .i64 0, .int .i64 0, .int .i64 0, .int .i64 0, .bool false] 33))) := bA
 clear h bA hm
 go_enter Tryz.func35, Tryz.ntmps35
 go_upto_region 1 with fail
 have hbw := HFr.out
 generalize w.alloc (.cells #[.int .i64 0, .int .i64 0, .int .i64 0, .int .i64 0, .int .i64 0, .int .i64 0, .int .i64 0, .int .i64 0, .bool false] 33) = W1 at h1 hx1 g18 hlk hbw ⊢
 clear HFr
 obtain ⟨rB, hrB⟩ : ∃ rB, w.heap.size = rB := ⟨_, rfl⟩
 have HRB : Hid (w.heap.size = rB) := hrB
 rw [hrB] at hx1 ⊢
 clear hrB
 rcases ho with ⟨e1, e2⟩ | ⟨k, hlt, e1, e2⟩
 ·rw [e1] at hlk
  have HOn : Hid (o = none) := e2
  clear e2
  simp only [Option.getD_none, Option.isSome_none] at hlk
  go_upto_region 3 with fail
  clear g18 hlk h1
  obtain ⟨W4, hst, hx3, hbu⟩ := box_store hx1 (vs := [.int .i64 0, .int .i64 0, .int .i64 0, .int .i64 0, .int .i64 0, .int .i64 0, .int .i64 0, .int .i64 0, .bool false]) rfl (by intro v hv; simp only [List.mem_cons, List.not_mem_nil, or_false] at hv; rcases hv with rfl | rfl | rfl | rfl | rfl | rfl | rfl | rfl | rfl <;> rfl) (capSize9 _) rfl
  have HBw : Hid (Below w.heap.size w W4) := But.below hbw hbu (by have := HRB.out; omega) hbw.size
  have r0 := hx3.cell 0 _ rfl
  have r1 := hx3.cell 1 _ rfl
  have r2 := hx3.cell 2 _ rfl
  have r3 := hx3.cell 3 _ rfl
  have r4 := hx3.cell 4 _ rfl
  have r5 := hx3.cell 5 _ rfl
  have r6 := hx3.cell 6 _ rfl
  have r7 := hx3.cell 7 _ rfl
  have r8 := hx3.cell 8 _ rfl
  clear hx1 hbu hbw
  go_wp2_with (refine wpList_store rfl _ _ _ rfl _ _ rfl rfl hst ?_)
  refine bodyPost_ret (show (results Tryz.f35 _).run Tryz.prog _ = .ok (.tuple #[.agg #[.int .i64 0, .int .i64 0, .int .i64 0, .int .i64 0, .int .i64 0, .int .i64 0, .int .i64 0, .int .i64 0, .bool false], .bool false]) _ from by simp [results, Tryz.results35, go_sem, *]) rfl ?_
  exact ⟨by rw [HOn.out]; rfl, by have := HBw.out; first | exact this | (rw [HRB.out] at this; exact this)⟩
 ·rw [e1] at hlk
  simp only [Option.getD_some, Option.isSome_some] at hlk
  have hk1 : (k : Int) < (K.sl.length : Int) := by omega
  obtain ⟨t, htk⟩ : ∃ t, K.sl[k] = t := ⟨_, rfl⟩
  have HOn : Hid (o = some t) := by unfold Hid; rw [e2, htk]
  clear e2
  go_upto_region 4 with fail
  have g2 := h1.cs
  have hrow := h1.b.s
  obtain ⟨B, O, hP⟩ := hrow.some hlt
  rw [hP] at hrow g2
  obtain ⟨c0, c1, c2, c3, c4, c5, c6, c7, c8, c9, c10⟩ := hrow.cells B O rfl k hlt
  rw [htk] at c0 c1 c2 c3 c4 c5 c6 c7 c8 c9 c10
  clear hrow hP htk g18 hlk h1 e1
  obtain ⟨W4, hst, hx3, hbu⟩ := box_store hx1 (vs := [.int .i64 t.k, .int .i64 t.e, .int .i64 t.b, .int .i64 t.r, .int .i64 t.d, .int .i64 t.g, .int .i64 t.q, .int .i64 t.f, .bool t.o]) rfl (by intro v hv; simp only [List.mem_cons, List.not_mem_nil, or_false] at hv; rcases hv with rfl | rfl | rfl | rfl | rfl | rfl | rfl | rfl | rfl <;> rfl) (capSize9 _) rfl
  have HBw : Hid (Below w.heap.size w W4) := But.below hbw hbu (by have := HRB.out; omega) hbw.size
  have r0 := hx3.cell 0 _ rfl
  have r1 := hx3.cell 1 _ rfl
  have r2 := hx3.cell 2 _ rfl
  have r3 := hx3.cell 3 _ rfl
  have r4 := hx3.cell 4 _ rfl
  have r5 := hx3.cell 5 _ rfl
  have r6 := hx3.cell 6 _ rfl
  have r7 := hx3.cell 7 _ rfl
  have r8 := hx3.cell 8 _ rfl
  clear hx1 hbu hbw
  go_wp2_with (refine wpList_store rfl _ _ _ rfl _ _ rfl rfl hst ?_)
  refine bodyPost_ret (show (results Tryz.f35 _).run Tryz.prog _ = .ok (.tuple #[.agg #[.int .i64 t.k, .int .i64 t.e, .int .i64 t.b, .int .i64 t.r, .int .i64 t.d, .int .i64 t.g, .int .i64 t.q, .int .i64 t.f, .bool t.o], .bool true]) _ from by simp [results, Tryz.results35, go_sem, *]) rfl ?_
  exact ⟨by rw [HOn.out]; rfl, by have := HBw.out; first | exact this | (rw [HRB.out] at this; exact this)⟩

end Go.Proofs.YtigpbjcmmgdiaaaGreat
/-
 The place of a slot, by both: in a tree the last that lies there is the first.
-/
namespace Go.Proofs.YtigpbjcmmgdiaaaGreat
open Go.ChangeShapes Go.WideShapes Go.ChangeAt Go.RowKit
set_option linter.unusedVariables false

theorem place_find {L : List Sl} (hT : treeB L = true) (x : Int) : findI L x = (placeR L L.length x).getD (-1) := by
 cases hp : placeR L L.length x with
 | none =>
  refine findI_no L x fun i hi e => ?_
  have := placeR_at hT hi
  rw [e, hp] at this
  cases this
 | some v =>
  obtain ⟨y, hy, e⟩ := placeR_some (Nat.le_refl _) (by rw [hp]; rfl)
  have h1 := placeR_at hT hy
  rw [e, hp] at h1
  injection h1 with h1
  show findI L x = v
  rw [h1]
  refine findI_at L x y hy e fun i hi e2 => ?_
  have h2 := placeR_at hT (y := i) (by omega)
  rw [e2, hp] at h2
  injection h2 with h2
  omega
/-- The slot that lies there is the one at its place. -/
theorem place_at {L : List Sl} (hT : treeB L = true) {x v : Int} (hp : placeR L L.length x = some v) : ∃ (y : Nat) (hy : y < L.length), v = (y : Int) ∧ L[y].t = x := by
 obtain ⟨y, hy, e⟩ := placeR_some (Nat.le_refl _) (by rw [hp]; rfl)
 have h1 := placeR_at hT hy
 rw [e, hp] at h1
 injection h1 with h1
 exact ⟨y, hy, h1, e⟩

end Go.Proofs.YtigpbjcmmgdiaaaGreat
/-
 The capability in a slot, by the program. Conditions: the state's rows lie in memory and are not too long; its integers are such of 64 bits.
-/
namespace Go.Proofs.YtigpbjcmmgdiaaaGreat
open Go.ChangeShapes Go.WideShapes Go.ChangeAt Go.RowKit
set_option linter.unusedVariables false

/-- The slot that lies there, by both. -/
theorem cap_place {L : List Sl} (hT : treeB L = true) (x : Int) (o : Option Sl) (ho : (if findI L x < 0 then none else L[(findI L x).toNat]?) = o) : (placeR L L.length x = none ∧ o = none) ∨ ∃ (k : Nat) (hk : k < L.length), placeR L L.length x = some (k : Int) ∧ o = some L[k] := by
 rw [place_find hT x] at ho
 cases hp : placeR L L.length x with
 | none =>
  rw [hp] at ho
  exact .inl ⟨rfl, by rw [← ho]; rfl⟩
 | some v =>
  obtain ⟨y, hy, e, _⟩ := place_at hT hp
  rw [hp, e] at ho
  refine .inr ⟨y, hy, by rw [e], ?_⟩
  rw [← ho]
  simp [hy]
theorem capC_ex (o : Option Sl) : ∃ (n0 n1 n2 n3 n4 n5 n6 n7 : Int) (n8 : Bool), capC o = .agg #[.int .i64 n0, .int .i64 n1, .int .i64 n2, .int .i64 n3, .int .i64 n4, .int .i64 n5, .int .i64 n6, .int .i64 n7, .bool n8] := by
 cases o with
 | none => exact ⟨0, 0, 0, 0, 0, 0, 0, 0, false, rfl⟩
 | some t => exact ⟨_, _, _, _, _, _, _, _, _, rfl⟩
theorem eqlNil (a : Addr) (w : World) : (binOp .eql 73 (.pointer (some a)) (.pointer none)).run Tryz.prog w = .ok (.bool false) w := by kernel_rfl
theorem eqlNil2 (w : World) : (binOp .eql 73 (.pointer none) (.pointer none)).run Tryz.prog w = .ok (.bool true) w := by kernel_rfl
set_option maxRecDepth 100000 in
set_option maxHeartbeats 16000000 in
theorem kernCapImpl_any (K : QK) (x : Int) (w : World) (hs : K.Short) (hcap : K.sl.length ≤ K.sc) (hcm : K.sc ≤ 9223372036854775807) (hf : K.Fits) (h : KernIn w K) (b : Bool) (hb : b = true ↔ ProgP K) (hx : FitI x) (o : Option Sl) (ho : (if b = true then (if findI K.sl x < 0 then none else K.sl[(findI K.sl x).toNat]?) else none) = o) :
  Calls Tryz.prog 10 #[.agg #[.int .i64 K.bits, .int .i64 K.ticks, .slice K.sP K.sl.length K.sc, .slice K.tP K.tl.length K.tc, .slice K.eP K.el.length K.ec, .slice K.nP K.nl.length K.nc, .slice K.fP K.fl.length K.fc, .slice K.r0.P K.r0.l.length K.r0.c, .slice K.r1.P K.r1.l.length K.r1.c, .slice K.r2.P K.r2.l.length K.r2.c, .slice K.r3.P K.r3.l.length K.r3.c, .slice K.r4.P K.r4.l.length K.r4.c, .slice K.r5.P K.r5.l.length K.r5.c, .slice K.r6.P K.r6.l.length K.r6.c, .slice K.r7.P K.r7.l.length K.r7.c], .int .i64 x] w fun e w' => e = .returned (.tuple #[capC o, .bool o.isSome]) ∧ Below w.heap.size w w' := by
 have hb1 := (KBox.new h 42).below ((Below.refl _ _).alloc (Nat.le_refl _) (.cells #[.int .i64 0, .int .i64 0, .int .i64 0, .int .i64 0, .int .i64 0, .int .i64 0, .int .i64 0, .int .i64 0, .bool false] 33))
 have hx1 := Bx.newAt (w.alloc (.cells #[.int .i64 K.bits, .int .i64 K.ticks, .slice K.sP K.sl.length K.sc, .slice K.tP K.tl.length K.tc, .slice K.eP K.el.length K.ec, .slice K.nP K.nl.length K.nc, .slice K.fP K.fl.length K.fc, .slice K.r0.P K.r0.l.length K.r0.c, .slice K.r1.P K.r1.l.length K.r1.c, .slice K.r2.P K.r2.l.length K.r2.c, .slice K.r3.P K.r3.l.length K.r3.c, .slice K.r4.P K.r4.l.length K.r4.c, .slice K.r5.P K.r5.l.length K.r5.c, .slice K.r6.P K.r6.l.length K.r6.c, .slice K.r7.P K.r7.l.length K.r7.c] 42)) 33 [.int .i64 0, .int .i64 0, .int .i64 0, .int .i64 0, .int .i64 0, .int .i64 0, .int .i64 0, .int .i64 0, .bool false] (c := w.heap.size + 1) (by simp)
 have hbz := capZero9
 have e1 := eqlNil
 have e2 := eqlNil2
 have HB : Hid (b = true ↔ ProgP K) := hb
 have HS : Hid _ := hs
 have HO : Hid _ := ho
 have HX : Hid (FitI x) := hx
 clear h hb ho hx
 go_enter Tryz.func10, Tryz.ntmps10
 go_upto_region 1 with fail
 generalize (w.alloc (.cells #[.int .i64 K.bits, .int .i64 K.ticks, .slice K.sP K.sl.length K.sc, .slice K.tP K.tl.length K.tc, .slice K.eP K.el.length K.ec, .slice K.nP K.nl.length K.nc, .slice K.fP K.fl.length K.fc, .slice K.r0.P K.r0.l.length K.r0.c, .slice K.r1.P K.r1.l.length K.r1.c, .slice K.r2.P K.r2.l.length K.r2.c, .slice K.r3.P K.r3.l.length K.r3.c, .slice K.r4.P K.r4.l.length K.r4.c, .slice K.r5.P K.r5.l.length K.r5.c, .slice K.r6.P K.r6.l.length K.r6.c, .slice K.r7.P K.r7.l.length K.r7.c] 42)).alloc (.cells #[.int .i64 0, .int .i64 0, .int .i64 0, .int .i64 0, .int .i64 0, .int .i64 0, .int .i64 0, .int .i64 0, .bool false] 33) = W1 at hb1 hx1 ⊢
 obtain ⟨rB, hrB⟩ : ∃ rB, w.heap.size + 1 = rB := ⟨_, rfl⟩
 rw [hrB] at hx1 ⊢
 have HRB : Hid (w.heap.size + 1 = rB) := hrB
 clear hrB
 have HC : Hid _ := kernViewOf_any K W1 hs hcap hcm hf hb1.b
 have g0 := atV hb1.a 0 _ rfl
 have g1 := atV hb1.a 1 _ rfl
 have g2 := atV hb1.a 2 _ rfl
 have g3 := atV hb1.a 3 _ rfl
 have g4 := atV hb1.a 4 _ rfl
 have g5 := atV hb1.a 5 _ rfl
 have g6 := atV hb1.a 6 _ rfl
 have g7 := atV hb1.a 7 _ rfl
 have g8 := atV hb1.a 8 _ rfl
 have g9 := atV hb1.a 9 _ rfl
 have g10 := atV hb1.a 10 _ rfl
 have g11 := atV hb1.a 11 _ rfl
 have g12 := atV hb1.a 12 _ rfl
 have g13 := atV hb1.a 13 _ rfl
 have g14 := atV hb1.a 14 _ rfl
 have HB1 : Hid _ := hb1
 have HX1 : Hid _ := hx1
 clear hb1 hx1 hs hcap hcm hf
 cases b
 ·have HOn : Hid (o = none) := by have := HO.out; unfold Hid; simpa using this.symm
  go_upto_region 3 with (go_at_call 34; refine Calls.mono HC.out ?_; intro e w5 h5; have h6 := Or.resolve_left h5 (fun q => absurd (HB.out.2 q.1) (by decide)); obtain ⟨_, rfl, hb5⟩ := h6; clear h5)
  clear g0 g1 g2 g3 g4 g5 g6 g7 g8 g9 g10 g11 g12 g13 g14
  have hbb := HB1.out.below hb5
  have hx := Bx.below HX1.out hb5
  obtain ⟨W4, hst, hx3, hbu⟩ := box_store hx (vs := [.int .i64 0, .int .i64 0, .int .i64 0, .int .i64 0, .int .i64 0, .int .i64 0, .int .i64 0, .int .i64 0, .bool false]) rfl (by intro v hv; simp only [List.mem_cons, List.not_mem_nil, or_false] at hv; rcases hv with rfl | rfl | rfl | rfl | rfl | rfl | rfl | rfl | rfl <;> rfl) (capSize9 _) rfl
  have HBw : Hid (Below w.heap.size w W4) := But.below hbb.bw hbu (by have := HRB.out; omega) hbb.bw.size
  clear hbb hx hbu hb5
  have r0 := hx3.cell 0 _ rfl
  have r1 := hx3.cell 1 _ rfl
  have r2 := hx3.cell 2 _ rfl
  have r3 := hx3.cell 3 _ rfl
  have r4 := hx3.cell 4 _ rfl
  have r5 := hx3.cell 5 _ rfl
  have r6 := hx3.cell 6 _ rfl
  have r7 := hx3.cell 7 _ rfl
  have r8 := hx3.cell 8 _ rfl
  go_wp2_with (refine wpList_store rfl _ _ _ rfl _ _ rfl rfl hst ?_)
  refine bodyPost_ret (show (results Tryz.f10 _).run Tryz.prog _ = .ok (.tuple #[.agg #[.int .i64 0, .int .i64 0, .int .i64 0, .int .i64 0, .int .i64 0, .int .i64 0, .int .i64 0, .int .i64 0, .bool false], .bool false]) _ from by simp [results, Tryz.results10, go_sem, *]) rfl ?_
  exact ⟨by rw [HOn.out]; rfl, HBw.out⟩
 ·have HOs : Hid ((if findI K.sl x < 0 then none else K.sl[(findI K.sl x).toNat]?) = o) := by have := HO.out; rw [if_pos rfl] at this; exact this
  obtain ⟨n0, n1, n2, n3, n4, n5, n6, n7, n8, hcc⟩ := capC_ex o
  have HCc : Hid _ := hcc
  clear hcc
  go_upto_region 4 with (go_at_call 34; refine Calls.mono HC.out ?_; intro e w5 h5; have h6 := Or.resolve_right h5 (fun q => q.1 (HB.out.1 rfl)); obtain ⟨_, rfl, hz⟩ := h6; have HZ : Hid _ := hz; clear h5 hz)
  clear g0 g1 g2 g3 g4 g5 g6 g7 g8 g9 g10 g11 g12 g13 g14
  have hb5 := zA_bw HZ.out
  have hbb := HB1.out.below hb5
  have hx := Bx.below HX1.out hb5
  have HSl : Hid (Calls Tryz.prog 35 #[.pointer (some ⟨W1.heap.size + 1, 0, none⟩), .int .i64 x] w5 fun e w' => e = .returned (.tuple #[.agg #[.int .i64 n0, .int .i64 n1, .int .i64 n2, .int .i64 n3, .int .i64 n4, .int .i64 n5, .int .i64 n6, .int .i64 n7, .bool n8], .bool o.isSome]) ∧ Below w5.heap.size w5 w') := by
   obtain ⟨N, uB, pB, P, cap, A, m0, hB, tB, n, fs, Z, _⟩ := HZ.out
   have := slotCap_any _ K _ pB _ fs _ x _ HS.out Z.h.o.z.v Z.h.o.z.f3 Z.h.o.z.m HX.out o (cap_place Z.h.o.z.tr x o HOs.out)
   rw [HCc.out] at this
   exact this
  obtain ⟨os, hos⟩ : ∃ os, o.isSome = os := ⟨_, rfl⟩
  rw [hos] at HSl
  have HOS : Hid (o.isSome = os) := hos
  have HXx : Hid _ := hx
  have HBb : Hid _ := hbb
  clear hos hx hbb hb5
  go_wp2_with (first
   | (go_at_call 35; refine Calls.mono HSl.out ?_; rintro e w6 ⟨rfl, hb6⟩; obtain ⟨W4, hst, hx3, hbu⟩ := box_store (Bx.below HXx.out hb6) (vs := [.int .i64 n0, .int .i64 n1, .int .i64 n2, .int .i64 n3, .int .i64 n4, .int .i64 n5, .int .i64 n6, .int .i64 n7, .bool n8]) rfl (by intro v hv; simp only [List.mem_cons, List.not_mem_nil, or_false] at hv; rcases hv with rfl | rfl | rfl | rfl | rfl | rfl | rfl | rfl | rfl <;> rfl) (capSize9 _) rfl)
   | (refine wpList_store rfl _ _ _ rfl _ _ rfl rfl hst ?_))
  have hb7 := HBb.out.below hb6
  have HBw : Hid (Below w.heap.size w W4) := But.below hb7.bw hbu (by have := HRB.out; omega) hb7.bw.size
  have r0 := hx3.cell 0 _ rfl
  have r1 := hx3.cell 1 _ rfl
  have r2 := hx3.cell 2 _ rfl
  have r3 := hx3.cell 3 _ rfl
  have r4 := hx3.cell 4 _ rfl
  have r5 := hx3.cell 5 _ rfl
  have r6 := hx3.cell 6 _ rfl
  have r7 := hx3.cell 7 _ rfl
  have r8 := hx3.cell 8 _ rfl
  refine bodyPost_ret (show (results Tryz.f10 _).run Tryz.prog _ = .ok (.tuple #[.agg #[.int .i64 n0, .int .i64 n1, .int .i64 n2, .int .i64 n3, .int .i64 n4, .int .i64 n5, .int .i64 n6, .int .i64 n7, .bool n8], .bool os]) _ from by simp [results, Tryz.results10, go_sem, *]) rfl ?_
  exact ⟨by rw [HCc.out, HOS.out], HBw.out⟩

end Go.Proofs.YtigpbjcmmgdiaaaGreat
