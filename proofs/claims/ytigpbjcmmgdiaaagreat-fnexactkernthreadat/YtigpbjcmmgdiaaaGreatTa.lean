/-
  Texts of the proof, put together: BoxIO, ThrAtS, KernThrI.
-/
import Derived.Test.YtigpbjcmmgdiaaaGreatRa
import Derived.Laws.Cells
import Derived.Laws.AppendOwn
import Derived.Test.YtigpbjcmmgdiaaaGreatBp
import Derived.Test.YtigpbjcmmgdiaaaGreatKernOkB
/-
 A whole value of several cells is laid into a block of its own size, or read out of it, at one step.
-/
namespace Go.Proofs.YtigpbjcmmgdiaaaGreat
open Go.ChangeShapes Go.WideShapes Go.ChangeAt Go.RowKit
set_option linter.unusedVariables false

theorem addr_at (b o j : Nat) : Addr.add ⟨b, o, none⟩ j = ⟨b, o + j, none⟩ := by
 by_cases h : j = 0 <;> simp [Addr.add, h]
theorem box_storeCells (P : Program) (B : Nat) (T : TypeId) : ∀ (vs pre rest : List Value) (W : World), Bx W B T (pre ++ rest) → rest.length = vs.length → (∀ v ∈ vs, v.oneCell' = true) →
  ∃ W', (storeCells ⟨B, 0, none⟩ vs pre.length).run P W = .ok () W' ∧ Bx W' B T (pre ++ vs) ∧ But B W W'
 | [], pre, rest, W, hb, h, _ => by
  have : rest = [] := List.eq_nil_of_length_eq_zero h
  subst this
  exact ⟨W, by simp [storeCells], hb, But.of B (Below.refl _ _)⟩
 | v :: vs, pre, [], W, hb, h, _ => by simp at h
 | v :: vs, pre, r :: rest, W, hb, h, hv => by
  have hb2 := hb.set pre.length v
  have e : (pre ++ r :: rest).set pre.length v = (pre ++ [v]) ++ rest := by simp
  rw [e] at hb2
  obtain ⟨W', h1, h2, h3⟩ := box_storeCells P B T vs (pre ++ [v]) rest _ hb2 (by simpa using h) (fun x hx => hv x (List.mem_cons_of_mem _ hx))
  have hc := hb.cell pre.length r (by simp)
  have hf := hb.frozen pre.length
  have ha : Addr.add ⟨B, 0, none⟩ pre.length = ⟨B, pre.length, none⟩ := by rw [addr_at, Nat.zero_add]
  have h4 : (store (Addr.add ⟨B, 0, none⟩ pre.length) v).run P W = .ok () (W.setCell ⟨B, pre.length, none⟩ v) := by
   rw [run_store _ _ _ _ _ (hv v (List.mem_cons_self ..)), ha, hc, hf]
   rfl
  rw [List.length_append] at h1
  refine ⟨W', ?_, by simpa using h2, ((But.of B (Below.refl _ _)).set pre.length v).trans h3⟩
  simp only [storeCells, Sem.run_bind, h4, Result.andThen]
  simpa using h1
/-- A whole value is laid. -/
theorem box_store {P : Program} {B n : Nat} {T E : TypeId} {L vs : List Value} {W : World} (h : Bx W B T L) (hl : L.length = vs.length) (hv : ∀ v ∈ vs, v.oneCell' = true) (hs : (sizeOf E).run P W = .ok n W) (hn : n = vs.length) :
  ∃ W', (Instr.storeAt E (.pointer (some ⟨B, 0, none⟩)) (.agg vs.toArray)).run P W = .ok () W' ∧ Bx W' B T vs ∧ But B W W' := by
 obtain ⟨W', h2, h3, h4⟩ := box_storeCells P B T vs [] L W h hl hv
 refine ⟨W', ?_, h3, h4⟩
 simp only [Instr.storeAt, Instr.sureAddr, Sem.run_bind, Sem.run_pure, Result.andThen, storeVar, hs]
 subst hn
 have hc : (Value.agg vs.toArray).cells = vs.toArray := rfl
 simpa [hc] using h2
/-- The store of a whole value as one step of a walk. -/
theorem wpList_store {P : Program} {ops : Array Oper} {rest : List Oper} {o : Oper} {a : Act} {Q : Exit → Act → World → Prop} {w w' : World} (hgd : o.guard = none) (T : TypeId) (p x : Operand) (ho : o.op = .store T p x) (ptr v : Value) (hp : a.eval p = ptr) (hx : a.eval x = v) (h : (Instr.storeAt T ptr v).run P w = .ok () w') (hk : wpList P ops Q rest (a.put o.dst undef) w') : wpList P ops Q (o :: rest) a w :=
 wpList_plain hgd fun _ hK => by
  have e : (execOp a.eval o).run P w = .ok .skip w' := by
   unfold execOp
   rw [ho]
   simp only [hp, hx, Sem.run_bind, Sem.run_pure, h, Result.andThen]
  unfold Oper.wp
  rw [e]
  exact hK _ _ hk

end Go.Proofs.YtigpbjcmmgdiaaaGreat
/-
 The thread at an address, by the specification. Conditions: the state's rows lie in memory and are not too long.
-/
namespace Go.Proofs.YtigpbjcmmgdiaaaGreat
open Go.ChangeShapes Go.WideShapes Go.ChangeAt Go.RowKit
set_option linter.unusedVariables false

def thrC : Option QT → Value
 | none => .agg #[.int .i64 0, .int .i64 0, .int .i64 0, .int .i64 0, .int .i64 0, .int .i64 0, .int .i64 0, .int .u32 0, .int .i64 0, .int .u32 0, .int .u32 0, .int .u32 0, .int .u32 0, .int .i64 0, .int .u32 0]
 | some t => .agg #[.int .i64 t.a0, .int .i64 t.a1, .int .i64 t.a2, .int .i64 t.a3, .int .i64 t.a4, .int .i64 t.a5, .int .i64 t.a6, .int .u32 t.a7, .int .i64 t.a8, .int .u32 t.a9, .int .u32 t.a10, .int .u32 t.a11, .int .u32 t.a12, .int .i64 t.a13, .int .u32 t.a14]
theorem first_find {α : Type} (p : α → Bool) : ∀ (L : List α), (L.find? p = none → firstI p L = -1) ∧ ∀ s, L.find? p = some s → ∃ (k : Nat) (hk : k < L.length), firstI p L = (k : Int) ∧ L[k] = s
 | [] => ⟨fun _ => rfl, fun s h => by cases h⟩
 | a :: L => by
  obtain ⟨i1, i2⟩ := first_find p L
  rw [List.find?_cons]
  cases ha : p a with
  | true =>
   refine ⟨fun h => (by cases h), fun s h => ⟨0, (by simp), (by rw [firstI, if_pos ha]; rfl), ?_⟩⟩
   injection h
  | false =>
   have hna : ¬ p a = true := by rw [ha]; decide
   refine ⟨fun h => ?_, fun s h => ?_⟩
   ·rw [firstI, if_neg hna, i1 h]; rfl
   ·obtain ⟨k, hk, e1, e2⟩ := i2 s h
    refine ⟨k + 1, (by simpa using hk), ?_, (by simpa using e2)⟩
    rw [firstI, if_neg hna, e1, if_neg (by omega)]; rfl
theorem thrSize (w : World) : (sizeOf 50).run Tryz.prog w = .ok 15 w := by kernel_rfl
theorem thrZero (w : World) : (Instr.build 50 #[]).run Tryz.prog w = .ok (.agg #[.int .i64 0, .int .i64 0, .int .i64 0, .int .i64 0, .int .i64 0, .int .i64 0, .int .i64 0, .int .u32 0, .int .i64 0, .int .u32 0, .int .u32 0, .int .u32 0, .int .u32 0, .int .i64 0, .int .u32 0]) w := by kernel_rfl
set_option maxRecDepth 100000 in
set_option maxHeartbeats 8000000 in
theorem kernThreadSpec_any (K : QK) (x : Int) (w : World) (b : Bool) (hs : K.Short) (HK : ∀ W, KernIn W K → Calls Tryz.prog 27 #[.agg #[.int .i64 K.bits, .int .i64 K.ticks, .slice K.sP K.sl.length K.sc, .slice K.tP K.tl.length K.tc, .slice K.eP K.el.length K.ec, .slice K.nP K.nl.length K.nc, .slice K.fP K.fl.length K.fc, .slice K.r0.P K.r0.l.length K.r0.c, .slice K.r1.P K.r1.l.length K.r1.c, .slice K.r2.P K.r2.l.length K.r2.c, .slice K.r3.P K.r3.l.length K.r3.c, .slice K.r4.P K.r4.l.length K.r4.c, .slice K.r5.P K.r5.l.length K.r5.c, .slice K.r6.P K.r6.l.length K.r6.c, .slice K.r7.P K.r7.l.length K.r7.c]] W fun e w' => e = .returned (.bool b) ∧ Below W.heap.size W w') (h : KernIn w K) (o : Option QT) (ho : (if b = true then K.tl.find? (fun s => s.a0 == x) else none) = o) :
  Calls Tryz.prog 13 #[.agg #[.int .i64 K.bits, .int .i64 K.ticks, .slice K.sP K.sl.length K.sc, .slice K.tP K.tl.length K.tc, .slice K.eP K.el.length K.ec, .slice K.nP K.nl.length K.nc, .slice K.fP K.fl.length K.fc, .slice K.r0.P K.r0.l.length K.r0.c, .slice K.r1.P K.r1.l.length K.r1.c, .slice K.r2.P K.r2.l.length K.r2.c, .slice K.r3.P K.r3.l.length K.r3.c, .slice K.r4.P K.r4.l.length K.r4.c, .slice K.r5.P K.r5.l.length K.r5.c, .slice K.r6.P K.r6.l.length K.r6.c, .slice K.r7.P K.r7.l.length K.r7.c], .int .i64 x] w fun e w' => e = .returned (.tuple #[thrC o, .bool o.isSome]) ∧ Below w.heap.size w w' := by
 have hlen := hs.t
 have hb1 := (KBox.new h 42).below ((Below.refl _ _).alloc (Nat.le_refl _) (.cells #[.int .i64 0, .int .i64 0, .int .i64 0, .int .i64 0, .int .i64 0, .int .i64 0, .int .i64 0, .int .u32 0, .int .i64 0, .int .u32 0, .int .u32 0, .int .u32 0, .int .u32 0, .int .i64 0, .int .u32 0] 50))
 have hx1 := Bx.newAt (w.alloc (.cells #[.int .i64 K.bits, .int .i64 K.ticks, .slice K.sP K.sl.length K.sc, .slice K.tP K.tl.length K.tc, .slice K.eP K.el.length K.ec, .slice K.nP K.nl.length K.nc, .slice K.fP K.fl.length K.fc, .slice K.r0.P K.r0.l.length K.r0.c, .slice K.r1.P K.r1.l.length K.r1.c, .slice K.r2.P K.r2.l.length K.r2.c, .slice K.r3.P K.r3.l.length K.r3.c, .slice K.r4.P K.r4.l.length K.r4.c, .slice K.r5.P K.r5.l.length K.r5.c, .slice K.r6.P K.r6.l.length K.r6.c, .slice K.r7.P K.r7.l.length K.r7.c] 42)) 50 [.int .i64 0, .int .i64 0, .int .i64 0, .int .i64 0, .int .i64 0, .int .i64 0, .int .i64 0, .int .u32 0, .int .i64 0, .int .u32 0, .int .u32 0, .int .u32 0, .int .u32 0, .int .i64 0, .int .u32 0] (c := w.heap.size + 1) (by simp)
 have hbz := thrZero
 clear h
 go_enter Tryz.func13, Tryz.ntmps13
 go_upto_region 1 with fail
 generalize (w.alloc (.cells #[.int .i64 K.bits, .int .i64 K.ticks, .slice K.sP K.sl.length K.sc, .slice K.tP K.tl.length K.tc, .slice K.eP K.el.length K.ec, .slice K.nP K.nl.length K.nc, .slice K.fP K.fl.length K.fc, .slice K.r0.P K.r0.l.length K.r0.c, .slice K.r1.P K.r1.l.length K.r1.c, .slice K.r2.P K.r2.l.length K.r2.c, .slice K.r3.P K.r3.l.length K.r3.c, .slice K.r4.P K.r4.l.length K.r4.c, .slice K.r5.P K.r5.l.length K.r5.c, .slice K.r6.P K.r6.l.length K.r6.c, .slice K.r7.P K.r7.l.length K.r7.c] 42)).alloc (.cells #[.int .i64 0, .int .i64 0, .int .i64 0, .int .i64 0, .int .i64 0, .int .i64 0, .int .i64 0, .int .u32 0, .int .i64 0, .int .u32 0, .int .u32 0, .int .u32 0, .int .u32 0, .int .i64 0, .int .u32 0] 50) = W1 at hb1 hx1 ⊢
 obtain ⟨rB, hrB⟩ : ∃ rB, w.heap.size + 1 = rB := ⟨_, rfl⟩
 rw [hrB] at hx1 ⊢
 have HRB : Hid (w.heap.size + 1 = rB) := hrB
 clear hrB
 have HC0 : Hid _ := l4Thread_any K x W1 hs hb1.b
 have g0 := atV hb1.a 0 _ rfl
 have g1 := atV hb1.a 1 _ rfl
 have g2 := atV hb1.a 2 _ rfl
 have g3 := atV hb1.a 3 _ rfl
 have g4 := atV hb1.a 4 _ rfl
 have g5 := atV hb1.a 5 _ rfl
 have g6 := atV hb1.a 6 _ rfl
 have g7 := atV hb1.a 7 _ rfl
 have g8 := atV hb1.a 8 _ rfl
 have g9 := atV hb1.a 9 _ rfl
 have g10 := atV hb1.a 10 _ rfl
 have g11 := atV hb1.a 11 _ rfl
 have g12 := atV hb1.a 12 _ rfl
 have g13 := atV hb1.a 13 _ rfl
 have g14 := atV hb1.a 14 _ rfl
 go_upto_region 2 with (go_at_call 42; refine Calls.mono HC0.out ?_; rintro e w2 ⟨rfl, hb2⟩; have hb2k := hb1.below hb2; have hx2 := hx1.below hb2)
 clear g0 g1 g2 g3 g4 g5 g6 g7 g8 g9 g10 g11 g12 g13 g14 hb1 hx1 hb2 HC0
 have HC1 : Hid _ := HK w2 hb2k.b
 obtain ⟨z, hz⟩ : ∃ z, firstI (fun s : QT => s.a0 == x) K.tl = z := ⟨_, rfl⟩
 rw [hz]
 have hb1 := hb2k
 have HB2 : Hid _ := hb2k
 clear hb2k
 have g0 := atV hb1.a 0 _ rfl
 have g1 := atV hb1.a 1 _ rfl
 have g2 := atV hb1.a 2 _ rfl
 have g3 := atV hb1.a 3 _ rfl
 have g4 := atV hb1.a 4 _ rfl
 have g5 := atV hb1.a 5 _ rfl
 have g6 := atV hb1.a 6 _ rfl
 have g7 := atV hb1.a 7 _ rfl
 have g8 := atV hb1.a 8 _ rfl
 have g9 := atV hb1.a 9 _ rfl
 have g10 := atV hb1.a 10 _ rfl
 have g11 := atV hb1.a 11 _ rfl
 have g12 := atV hb1.a 12 _ rfl
 have g13 := atV hb1.a 13 _ rfl
 have g14 := atV hb1.a 14 _ rfl
 have HF : Hid _ := first_find (fun s : QT => s.a0 == x) K.tl
 have HZ : Hid _ := hz
 have HO : Hid _ := ho
 clear HK hb1 hz ho
 cases b
 ·have HOn : Hid (o = none) := by have := HO.out; unfold Hid; simpa using this.symm
  go_upto_region 3 with (go_at_call 27; refine Calls.mono HC1.out ?_; rintro e w3 ⟨rfl, hb3⟩; have hbb := HB2.out.below hb3; have hx := hx2.below hb3)
  clear g0 g1 g2 g3 g4 g5 g6 g7 g8 g9 g10 g11 g12 g13 g14
  obtain ⟨W4, hst, hx3, hbu⟩ := box_store hx (vs := [.int .i64 0, .int .i64 0, .int .i64 0, .int .i64 0, .int .i64 0, .int .i64 0, .int .i64 0, .int .u32 0, .int .i64 0, .int .u32 0, .int .u32 0, .int .u32 0, .int .u32 0, .int .i64 0, .int .u32 0]) rfl (by intro v hv; simp only [List.mem_cons, List.not_mem_nil, or_false] at hv; rcases hv with rfl | rfl | rfl | rfl | rfl | rfl | rfl | rfl | rfl | rfl | rfl | rfl | rfl | rfl | rfl <;> rfl) (thrSize _) rfl
  have HBw : Hid (Below w.heap.size w W4) := But.below hbb.bw hbu (by have := HRB.out; omega) hbb.bw.size
  clear hbb hx hbu hx2 hb3
  have r0 := hx3.cell 0 _ rfl
  have r1 := hx3.cell 1 _ rfl
  have r2 := hx3.cell 2 _ rfl
  have r3 := hx3.cell 3 _ rfl
  have r4 := hx3.cell 4 _ rfl
  have r5 := hx3.cell 5 _ rfl
  have r6 := hx3.cell 6 _ rfl
  have r7 := hx3.cell 7 _ rfl
  have r8 := hx3.cell 8 _ rfl
  have r9 := hx3.cell 9 _ rfl
  have r10 := hx3.cell 10 _ rfl
  have r11 := hx3.cell 11 _ rfl
  have r12 := hx3.cell 12 _ rfl
  have r13 := hx3.cell 13 _ rfl
  have r14 := hx3.cell 14 _ rfl
  go_wp2_with (refine wpList_store rfl _ _ _ rfl _ _ rfl rfl hst ?_)
  refine bodyPost_ret (show (results Tryz.f13 _).run Tryz.prog _ = .ok (.tuple #[.agg #[.int .i64 0, .int .i64 0, .int .i64 0, .int .i64 0, .int .i64 0, .int .i64 0, .int .i64 0, .int .u32 0, .int .i64 0, .int .u32 0, .int .u32 0, .int .u32 0, .int .u32 0, .int .i64 0, .int .u32 0], .bool false]) _ from by simp [results, Tryz.results13, go_sem, *]) rfl ?_
  exact ⟨by rw [HOn.out]; rfl, HBw.out⟩
 ·have hfo : K.tl.find? (fun s : QT => s.a0 == x) = o := by have := HO.out; simpa using this
  cases o with
  | none =>
   have hzm : z = -1 := HZ.out.symm.trans (HF.out.1 hfo)
   subst hzm
   go_upto_region 3 with (go_at_call 27; refine Calls.mono HC1.out ?_; rintro e w3 ⟨rfl, hb3⟩; have hbb := HB2.out.below hb3; have hx := hx2.below hb3)
   clear g0 g1 g2 g3 g4 g5 g6 g7 g8 g9 g10 g11 g12 g13 g14
   obtain ⟨W4, hst, hx3, hbu⟩ := box_store hx (vs := [.int .i64 0, .int .i64 0, .int .i64 0, .int .i64 0, .int .i64 0, .int .i64 0, .int .i64 0, .int .u32 0, .int .i64 0, .int .u32 0, .int .u32 0, .int .u32 0, .int .u32 0, .int .i64 0, .int .u32 0]) rfl (by intro v hv; simp only [List.mem_cons, List.not_mem_nil, or_false] at hv; rcases hv with rfl | rfl | rfl | rfl | rfl | rfl | rfl | rfl | rfl | rfl | rfl | rfl | rfl | rfl | rfl <;> rfl) (thrSize _) rfl
   have HBw : Hid (Below w.heap.size w W4) := But.below hbb.bw hbu (by have := HRB.out; omega) hbb.bw.size
   clear hbb hx hbu hx2 hb3
   have r0 := hx3.cell 0 _ rfl
   have r1 := hx3.cell 1 _ rfl
   have r2 := hx3.cell 2 _ rfl
   have r3 := hx3.cell 3 _ rfl
   have r4 := hx3.cell 4 _ rfl
   have r5 := hx3.cell 5 _ rfl
   have r6 := hx3.cell 6 _ rfl
   have r7 := hx3.cell 7 _ rfl
   have r8 := hx3.cell 8 _ rfl
   have r9 := hx3.cell 9 _ rfl
   have r10 := hx3.cell 10 _ rfl
   have r11 := hx3.cell 11 _ rfl
   have r12 := hx3.cell 12 _ rfl
   have r13 := hx3.cell 13 _ rfl
   have r14 := hx3.cell 14 _ rfl
   go_wp2_with (refine wpList_store rfl _ _ _ rfl _ _ rfl rfl hst ?_)
   refine bodyPost_ret (show (results Tryz.f13 _).run Tryz.prog _ = .ok (.tuple #[.agg #[.int .i64 0, .int .i64 0, .int .i64 0, .int .i64 0, .int .i64 0, .int .i64 0, .int .i64 0, .int .u32 0, .int .i64 0, .int .u32 0, .int .u32 0, .int .u32 0, .int .u32 0, .int .i64 0, .int .u32 0], .bool false]) _ from by simp [results, Tryz.results13, go_sem, *]) rfl ?_
   exact ⟨rfl, HBw.out⟩
  | some t =>
   obtain ⟨k, hlt, hzk, htk⟩ := HF.out.2 t hfo
   have hzm : z = (k : Int) := HZ.out.symm.trans hzk
   subst hzm
   have hz0 : ¬ (k : Int) < 0 := by omega
   have hk1 : (k : Int) < (K.tl.length : Int) := by omega
   clear hfo hzk
   go_upto_region 4 with (go_at_call 27; refine Calls.mono HC1.out ?_; rintro e w3 ⟨rfl, hb3⟩; have hbb := HB2.out.below hb3; have hx := hx2.below hb3)
   clear g0 g1 g2 g3 g4 g5 g6 g7 g8 g9 g10 g11 g12 g13 g14
   have g3 := hbb.ct
   have hrow := hbb.b.t
   obtain ⟨B, O, hP⟩ := hrow.has hlt
   rw [hP] at hrow g3
   have c0 := hrow.at hlt 0 _ rfl
   have c1 := hrow.at hlt 1 _ rfl
   have c2 := hrow.at hlt 2 _ rfl
   have c3 := hrow.at hlt 3 _ rfl
   have c4 := hrow.at hlt 4 _ rfl
   have c5 := hrow.at hlt 5 _ rfl
   have c6 := hrow.at hlt 6 _ rfl
   have c7 := hrow.at hlt 7 _ rfl
   have c8 := hrow.at hlt 8 _ rfl
   have c9 := hrow.at hlt 9 _ rfl
   have c10 := hrow.at hlt 10 _ rfl
   have c11 := hrow.at hlt 11 _ rfl
   have c12 := hrow.at hlt 12 _ rfl
   have c13 := hrow.at hlt 13 _ rfl
   have c14 := hrow.at hlt 14 _ rfl
   simp only [fT, Nat.add_zero, htk] at c0 c1 c2 c3 c4 c5 c6 c7 c8 c9 c10 c11 c12 c13 c14
   clear hrow hP htk
   obtain ⟨W4, hst, hx3, hbu⟩ := box_store hx (vs := [.int .i64 t.a0, .int .i64 t.a1, .int .i64 t.a2, .int .i64 t.a3, .int .i64 t.a4, .int .i64 t.a5, .int .i64 t.a6, .int .u32 t.a7, .int .i64 t.a8, .int .u32 t.a9, .int .u32 t.a10, .int .u32 t.a11, .int .u32 t.a12, .int .i64 t.a13, .int .u32 t.a14]) rfl (by intro v hv; simp only [List.mem_cons, List.not_mem_nil, or_false] at hv; rcases hv with rfl | rfl | rfl | rfl | rfl | rfl | rfl | rfl | rfl | rfl | rfl | rfl | rfl | rfl | rfl <;> rfl) (thrSize _) rfl
   have HBw : Hid (Below w.heap.size w W4) := But.below hbb.bw hbu (by have := HRB.out; omega) hbb.bw.size
   clear hbb hx hbu hx2 hb3
   have r0 := hx3.cell 0 _ rfl
   have r1 := hx3.cell 1 _ rfl
   have r2 := hx3.cell 2 _ rfl
   have r3 := hx3.cell 3 _ rfl
   have r4 := hx3.cell 4 _ rfl
   have r5 := hx3.cell 5 _ rfl
   have r6 := hx3.cell 6 _ rfl
   have r7 := hx3.cell 7 _ rfl
   have r8 := hx3.cell 8 _ rfl
   have r9 := hx3.cell 9 _ rfl
   have r10 := hx3.cell 10 _ rfl
   have r11 := hx3.cell 11 _ rfl
   have r12 := hx3.cell 12 _ rfl
   have r13 := hx3.cell 13 _ rfl
   have r14 := hx3.cell 14 _ rfl
   go_wp2_with (refine wpList_store rfl _ _ _ rfl _ _ rfl rfl hst ?_)
   refine bodyPost_ret (show (results Tryz.f13 _).run Tryz.prog _ = .ok (.tuple #[.agg #[.int .i64 t.a0, .int .i64 t.a1, .int .i64 t.a2, .int .i64 t.a3, .int .i64 t.a4, .int .i64 t.a5, .int .i64 t.a6, .int .u32 t.a7, .int .i64 t.a8, .int .u32 t.a9, .int .u32 t.a10, .int .u32 t.a11, .int .u32 t.a12, .int .i64 t.a13, .int .u32 t.a14], .bool true]) _ from by simp [results, Tryz.results13, go_sem, *]) rfl ?_
   exact ⟨rfl, HBw.out⟩

end Go.Proofs.YtigpbjcmmgdiaaaGreat
/-
 The thread at an address, by the program. Conditions: the state's rows lie in memory and are not too long; its integers are such of 64 bits.
-/
namespace Go.Proofs.YtigpbjcmmgdiaaaGreat
open Go.ChangeShapes Go.WideShapes Go.ChangeAt Go.RowKit
set_option linter.unusedVariables false

theorem thrC_ex (T : List QT) (P : Prs) (x : Int) (o : Option QT) (ho : T.find? (fun s => s.a0 == x) = o) : ∃ (a b : Int) (e : QT), (quF T P x).getD (.agg #[.int .i64 0, .int .i64 0, .int .i64 0, .int .i64 0, .int .i64 0, .int .i64 0, .int .i64 0, .int .i64 0, .int .i64 0, .int .u32 0, .int .i64 0, .int .u32 0, .int .u32 0, .int .u32 0, .int .u32 0, .int .i64 0, .int .u32 0]) = .agg #[.int .i64 a, .int .i64 b, .int .i64 e.a0, .int .i64 e.a1, .int .i64 e.a2, .int .i64 e.a3, .int .i64 e.a4, .int .i64 e.a5, .int .i64 e.a6, .int .u32 e.a7, .int .i64 e.a8, .int .u32 e.a9, .int .u32 e.a10, .int .u32 e.a11, .int .u32 e.a12, .int .i64 e.a13, .int .u32 e.a14] ∧ (quF T P x).isSome = o.isSome ∧ thrC o = .agg #[.int .i64 e.a0, .int .i64 e.a1, .int .i64 e.a2, .int .i64 e.a3, .int .i64 e.a4, .int .i64 e.a5, .int .i64 e.a6, .int .u32 e.a7, .int .i64 e.a8, .int .u32 e.a9, .int .u32 e.a10, .int .u32 e.a11, .int .u32 e.a12, .int .i64 e.a13, .int .u32 e.a14] := by
 subst ho
 unfold quF
 cases T.find? (fun s => s.a0 == x) with
 | none => exact ⟨0, 0, ⟨0, 0, 0, 0, 0, 0, 0, 0, 0, 0, 0, 0, 0, 0, 0⟩, rfl, rfl, rfl⟩
 | some t => exact ⟨_, _, t, rfl, rfl, rfl⟩
theorem thrC_any (o : Option QT) : ∃ e : QT, thrC o = .agg #[.int .i64 e.a0, .int .i64 e.a1, .int .i64 e.a2, .int .i64 e.a3, .int .i64 e.a4, .int .i64 e.a5, .int .i64 e.a6, .int .u32 e.a7, .int .i64 e.a8, .int .u32 e.a9, .int .u32 e.a10, .int .u32 e.a11, .int .u32 e.a12, .int .i64 e.a13, .int .u32 e.a14] := by
 cases o with
 | none => exact ⟨⟨0, 0, 0, 0, 0, 0, 0, 0, 0, 0, 0, 0, 0, 0, 0⟩, rfl⟩
 | some t => exact ⟨t, rfl⟩
theorem eqlNilT (a : Addr) (w : World) : (binOp .eql 73 (.pointer (some a)) (.pointer none)).run Tryz.prog w = .ok (.bool false) w := by kernel_rfl
theorem eqlNilT2 (w : World) : (binOp .eql 73 (.pointer none) (.pointer none)).run Tryz.prog w = .ok (.bool true) w := by kernel_rfl
set_option maxRecDepth 100000 in
set_option maxHeartbeats 16000000 in
theorem kernThrImpl_any (K : QK) (x : Int) (w : World) (hs : K.Short) (hcap : K.sl.length ≤ K.sc) (hcm : K.sc ≤ 9223372036854775807) (hf : K.Fits) (h : KernIn w K) (b : Bool) (hb : b = true ↔ ProgP K) (hx : FitI x) (o : Option QT) (ho : (if b = true then K.tl.find? (fun s => s.a0 == x) else none) = o) :
  Calls Tryz.prog 14 #[.agg #[.int .i64 K.bits, .int .i64 K.ticks, .slice K.sP K.sl.length K.sc, .slice K.tP K.tl.length K.tc, .slice K.eP K.el.length K.ec, .slice K.nP K.nl.length K.nc, .slice K.fP K.fl.length K.fc, .slice K.r0.P K.r0.l.length K.r0.c, .slice K.r1.P K.r1.l.length K.r1.c, .slice K.r2.P K.r2.l.length K.r2.c, .slice K.r3.P K.r3.l.length K.r3.c, .slice K.r4.P K.r4.l.length K.r4.c, .slice K.r5.P K.r5.l.length K.r5.c, .slice K.r6.P K.r6.l.length K.r6.c, .slice K.r7.P K.r7.l.length K.r7.c], .int .i64 x] w fun e w' => e = .returned (.tuple #[thrC o, .bool o.isSome]) ∧ Below w.heap.size w w' := by
 have hb1 := (KBox.new h 42).below ((Below.refl _ _).alloc (Nat.le_refl _) (.cells #[.int .i64 0, .int .i64 0, .int .i64 0, .int .i64 0, .int .i64 0, .int .i64 0, .int .i64 0, .int .u32 0, .int .i64 0, .int .u32 0, .int .u32 0, .int .u32 0, .int .u32 0, .int .i64 0, .int .u32 0] 50))
 have hx1 := Bx.newAt (w.alloc (.cells #[.int .i64 K.bits, .int .i64 K.ticks, .slice K.sP K.sl.length K.sc, .slice K.tP K.tl.length K.tc, .slice K.eP K.el.length K.ec, .slice K.nP K.nl.length K.nc, .slice K.fP K.fl.length K.fc, .slice K.r0.P K.r0.l.length K.r0.c, .slice K.r1.P K.r1.l.length K.r1.c, .slice K.r2.P K.r2.l.length K.r2.c, .slice K.r3.P K.r3.l.length K.r3.c, .slice K.r4.P K.r4.l.length K.r4.c, .slice K.r5.P K.r5.l.length K.r5.c, .slice K.r6.P K.r6.l.length K.r6.c, .slice K.r7.P K.r7.l.length K.r7.c] 42)) 50 [.int .i64 0, .int .i64 0, .int .i64 0, .int .i64 0, .int .i64 0, .int .i64 0, .int .i64 0, .int .u32 0, .int .i64 0, .int .u32 0, .int .u32 0, .int .u32 0, .int .u32 0, .int .i64 0, .int .u32 0] (c := w.heap.size + 1) (by simp)
 have hbz := thrZero
 have e1 := eqlNilT
 have e2 := eqlNilT2
 have HB : Hid (b = true ↔ ProgP K) := hb
 have HO : Hid _ := ho
 have HX : Hid (FitI x) := hx
 clear h hb ho hx
 go_enter Tryz.func14, Tryz.ntmps14
 go_upto_region 1 with fail
 generalize (w.alloc (.cells #[.int .i64 K.bits, .int .i64 K.ticks, .slice K.sP K.sl.length K.sc, .slice K.tP K.tl.length K.tc, .slice K.eP K.el.length K.ec, .slice K.nP K.nl.length K.nc, .slice K.fP K.fl.length K.fc, .slice K.r0.P K.r0.l.length K.r0.c, .slice K.r1.P K.r1.l.length K.r1.c, .slice K.r2.P K.r2.l.length K.r2.c, .slice K.r3.P K.r3.l.length K.r3.c, .slice K.r4.P K.r4.l.length K.r4.c, .slice K.r5.P K.r5.l.length K.r5.c, .slice K.r6.P K.r6.l.length K.r6.c, .slice K.r7.P K.r7.l.length K.r7.c] 42)).alloc (.cells #[.int .i64 0, .int .i64 0, .int .i64 0, .int .i64 0, .int .i64 0, .int .i64 0, .int .i64 0, .int .u32 0, .int .i64 0, .int .u32 0, .int .u32 0, .int .u32 0, .int .u32 0, .int .i64 0, .int .u32 0] 50) = W1 at hb1 hx1 ⊢
 obtain ⟨rB, hrB⟩ : ∃ rB, w.heap.size + 1 = rB := ⟨_, rfl⟩
 rw [hrB] at hx1 ⊢
 have HRB : Hid (w.heap.size + 1 = rB) := hrB
 clear hrB
 have HC : Hid _ := kernViewOf_any K W1 hs hcap hcm hf hb1.b
 have g0 := atV hb1.a 0 _ rfl
 have g1 := atV hb1.a 1 _ rfl
 have g2 := atV hb1.a 2 _ rfl
 have g3 := atV hb1.a 3 _ rfl
 have g4 := atV hb1.a 4 _ rfl
 have g5 := atV hb1.a 5 _ rfl
 have g6 := atV hb1.a 6 _ rfl
 have g7 := atV hb1.a 7 _ rfl
 have g8 := atV hb1.a 8 _ rfl
 have g9 := atV hb1.a 9 _ rfl
 have g10 := atV hb1.a 10 _ rfl
 have g11 := atV hb1.a 11 _ rfl
 have g12 := atV hb1.a 12 _ rfl
 have g13 := atV hb1.a 13 _ rfl
 have g14 := atV hb1.a 14 _ rfl
 have HB1 : Hid _ := hb1
 have HX1 : Hid _ := hx1
 clear hb1 hx1 hs hcap hcm hf
 cases b
 ·have HOn : Hid (o = none) := by have := HO.out; unfold Hid; simpa using this.symm
  go_upto_region 3 with (go_at_call 34; refine Calls.mono HC.out ?_; intro e w5 h5; have h6 := Or.resolve_left h5 (fun q => absurd (HB.out.2 q.1) (by decide)); obtain ⟨_, rfl, hb5⟩ := h6; clear h5)
  clear g0 g1 g2 g3 g4 g5 g6 g7 g8 g9 g10 g11 g12 g13 g14
  have hbb := HB1.out.below hb5
  have hx := Bx.below HX1.out hb5
  obtain ⟨W4, hst, hx3, hbu⟩ := box_store hx (vs := [.int .i64 0, .int .i64 0, .int .i64 0, .int .i64 0, .int .i64 0, .int .i64 0, .int .i64 0, .int .u32 0, .int .i64 0, .int .u32 0, .int .u32 0, .int .u32 0, .int .u32 0, .int .i64 0, .int .u32 0]) rfl (by intro v hv; simp only [List.mem_cons, List.not_mem_nil, or_false] at hv; rcases hv with rfl | rfl | rfl | rfl | rfl | rfl | rfl | rfl | rfl | rfl | rfl | rfl | rfl | rfl | rfl <;> rfl) (thrSize _) rfl
  have HBw : Hid (Below w.heap.size w W4) := But.below hbb.bw hbu (by have := HRB.out; omega) hbb.bw.size
  clear hbb hx hbu hb5
  have r0 := hx3.cell 0 _ rfl
  have r1 := hx3.cell 1 _ rfl
  have r2 := hx3.cell 2 _ rfl
  have r3 := hx3.cell 3 _ rfl
  have r4 := hx3.cell 4 _ rfl
  have r5 := hx3.cell 5 _ rfl
  have r6 := hx3.cell 6 _ rfl
  have r7 := hx3.cell 7 _ rfl
  have r8 := hx3.cell 8 _ rfl
  have r9 := hx3.cell 9 _ rfl
  have r10 := hx3.cell 10 _ rfl
  have r11 := hx3.cell 11 _ rfl
  have r12 := hx3.cell 12 _ rfl
  have r13 := hx3.cell 13 _ rfl
  have r14 := hx3.cell 14 _ rfl
  go_wp2_with (refine wpList_store rfl _ _ _ rfl _ _ rfl rfl hst ?_)
  refine bodyPost_ret (show (results Tryz.f14 _).run Tryz.prog _ = .ok (.tuple #[.agg #[.int .i64 0, .int .i64 0, .int .i64 0, .int .i64 0, .int .i64 0, .int .i64 0, .int .i64 0, .int .u32 0, .int .i64 0, .int .u32 0, .int .u32 0, .int .u32 0, .int .u32 0, .int .i64 0, .int .u32 0], .bool false]) _ from by simp [results, Tryz.results14, go_sem, *]) rfl ?_
  exact ⟨by rw [HOn.out]; rfl, HBw.out⟩
 ·have HOs : Hid (K.tl.find? (fun s => s.a0 == x) = o) := by have := HO.out; rw [if_pos rfl] at this; exact this
  obtain ⟨qa, qb, e, hq1, hq2, hq3⟩ := thrC_ex K.tl (pR K 8) x o HOs.out
  have HQ3 : Hid _ := hq3
  clear hq3
  go_upto_region 4 with (go_at_call 34; refine Calls.mono HC.out ?_; intro e w5 h5; have h6 := Or.resolve_right h5 (fun q => q.1 (HB.out.1 rfl)); obtain ⟨_, rfl, hz⟩ := h6; have HZ : Hid _ := hz; clear h5 hz)
  clear g0 g1 g2 g3 g4 g5 g6 g7 g8 g9 g10 g11 g12 g13 g14
  have hb5 := zA_bw HZ.out
  have hbb := HB1.out.below hb5
  have hx := Bx.below HX1.out hb5
  obtain ⟨N, uB, pB, P, cap, A, m0, hB, tB, n, fs, Z, _⟩ := HZ.out
  have hlk := Z.t.look_ok Tryz.underlying90 (zeroMem w5) HX.out
  rw [hq1, hq2] at hlk
  have f12 := Z.h.o.z.v.snd 12 _ Z.f12
  obtain ⟨os, hos⟩ : ∃ os, o.isSome = os := ⟨_, rfl⟩
  rw [hos] at hlk
  have HOS : Hid (o.isSome = os) := hos
  clear hos hq1 hq2 Z HZ hb5
  have HXx : Hid _ := hx
  have HBb : Hid _ := hbb
  clear hx hbb
  go_upto_region 5 with fail
  have ba := (Below.refl w5.heap.size w5).alloc (Nat.le_refl _) (.cells #[.int .i64 qa, .int .i64 qb, .int .i64 e.a0, .int .i64 e.a1, .int .i64 e.a2, .int .i64 e.a3, .int .i64 e.a4, .int .i64 e.a5, .int .i64 e.a6, .int .u32 e.a7, .int .i64 e.a8, .int .u32 e.a9, .int .u32 e.a10, .int .u32 e.a11, .int .u32 e.a12, .int .i64 e.a13, .int .u32 e.a14] 85)
  have km := boxL w5 [.int .i64 qa, .int .i64 qb, .int .i64 e.a0, .int .i64 e.a1, .int .i64 e.a2, .int .i64 e.a3, .int .i64 e.a4, .int .i64 e.a5, .int .i64 e.a6, .int .u32 e.a7, .int .i64 e.a8, .int .u32 e.a9, .int .u32 e.a10, .int .u32 e.a11, .int .u32 e.a12, .int .i64 e.a13, .int .u32 e.a14] 85
  obtain ⟨W4, hst, hx3, hbu⟩ := box_store (Bx.below HXx.out ba) (vs := [.int .i64 e.a0, .int .i64 e.a1, .int .i64 e.a2, .int .i64 e.a3, .int .i64 e.a4, .int .i64 e.a5, .int .i64 e.a6, .int .u32 e.a7, .int .i64 e.a8, .int .u32 e.a9, .int .u32 e.a10, .int .u32 e.a11, .int .u32 e.a12, .int .i64 e.a13, .int .u32 e.a14]) rfl (by intro v hv; simp only [List.mem_cons, List.not_mem_nil, or_false] at hv; rcases hv with rfl | rfl | rfl | rfl | rfl | rfl | rfl | rfl | rfl | rfl | rfl | rfl | rfl | rfl | rfl <;> rfl) (thrSize _) rfl
  have hb7 := HBb.out.below ba
  have HBw : Hid (Below w.heap.size w W4) := But.below hb7.bw hbu (by have := HRB.out; omega) hb7.bw.size
  clear hlk f12 ba hb7 hbu
  have m0 := atV km 2 _ rfl
  have m1 := atV km 3 _ rfl
  have m2 := atV km 4 _ rfl
  have m3 := atV km 5 _ rfl
  have m4 := atV km 6 _ rfl
  have m5 := atV km 7 _ rfl
  have m6 := atV km 8 _ rfl
  have m7 := atV km 9 _ rfl
  have m8 := atV km 10 _ rfl
  have m9 := atV km 11 _ rfl
  have m10 := atV km 12 _ rfl
  have m11 := atV km 13 _ rfl
  have m12 := atV km 14 _ rfl
  have m13 := atV km 15 _ rfl
  have m14 := atV km 16 _ rfl
  have r0 := hx3.cell 0 _ rfl
  have r1 := hx3.cell 1 _ rfl
  have r2 := hx3.cell 2 _ rfl
  have r3 := hx3.cell 3 _ rfl
  have r4 := hx3.cell 4 _ rfl
  have r5 := hx3.cell 5 _ rfl
  have r6 := hx3.cell 6 _ rfl
  have r7 := hx3.cell 7 _ rfl
  have r8 := hx3.cell 8 _ rfl
  have r9 := hx3.cell 9 _ rfl
  have r10 := hx3.cell 10 _ rfl
  have r11 := hx3.cell 11 _ rfl
  have r12 := hx3.cell 12 _ rfl
  have r13 := hx3.cell 13 _ rfl
  have r14 := hx3.cell 14 _ rfl
  clear km
  generalize w5.alloc (.cells #[.int .i64 qa, .int .i64 qb, .int .i64 e.a0, .int .i64 e.a1, .int .i64 e.a2, .int .i64 e.a3, .int .i64 e.a4, .int .i64 e.a5, .int .i64 e.a6, .int .u32 e.a7, .int .i64 e.a8, .int .u32 e.a9, .int .u32 e.a10, .int .u32 e.a11, .int .u32 e.a12, .int .i64 e.a13, .int .u32 e.a14] 85) = W6 at hst m0 m1 m2 m3 m4 m5 m6 m7 m8 m9 m10 m11 m12 m13 m14 ⊢
  go_wp2_with (refine wpList_store rfl _ _ _ rfl _ _ rfl rfl hst ?_)
  refine bodyPost_ret (show (results Tryz.f14 _).run Tryz.prog _ = .ok (.tuple #[.agg #[.int .i64 e.a0, .int .i64 e.a1, .int .i64 e.a2, .int .i64 e.a3, .int .i64 e.a4, .int .i64 e.a5, .int .i64 e.a6, .int .u32 e.a7, .int .i64 e.a8, .int .u32 e.a9, .int .u32 e.a10, .int .u32 e.a11, .int .u32 e.a12, .int .i64 e.a13, .int .u32 e.a14], .bool os]) _ from by simp [results, Tryz.results14, go_sem, *]) rfl ?_
  exact ⟨by rw [HQ3.out, HOS.out], HBw.out⟩

end Go.Proofs.YtigpbjcmmgdiaaaGreat
