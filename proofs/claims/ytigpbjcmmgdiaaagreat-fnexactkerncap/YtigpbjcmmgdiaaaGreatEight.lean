/-
 Eight rows of numbers in an array: copies, sizes and compares.
-/
import Derived.Test.YtigpbjcmmgdiaaaGreatInts
import Derived.Laws.ResultCell
import Derived.Deep.RegionHeld3
namespace Go.Proofs.YtigpbjcmmgdiaaaGreat
open Go.ChangeShapes Go.WideShapes Go.ChangeAt Go.RowKit
set_option linter.unusedVariables false

/-- A row of numbers, with where it lies. -/
structure QR where
 P : Option Addr
 c : Nat
 l : List Int
def fQ : Form QR := ⟨1, fun r => [.slice r.P r.l.length r.c], fun _ => rfl, by decide⟩
def InQ (W : World) (L : List QR) : Prop := ∀ e ∈ L, LiesG fI W e.P e.l
theorem InQ.below {W W' : World} {L : List QR} (h : InQ W L) (hb : Below W.heap.size W W') : InQ W' L := fun e he => (h e he).below hb
theorem atQ {W : World} {B O : Nat} {L : List QR} (h : LiesG fQ W (some ⟨B, O, none⟩) L) {k : Nat} (hk : k < L.length) : W.cell? ⟨B, O + k, none⟩ = some (.slice L[k].P L[k].l.length L[k].c) := by
 have := h.at hk 0 _ rfl
 simpa [fQ] using this
theorem atQ0 {W : World} {B : Nat} {L : List QR} (h : LiesG fQ W (some ⟨B, 0, none⟩) L) {k : Nat} (hk : k < L.length) : W.cell? ⟨B, k, none⟩ = some (.slice L[k].P L[k].l.length L[k].c) := by
 have := atQ h hk
 rwa [Nat.zero_add] at this
/-- Eight cells that lie from an offset on. -/
theorem eightQ {W : World} {B O : Nat} {r0 r1 r2 r3 r4 r5 r6 r7 : QR} (c0 : W.cell? ⟨B, O + 0, none⟩ = some (.slice r0.P r0.l.length r0.c)) (c1 : W.cell? ⟨B, O + 1, none⟩ = some (.slice r1.P r1.l.length r1.c)) (c2 : W.cell? ⟨B, O + 2, none⟩ = some (.slice r2.P r2.l.length r2.c)) (c3 : W.cell? ⟨B, O + 3, none⟩ = some (.slice r3.P r3.l.length r3.c)) (c4 : W.cell? ⟨B, O + 4, none⟩ = some (.slice r4.P r4.l.length r4.c)) (c5 : W.cell? ⟨B, O + 5, none⟩ = some (.slice r5.P r5.l.length r5.c)) (c6 : W.cell? ⟨B, O + 6, none⟩ = some (.slice r6.P r6.l.length r6.c)) (c7 : W.cell? ⟨B, O + 7, none⟩ = some (.slice r7.P r7.l.length r7.c)) : LiesG fQ W (some ⟨B, O, none⟩) [r0, r1, r2, r3, r4, r5, r6, r7] := by
 refine ⟨.inr ⟨B, O, rfl⟩, fun B' O' e i hi j hj => ?_⟩
 injection e with e
 injection e with e1 e2
 subst e1
 subst e2
 have hj0 : j = 0 := by simp [fQ] at hj; omega
 subst hj0
 have hi8 : i < 8 := hi
 have hn : O + i * fQ.n + 0 = O + i := by simp [fQ]
 rw [hn]
 match i, hi8 with
 | 0, _ => exact c0
 | 1, _ => exact c1
 | 2, _ => exact c2
 | 3, _ => exact c3
 | 4, _ => exact c4
 | 5, _ => exact c5
 | 6, _ => exact c6
 | 7, _ => exact c7
theorem boxQ (w : World) (r0 r1 r2 r3 r4 r5 r6 r7 : QR) : LiesG fQ (w.alloc (.cells #[.slice r0.P r0.l.length r0.c, .slice r1.P r1.l.length r1.c, .slice r2.P r2.l.length r2.c, .slice r3.P r3.l.length r3.c, .slice r4.P r4.l.length r4.c, .slice r5.P r5.l.length r5.c, .slice r6.P r6.l.length r6.c, .slice r7.P r7.l.length r7.c] 28)) (some ⟨w.heap.size, 0, none⟩) [r0, r1, r2, r3, r4, r5, r6, r7] := by
 apply eightQ <;> go_simp
theorem list8 {α : Type} {L : List α} (h : L.length = 8) : ∃ a0 a1 a2 a3 a4 a5 a6 a7, L = [a0, a1, a2, a3, a4, a5, a6, a7] := by
 match L, h with
 | [a0, a1, a2, a3, a4, a5, a6, a7], _ => exact ⟨a0, a1, a2, a3, a4, a5, a6, a7, rfl⟩

/-- Rows above a bound. -/
def FreshQ (W : World) (n : Nat) (L : List QR) : Prop := ∀ e ∈ L, LiesG fI W e.P e.l ∧ ∀ B O, e.P = some ⟨B, O, none⟩ → n < B

def toQInv (w : World) (R : List QR) (i : Value) (w' : World) : Prop :=
 ∃ k : Nat, k ≤ 8 ∧ i = .int .i64 k ∧ ∃ M : List QR, M.map QR.l = (R.take k).map QR.l ∧ LiesG fQ w' (some ⟨w.heap.size, 0, none⟩) R ∧ LiesG fQ w' (some ⟨w.heap.size + 2, 0, none⟩) M ∧ (∀ e ∈ M, LiesG fI w' e.P e.l ∧ ∀ B O, e.P = some ⟨B, O, none⟩ → w.heap.size + 2 < B) ∧ RoomG fQ w' (w.heap.size + 2) 8 ∧ RoomG fQ w' (w.heap.size + 1) 8 ∧ Below w.heap.size w w'

set_option maxRecDepth 100000 in
set_option maxHeartbeats 2000000 in
theorem toQ_any (r0 r1 r2 r3 r4 r5 r6 r7 : QR) (w : World) (hle : ∀ e ∈ [r0, r1, r2, r3, r4, r5, r6, r7], e.l.length ≤ 1048576) (hi : InQ w [r0, r1, r2, r3, r4, r5, r6, r7]) :
  Calls Tryz.prog 33 #[.agg #[.slice r0.P r0.l.length r0.c, .slice r1.P r1.l.length r1.c, .slice r2.P r2.l.length r2.c, .slice r3.P r3.l.length r3.c, .slice r4.P r4.l.length r4.c, .slice r5.P r5.l.length r5.c, .slice r6.P r6.l.length r6.c, .slice r7.P r7.l.length r7.c]] w fun r w' => ∃ m0 m1 m2 m3 m4 m5 m6 m7 : QR, r = .returned (.agg #[.slice m0.P m0.l.length m0.c, .slice m1.P m1.l.length m1.c, .slice m2.P m2.l.length m2.c, .slice m3.P m3.l.length m3.c, .slice m4.P m4.l.length m4.c, .slice m5.P m5.l.length m5.c, .slice m6.P m6.l.length m6.c, .slice m7.P m7.l.length m7.c]) ∧ [m0, m1, m2, m3, m4, m5, m6, m7].map QR.l = [r0, r1, r2, r3, r4, r5, r6, r7].map QR.l ∧ FreshQ w' w.heap.size [m0, m1, m2, m3, m4, m5, m6, m7] ∧ Below w.heap.size w w' := by
 have hbx := boxQ w r0 r1 r2 r3 r4 r5 r6 r7
 have hb1 : Below (w.heap.size + 1) (w.alloc (.cells #[.slice r0.P r0.l.length r0.c, .slice r1.P r1.l.length r1.c, .slice r2.P r2.l.length r2.c, .slice r3.P r3.l.length r3.c, .slice r4.P r4.l.length r4.c, .slice r5.P r5.l.length r5.c, .slice r6.P r6.l.length r6.c, .slice r7.P r7.l.length r7.c] 28)) (((w.alloc (.cells #[.slice r0.P r0.l.length r0.c, .slice r1.P r1.l.length r1.c, .slice r2.P r2.l.length r2.c, .slice r3.P r3.l.length r3.c, .slice r4.P r4.l.length r4.c, .slice r5.P r5.l.length r5.c, .slice r6.P r6.l.length r6.c, .slice r7.P r7.l.length r7.c] 28)).alloc (.cells #[.slice none 0 0, .slice none 0 0, .slice none 0 0, .slice none 0 0, .slice none 0 0, .slice none 0 0, .slice none 0 0, .slice none 0 0] 28)).alloc (.cells #[.slice none 0 0, .slice none 0 0, .slice none 0 0, .slice none 0 0, .slice none 0 0, .slice none 0 0, .slice none 0 0, .slice none 0 0] 28)) := ((Below.refl _ _).alloc (by simp) _).alloc (by simp) _
 generalize hR : [r0, r1, r2, r3, r4, r5, r6, r7] = R at hbx hle hi
 have hRl : R.length = 8 := by rw [← hR]; rfl
 have hbx1 := hbx.out hb1 (fun B O e => by injection e with e; injection e with e; omega)
 have hroom : ∀ (W : World), RoomG fQ (W.alloc (.cells #[.slice none 0 0, .slice none 0 0, .slice none 0 0, .slice none 0 0, .slice none 0 0, .slice none 0 0, .slice none 0 0, .slice none 0 0] 28)) W.heap.size 8 := fun W => by
  refine ⟨fun j hj => ?_, fun j => by go_simp, by simp⟩
  have hj8 : j < 8 := hj
  match j, hj8 with
  | 0, _ => go_simp
  | 1, _ => go_simp
  | 2, _ => go_simp
  | 3, _ => go_simp
  | 4, _ => go_simp
  | 5, _ => go_simp
  | 6, _ => go_simp
  | 7, _ => go_simp
 have hr1 := (hroom (w.alloc (.cells #[.slice r0.P r0.l.length r0.c, .slice r1.P r1.l.length r1.c, .slice r2.P r2.l.length r2.c, .slice r3.P r3.l.length r3.c, .slice r4.P r4.l.length r4.c, .slice r5.P r5.l.length r5.c, .slice r6.P r6.l.length r6.c, .slice r7.P r7.l.length r7.c] 28))).below ((Below.refl _ _).alloc (Nat.le_refl _) (.cells #[.slice none 0 0, .slice none 0 0, .slice none 0 0, .slice none 0 0, .slice none 0 0, .slice none 0 0, .slice none 0 0, .slice none 0 0] 28))
 have hr2 := hroom ((w.alloc (.cells #[.slice r0.P r0.l.length r0.c, .slice r1.P r1.l.length r1.c, .slice r2.P r2.l.length r2.c, .slice r3.P r3.l.length r3.c, .slice r4.P r4.l.length r4.c, .slice r5.P r5.l.length r5.c, .slice r6.P r6.l.length r6.c, .slice r7.P r7.l.length r7.c] 28)).alloc (.cells #[.slice none 0 0, .slice none 0 0, .slice none 0 0, .slice none 0 0, .slice none 0 0, .slice none 0 0, .slice none 0 0, .slice none 0 0] 28))
 simp only [World.size_alloc] at hr1 hr2
 have HR : Hid _ := hR
 clear hb1 hbx hroom hR
 go_enter Tryz.func33, Tryz.ntmps33
 go_wp2
 go_loopw [4] (fun i w' => toQInv w R i w') (fun i w' => 8 - (intOf i).toNat)
 case atStart =>
  exact ⟨0, by omega, rfl, [], rfl, hbx1, LiesG.nil _ _ _, fun e he => absurd he (by simp), hr2, hr1, (by repeat (first | exact Below.refl _ _ | (refine Below.setCell ?_ (by simp; try omega) _) | (refine Below.alloc ?_ (by simp; try omega) _)))⟩
 case round =>
  clear hbx1 hr1 hr2
  obtain ⟨k, hk, rfl, M, hM, hT, hMM, hIn, hR2, hR1, hB⟩ := hrel
  by_cases hlt : k < 8
  ·have hltR : k < R.length := by omega
   have c0 := atQ0 hT hltR
   have hrow := (hi R[k] (List.getElem_mem hltR)).below hB
   have hlen := hle R[k] (List.getElem_mem hltR)
   generalize hs : R[k] = s at c0 hrow hlen
   have HS : Hid _ := hs
   clear hs
   have hk1 : (k : Int) < 8 := by omega
   have hk2 : ¬ (8 : Int) ≤ (k : Int) := by omega
   go_wp2_with ((go_at_call 61; refine (toI_any _ _ _ _ hlen hrow).mono ?_; rintro r w1 ⟨rfl, hLg, hz, hb1⟩; have hR3 := hR2.below hb1; have zz := hR3.z; obtain ⟨v0, e0⟩ := Option.isSome_iff_exists.1 (hR3.c k (by simp [fQ]; omega))))
   go_roundw
   case measure => simp [intOf]; omega
   case rel =>
    have hGw := hR2.lt
    have hMl : M.length = k := by have := congrArg List.length hM; simp at this; omega
    have e1 := (hMM.below hb1).snoc hR3 ⟨some ⟨wr.heap.size, 0, none⟩, s.l.length, s.l⟩ (by omega)
    have e2 : M.length * fQ.n = k := by rw [hMl]; exact Nat.mul_one k
    rw [e2] at e1
    have e3 := hR3.set (fQ.cel ⟨some ⟨wr.heap.size, 0, none⟩, s.l.length, s.l⟩) (O := k) (by simp [fQ]; omega)
    have hR1' := hR1.below hb1
    refine ⟨k + 1, by omega, by go_num, _, ?_, ((hT.below hb1).far (fun b o e => by injection e with e; injection e with e; omega)), e1, ?_, e3, ⟨fun j hj => by rw [World.cell?_setCell_far _ _ _ _ (by simp)]; exact hR1'.c j hj, fun j => by rw [World.frozen?_setCell]; exact hR1'.z j, by simpa using hR1'.lt⟩, ?_⟩
    ·rw [List.take_succ_eq_append_getElem hltR, List.map_append, List.map_append, hM, HS.out]; rfl
    ·intro e he
     rcases List.mem_append.1 he with he | he
     ·obtain ⟨q1, q2⟩ := hIn e he
      exact ⟨(q1.below hb1).far (fun b o e => by have := q2 b o e; omega), q2⟩
     ·rw [List.mem_singleton.1 he]
      exact ⟨hLg.far (fun b o e => by injection e with e; injection e with e; omega), fun b o e => by injection e with e; injection e with e; omega⟩
    ·refine Below.setCell ?_ (by simp; omega) _
     exact hB.trans (hb1.mono hB.size)
  ·have hk1 : ¬ (k : Int) < 8 := by omega
   obtain rfl : k = 8 := by omega
   rw [List.take_of_length_le (by omega)] at hM
   have hMl : M.length = 8 := by have := congrArg List.length hM; simp at this; omega
   obtain ⟨m0, m1, m2, m3, m4, m5, m6, m7, rfl⟩ := list8 hMl
   have zz := hR1.z
   have hGw := hR2.lt
   have c0 : wr.cell? ⟨w.heap.size + 2, 0, none⟩ = some (.slice m0.P m0.l.length m0.c) := atQ0 hMM (k := 0) (by omega)
   obtain ⟨v0, e0⟩ := Option.isSome_iff_exists.1 (hR1.c 0 (by simp [fQ]))
   have c1 : wr.cell? ⟨w.heap.size + 2, 1, none⟩ = some (.slice m1.P m1.l.length m1.c) := atQ0 hMM (k := 1) (by omega)
   obtain ⟨v1, e1⟩ := Option.isSome_iff_exists.1 (hR1.c 1 (by simp [fQ]))
   have c2 : wr.cell? ⟨w.heap.size + 2, 2, none⟩ = some (.slice m2.P m2.l.length m2.c) := atQ0 hMM (k := 2) (by omega)
   obtain ⟨v2, e2⟩ := Option.isSome_iff_exists.1 (hR1.c 2 (by simp [fQ]))
   have c3 : wr.cell? ⟨w.heap.size + 2, 3, none⟩ = some (.slice m3.P m3.l.length m3.c) := atQ0 hMM (k := 3) (by omega)
   obtain ⟨v3, e3⟩ := Option.isSome_iff_exists.1 (hR1.c 3 (by simp [fQ]))
   have c4 : wr.cell? ⟨w.heap.size + 2, 4, none⟩ = some (.slice m4.P m4.l.length m4.c) := atQ0 hMM (k := 4) (by omega)
   obtain ⟨v4, e4⟩ := Option.isSome_iff_exists.1 (hR1.c 4 (by simp [fQ]))
   have c5 : wr.cell? ⟨w.heap.size + 2, 5, none⟩ = some (.slice m5.P m5.l.length m5.c) := atQ0 hMM (k := 5) (by omega)
   obtain ⟨v5, e5⟩ := Option.isSome_iff_exists.1 (hR1.c 5 (by simp [fQ]))
   have c6 : wr.cell? ⟨w.heap.size + 2, 6, none⟩ = some (.slice m6.P m6.l.length m6.c) := atQ0 hMM (k := 6) (by omega)
   obtain ⟨v6, e6⟩ := Option.isSome_iff_exists.1 (hR1.c 6 (by simp [fQ]))
   have c7 : wr.cell? ⟨w.heap.size + 2, 7, none⟩ = some (.slice m7.P m7.l.length m7.c) := atQ0 hMM (k := 7) (by omega)
   obtain ⟨v7, e7⟩ := Option.isSome_iff_exists.1 (hR1.c 7 (by simp [fQ]))
   have hn1 : ¬ w.heap.size + 1 = w.heap.size + 2 := by omega
   have hn2 : ¬ w.heap.size + 2 = w.heap.size + 1 := by omega
   go_wp2
   refine bodyPost_ret (show (results Tryz.f33 _).run Tryz.prog _ = .ok (.agg #[.slice m0.P m0.l.length m0.c, .slice m1.P m1.l.length m1.c, .slice m2.P m2.l.length m2.c, .slice m3.P m3.l.length m3.c, .slice m4.P m4.l.length m4.c, .slice m5.P m5.l.length m5.c, .slice m6.P m6.l.length m6.c, .slice m7.P m7.l.length m7.c]) _ from by simp [results, Tryz.results33, go_sem, *]) rfl ⟨m0, m1, m2, m3, m4, m5, m6, m7, rfl, ?_, ?_, ?_⟩
   ·exact hM
   ·intro e he
    obtain ⟨q1, q2⟩ := hIn e he
    refine ⟨?_, fun b o e => by have := q2 b o e; omega⟩
    repeat (refine LiesG.far ?_ (fun b o e => by have := q2 b o e; omega))
    exact q1
   ·repeat (refine Below.setCell ?_ (by simp) _)
    exact hB

/-- How long eight rows are together. -/
def sumQ : List QR → Nat
 | [] => 0
 | e :: L => e.l.length + sumQ L
theorem sumQ_append : ∀ (L M : List QR), sumQ (L ++ M) = sumQ L + sumQ M
 | [], _ => by simp [sumQ]
 | e :: L, M => by simp [sumQ, sumQ_append L M]; omega
theorem sumQ_take (L : List QR) (k : Nat) : sumQ (L.take k) ≤ sumQ L := by
 have := sumQ_append (L.take k) (L.drop k)
 rw [List.take_append_drop] at this
 omega
theorem sumQ_mem : ∀ (L : List QR) (e : QR), e ∈ L → e.l.length ≤ sumQ L
 | x :: L, e, h => by
  rcases List.mem_cons.1 h with rfl | h
  ·simp [sumQ]
  ·have := sumQ_mem L e h; simp [sumQ]; omega

def szQInv (w : World) (R : List QR) (a : Int) (v i : Value) (w' : World) : Prop :=
 ∃ k : Nat, k ≤ 8 ∧ i = .int .i64 k ∧ v = .int .i64 (a - (sumQ (R.take k) : Int)) ∧ (sumQ (R.take k) : Int) ≤ a ∧ LiesG fQ w' (some ⟨w.heap.size, 0, none⟩) R ∧ Below w.heap.size w w'

set_option maxRecDepth 100000 in
set_option maxHeartbeats 1000000 in
theorem szQ_any (r0 r1 r2 r3 r4 r5 r6 r7 : QR) (a : Int) (w : World) (ha : 0 ≤ a) (ha2 : a ≤ 1048576) (hme : ∀ e ∈ [r0, r1, r2, r3, r4, r5, r6, r7], e.l.length ≤ 9223372036854775807) :
  Calls Tryz.prog 25 #[.agg #[.slice r0.P r0.l.length r0.c, .slice r1.P r1.l.length r1.c, .slice r2.P r2.l.length r2.c, .slice r3.P r3.l.length r3.c, .slice r4.P r4.l.length r4.c, .slice r5.P r5.l.length r5.c, .slice r6.P r6.l.length r6.c, .slice r7.P r7.l.length r7.c], .int .i64 a] w fun r w' => r = .returned (.int .i64 (szR (sumQ [r0, r1, r2, r3, r4, r5, r6, r7] : Int) a)) ∧ Below w.heap.size w w' := by
 have hbx := boxQ w r0 r1 r2 r3 r4 r5 r6 r7
 generalize hR : [r0, r1, r2, r3, r4, r5, r6, r7] = R at hbx hme ⊢
 have hRl : R.length = 8 := by rw [← hR]; rfl
 clear hR
 go_enter Tryz.func25, Tryz.ntmps25
 go_wp2
 go_loopw [1, 5] (fun v i w' => szQInv w R a v i w') (fun v i w' => 8 - (intOf i).toNat)
 case atStart => exact ⟨0, by omega, rfl, by simp [sumQ], by simp [sumQ]; omega, hbx, (Below.refl _ _).alloc (Nat.le_refl _) _⟩
 case round =>
  obtain ⟨k, hk, rfl, rfl, hle, hT, hB⟩ := hrel
  by_cases hlt : k < 8
  ·have hltR : k < R.length := by omega
   have c0 := atQ0 hT hltR
   have hml := hme R[k] (List.getElem_mem hltR)
   have hsum : sumQ (R.take (k + 1)) = sumQ (R.take k) + R[k].l.length := by rw [List.take_succ_eq_append_getElem hltR, sumQ_append]; simp [sumQ]
   have hall := sumQ_take R (k + 1)
   generalize hs : R[k] = s at c0 hml hsum
   clear hs
   have hk1 : (k : Int) < 8 := by omega
   obtain ⟨q, hq⟩ : ∃ q, a - (sumQ (R.take k) : Int) = q := ⟨_, rfl⟩
   have hq0 : 0 ≤ q := by omega
   have hq2 : q ≤ 1048576 := by omega
   rw [hq]
   by_cases hs2 : (s.l.length : Int) ≤ q
   ·have HC : Hid _ := (fun w => szI_any s.P s.c s.l.length q w hq0 hq2 hml)
    rw [szR_pos hs2] at HC
    have h3 : ¬ q - (s.l.length : Int) < 0 := by omega
    have h4 : 0 ≤ q - (s.l.length : Int) := by omega
    have HQ : Hid _ := hq
    have HU : Hid _ := hsum
    clear hq hsum
    go_wp2_with ((go_at_call 51; refine (HC.out _).mono ?_; rintro r w1 ⟨rfl, rfl⟩))
    go_roundw
    case rel => exact ⟨k + 1, by omega, by go_num, by have := HQ.out; have := HU.out; congr 1; omega, by have := HQ.out; have := HU.out; omega, hT, hB⟩
    case measure => simp [intOf]; omega
   ·have HC : Hid _ := (fun w => szI_any s.P s.c s.l.length q w hq0 hq2 hml)
    rw [szR_neg hs2] at HC
    have HQ : Hid _ := hq
    have HU : Hid _ := hsum
    clear hq hsum
    go_wp2_with ((go_at_call 51; refine (HC.out _).mono ?_; rintro r w1 ⟨rfl, rfl⟩))
    go_ret
    exact ⟨ret_int (szR_neg (by have := HQ.out; have := HU.out; omega)).symm, hB⟩
  ·have hk1 : ¬ (k : Int) < 8 := by omega
   rw [List.take_of_length_le (by omega)] at hle ⊢
   obtain ⟨q, hq⟩ : ∃ q, a - (sumQ R : Int) = q := ⟨_, rfl⟩
   rw [hq]
   have HQ : Hid _ := hq
   clear hq
   go_wp2
   go_ret
   exact ⟨ret_int (by rw [szR_pos (by omega)]; have := HQ.out; omega), hB⟩

def sameQInv (w : World) (R M : List QR) (i : Value) (w' : World) : Prop :=
 ∃ k : Nat, k ≤ 8 ∧ i = .int .i64 k ∧ sameTo (R.map QR.l) (M.map QR.l) k ∧ LiesG fQ w' (some ⟨w.heap.size, 0, none⟩) R ∧ LiesG fQ w' (some ⟨w.heap.size + 1, 0, none⟩) M ∧ w.heap.size + 1 < w'.heap.size ∧ Below w.heap.size w w'

set_option maxRecDepth 100000 in
set_option maxHeartbeats 2000000 in
theorem eqQ_any (r0 r1 r2 r3 r4 r5 r6 r7 m0 m1 m2 m3 m4 m5 m6 m7 : QR) (w : World) (hle : ∀ e ∈ [r0, r1, r2, r3, r4, r5, r6, r7], e.l.length ≤ 1048576) (hme : ∀ e ∈ [m0, m1, m2, m3, m4, m5, m6, m7], e.l.length ≤ 1048576) (iP : InQ w [r0, r1, r2, r3, r4, r5, r6, r7]) (iQ : InQ w [m0, m1, m2, m3, m4, m5, m6, m7]) :
  Calls Tryz.prog 41 #[.agg #[.slice r0.P r0.l.length r0.c, .slice r1.P r1.l.length r1.c, .slice r2.P r2.l.length r2.c, .slice r3.P r3.l.length r3.c, .slice r4.P r4.l.length r4.c, .slice r5.P r5.l.length r5.c, .slice r6.P r6.l.length r6.c, .slice r7.P r7.l.length r7.c], .agg #[.slice m0.P m0.l.length m0.c, .slice m1.P m1.l.length m1.c, .slice m2.P m2.l.length m2.c, .slice m3.P m3.l.length m3.c, .slice m4.P m4.l.length m4.c, .slice m5.P m5.l.length m5.c, .slice m6.P m6.l.length m6.c, .slice m7.P m7.l.length m7.c]] w fun r w' => r = .returned (.bool (decide ([r0, r1, r2, r3, r4, r5, r6, r7].map QR.l = [m0, m1, m2, m3, m4, m5, m6, m7].map QR.l))) ∧ Below w.heap.size w w' := by
 have hbx := (boxQ w r0 r1 r2 r3 r4 r5 r6 r7).below ((Below.refl _ _).alloc (Nat.le_refl _) (.cells #[.slice m0.P m0.l.length m0.c, .slice m1.P m1.l.length m1.c, .slice m2.P m2.l.length m2.c, .slice m3.P m3.l.length m3.c, .slice m4.P m4.l.length m4.c, .slice m5.P m5.l.length m5.c, .slice m6.P m6.l.length m6.c, .slice m7.P m7.l.length m7.c] 28))
 have hby := boxQ (w.alloc (.cells #[.slice r0.P r0.l.length r0.c, .slice r1.P r1.l.length r1.c, .slice r2.P r2.l.length r2.c, .slice r3.P r3.l.length r3.c, .slice r4.P r4.l.length r4.c, .slice r5.P r5.l.length r5.c, .slice r6.P r6.l.length r6.c, .slice r7.P r7.l.length r7.c] 28)) m0 m1 m2 m3 m4 m5 m6 m7
 rw [World.size_alloc] at hby
 generalize hR : [r0, r1, r2, r3, r4, r5, r6, r7] = R at hbx hle iP ⊢
 generalize hM : [m0, m1, m2, m3, m4, m5, m6, m7] = M at hby hme iQ ⊢
 have hRl : R.length = 8 := by rw [← hR]; rfl
 have hMl : M.length = 8 := by rw [← hM]; rfl
 clear hR hM
 go_enter Tryz.func41, Tryz.ntmps41
 go_wp2
 go_loopw [5] (fun i w' => sameQInv w R M i w') (fun i w' => 8 - (intOf i).toNat)
 case atStart => exact ⟨0, by omega, rfl, rfl, hbx, hby, by simp, (by repeat (first | exact Below.refl _ _ | (refine Below.setCell ?_ (by simp; try omega) _) | (refine Below.alloc ?_ (by simp; try omega) _)))⟩
 case round =>
  clear hbx hby
  obtain ⟨k, hk, rfl, hsm, hT, hU, hz, hB⟩ := hrel
  by_cases hlt : k < 8
  ·have hltR : k < R.length := by omega
   have hltM : k < M.length := by omega
   have c0 := atQ0 hT hltR
   have d0 := atQ0 hU hltM
   have r1 := (iP R[k] (List.getElem_mem hltR)).below hB
   have r2 := (iQ M[k] (List.getElem_mem hltM)).below hB
   have g1 := hle R[k] (List.getElem_mem hltR)
   have g2 := hme M[k] (List.getElem_mem hltM)
   generalize hx : R[k] = x at c0 r1 g1
   generalize hy : M[k] = y at d0 r2 g2
   have HX : Hid _ := hx
   have HY : Hid _ := hy
   clear hx hy
   have hk1 : (k : Int) < 8 := by omega
   cases he : decide (x.l = y.l)
   ·have HC : Hid _ := (fun W (hb : Below wr.heap.size wr W) => he ▸ eqI_law x.P y.P x.c y.c x.l y.l W g1 g2 (r1.below hb) (r2.below hb))
    have HE : Hid _ := he
    clear he
    go_wp2
    go_region_held3 (fun w' => w'.cell? ⟨w.heap.size, k, none⟩ = some (.slice x.P x.l.length x.c) ∧ w'.cell? ⟨w.heap.size + 1, k, none⟩ = some (.slice y.P y.l.length y.c)) (first | assumption | go_keep)
     ((go_at_call 78; refine (HC.out _ ((Below.refl _ _).drew)).mono ?_; rintro r w1 ⟨rfl, hb3⟩; have s1 : w1.cell? ⟨w.heap.size, k, none⟩ = some (.slice x.P x.l.length x.c) ∧ w1.cell? ⟨w.heap.size + 1, k, none⟩ = some (.slice y.P y.l.length y.c) := ⟨((bcell hb3).1 _ _ (Nat.lt_of_succ_lt hz)).trans c0, ((bcell hb3).1 _ _ hz).trans d0⟩))
    all_goals go_wp2
    all_goals go_ret
    exact ⟨ret_bool (decide_eq_false (ne_at (k := k) (by simpa using hltR) (by simpa using hltM) (by simp [HX.out, HY.out]; simpa using HE.out))).symm, hB.trans ((Below.trans ((Below.refl _ wr).drew) hb3).mono hB.size)⟩
   ·have HC : Hid _ := (fun W (hb : Below wr.heap.size wr W) => he ▸ eqI_law x.P y.P x.c y.c x.l y.l W g1 g2 (r1.below hb) (r2.below hb))
    have HE : Hid _ := he
    clear he
    go_wp2
    go_region_held3 (fun w' => w'.cell? ⟨w.heap.size, k, none⟩ = some (.slice x.P x.l.length x.c) ∧ w'.cell? ⟨w.heap.size + 1, k, none⟩ = some (.slice y.P y.l.length y.c)) (first | assumption | go_keep)
     ((go_at_call 78; refine (HC.out _ ((Below.refl _ _).drew)).mono ?_; rintro r w1 ⟨rfl, hb3⟩; have s1 : w1.cell? ⟨w.heap.size, k, none⟩ = some (.slice x.P x.l.length x.c) ∧ w1.cell? ⟨w.heap.size + 1, k, none⟩ = some (.slice y.P y.l.length y.c) := ⟨((bcell hb3).1 _ _ (Nat.lt_of_succ_lt hz)).trans c0, ((bcell hb3).1 _ _ hz).trans d0⟩))
    all_goals go_wp2
    all_goals go_roundw
    case rel =>
     have hb4 : Below wr.heap.size wr w1 := Below.trans ((Below.refl _ wr).drew) hb3
     exact ⟨k + 1, by omega, by go_num, sameTo_next hsm (by simpa using hltR) (by simpa using hltM) (by simp [HX.out, HY.out]; simpa using HE.out), hT.below hb4, hU.below hb4, Nat.lt_of_lt_of_le hz hb4.size, hB.trans (hb4.mono hB.size)⟩
    case measure => simp [intOf]; omega
  ·have hk1 : ¬ (k : Int) < 8 := by omega
   go_wp2
   go_ret
   exact ⟨ret_bool (decide_eq_true (sameTo_end hsm (by simp; omega) (by simp; omega))).symm, hB⟩

end Go.Proofs.YtigpbjcmmgdiaaaGreat
