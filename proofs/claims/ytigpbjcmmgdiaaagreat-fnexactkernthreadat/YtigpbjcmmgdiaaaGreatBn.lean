/-
  Texts of the proof, put together: NestE, NestN, NestF.
-/
import Derived.Test.YtigpbjcmmgdiaaaGreatInts
import Derived.Laws.ResultCell
import Derived.Deep.RegionHeld3
/-
 KernEnd: copies, sizes and compares of one and of a row of them.
-/
namespace Go.Proofs.YtigpbjcmmgdiaaaGreat
open Go.ChangeShapes Go.WideShapes Go.ChangeAt Go.RowKit
set_option linter.unusedVariables false

/-- One, with where its row lies. -/
structure QE where
 ad : Int
 kd : Int
 P : Option Addr
 c : Nat
 l : List Int
/-- What it says. -/
def QE.pl (e : QE) : Int × Int × List Int := (e.ad, e.kd, e.l)
/-- The same, its row anew. -/
def QE.re (e : QE) (g : Nat) : QE := ⟨e.ad, e.kd, some ⟨g, 0, none⟩, e.l.length, e.l⟩
def fE : Form QE := ⟨3, fun e => [.int .i64 e.ad, .int .i64 e.kd, .slice e.P e.l.length e.c], fun _ => rfl, by decide⟩
/-- The rows of all. -/
def InE (W : World) (L : List QE) : Prop := ∀ e ∈ L, LiesG fI W e.P e.l
theorem InE.below {W W' : World} {L : List QE} (h : InE W L) (hb : Below W.heap.size W W') : InE W' L := fun e he => (h e he).below hb

set_option maxRecDepth 100000 in
set_option maxHeartbeats 2000000 in
theorem toE1_any (e : QE) (w : World) (hl : e.l.length ≤ 1048576) (h : LiesG fI w e.P e.l) :
  Calls Tryz.prog 58 #[.agg #[.int .i64 e.ad, .int .i64 e.kd, .slice e.P e.l.length e.c]] w fun r w' => ∃ g, r = .returned (.agg #[.int .i64 e.ad, .int .i64 e.kd, .slice (some ⟨g, 0, none⟩) e.l.length e.l.length]) ∧ w.heap.size ≤ g ∧ g < w'.heap.size ∧ LiesG fI w' (some ⟨g, 0, none⟩) e.l ∧ Below w.heap.size w w' := by
 go_enter Tryz.func58, Tryz.ntmps58
 go_wp2_with ((go_at_call 61; refine (toI_any _ _ _ _ hl (h.below (by repeat (first | exact Below.refl _ _ | (refine Below.setCell ?_ (by simp; try omega) _) | (refine Below.alloc ?_ (by simp; try omega) _))))).mono ?_; rintro r w1 ⟨rfl, hL, hz, hb⟩; obtain ⟨hc, hf⟩ := bcell hb; have hz1 : w.heap.size + 3 ≤ w1.heap.size := (by have := hb.size; simp at this; omega)))
 simp only [World.size_alloc] at hL hz
 have hn1 : ¬ w.heap.size + 1 = w.heap.size + 1 + 1 := by omega
 have hn2 : ¬ w.heap.size + 1 + 1 = w.heap.size + 1 := by omega
 refine bodyPost_ret (show (results Tryz.f58 _).run Tryz.prog _ = .ok (.agg #[.int .i64 e.ad, .int .i64 e.kd, .slice (some ⟨w.heap.size + 1 + 1 + 1, 0, none⟩) e.l.length e.l.length]) _ from by simp [results, Tryz.results58, go_sem, *]) rfl ⟨_, rfl, ?_, ?_, ?_, ?_⟩
 ·omega
 ·simp; omega
 ·repeat (refine LiesG.far ?_ (fun b o e => by injection e with e; injection e with e; omega))
  exact hL
 ·repeat (refine Below.setCell ?_ (by simp; try omega) _)
  refine Below.trans ?_ (hb.mono (by simp; omega))
  exact (by repeat (first | exact Below.refl _ _ | (refine Below.setCell ?_ (by simp; try omega) _) | (refine Below.alloc ?_ (by simp; try omega) _)))

theorem atE {W : World} {B O : Nat} {L : List QE} (h : LiesG fE W (some ⟨B, O, none⟩) L) {k : Nat} (hk : k < L.length) : W.cell? ⟨B, O + k * 3, none⟩ = some (.int .i64 L[k].ad) ∧ W.cell? ⟨B, O + k * 3 + 1, none⟩ = some (.int .i64 L[k].kd) ∧ W.cell? ⟨B, O + k * 3 + 2, none⟩ = some (.slice L[k].P L[k].l.length L[k].c) :=
 ⟨by have := h.at hk 0 _ rfl; simpa [fE] using this, by have := h.at hk 1 _ rfl; simpa [fE] using this, by have := h.at hk 2 _ rfl; simpa [fE] using this⟩
theorem infoE : (Tryz.prog.info? 114).map (fun i => (i.zero, i.size, i.bytes)) = some (some (.agg #[.int .i64 0, .int .i64 0, .slice none 0 0]), 3, 40) := by kernel_rfl
theorem makeE (n : Nat) (hn : n ≤ 1048577) (w : World) :
  (Instr.makeSlice 38 (.int .i64 (n : Int)) (.int .i64 (n : Int))).run Tryz.prog w = .ok (.slice (some ⟨w.heap.size, 0, none⟩) n n) (w.alloc (.cells (madeCells #[.int .i64 0, .int .i64 0, .slice none 0 0] (n * fE.n)) 114)) := by
 obtain ⟨i, hi, hzz⟩ := Option.map_eq_some_iff.1 infoE
 simp only [Prod.mk.injEq] at hzz
 obtain ⟨hz, hs, hb⟩ := hzz
 have := run_make (P := Tryz.prog) w 38 114 i _ Tryz.underlying38 hi hz .i64 .i64 n n (by omega) (Int.le_refl _) (by rw [hb]; omega) (by omega)
 rw [hs] at this
 exact this

/-- What stands between two rounds: the first k are copied, each with a row of its own. -/
def toEInv (w : World) (L : List QE) (i : Value) (w' : World) : Prop :=
 ∃ k : Nat, k ≤ L.length ∧ i = .int .i64 k ∧ ∃ M : List QE, M.map QE.pl = (L.take k).map QE.pl ∧ LiesG fE w' (some ⟨w.heap.size, 0, none⟩) M ∧ (∀ e ∈ M, LiesG fI w' e.P e.l ∧ ∀ B O, e.P = some ⟨B, O, none⟩ → w.heap.size < B) ∧ RoomG fE w' w.heap.size L.length ∧ Below w.heap.size w w'

set_option maxRecDepth 100000 in
set_option maxHeartbeats 2000000 in
theorem toE_any (P : Option Addr) (c : Nat) (L : List QE) (w : World) (hl : L.length ≤ 1048576) (hle : ∀ e ∈ L, e.l.length ≤ 1048576) (h : LiesG fE w P L) (hi : InE w L) :
  Calls Tryz.prog 30 #[.slice P L.length c] w fun r w' => ∃ M : List QE, r = .returned (.slice (some ⟨w.heap.size, 0, none⟩) L.length L.length) ∧ M.map QE.pl = L.map QE.pl ∧ LiesG fE w' (some ⟨w.heap.size, 0, none⟩) M ∧ (∀ e ∈ M, LiesG fI w' e.P e.l ∧ ∀ B O, e.P = some ⟨B, O, none⟩ → w.heap.size < B) ∧ w.heap.size < w'.heap.size ∧ Below w.heap.size w w' := by
 have hmk := makeE L.length (by omega)
 go_enter Tryz.func30, Tryz.ntmps30
 go_wp2
 go_loopw [4] (fun i w' => toEInv w L i w') (fun i w' => L.length - (intOf i).toNat)
 case atStart =>
  exact ⟨0, Nat.zero_le _, rfl, [], rfl, LiesG.nil _ _ _, fun e he => absurd he (by simp), RoomG.new _ _ _ _ _, (Below.refl _ _).alloc (Nat.le_refl _) _⟩
 case round =>
  clear hmk
  obtain ⟨k, hk, rfl, M, hM, hT, hIn, hR, hB⟩ := hrel
  have hL := h.below hB
  by_cases hlt : k < L.length
  ·obtain ⟨B, O, rfl⟩ := hL.has hlt
   have cc := atE hL hlt
   have hrow := (hi L[k] (List.getElem_mem hlt)).below hB
   have hlen := hle L[k] (List.getElem_mem hlt)
   generalize hs : L[k] = s at cc hrow hlen
   have HS : Hid _ := hs
   clear hs
   obtain ⟨c0, c1, c2⟩ := cc
   have hk1 : (k : Int) < (L.length : Int) := by omega
   go_wp2_with (first
    | (go_at_call 58; refine (toE1_any s _ hlen hrow).mono ?_; rintro r w1 ⟨g, rfl, hg, hg1, hLg, hb1⟩; have hR1 := hR.below hb1; have zz := hR1.z; obtain ⟨v0, e0⟩ := Option.isSome_iff_exists.1 (hR1.c (k * 3) (by simp [fE]; omega)); obtain ⟨v1, e1⟩ := Option.isSome_iff_exists.1 (hR1.c (k * 3 + 1) (by simp [fE]; omega)); obtain ⟨v2, e2⟩ := Option.isSome_iff_exists.1 (hR1.c (k * 3 + 2) (by simp [fE]; omega))))
   go_roundw
   case measure => simp [intOf]; omega
   case rel =>
    have hGw : w.heap.size < wr.heap.size := hR.lt
    have hMl : M.length = k := by have := congrArg List.length hM; simp at this; omega
    have e1 := (hT.below hb1).snoc hR1 (s.re g) (by omega)
    rw [hMl] at e1
    have e3 := hR1.set (fE.cel (s.re g)) (O := k * 3) (by simp [fE]; omega)
    refine ⟨k + 1, by omega, by go_num, M ++ [(s.re g)], ?_, e1, ?_, e3, ?_⟩
    ·rw [List.take_succ_eq_append_getElem hlt, List.map_append, List.map_append, hM, HS.out]; rfl
    ·intro e he
     rcases List.mem_append.1 he with he | he
     ·obtain ⟨q1, q2⟩ := hIn e he
      refine ⟨?_, q2⟩
      repeat (refine LiesG.far ?_ (fun b o e => by have := q2 b o e; omega))
      exact q1.below hb1
     ·rw [List.mem_singleton.1 he]
      refine ⟨?_, fun b o e => by injection e with e; injection e with e; omega⟩
      repeat (refine LiesG.far ?_ (fun b o e => by injection e with e; injection e with e; omega))
      exact hLg
    ·repeat (refine Below.setCell ?_ (by simp) _)
     exact hB.trans (hb1.mono hB.size)
  ·go_wp2
   go_ret
   rw [List.take_of_length_le (by omega)] at hM
   exact ⟨M, rfl, hM, hT, hIn, hR.lt, hB⟩

set_option maxRecDepth 100000 in
set_option maxHeartbeats 1000000 in
theorem szE1_any (e : QE) (a : Int) (w : World) (ha : 0 ≤ a) (ha2 : a ≤ 1048576) (hm : e.l.length ≤ 9223372036854775807) :
  Calls Tryz.prog 48 #[.agg #[.int .i64 e.ad, .int .i64 e.kd, .slice e.P e.l.length e.c], .int .i64 a] w fun r w' => r = .returned (.int .i64 (szR (e.l.length : Int) a)) ∧ Below w.heap.size w w' := by
 by_cases h : (e.l.length : Int) ≤ a
 ·have h1 : ¬ a - (e.l.length : Int) < 0 := by omega
  have h2 : 0 ≤ a - (e.l.length : Int) := by omega
  have HC : Hid _ := (fun w => szI_any e.P e.c e.l.length a w ha ha2 hm)
  rw [szR_pos h] at HC ⊢
  go_enter Tryz.func48, Tryz.ntmps48
  go_wp2_with ((go_at_call 51; refine (HC.out _).mono ?_; rintro r w1 ⟨rfl, rfl⟩))
  go_ret
  exact ⟨rfl, (Below.refl _ _).alloc (Nat.le_refl _) _⟩
 ·have HC : Hid _ := (fun w => szI_any e.P e.c e.l.length a w ha ha2 hm)
  rw [szR_neg h] at HC ⊢
  go_enter Tryz.func48, Tryz.ntmps48
  go_wp2_with ((go_at_call 51; refine (HC.out _).mono ?_; rintro r w1 ⟨rfl, rfl⟩))
  go_ret
  exact ⟨rfl, (Below.refl _ _).alloc (Nat.le_refl _) _⟩

/-- How long all rows are together. -/
def sumE : List QE → Nat
 | [] => 0
 | e :: L => e.l.length + sumE L
theorem sumE_append : ∀ (L M : List QE), sumE (L ++ M) = sumE L + sumE M
 | [], _ => by simp [sumE]
 | e :: L, M => by simp [sumE, sumE_append L M]; omega
theorem sumE_take (L : List QE) (k : Nat) : sumE (L.take k) ≤ sumE L := by
 have := sumE_append (L.take k) (L.drop k)
 rw [List.take_append_drop] at this
 omega
theorem sumE_mem : ∀ (L : List QE) (e : QE), e ∈ L → e.l.length ≤ sumE L
 | x :: L, e, h => by
  rcases List.mem_cons.1 h with rfl | h
  ·simp [sumE]
  ·have := sumE_mem L e h; simp [sumE]; omega

def szEInv (w : World) (L : List QE) (a : Int) (v i : Value) (w' : World) : Prop :=
 ∃ k : Nat, k ≤ L.length ∧ i = .int .i64 k ∧ v = .int .i64 (a - ((L.length + sumE (L.take k) : Nat) : Int)) ∧ ((L.length + sumE (L.take k) : Nat) : Int) ≤ a ∧ Below w.heap.size w w'

set_option maxRecDepth 100000 in
set_option maxHeartbeats 1000000 in
theorem szE_any (P : Option Addr) (c : Nat) (L : List QE) (a : Int) (w : World) (ha : 0 ≤ a) (ha2 : a ≤ 1048576) (hm : L.length ≤ 9223372036854775807) (hme : ∀ e ∈ L, e.l.length ≤ 9223372036854775807) (h : LiesG fE w P L) :
  Calls Tryz.prog 22 #[.slice P L.length c, .int .i64 a] w fun r w' => r = .returned (.int .i64 (szR ((L.length + sumE L : Nat) : Int) a)) ∧ Below w.heap.size w w' := by
 by_cases hn : (L.length : Int) ≤ a
 ·have h1 : ¬ a - (L.length : Int) < 0 := by omega
  have h2 : 0 ≤ a - (L.length : Int) := by omega
  go_enter Tryz.func22, Tryz.ntmps22
  go_wp2
  go_loopw [1, 5] (fun v i w' => szEInv w L a v i w') (fun v i w' => L.length - (intOf i).toNat)
  case atStart => exact ⟨0, Nat.zero_le _, rfl, by simp [sumE], by simp [sumE]; omega, Below.refl _ _⟩
  case round =>
   obtain ⟨k, hk, rfl, rfl, hle, hB⟩ := hrel
   have hL := h.below hB
   by_cases hlt : k < L.length
   ·obtain ⟨B, O, rfl⟩ := hL.has hlt
    have cc := atE hL hlt
    have hml := hme L[k] (List.getElem_mem hlt)
    have hsum : sumE (L.take (k + 1)) = sumE (L.take k) + L[k].l.length := by rw [List.take_succ_eq_append_getElem hlt, sumE_append]; simp [sumE]
    have hall := sumE_take L (k + 1)
    generalize hs : L[k] = s at cc hml hsum
    clear hs
    obtain ⟨c0, c1, c2⟩ := cc
    have hk1 : (k : Int) < (L.length : Int) := by omega
    obtain ⟨q, hq⟩ : ∃ q, a - ((L.length + sumE (L.take k) : Nat) : Int) = q := ⟨_, rfl⟩
    have hq0 : 0 ≤ q := by omega
    have hq2 : q ≤ 1048576 := by omega
    rw [hq]
    by_cases hs2 : (s.l.length : Int) ≤ q
    ·have HC : Hid _ := (fun w => szE1_any s q w hq0 hq2 hml)
     rw [szR_pos hs2] at HC
     have h3 : ¬ q - (s.l.length : Int) < 0 := by omega
     have h4 : 0 ≤ q - (s.l.length : Int) := by omega
     have HQ : Hid _ := hq
     have HU : Hid _ := hsum
     clear hq hsum
     go_wp2_with ((go_at_call 48; refine (HC.out _).mono ?_; rintro r w1 ⟨rfl, hb1⟩))
     go_roundw
     case rel => exact ⟨k + 1, by omega, by go_num, by have := HQ.out; have := HU.out; congr 1; omega, by have := HQ.out; have := HU.out; omega, hB.trans (hb1.mono hB.size)⟩
     case measure => simp [intOf]; omega
    ·have HC : Hid _ := (fun w => szE1_any s q w hq0 hq2 hml)
     rw [szR_neg hs2] at HC
     have HQ : Hid _ := hq
     have HU : Hid _ := hsum
     clear hq hsum
     go_wp2_with ((go_at_call 48; refine (HC.out _).mono ?_; rintro r w1 ⟨rfl, hb1⟩))
     go_ret
     exact ⟨ret_int (szR_neg (by have := HQ.out; have := HU.out; omega)).symm, hB.trans (hb1.mono hB.size)⟩
   ·have hk1 : ¬ (k : Int) < (L.length : Int) := by omega
    rw [List.take_of_length_le (by omega)] at hle ⊢
    obtain ⟨q, hq⟩ : ∃ q, a - ((L.length + sumE L : Nat) : Int) = q := ⟨_, rfl⟩
    rw [hq]
    have HQ : Hid _ := hq
    clear hq
    go_wp2
    go_ret
    exact ⟨ret_int (by rw [szR_pos (by omega)]; have := HQ.out; omega), hB⟩
 ·have h1 : a - (L.length : Int) < 0 := by omega
  go_enter Tryz.func22, Tryz.ntmps22
  go_wp2
  go_ret
  exact ⟨ret_int (szR_neg (by omega)).symm, Below.refl _ _⟩

set_option maxRecDepth 100000 in
set_option maxHeartbeats 1000000 in
theorem eqE1_same (e : QE) (Q : Option Addr) (d : Nat) (w : World) (hl : e.l.length ≤ 1048576) (hP : LiesG fI w e.P e.l) (hQ : LiesG fI w Q e.l) :
  Calls Tryz.prog 75 #[.agg #[.int .i64 e.ad, .int .i64 e.kd, .slice e.P e.l.length e.c], .agg #[.int .i64 e.ad, .int .i64 e.kd, .slice Q e.l.length d]] w fun r w' => r = .returned (.bool true) ∧ Below w.heap.size w w' := by
 have HC : Hid _ := (fun W (hb : Below w.heap.size w W) => (decide_eq_true (rfl : e.l = e.l)) ▸ eqI_law e.P Q e.c d e.l e.l W hl hl (hP.below hb) (hQ.below hb))
 go_enter Tryz.func75, Tryz.ntmps75
 go_wp2_with ((go_at_call 78; refine (HC.out _ (by repeat (first | exact Below.refl _ _ | (refine Below.setCell ?_ (by simp; try omega) _) | (refine Below.alloc ?_ (by simp; try omega) _)))).mono ?_; rintro r w1 ⟨rfl, hb⟩))
 go_ret
 exact ⟨rfl, Below.trans (by repeat (first | exact Below.refl _ _ | (refine Below.setCell ?_ (by simp; try omega) _) | (refine Below.alloc ?_ (by simp; try omega) _))) (hb.mono (by simp; try omega))⟩

def eqEInv (w : World) (L : List QE) (i : Value) (w' : World) : Prop :=
 ∃ k : Nat, k ≤ L.length ∧ i = .int .i64 k ∧ Below w.heap.size w w'

set_option maxRecDepth 100000 in
set_option maxHeartbeats 2000000 in
theorem eqE_same (P Q : Option Addr) (c d : Nat) (L M : List QE) (w : World) (hl : L.length ≤ 1048576) (hLM : L.map QE.pl = M.map QE.pl) (hle : ∀ e ∈ L, e.l.length ≤ 1048576) (hP : LiesG fE w P L) (hQ : LiesG fE w Q M) (iP : InE w L) (iQ : InE w M) :
  Calls Tryz.prog 38 #[.slice P L.length c, .slice Q L.length d] w fun r w' => r = .returned (.bool true) ∧ Below w.heap.size w w' := by
 have hn : M.length = L.length := by have := congrArg List.length hLM; simpa using this.symm
 go_enter Tryz.func38, Tryz.ntmps38
 go_wp2
 go_loopw [5] (fun i w' => eqEInv w L i w') (fun i w' => L.length - (intOf i).toNat)
 case atStart => exact ⟨0, Nat.zero_le _, rfl, Below.refl _ _⟩
 case round =>
  obtain ⟨k, hk, rfl, hB⟩ := hrel
  have hP1 := hP.below hB
  have hQ1 := hQ.below hB
  by_cases hlt : k < L.length
  ·have hlt2 : k < M.length := by omega
   obtain ⟨B, O, rfl⟩ := hP1.has hlt
   obtain ⟨B2, O2, rfl⟩ := hQ1.has hlt2
   have cc := atE hP1 hlt
   have dd := atE hQ1 hlt2
   have r1 := (iP L[k] (List.getElem_mem hlt)).below hB
   have r2 := (iQ M[k] (List.getElem_mem hlt2)).below hB
   have g1 := hle L[k] (List.getElem_mem hlt)
   have hpl : L[k].pl = M[k].pl := by
    have e1 : (L.map QE.pl)[k]? = (M.map QE.pl)[k]? := by rw [hLM]
    simpa [List.getElem?_map, List.getElem?_eq_getElem hlt, List.getElem?_eq_getElem hlt2] using e1
   have hk1 : (k : Int) < (L.length : Int) := by omega
   generalize hx : L[k] = x at cc r1 g1 hpl
   generalize hy : M[k] = y at dd r2 hpl
   simp only [QE.pl, Prod.mk.injEq] at hpl
   obtain ⟨p0, p1, p2⟩ := hpl
   rw [← p0, ← p1, ← p2] at dd
   rw [← p2] at r2
   clear p0 p1 p2 hx
   obtain ⟨c0, c1, c2⟩ := cc
   obtain ⟨d0, d1, d2⟩ := dd
   obtain ⟨yP, hyP⟩ : ∃ q, y.P = q := ⟨_, rfl⟩
   obtain ⟨yc, hyc⟩ : ∃ q, y.c = q := ⟨_, rfl⟩
   rw [hyP] at r2
   rw [hyP, hyc] at d2
   clear hy hyP hyc hn hLM
   have hb1 := hP1.lt hlt
   have hb2 := hQ1.lt hlt2
   go_wp2
   go_region_held3 (fun w' => (w'.cell? ⟨B, O + k * 3, none⟩ = some (.int .i64 x.ad) ∧ w'.cell? ⟨B, O + k * 3 + 1, none⟩ = some (.int .i64 x.kd) ∧ w'.cell? ⟨B, O + k * 3 + 2, none⟩ = some (.slice x.P x.l.length x.c)) ∧ (w'.cell? ⟨B2, O2 + k * 3, none⟩ = some (.int .i64 x.ad) ∧ w'.cell? ⟨B2, O2 + k * 3 + 1, none⟩ = some (.int .i64 x.kd) ∧ w'.cell? ⟨B2, O2 + k * 3 + 2, none⟩ = some (.slice yP x.l.length yc))) (first | assumption | go_keep)
    ((go_at_call 75; refine (eqE1_same x yP yc _ g1 r1.drew r2.drew).mono ?_; rintro r w1 ⟨rfl, hb3⟩; have s1 : (w1.cell? ⟨B, O + k * 3, none⟩ = some (.int .i64 x.ad) ∧ w1.cell? ⟨B, O + k * 3 + 1, none⟩ = some (.int .i64 x.kd) ∧ w1.cell? ⟨B, O + k * 3 + 2, none⟩ = some (.slice x.P x.l.length x.c)) ∧ (w1.cell? ⟨B2, O2 + k * 3, none⟩ = some (.int .i64 x.ad) ∧ w1.cell? ⟨B2, O2 + k * 3 + 1, none⟩ = some (.int .i64 x.kd) ∧ w1.cell? ⟨B2, O2 + k * 3 + 2, none⟩ = some (.slice yP x.l.length yc)) := ⟨⟨((bcell hb3).1 _ _ hb1).trans c0, ((bcell hb3).1 _ _ hb1).trans c1, ((bcell hb3).1 _ _ hb1).trans c2⟩, ⟨((bcell hb3).1 _ _ hb2).trans d0, ((bcell hb3).1 _ _ hb2).trans d1, ((bcell hb3).1 _ _ hb2).trans d2⟩⟩))
   all_goals go_wp2
   all_goals go_roundw
   case rel => exact ⟨k + 1, by omega, by go_num, hB.trans ((Below.trans ((Below.refl _ wr).drew) hb3).mono hB.size)⟩
   case measure => simp [intOf]; omega
  ·have hk1 : ¬ (k : Int) < (L.length : Int) := by omega
   go_wp2
   go_ret
   exact ⟨rfl, hB⟩

end Go.Proofs.YtigpbjcmmgdiaaaGreat
/-
 KernNote: copies, sizes and compares of one and of a row of them.
-/
namespace Go.Proofs.YtigpbjcmmgdiaaaGreat
open Go.ChangeShapes Go.WideShapes Go.ChangeAt Go.RowKit
set_option linter.unusedVariables false

/-- One, with where its row lies. -/
structure QN where
 ad : Int
 ac : Bool
 wd : Int
 P : Option Addr
 c : Nat
 l : List Int
/-- What it says. -/
def QN.pl (e : QN) : Int × Bool × Int × List Int := (e.ad, e.ac, e.wd, e.l)
/-- The same, its row anew. -/
def QN.re (e : QN) (g : Nat) : QN := ⟨e.ad, e.ac, e.wd, some ⟨g, 0, none⟩, e.l.length, e.l⟩
def fN : Form QN := ⟨4, fun e => [.int .i64 e.ad, .bool e.ac, .int .i64 e.wd, .slice e.P e.l.length e.c], fun _ => rfl, by decide⟩
/-- The rows of all. -/
def InN (W : World) (L : List QN) : Prop := ∀ e ∈ L, LiesG fI W e.P e.l
theorem InN.below {W W' : World} {L : List QN} (h : InN W L) (hb : Below W.heap.size W W') : InN W' L := fun e he => (h e he).below hb

set_option maxRecDepth 100000 in
set_option maxHeartbeats 2000000 in
theorem toN1_any (e : QN) (w : World) (hl : e.l.length ≤ 1048576) (h : LiesG fI w e.P e.l) :
  Calls Tryz.prog 59 #[.agg #[.int .i64 e.ad, .bool e.ac, .int .i64 e.wd, .slice e.P e.l.length e.c]] w fun r w' => ∃ g, r = .returned (.agg #[.int .i64 e.ad, .bool e.ac, .int .i64 e.wd, .slice (some ⟨g, 0, none⟩) e.l.length e.l.length]) ∧ w.heap.size ≤ g ∧ g < w'.heap.size ∧ LiesG fI w' (some ⟨g, 0, none⟩) e.l ∧ Below w.heap.size w w' := by
 go_enter Tryz.func59, Tryz.ntmps59
 go_wp2_with ((go_at_call 61; refine (toI_any _ _ _ _ hl (h.below (by repeat (first | exact Below.refl _ _ | (refine Below.setCell ?_ (by simp; try omega) _) | (refine Below.alloc ?_ (by simp; try omega) _))))).mono ?_; rintro r w1 ⟨rfl, hL, hz, hb⟩; obtain ⟨hc, hf⟩ := bcell hb; have hz1 : w.heap.size + 3 ≤ w1.heap.size := (by have := hb.size; simp at this; omega)))
 simp only [World.size_alloc] at hL hz
 have hn1 : ¬ w.heap.size + 1 = w.heap.size + 1 + 1 := by omega
 have hn2 : ¬ w.heap.size + 1 + 1 = w.heap.size + 1 := by omega
 refine bodyPost_ret (show (results Tryz.f59 _).run Tryz.prog _ = .ok (.agg #[.int .i64 e.ad, .bool e.ac, .int .i64 e.wd, .slice (some ⟨w.heap.size + 1 + 1 + 1, 0, none⟩) e.l.length e.l.length]) _ from by simp [results, Tryz.results59, go_sem, *]) rfl ⟨_, rfl, ?_, ?_, ?_, ?_⟩
 ·omega
 ·simp; omega
 ·repeat (refine LiesG.far ?_ (fun b o e => by injection e with e; injection e with e; omega))
  exact hL
 ·repeat (refine Below.setCell ?_ (by simp; try omega) _)
  refine Below.trans ?_ (hb.mono (by simp; omega))
  exact (by repeat (first | exact Below.refl _ _ | (refine Below.setCell ?_ (by simp; try omega) _) | (refine Below.alloc ?_ (by simp; try omega) _)))

theorem atN {W : World} {B O : Nat} {L : List QN} (h : LiesG fN W (some ⟨B, O, none⟩) L) {k : Nat} (hk : k < L.length) : W.cell? ⟨B, O + k * 4, none⟩ = some (.int .i64 L[k].ad) ∧ W.cell? ⟨B, O + k * 4 + 1, none⟩ = some (.bool L[k].ac) ∧ W.cell? ⟨B, O + k * 4 + 2, none⟩ = some (.int .i64 L[k].wd) ∧ W.cell? ⟨B, O + k * 4 + 3, none⟩ = some (.slice L[k].P L[k].l.length L[k].c) :=
 ⟨by have := h.at hk 0 _ rfl; simpa [fN] using this, by have := h.at hk 1 _ rfl; simpa [fN] using this, by have := h.at hk 2 _ rfl; simpa [fN] using this, by have := h.at hk 3 _ rfl; simpa [fN] using this⟩
theorem infoN : (Tryz.prog.info? 116).map (fun i => (i.zero, i.size, i.bytes)) = some (some (.agg #[.int .i64 0, .bool false, .int .i64 0, .slice none 0 0]), 4, 48) := by kernel_rfl
theorem makeN (n : Nat) (hn : n ≤ 1048577) (w : World) :
  (Instr.makeSlice 39 (.int .i64 (n : Int)) (.int .i64 (n : Int))).run Tryz.prog w = .ok (.slice (some ⟨w.heap.size, 0, none⟩) n n) (w.alloc (.cells (madeCells #[.int .i64 0, .bool false, .int .i64 0, .slice none 0 0] (n * fN.n)) 116)) := by
 obtain ⟨i, hi, hzz⟩ := Option.map_eq_some_iff.1 infoN
 simp only [Prod.mk.injEq] at hzz
 obtain ⟨hz, hs, hb⟩ := hzz
 have := run_make (P := Tryz.prog) w 39 116 i _ Tryz.underlying39 hi hz .i64 .i64 n n (by omega) (Int.le_refl _) (by rw [hb]; omega) (by omega)
 rw [hs] at this
 exact this

/-- What stands between two rounds: the first k are copied, each with a row of its own. -/
def toNInv (w : World) (L : List QN) (i : Value) (w' : World) : Prop :=
 ∃ k : Nat, k ≤ L.length ∧ i = .int .i64 k ∧ ∃ M : List QN, M.map QN.pl = (L.take k).map QN.pl ∧ LiesG fN w' (some ⟨w.heap.size, 0, none⟩) M ∧ (∀ e ∈ M, LiesG fI w' e.P e.l ∧ ∀ B O, e.P = some ⟨B, O, none⟩ → w.heap.size < B) ∧ RoomG fN w' w.heap.size L.length ∧ Below w.heap.size w w'

set_option maxRecDepth 100000 in
set_option maxHeartbeats 2000000 in
theorem toN_any (P : Option Addr) (c : Nat) (L : List QN) (w : World) (hl : L.length ≤ 1048576) (hle : ∀ e ∈ L, e.l.length ≤ 1048576) (h : LiesG fN w P L) (hi : InN w L) :
  Calls Tryz.prog 31 #[.slice P L.length c] w fun r w' => ∃ M : List QN, r = .returned (.slice (some ⟨w.heap.size, 0, none⟩) L.length L.length) ∧ M.map QN.pl = L.map QN.pl ∧ LiesG fN w' (some ⟨w.heap.size, 0, none⟩) M ∧ (∀ e ∈ M, LiesG fI w' e.P e.l ∧ ∀ B O, e.P = some ⟨B, O, none⟩ → w.heap.size < B) ∧ w.heap.size < w'.heap.size ∧ Below w.heap.size w w' := by
 have hmk := makeN L.length (by omega)
 go_enter Tryz.func31, Tryz.ntmps31
 go_wp2
 go_loopw [4] (fun i w' => toNInv w L i w') (fun i w' => L.length - (intOf i).toNat)
 case atStart =>
  exact ⟨0, Nat.zero_le _, rfl, [], rfl, LiesG.nil _ _ _, fun e he => absurd he (by simp), RoomG.new _ _ _ _ _, (Below.refl _ _).alloc (Nat.le_refl _) _⟩
 case round =>
  clear hmk
  obtain ⟨k, hk, rfl, M, hM, hT, hIn, hR, hB⟩ := hrel
  have hL := h.below hB
  by_cases hlt : k < L.length
  ·obtain ⟨B, O, rfl⟩ := hL.has hlt
   have cc := atN hL hlt
   have hrow := (hi L[k] (List.getElem_mem hlt)).below hB
   have hlen := hle L[k] (List.getElem_mem hlt)
   generalize hs : L[k] = s at cc hrow hlen
   have HS : Hid _ := hs
   clear hs
   obtain ⟨c0, c1, c2, c3⟩ := cc
   have hk1 : (k : Int) < (L.length : Int) := by omega
   go_wp2_with (first
    | (go_at_call 59; refine (toN1_any s _ hlen hrow).mono ?_; rintro r w1 ⟨g, rfl, hg, hg1, hLg, hb1⟩; have hR1 := hR.below hb1; have zz := hR1.z; obtain ⟨v0, e0⟩ := Option.isSome_iff_exists.1 (hR1.c (k * 4) (by simp [fN]; omega)); obtain ⟨v1, e1⟩ := Option.isSome_iff_exists.1 (hR1.c (k * 4 + 1) (by simp [fN]; omega)); obtain ⟨v2, e2⟩ := Option.isSome_iff_exists.1 (hR1.c (k * 4 + 2) (by simp [fN]; omega)); obtain ⟨v3, e3⟩ := Option.isSome_iff_exists.1 (hR1.c (k * 4 + 3) (by simp [fN]; omega))))
   go_roundw
   case measure => simp [intOf]; omega
   case rel =>
    have hGw : w.heap.size < wr.heap.size := hR.lt
    have hMl : M.length = k := by have := congrArg List.length hM; simp at this; omega
    have e1 := (hT.below hb1).snoc hR1 (s.re g) (by omega)
    rw [hMl] at e1
    have e3 := hR1.set (fN.cel (s.re g)) (O := k * 4) (by simp [fN]; omega)
    refine ⟨k + 1, by omega, by go_num, M ++ [(s.re g)], ?_, e1, ?_, e3, ?_⟩
    ·rw [List.take_succ_eq_append_getElem hlt, List.map_append, List.map_append, hM, HS.out]; rfl
    ·intro e he
     rcases List.mem_append.1 he with he | he
     ·obtain ⟨q1, q2⟩ := hIn e he
      refine ⟨?_, q2⟩
      repeat (refine LiesG.far ?_ (fun b o e => by have := q2 b o e; omega))
      exact q1.below hb1
     ·rw [List.mem_singleton.1 he]
      refine ⟨?_, fun b o e => by injection e with e; injection e with e; omega⟩
      repeat (refine LiesG.far ?_ (fun b o e => by injection e with e; injection e with e; omega))
      exact hLg
    ·repeat (refine Below.setCell ?_ (by simp) _)
     exact hB.trans (hb1.mono hB.size)
  ·go_wp2
   go_ret
   rw [List.take_of_length_le (by omega)] at hM
   exact ⟨M, rfl, hM, hT, hIn, hR.lt, hB⟩

set_option maxRecDepth 100000 in
set_option maxHeartbeats 1000000 in
theorem szN1_any (e : QN) (a : Int) (w : World) (ha : 0 ≤ a) (ha2 : a ≤ 1048576) (hm : e.l.length ≤ 9223372036854775807) :
  Calls Tryz.prog 49 #[.agg #[.int .i64 e.ad, .bool e.ac, .int .i64 e.wd, .slice e.P e.l.length e.c], .int .i64 a] w fun r w' => r = .returned (.int .i64 (szR (e.l.length : Int) a)) ∧ Below w.heap.size w w' := by
 by_cases h : (e.l.length : Int) ≤ a
 ·have h1 : ¬ a - (e.l.length : Int) < 0 := by omega
  have h2 : 0 ≤ a - (e.l.length : Int) := by omega
  have HC : Hid _ := (fun w => szI_any e.P e.c e.l.length a w ha ha2 hm)
  rw [szR_pos h] at HC ⊢
  go_enter Tryz.func49, Tryz.ntmps49
  go_wp2_with ((go_at_call 51; refine (HC.out _).mono ?_; rintro r w1 ⟨rfl, rfl⟩))
  go_ret
  exact ⟨rfl, (Below.refl _ _).alloc (Nat.le_refl _) _⟩
 ·have HC : Hid _ := (fun w => szI_any e.P e.c e.l.length a w ha ha2 hm)
  rw [szR_neg h] at HC ⊢
  go_enter Tryz.func49, Tryz.ntmps49
  go_wp2_with ((go_at_call 51; refine (HC.out _).mono ?_; rintro r w1 ⟨rfl, rfl⟩))
  go_ret
  exact ⟨rfl, (Below.refl _ _).alloc (Nat.le_refl _) _⟩

/-- How long all rows are together. -/
def sumN : List QN → Nat
 | [] => 0
 | e :: L => e.l.length + sumN L
theorem sumN_append : ∀ (L M : List QN), sumN (L ++ M) = sumN L + sumN M
 | [], _ => by simp [sumN]
 | e :: L, M => by simp [sumN, sumN_append L M]; omega
theorem sumN_take (L : List QN) (k : Nat) : sumN (L.take k) ≤ sumN L := by
 have := sumN_append (L.take k) (L.drop k)
 rw [List.take_append_drop] at this
 omega
theorem sumN_mem : ∀ (L : List QN) (e : QN), e ∈ L → e.l.length ≤ sumN L
 | x :: L, e, h => by
  rcases List.mem_cons.1 h with rfl | h
  ·simp [sumN]
  ·have := sumN_mem L e h; simp [sumN]; omega

def szNInv (w : World) (L : List QN) (a : Int) (v i : Value) (w' : World) : Prop :=
 ∃ k : Nat, k ≤ L.length ∧ i = .int .i64 k ∧ v = .int .i64 (a - ((L.length + sumN (L.take k) : Nat) : Int)) ∧ ((L.length + sumN (L.take k) : Nat) : Int) ≤ a ∧ Below w.heap.size w w'

set_option maxRecDepth 100000 in
set_option maxHeartbeats 1000000 in
theorem szN_any (P : Option Addr) (c : Nat) (L : List QN) (a : Int) (w : World) (ha : 0 ≤ a) (ha2 : a ≤ 1048576) (hm : L.length ≤ 9223372036854775807) (hme : ∀ e ∈ L, e.l.length ≤ 9223372036854775807) (h : LiesG fN w P L) :
  Calls Tryz.prog 23 #[.slice P L.length c, .int .i64 a] w fun r w' => r = .returned (.int .i64 (szR ((L.length + sumN L : Nat) : Int) a)) ∧ Below w.heap.size w w' := by
 by_cases hn : (L.length : Int) ≤ a
 ·have h1 : ¬ a - (L.length : Int) < 0 := by omega
  have h2 : 0 ≤ a - (L.length : Int) := by omega
  go_enter Tryz.func23, Tryz.ntmps23
  go_wp2
  go_loopw [1, 5] (fun v i w' => szNInv w L a v i w') (fun v i w' => L.length - (intOf i).toNat)
  case atStart => exact ⟨0, Nat.zero_le _, rfl, by simp [sumN], by simp [sumN]; omega, Below.refl _ _⟩
  case round =>
   obtain ⟨k, hk, rfl, rfl, hle, hB⟩ := hrel
   have hL := h.below hB
   by_cases hlt : k < L.length
   ·obtain ⟨B, O, rfl⟩ := hL.has hlt
    have cc := atN hL hlt
    have hml := hme L[k] (List.getElem_mem hlt)
    have hsum : sumN (L.take (k + 1)) = sumN (L.take k) + L[k].l.length := by rw [List.take_succ_eq_append_getElem hlt, sumN_append]; simp [sumN]
    have hall := sumN_take L (k + 1)
    generalize hs : L[k] = s at cc hml hsum
    clear hs
    obtain ⟨c0, c1, c2, c3⟩ := cc
    have hk1 : (k : Int) < (L.length : Int) := by omega
    obtain ⟨q, hq⟩ : ∃ q, a - ((L.length + sumN (L.take k) : Nat) : Int) = q := ⟨_, rfl⟩
    have hq0 : 0 ≤ q := by omega
    have hq2 : q ≤ 1048576 := by omega
    rw [hq]
    by_cases hs2 : (s.l.length : Int) ≤ q
    ·have HC : Hid _ := (fun w => szN1_any s q w hq0 hq2 hml)
     rw [szR_pos hs2] at HC
     have h3 : ¬ q - (s.l.length : Int) < 0 := by omega
     have h4 : 0 ≤ q - (s.l.length : Int) := by omega
     have HQ : Hid _ := hq
     have HU : Hid _ := hsum
     clear hq hsum
     go_wp2_with ((go_at_call 49; refine (HC.out _).mono ?_; rintro r w1 ⟨rfl, hb1⟩))
     go_roundw
     case rel => exact ⟨k + 1, by omega, by go_num, by have := HQ.out; have := HU.out; congr 1; omega, by have := HQ.out; have := HU.out; omega, hB.trans (hb1.mono hB.size)⟩
     case measure => simp [intOf]; omega
    ·have HC : Hid _ := (fun w => szN1_any s q w hq0 hq2 hml)
     rw [szR_neg hs2] at HC
     have HQ : Hid _ := hq
     have HU : Hid _ := hsum
     clear hq hsum
     go_wp2_with ((go_at_call 49; refine (HC.out _).mono ?_; rintro r w1 ⟨rfl, hb1⟩))
     go_ret
     exact ⟨ret_int (szR_neg (by have := HQ.out; have := HU.out; omega)).symm, hB.trans (hb1.mono hB.size)⟩
   ·have hk1 : ¬ (k : Int) < (L.length : Int) := by omega
    rw [List.take_of_length_le (by omega)] at hle ⊢
    obtain ⟨q, hq⟩ : ∃ q, a - ((L.length + sumN L : Nat) : Int) = q := ⟨_, rfl⟩
    rw [hq]
    have HQ : Hid _ := hq
    clear hq
    go_wp2
    go_ret
    exact ⟨ret_int (by rw [szR_pos (by omega)]; have := HQ.out; omega), hB⟩
 ·have h1 : a - (L.length : Int) < 0 := by omega
  go_enter Tryz.func23, Tryz.ntmps23
  go_wp2
  go_ret
  exact ⟨ret_int (szR_neg (by omega)).symm, Below.refl _ _⟩

set_option maxRecDepth 100000 in
set_option maxHeartbeats 1000000 in
theorem eqN1_same (e : QN) (Q : Option Addr) (d : Nat) (w : World) (hl : e.l.length ≤ 1048576) (hP : LiesG fI w e.P e.l) (hQ : LiesG fI w Q e.l) :
  Calls Tryz.prog 76 #[.agg #[.int .i64 e.ad, .bool e.ac, .int .i64 e.wd, .slice e.P e.l.length e.c], .agg #[.int .i64 e.ad, .bool e.ac, .int .i64 e.wd, .slice Q e.l.length d]] w fun r w' => r = .returned (.bool true) ∧ Below w.heap.size w w' := by
 have HC : Hid _ := (fun W (hb : Below w.heap.size w W) => (decide_eq_true (rfl : e.l = e.l)) ▸ eqI_law e.P Q e.c d e.l e.l W hl hl (hP.below hb) (hQ.below hb))
 go_enter Tryz.func76, Tryz.ntmps76
 go_wp2_with ((go_at_call 78; refine (HC.out _ (by repeat (first | exact Below.refl _ _ | (refine Below.setCell ?_ (by simp; try omega) _) | (refine Below.alloc ?_ (by simp; try omega) _)))).mono ?_; rintro r w1 ⟨rfl, hb⟩))
 go_ret
 exact ⟨rfl, Below.trans (by repeat (first | exact Below.refl _ _ | (refine Below.setCell ?_ (by simp; try omega) _) | (refine Below.alloc ?_ (by simp; try omega) _))) (hb.mono (by simp; try omega))⟩

def eqNInv (w : World) (L : List QN) (i : Value) (w' : World) : Prop :=
 ∃ k : Nat, k ≤ L.length ∧ i = .int .i64 k ∧ Below w.heap.size w w'

set_option maxRecDepth 100000 in
set_option maxHeartbeats 2000000 in
theorem eqN_same (P Q : Option Addr) (c d : Nat) (L M : List QN) (w : World) (hl : L.length ≤ 1048576) (hLM : L.map QN.pl = M.map QN.pl) (hle : ∀ e ∈ L, e.l.length ≤ 1048576) (hP : LiesG fN w P L) (hQ : LiesG fN w Q M) (iP : InN w L) (iQ : InN w M) :
  Calls Tryz.prog 39 #[.slice P L.length c, .slice Q L.length d] w fun r w' => r = .returned (.bool true) ∧ Below w.heap.size w w' := by
 have hn : M.length = L.length := by have := congrArg List.length hLM; simpa using this.symm
 go_enter Tryz.func39, Tryz.ntmps39
 go_wp2
 go_loopw [5] (fun i w' => eqNInv w L i w') (fun i w' => L.length - (intOf i).toNat)
 case atStart => exact ⟨0, Nat.zero_le _, rfl, Below.refl _ _⟩
 case round =>
  obtain ⟨k, hk, rfl, hB⟩ := hrel
  have hP1 := hP.below hB
  have hQ1 := hQ.below hB
  by_cases hlt : k < L.length
  ·have hlt2 : k < M.length := by omega
   obtain ⟨B, O, rfl⟩ := hP1.has hlt
   obtain ⟨B2, O2, rfl⟩ := hQ1.has hlt2
   have cc := atN hP1 hlt
   have dd := atN hQ1 hlt2
   have r1 := (iP L[k] (List.getElem_mem hlt)).below hB
   have r2 := (iQ M[k] (List.getElem_mem hlt2)).below hB
   have g1 := hle L[k] (List.getElem_mem hlt)
   have hpl : L[k].pl = M[k].pl := by
    have e1 : (L.map QN.pl)[k]? = (M.map QN.pl)[k]? := by rw [hLM]
    simpa [List.getElem?_map, List.getElem?_eq_getElem hlt, List.getElem?_eq_getElem hlt2] using e1
   have hk1 : (k : Int) < (L.length : Int) := by omega
   generalize hx : L[k] = x at cc r1 g1 hpl
   generalize hy : M[k] = y at dd r2 hpl
   simp only [QN.pl, Prod.mk.injEq] at hpl
   obtain ⟨p0, p1, p2, p3⟩ := hpl
   rw [← p0, ← p1, ← p2, ← p3] at dd
   rw [← p3] at r2
   clear p0 p1 p2 p3 hx
   obtain ⟨c0, c1, c2, c3⟩ := cc
   obtain ⟨d0, d1, d2, d3⟩ := dd
   obtain ⟨yP, hyP⟩ : ∃ q, y.P = q := ⟨_, rfl⟩
   obtain ⟨yc, hyc⟩ : ∃ q, y.c = q := ⟨_, rfl⟩
   rw [hyP] at r2
   rw [hyP, hyc] at d3
   clear hy hyP hyc hn hLM
   have hb1 := hP1.lt hlt
   have hb2 := hQ1.lt hlt2
   go_wp2
   go_region_held3 (fun w' => (w'.cell? ⟨B, O + k * 4, none⟩ = some (.int .i64 x.ad) ∧ w'.cell? ⟨B, O + k * 4 + 1, none⟩ = some (.bool x.ac) ∧ w'.cell? ⟨B, O + k * 4 + 2, none⟩ = some (.int .i64 x.wd) ∧ w'.cell? ⟨B, O + k * 4 + 3, none⟩ = some (.slice x.P x.l.length x.c)) ∧ (w'.cell? ⟨B2, O2 + k * 4, none⟩ = some (.int .i64 x.ad) ∧ w'.cell? ⟨B2, O2 + k * 4 + 1, none⟩ = some (.bool x.ac) ∧ w'.cell? ⟨B2, O2 + k * 4 + 2, none⟩ = some (.int .i64 x.wd) ∧ w'.cell? ⟨B2, O2 + k * 4 + 3, none⟩ = some (.slice yP x.l.length yc))) (first | assumption | go_keep)
    ((go_at_call 76; refine (eqN1_same x yP yc _ g1 r1.drew r2.drew).mono ?_; rintro r w1 ⟨rfl, hb3⟩; have s1 : (w1.cell? ⟨B, O + k * 4, none⟩ = some (.int .i64 x.ad) ∧ w1.cell? ⟨B, O + k * 4 + 1, none⟩ = some (.bool x.ac) ∧ w1.cell? ⟨B, O + k * 4 + 2, none⟩ = some (.int .i64 x.wd) ∧ w1.cell? ⟨B, O + k * 4 + 3, none⟩ = some (.slice x.P x.l.length x.c)) ∧ (w1.cell? ⟨B2, O2 + k * 4, none⟩ = some (.int .i64 x.ad) ∧ w1.cell? ⟨B2, O2 + k * 4 + 1, none⟩ = some (.bool x.ac) ∧ w1.cell? ⟨B2, O2 + k * 4 + 2, none⟩ = some (.int .i64 x.wd) ∧ w1.cell? ⟨B2, O2 + k * 4 + 3, none⟩ = some (.slice yP x.l.length yc)) := ⟨⟨((bcell hb3).1 _ _ hb1).trans c0, ((bcell hb3).1 _ _ hb1).trans c1, ((bcell hb3).1 _ _ hb1).trans c2, ((bcell hb3).1 _ _ hb1).trans c3⟩, ⟨((bcell hb3).1 _ _ hb2).trans d0, ((bcell hb3).1 _ _ hb2).trans d1, ((bcell hb3).1 _ _ hb2).trans d2, ((bcell hb3).1 _ _ hb2).trans d3⟩⟩))
   all_goals go_wp2
   all_goals go_roundw
   case rel => exact ⟨k + 1, by omega, by go_num, hB.trans ((Below.trans ((Below.refl _ wr).drew) hb3).mono hB.size)⟩
   case measure => simp [intOf]; omega
  ·have hk1 : ¬ (k : Int) < (L.length : Int) := by omega
   go_wp2
   go_ret
   exact ⟨rfl, hB⟩

end Go.Proofs.YtigpbjcmmgdiaaaGreat
/-
 KernFrame: copies, sizes and compares of one and of a row of them.
-/
namespace Go.Proofs.YtigpbjcmmgdiaaaGreat
open Go.ChangeShapes Go.WideShapes Go.ChangeAt Go.RowKit
set_option linter.unusedVariables false

/-- One, with where its row lies. -/
structure QF where
 ad : Int
 P : Option Addr
 c : Nat
 l : List Int
/-- What it says. -/
def QF.pl (e : QF) : Int × List Int := (e.ad, e.l)
/-- The same, its row anew. -/
def QF.re (e : QF) (g : Nat) : QF := ⟨e.ad, some ⟨g, 0, none⟩, e.l.length, e.l⟩
def fF : Form QF := ⟨2, fun e => [.int .i64 e.ad, .slice e.P e.l.length e.c], fun _ => rfl, by decide⟩
/-- The rows of all. -/
def InF (W : World) (L : List QF) : Prop := ∀ e ∈ L, LiesG fU W e.P e.l
theorem InF.below {W W' : World} {L : List QF} (h : InF W L) (hb : Below W.heap.size W W') : InF W' L := fun e he => (h e he).below hb

set_option maxRecDepth 100000 in
set_option maxHeartbeats 2000000 in
theorem toF1_any (e : QF) (w : World) (hl : e.l.length ≤ 1048576) (h : LiesG fU w e.P e.l) :
  Calls Tryz.prog 60 #[.agg #[.int .i64 e.ad, .slice e.P e.l.length e.c]] w fun r w' => ∃ g, r = .returned (.agg #[.int .i64 e.ad, .slice (some ⟨g, 0, none⟩) e.l.length e.l.length]) ∧ w.heap.size ≤ g ∧ g < w'.heap.size ∧ LiesG fU w' (some ⟨g, 0, none⟩) e.l ∧ Below w.heap.size w w' := by
 go_enter Tryz.func60, Tryz.ntmps60
 go_wp2_with ((go_at_call 98; refine (toU_any _ _ _ _ hl (h.below (by repeat (first | exact Below.refl _ _ | (refine Below.setCell ?_ (by simp; try omega) _) | (refine Below.alloc ?_ (by simp; try omega) _))))).mono ?_; rintro r w1 ⟨rfl, hL, hz, hb⟩; obtain ⟨hc, hf⟩ := bcell hb; have hz1 : w.heap.size + 3 ≤ w1.heap.size := (by have := hb.size; simp at this; omega)))
 simp only [World.size_alloc] at hL hz
 have hn1 : ¬ w.heap.size + 1 = w.heap.size + 1 + 1 := by omega
 have hn2 : ¬ w.heap.size + 1 + 1 = w.heap.size + 1 := by omega
 refine bodyPost_ret (show (results Tryz.f60 _).run Tryz.prog _ = .ok (.agg #[.int .i64 e.ad, .slice (some ⟨w.heap.size + 1 + 1 + 1, 0, none⟩) e.l.length e.l.length]) _ from by simp [results, Tryz.results60, go_sem, *]) rfl ⟨_, rfl, ?_, ?_, ?_, ?_⟩
 ·omega
 ·simp; omega
 ·repeat (refine LiesG.far ?_ (fun b o e => by injection e with e; injection e with e; omega))
  exact hL
 ·repeat (refine Below.setCell ?_ (by simp; try omega) _)
  refine Below.trans ?_ (hb.mono (by simp; omega))
  exact (by repeat (first | exact Below.refl _ _ | (refine Below.setCell ?_ (by simp; try omega) _) | (refine Below.alloc ?_ (by simp; try omega) _)))

theorem atF {W : World} {B O : Nat} {L : List QF} (h : LiesG fF W (some ⟨B, O, none⟩) L) {k : Nat} (hk : k < L.length) : W.cell? ⟨B, O + k * 2, none⟩ = some (.int .i64 L[k].ad) ∧ W.cell? ⟨B, O + k * 2 + 1, none⟩ = some (.slice L[k].P L[k].l.length L[k].c) :=
 ⟨by have := h.at hk 0 _ rfl; simpa [fF] using this, by have := h.at hk 1 _ rfl; simpa [fF] using this⟩
theorem infoF : (Tryz.prog.info? 118).map (fun i => (i.zero, i.size, i.bytes)) = some (some (.agg #[.int .i64 0, .slice none 0 0]), 2, 32) := by kernel_rfl
theorem makeF (n : Nat) (hn : n ≤ 1048577) (w : World) :
  (Instr.makeSlice 40 (.int .i64 (n : Int)) (.int .i64 (n : Int))).run Tryz.prog w = .ok (.slice (some ⟨w.heap.size, 0, none⟩) n n) (w.alloc (.cells (madeCells #[.int .i64 0, .slice none 0 0] (n * fF.n)) 118)) := by
 obtain ⟨i, hi, hzz⟩ := Option.map_eq_some_iff.1 infoF
 simp only [Prod.mk.injEq] at hzz
 obtain ⟨hz, hs, hb⟩ := hzz
 have := run_make (P := Tryz.prog) w 40 118 i _ Tryz.underlying40 hi hz .i64 .i64 n n (by omega) (Int.le_refl _) (by rw [hb]; omega) (by omega)
 rw [hs] at this
 exact this

/-- What stands between two rounds: the first k are copied, each with a row of its own. -/
def toFInv (w : World) (L : List QF) (i : Value) (w' : World) : Prop :=
 ∃ k : Nat, k ≤ L.length ∧ i = .int .i64 k ∧ ∃ M : List QF, M.map QF.pl = (L.take k).map QF.pl ∧ LiesG fF w' (some ⟨w.heap.size, 0, none⟩) M ∧ (∀ e ∈ M, LiesG fU w' e.P e.l ∧ ∀ B O, e.P = some ⟨B, O, none⟩ → w.heap.size < B) ∧ RoomG fF w' w.heap.size L.length ∧ Below w.heap.size w w'

set_option maxRecDepth 100000 in
set_option maxHeartbeats 2000000 in
theorem toF_any (P : Option Addr) (c : Nat) (L : List QF) (w : World) (hl : L.length ≤ 1048576) (hle : ∀ e ∈ L, e.l.length ≤ 1048576) (h : LiesG fF w P L) (hi : InF w L) :
  Calls Tryz.prog 32 #[.slice P L.length c] w fun r w' => ∃ M : List QF, r = .returned (.slice (some ⟨w.heap.size, 0, none⟩) L.length L.length) ∧ M.map QF.pl = L.map QF.pl ∧ LiesG fF w' (some ⟨w.heap.size, 0, none⟩) M ∧ (∀ e ∈ M, LiesG fU w' e.P e.l ∧ ∀ B O, e.P = some ⟨B, O, none⟩ → w.heap.size < B) ∧ w.heap.size < w'.heap.size ∧ Below w.heap.size w w' := by
 have hmk := makeF L.length (by omega)
 go_enter Tryz.func32, Tryz.ntmps32
 go_wp2
 go_loopw [4] (fun i w' => toFInv w L i w') (fun i w' => L.length - (intOf i).toNat)
 case atStart =>
  exact ⟨0, Nat.zero_le _, rfl, [], rfl, LiesG.nil _ _ _, fun e he => absurd he (by simp), RoomG.new _ _ _ _ _, (Below.refl _ _).alloc (Nat.le_refl _) _⟩
 case round =>
  clear hmk
  obtain ⟨k, hk, rfl, M, hM, hT, hIn, hR, hB⟩ := hrel
  have hL := h.below hB
  by_cases hlt : k < L.length
  ·obtain ⟨B, O, rfl⟩ := hL.has hlt
   have cc := atF hL hlt
   have hrow := (hi L[k] (List.getElem_mem hlt)).below hB
   have hlen := hle L[k] (List.getElem_mem hlt)
   generalize hs : L[k] = s at cc hrow hlen
   have HS : Hid _ := hs
   clear hs
   obtain ⟨c0, c1⟩ := cc
   have hk1 : (k : Int) < (L.length : Int) := by omega
   go_wp2_with (first
    | (go_at_call 60; refine (toF1_any s _ hlen hrow).mono ?_; rintro r w1 ⟨g, rfl, hg, hg1, hLg, hb1⟩; have hR1 := hR.below hb1; have zz := hR1.z; obtain ⟨v0, e0⟩ := Option.isSome_iff_exists.1 (hR1.c (k * 2) (by simp [fF]; omega)); obtain ⟨v1, e1⟩ := Option.isSome_iff_exists.1 (hR1.c (k * 2 + 1) (by simp [fF]; omega))))
   go_roundw
   case measure => simp [intOf]; omega
   case rel =>
    have hGw : w.heap.size < wr.heap.size := hR.lt
    have hMl : M.length = k := by have := congrArg List.length hM; simp at this; omega
    have e1 := (hT.below hb1).snoc hR1 (s.re g) (by omega)
    rw [hMl] at e1
    have e3 := hR1.set (fF.cel (s.re g)) (O := k * 2) (by simp [fF]; omega)
    refine ⟨k + 1, by omega, by go_num, M ++ [(s.re g)], ?_, e1, ?_, e3, ?_⟩
    ·rw [List.take_succ_eq_append_getElem hlt, List.map_append, List.map_append, hM, HS.out]; rfl
    ·intro e he
     rcases List.mem_append.1 he with he | he
     ·obtain ⟨q1, q2⟩ := hIn e he
      refine ⟨?_, q2⟩
      repeat (refine LiesG.far ?_ (fun b o e => by have := q2 b o e; omega))
      exact q1.below hb1
     ·rw [List.mem_singleton.1 he]
      refine ⟨?_, fun b o e => by injection e with e; injection e with e; omega⟩
      repeat (refine LiesG.far ?_ (fun b o e => by injection e with e; injection e with e; omega))
      exact hLg
    ·repeat (refine Below.setCell ?_ (by simp) _)
     exact hB.trans (hb1.mono hB.size)
  ·go_wp2
   go_ret
   rw [List.take_of_length_le (by omega)] at hM
   exact ⟨M, rfl, hM, hT, hIn, hR.lt, hB⟩

set_option maxRecDepth 100000 in
set_option maxHeartbeats 1000000 in
theorem szF1_any (e : QF) (a : Int) (w : World) (ha : 0 ≤ a) (ha2 : a ≤ 1048576) (hm : e.l.length ≤ 9223372036854775807) :
  Calls Tryz.prog 50 #[.agg #[.int .i64 e.ad, .slice e.P e.l.length e.c], .int .i64 a] w fun r w' => r = .returned (.int .i64 (szR (e.l.length : Int) a)) ∧ Below w.heap.size w w' := by
 by_cases h : (e.l.length : Int) ≤ a
 ·have h1 : ¬ a - (e.l.length : Int) < 0 := by omega
  have h2 : 0 ≤ a - (e.l.length : Int) := by omega
  have HC : Hid _ := (fun w => szU_any e.P e.c e.l.length a w ha ha2 hm)
  rw [szR_pos h] at HC ⊢
  go_enter Tryz.func50, Tryz.ntmps50
  go_wp2_with ((go_at_call 83; refine (HC.out _).mono ?_; rintro r w1 ⟨rfl, rfl⟩))
  go_ret
  exact ⟨rfl, (Below.refl _ _).alloc (Nat.le_refl _) _⟩
 ·have HC : Hid _ := (fun w => szU_any e.P e.c e.l.length a w ha ha2 hm)
  rw [szR_neg h] at HC ⊢
  go_enter Tryz.func50, Tryz.ntmps50
  go_wp2_with ((go_at_call 83; refine (HC.out _).mono ?_; rintro r w1 ⟨rfl, rfl⟩))
  go_ret
  exact ⟨rfl, (Below.refl _ _).alloc (Nat.le_refl _) _⟩

/-- How long all rows are together. -/
def sumF : List QF → Nat
 | [] => 0
 | e :: L => e.l.length + sumF L
theorem sumF_append : ∀ (L M : List QF), sumF (L ++ M) = sumF L + sumF M
 | [], _ => by simp [sumF]
 | e :: L, M => by simp [sumF, sumF_append L M]; omega
theorem sumF_take (L : List QF) (k : Nat) : sumF (L.take k) ≤ sumF L := by
 have := sumF_append (L.take k) (L.drop k)
 rw [List.take_append_drop] at this
 omega
theorem sumF_mem : ∀ (L : List QF) (e : QF), e ∈ L → e.l.length ≤ sumF L
 | x :: L, e, h => by
  rcases List.mem_cons.1 h with rfl | h
  ·simp [sumF]
  ·have := sumF_mem L e h; simp [sumF]; omega

def szFInv (w : World) (L : List QF) (a : Int) (v i : Value) (w' : World) : Prop :=
 ∃ k : Nat, k ≤ L.length ∧ i = .int .i64 k ∧ v = .int .i64 (a - ((L.length + sumF (L.take k) : Nat) : Int)) ∧ ((L.length + sumF (L.take k) : Nat) : Int) ≤ a ∧ Below w.heap.size w w'

set_option maxRecDepth 100000 in
set_option maxHeartbeats 1000000 in
theorem szF_any (P : Option Addr) (c : Nat) (L : List QF) (a : Int) (w : World) (ha : 0 ≤ a) (ha2 : a ≤ 1048576) (hm : L.length ≤ 9223372036854775807) (hme : ∀ e ∈ L, e.l.length ≤ 9223372036854775807) (h : LiesG fF w P L) :
  Calls Tryz.prog 24 #[.slice P L.length c, .int .i64 a] w fun r w' => r = .returned (.int .i64 (szR ((L.length + sumF L : Nat) : Int) a)) ∧ Below w.heap.size w w' := by
 by_cases hn : (L.length : Int) ≤ a
 ·have h1 : ¬ a - (L.length : Int) < 0 := by omega
  have h2 : 0 ≤ a - (L.length : Int) := by omega
  go_enter Tryz.func24, Tryz.ntmps24
  go_wp2
  go_loopw [1, 5] (fun v i w' => szFInv w L a v i w') (fun v i w' => L.length - (intOf i).toNat)
  case atStart => exact ⟨0, Nat.zero_le _, rfl, by simp [sumF], by simp [sumF]; omega, Below.refl _ _⟩
  case round =>
   obtain ⟨k, hk, rfl, rfl, hle, hB⟩ := hrel
   have hL := h.below hB
   by_cases hlt : k < L.length
   ·obtain ⟨B, O, rfl⟩ := hL.has hlt
    have cc := atF hL hlt
    have hml := hme L[k] (List.getElem_mem hlt)
    have hsum : sumF (L.take (k + 1)) = sumF (L.take k) + L[k].l.length := by rw [List.take_succ_eq_append_getElem hlt, sumF_append]; simp [sumF]
    have hall := sumF_take L (k + 1)
    generalize hs : L[k] = s at cc hml hsum
    clear hs
    obtain ⟨c0, c1⟩ := cc
    have hk1 : (k : Int) < (L.length : Int) := by omega
    obtain ⟨q, hq⟩ : ∃ q, a - ((L.length + sumF (L.take k) : Nat) : Int) = q := ⟨_, rfl⟩
    have hq0 : 0 ≤ q := by omega
    have hq2 : q ≤ 1048576 := by omega
    rw [hq]
    by_cases hs2 : (s.l.length : Int) ≤ q
    ·have HC : Hid _ := (fun w => szF1_any s q w hq0 hq2 hml)
     rw [szR_pos hs2] at HC
     have h3 : ¬ q - (s.l.length : Int) < 0 := by omega
     have h4 : 0 ≤ q - (s.l.length : Int) := by omega
     have HQ : Hid _ := hq
     have HU : Hid _ := hsum
     clear hq hsum
     go_wp2_with ((go_at_call 50; refine (HC.out _).mono ?_; rintro r w1 ⟨rfl, hb1⟩))
     go_roundw
     case rel => exact ⟨k + 1, by omega, by go_num, by have := HQ.out; have := HU.out; congr 1; omega, by have := HQ.out; have := HU.out; omega, hB.trans (hb1.mono hB.size)⟩
     case measure => simp [intOf]; omega
    ·have HC : Hid _ := (fun w => szF1_any s q w hq0 hq2 hml)
     rw [szR_neg hs2] at HC
     have HQ : Hid _ := hq
     have HU : Hid _ := hsum
     clear hq hsum
     go_wp2_with ((go_at_call 50; refine (HC.out _).mono ?_; rintro r w1 ⟨rfl, hb1⟩))
     go_ret
     exact ⟨ret_int (szR_neg (by have := HQ.out; have := HU.out; omega)).symm, hB.trans (hb1.mono hB.size)⟩
   ·have hk1 : ¬ (k : Int) < (L.length : Int) := by omega
    rw [List.take_of_length_le (by omega)] at hle ⊢
    obtain ⟨q, hq⟩ : ∃ q, a - ((L.length + sumF L : Nat) : Int) = q := ⟨_, rfl⟩
    rw [hq]
    have HQ : Hid _ := hq
    clear hq
    go_wp2
    go_ret
    exact ⟨ret_int (by rw [szR_pos (by omega)]; have := HQ.out; omega), hB⟩
 ·have h1 : a - (L.length : Int) < 0 := by omega
  go_enter Tryz.func24, Tryz.ntmps24
  go_wp2
  go_ret
  exact ⟨ret_int (szR_neg (by omega)).symm, Below.refl _ _⟩

set_option maxRecDepth 100000 in
set_option maxHeartbeats 1000000 in
theorem eqF1_same (e : QF) (Q : Option Addr) (d : Nat) (w : World) (hl : e.l.length ≤ 1048576) (hP : LiesG fU w e.P e.l) (hQ : LiesG fU w Q e.l) :
  Calls Tryz.prog 77 #[.agg #[.int .i64 e.ad, .slice e.P e.l.length e.c], .agg #[.int .i64 e.ad, .slice Q e.l.length d]] w fun r w' => r = .returned (.bool true) ∧ Below w.heap.size w w' := by
 have HC : Hid _ := (fun W (hb : Below w.heap.size w W) => (decide_eq_true (rfl : e.l = e.l)) ▸ eqU_law e.P Q e.c d e.l e.l W hl hl (hP.below hb) (hQ.below hb))
 go_enter Tryz.func77, Tryz.ntmps77
 go_wp2_with ((go_at_call 134; refine (HC.out _ (by repeat (first | exact Below.refl _ _ | (refine Below.setCell ?_ (by simp; try omega) _) | (refine Below.alloc ?_ (by simp; try omega) _)))).mono ?_; rintro r w1 ⟨rfl, hb⟩))
 go_ret
 exact ⟨rfl, Below.trans (by repeat (first | exact Below.refl _ _ | (refine Below.setCell ?_ (by simp; try omega) _) | (refine Below.alloc ?_ (by simp; try omega) _))) (hb.mono (by simp; try omega))⟩

def eqFInv (w : World) (L : List QF) (i : Value) (w' : World) : Prop :=
 ∃ k : Nat, k ≤ L.length ∧ i = .int .i64 k ∧ Below w.heap.size w w'

set_option maxRecDepth 100000 in
set_option maxHeartbeats 2000000 in
theorem eqF_same (P Q : Option Addr) (c d : Nat) (L M : List QF) (w : World) (hl : L.length ≤ 1048576) (hLM : L.map QF.pl = M.map QF.pl) (hle : ∀ e ∈ L, e.l.length ≤ 1048576) (hP : LiesG fF w P L) (hQ : LiesG fF w Q M) (iP : InF w L) (iQ : InF w M) :
  Calls Tryz.prog 40 #[.slice P L.length c, .slice Q L.length d] w fun r w' => r = .returned (.bool true) ∧ Below w.heap.size w w' := by
 have hn : M.length = L.length := by have := congrArg List.length hLM; simpa using this.symm
 go_enter Tryz.func40, Tryz.ntmps40
 go_wp2
 go_loopw [5] (fun i w' => eqFInv w L i w') (fun i w' => L.length - (intOf i).toNat)
 case atStart => exact ⟨0, Nat.zero_le _, rfl, Below.refl _ _⟩
 case round =>
  obtain ⟨k, hk, rfl, hB⟩ := hrel
  have hP1 := hP.below hB
  have hQ1 := hQ.below hB
  by_cases hlt : k < L.length
  ·have hlt2 : k < M.length := by omega
   obtain ⟨B, O, rfl⟩ := hP1.has hlt
   obtain ⟨B2, O2, rfl⟩ := hQ1.has hlt2
   have cc := atF hP1 hlt
   have dd := atF hQ1 hlt2
   have r1 := (iP L[k] (List.getElem_mem hlt)).below hB
   have r2 := (iQ M[k] (List.getElem_mem hlt2)).below hB
   have g1 := hle L[k] (List.getElem_mem hlt)
   have hpl : L[k].pl = M[k].pl := by
    have e1 : (L.map QF.pl)[k]? = (M.map QF.pl)[k]? := by rw [hLM]
    simpa [List.getElem?_map, List.getElem?_eq_getElem hlt, List.getElem?_eq_getElem hlt2] using e1
   have hk1 : (k : Int) < (L.length : Int) := by omega
   generalize hx : L[k] = x at cc r1 g1 hpl
   generalize hy : M[k] = y at dd r2 hpl
   simp only [QF.pl, Prod.mk.injEq] at hpl
   obtain ⟨p0, p1⟩ := hpl
   rw [← p0, ← p1] at dd
   rw [← p1] at r2
   clear p0 p1 hx
   obtain ⟨c0, c1⟩ := cc
   obtain ⟨d0, d1⟩ := dd
   obtain ⟨yP, hyP⟩ : ∃ q, y.P = q := ⟨_, rfl⟩
   obtain ⟨yc, hyc⟩ : ∃ q, y.c = q := ⟨_, rfl⟩
   rw [hyP] at r2
   rw [hyP, hyc] at d1
   clear hy hyP hyc hn hLM
   have hb1 := hP1.lt hlt
   have hb2 := hQ1.lt hlt2
   go_wp2
   go_region_held3 (fun w' => (w'.cell? ⟨B, O + k * 2, none⟩ = some (.int .i64 x.ad) ∧ w'.cell? ⟨B, O + k * 2 + 1, none⟩ = some (.slice x.P x.l.length x.c)) ∧ (w'.cell? ⟨B2, O2 + k * 2, none⟩ = some (.int .i64 x.ad) ∧ w'.cell? ⟨B2, O2 + k * 2 + 1, none⟩ = some (.slice yP x.l.length yc))) (first | assumption | go_keep)
    ((go_at_call 77; refine (eqF1_same x yP yc _ g1 r1.drew r2.drew).mono ?_; rintro r w1 ⟨rfl, hb3⟩; have s1 : (w1.cell? ⟨B, O + k * 2, none⟩ = some (.int .i64 x.ad) ∧ w1.cell? ⟨B, O + k * 2 + 1, none⟩ = some (.slice x.P x.l.length x.c)) ∧ (w1.cell? ⟨B2, O2 + k * 2, none⟩ = some (.int .i64 x.ad) ∧ w1.cell? ⟨B2, O2 + k * 2 + 1, none⟩ = some (.slice yP x.l.length yc)) := ⟨⟨((bcell hb3).1 _ _ hb1).trans c0, ((bcell hb3).1 _ _ hb1).trans c1⟩, ⟨((bcell hb3).1 _ _ hb2).trans d0, ((bcell hb3).1 _ _ hb2).trans d1⟩⟩))
   all_goals go_wp2
   all_goals go_roundw
   case rel => exact ⟨k + 1, by omega, by go_num, hB.trans ((Below.trans ((Below.refl _ wr).drew) hb3).mono hB.size)⟩
   case measure => simp [intOf]; omega
  ·have hk1 : ¬ (k : Int) < (L.length : Int) := by omega
   go_wp2
   go_ret
   exact ⟨rfl, hB⟩

end Go.Proofs.YtigpbjcmmgdiaaaGreat
