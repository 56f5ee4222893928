/-
  BootLink: copies, sizes and compares of one and of a row of them.
-/
import Derived.Test.YtjiignkappabpaaDoorBootRows
import Derived.Laws.ResultCell
import Derived.Deep.RegionHeld3
namespace Go.Proofs.YtjiignkappabpaaDoor
open Go.ChangeShapes Go.WideShapes Go.ChangeAt Go.RowKit
set_option linter.unusedVariables false

/-- One, with where its row lies. -/
structure QL where
  kd : Int
  bt : Int
  P : Option Addr
  c : Nat
  l : List QO
/-- What it says. -/
def QL.pl (e : QL) : Int × Int × List QO := (e.kd, e.bt, e.l)
/-- The same, its row anew. -/
def QL.re (e : QL) (g : Nat) : QL := ⟨e.kd, e.bt, some ⟨g, 0, none⟩, e.l.length, e.l⟩
def fL : Form QL := ⟨3, fun e => [.int .i64 e.kd, .int .i64 e.bt, .slice e.P e.l.length e.c], fun _ => rfl, by decide⟩
/-- The rows of all. -/
def InL (W : World) (L : List QL) : Prop := ∀ e ∈ L, LiesG fO W e.P e.l
theorem InL.below {W W' : World} {L : List QL} (h : InL W L) (hb : Below W.heap.size W W') : InL W' L := fun e he => (h e he).below hb

set_option maxRecDepth 100000 in
set_option maxHeartbeats 2000000 in
theorem toL1_any (e : QL) (w : World) (hl : e.l.length ≤ 1048576) (h : LiesG fO w e.P e.l) :
    Calls Tryd.prog 27 #[.agg #[.int .i64 e.kd, .int .i64 e.bt, .slice e.P e.l.length e.c]] w fun r w' => ∃ g, r = .returned (.agg #[.int .i64 e.kd, .int .i64 e.bt, .slice (some ⟨g, 0, none⟩) e.l.length e.l.length]) ∧ w.heap.size ≤ g ∧ g < w'.heap.size ∧ LiesG fO w' (some ⟨g, 0, none⟩) e.l ∧ Below w.heap.size w w' := by
  go_enter Tryd.func27, Tryd.ntmps27
  go_wp2_with ((go_at_call 40; refine (toO_any _ _ _ _ hl (h.below (by repeat (first | exact Below.refl _ _ | (refine Below.setCell ?_ (by simp; try omega) _) | (refine Below.alloc ?_ (by simp; try omega) _))))).mono ?_; rintro r w1 ⟨rfl, hL, hz, hb⟩; obtain ⟨hc, hf⟩ := bcell hb; have hz1 : w.heap.size + 3 ≤ w1.heap.size := (by have := hb.size; simp at this; omega)))
  simp only [World.size_alloc] at hL hz
  have hn1 : ¬ w.heap.size + 1 = w.heap.size + 1 + 1 := by omega
  have hn2 : ¬ w.heap.size + 1 + 1 = w.heap.size + 1 := by omega
  refine bodyPost_ret (show (results Tryd.f27 _).run Tryd.prog _ = .ok (.agg #[.int .i64 e.kd, .int .i64 e.bt, .slice (some ⟨w.heap.size + 1 + 1 + 1, 0, none⟩) e.l.length e.l.length]) _ from by simp [results, Tryd.results27, go_sem, *]) rfl ⟨_, rfl, ?_, ?_, ?_, ?_⟩
  · omega
  · simp; omega
  · repeat (refine LiesG.far ?_ (fun b o e => by injection e with e; injection e with e; omega))
    exact hL
  · repeat (refine Below.setCell ?_ (by simp; try omega) _)
    refine Below.trans ?_ (hb.mono (by simp; omega))
    exact (by repeat (first | exact Below.refl _ _ | (refine Below.setCell ?_ (by simp; try omega) _) | (refine Below.alloc ?_ (by simp; try omega) _)))

theorem atL {W : World} {B O : Nat} {L : List QL} (h : LiesG fL W (some ⟨B, O, none⟩) L) {k : Nat} (hk : k < L.length) : W.cell? ⟨B, O + k * 3, none⟩ = some (.int .i64 L[k].kd) ∧ W.cell? ⟨B, O + k * 3 + 1, none⟩ = some (.int .i64 L[k].bt) ∧ W.cell? ⟨B, O + k * 3 + 2, none⟩ = some (.slice L[k].P L[k].l.length L[k].c) :=
  ⟨by have := h.at hk 0 _ rfl; simpa [fL] using this, by have := h.at hk 1 _ rfl; simpa [fL] using this, by have := h.at hk 2 _ rfl; simpa [fL] using this⟩
theorem infoL : (Tryd.prog.info? 43).map (fun i => (i.zero, i.size, i.bytes)) = some (some (.agg #[.int .i64 0, .int .i64 0, .slice none 0 0]), 3, 40) := by kernel_rfl
theorem makeL (n : Nat) (hn : n ≤ 1048577) (w : World) :
    (Instr.makeSlice 29 (.int .i64 (n : Int)) (.int .i64 (n : Int))).run Tryd.prog w = .ok (.slice (some ⟨w.heap.size, 0, none⟩) n n) (w.alloc (.cells (madeCells #[.int .i64 0, .int .i64 0, .slice none 0 0] (n * fL.n)) 43)) := by
  obtain ⟨i, hi, hzz⟩ := Option.map_eq_some_iff.1 infoL
  simp only [Prod.mk.injEq] at hzz
  obtain ⟨hz, hs, hb⟩ := hzz
  have := run_make (P := Tryd.prog) w 29 43 i _ Tryd.underlying29 hi hz .i64 .i64 n n (by omega) (Int.le_refl _) (by rw [hb]; omega) (by omega)
  rw [hs] at this
  exact this

/-- What stands between two rounds: the first k are copied, each with a row of its own. -/
def toLInv (w : World) (L : List QL) (i : Value) (w' : World) : Prop :=
  ∃ k : Nat, k ≤ L.length ∧ i = .int .i64 k ∧ ∃ M : List QL, M.map QL.pl = (L.take k).map QL.pl ∧ LiesG fL w' (some ⟨w.heap.size, 0, none⟩) M ∧ (∀ e ∈ M, LiesG fO w' e.P e.l ∧ ∀ B O, e.P = some ⟨B, O, none⟩ → w.heap.size < B) ∧ RoomG fL w' w.heap.size L.length ∧ Below w.heap.size w w'

set_option maxRecDepth 100000 in
set_option maxHeartbeats 2000000 in
theorem toL_any (P : Option Addr) (c : Nat) (L : List QL) (w : World) (hl : L.length ≤ 1048576) (hle : ∀ e ∈ L, e.l.length ≤ 1048576) (h : LiesG fL w P L) (hi : InL w L) :
    Calls Tryd.prog 16 #[.slice P L.length c] w fun r w' => ∃ M : List QL, r = .returned (.slice (some ⟨w.heap.size, 0, none⟩) L.length L.length) ∧ M.map QL.pl = L.map QL.pl ∧ LiesG fL w' (some ⟨w.heap.size, 0, none⟩) M ∧ (∀ e ∈ M, LiesG fO w' e.P e.l ∧ ∀ B O, e.P = some ⟨B, O, none⟩ → w.heap.size < B) ∧ w.heap.size < w'.heap.size ∧ Below w.heap.size w w' := by
  have hmk := makeL L.length (by omega)
  go_enter Tryd.func16, Tryd.ntmps16
  go_wp2
  go_loopw [4] (fun i w' => toLInv w L i w') (fun i w' => L.length - (intOf i).toNat)
  case atStart =>
    exact ⟨0, Nat.zero_le _, rfl, [], rfl, LiesG.nil _ _ _, fun e he => absurd he (by simp), RoomG.new _ _ _ _ _, (Below.refl _ _).alloc (Nat.le_refl _) _⟩
  case round =>
    clear hmk
    obtain ⟨k, hk, rfl, M, hM, hT, hIn, hR, hB⟩ := hrel
    have hL := h.below hB
    by_cases hlt : k < L.length
    · obtain ⟨B, O, rfl⟩ := hL.has hlt
      have cc := atL hL hlt
      have hrow := (hi L[k] (List.getElem_mem hlt)).below hB
      have hlen := hle L[k] (List.getElem_mem hlt)
      generalize hs : L[k] = s at cc hrow hlen
      have HS : Hid _ := hs
      clear hs
      obtain ⟨c0, c1, c2⟩ := cc
      have hk1 : (k : Int) < (L.length : Int) := by omega
      go_wp2_with (first
        | (go_at_call 27; refine (toL1_any s _ hlen hrow).mono ?_; rintro r w1 ⟨g, rfl, hg, hg1, hLg, hb1⟩; have hR1 := hR.below hb1; have zz := hR1.z; obtain ⟨v0, e0⟩ := Option.isSome_iff_exists.1 (hR1.c (k * 3) (by simp [fL]; omega)); obtain ⟨v1, e1⟩ := Option.isSome_iff_exists.1 (hR1.c (k * 3 + 1) (by simp [fL]; omega)); obtain ⟨v2, e2⟩ := Option.isSome_iff_exists.1 (hR1.c (k * 3 + 2) (by simp [fL]; omega))))
      go_roundw
      case measure => simp [intOf]; omega
      case rel =>
        have hGw : w.heap.size < wr.heap.size := hR.lt
        have hMl : M.length = k := by have := congrArg List.length hM; simp at this; omega
        have e1 := (hT.below hb1).snoc hR1 (s.re g) (by omega)
        rw [hMl] at e1
        have e3 := hR1.set (fL.cel (s.re g)) (O := k * 3) (by simp [fL]; omega)
        refine ⟨k + 1, by omega, by go_num, M ++ [(s.re g)], ?_, e1, ?_, e3, ?_⟩
        · rw [List.take_succ_eq_append_getElem hlt, List.map_append, List.map_append, hM, HS.out]; rfl
        · intro e he
          rcases List.mem_append.1 he with he | he
          · obtain ⟨q1, q2⟩ := hIn e he
            refine ⟨?_, q2⟩
            repeat (refine LiesG.far ?_ (fun b o e => by have := q2 b o e; omega))
            exact q1.below hb1
          · rw [List.mem_singleton.1 he]
            refine ⟨?_, fun b o e => by injection e with e; injection e with e; omega⟩
            repeat (refine LiesG.far ?_ (fun b o e => by injection e with e; injection e with e; omega))
            exact hLg
        · repeat (refine Below.setCell ?_ (by simp) _)
          exact hB.trans (hb1.mono hB.size)
    · go_wp2
      go_ret
      rw [List.take_of_length_le (by omega)] at hM
      exact ⟨M, rfl, hM, hT, hIn, hR.lt, hB⟩

set_option maxRecDepth 100000 in
set_option maxHeartbeats 1000000 in
theorem szL1_any (e : QL) (a : Int) (w : World) (ha : 0 ≤ a) (ha2 : a ≤ 1048576) (hm : e.l.length ≤ 9223372036854775807) :
    Calls Tryd.prog 20 #[.agg #[.int .i64 e.kd, .int .i64 e.bt, .slice e.P e.l.length e.c], .int .i64 a] w fun r w' => r = .returned (.int .i64 (szR (e.l.length : Int) a)) ∧ Below w.heap.size w w' := by
  by_cases h : (e.l.length : Int) ≤ a
  · have h1 : ¬ a - (e.l.length : Int) < 0 := by omega
    have h2 : 0 ≤ a - (e.l.length : Int) := by omega
    have HC : Hid _ := (fun w => szO_any e.P e.c e.l.length a w ha ha2 hm)
    rw [szR_pos h] at HC ⊢
    go_enter Tryd.func20, Tryd.ntmps20
    go_wp2_with ((go_at_call 38; refine (HC.out _).mono ?_; rintro r w1 ⟨rfl, rfl⟩))
    go_ret
    exact ⟨rfl, (Below.refl _ _).alloc (Nat.le_refl _) _⟩
  · have HC : Hid _ := (fun w => szO_any e.P e.c e.l.length a w ha ha2 hm)
    rw [szR_neg h] at HC ⊢
    go_enter Tryd.func20, Tryd.ntmps20
    go_wp2_with ((go_at_call 38; refine (HC.out _).mono ?_; rintro r w1 ⟨rfl, rfl⟩))
    go_ret
    exact ⟨rfl, (Below.refl _ _).alloc (Nat.le_refl _) _⟩

/-- How long all rows are together. -/
def sumL : List QL → Nat
  | [] => 0
  | e :: L => e.l.length + sumL L
theorem sumL_append : ∀ (L M : List QL), sumL (L ++ M) = sumL L + sumL M
  | [], _ => by simp [sumL]
  | e :: L, M => by simp [sumL, sumL_append L M]; omega
theorem sumL_take (L : List QL) (k : Nat) : sumL (L.take k) ≤ sumL L := by
  have := sumL_append (L.take k) (L.drop k)
  rw [List.take_append_drop] at this
  omega
theorem sumL_mem : ∀ (L : List QL) (e : QL), e ∈ L → e.l.length ≤ sumL L
  | x :: L, e, h => by
    rcases List.mem_cons.1 h with rfl | h
    · simp [sumL]
    · have := sumL_mem L e h; simp [sumL]; omega

def szLInv (w : World) (L : List QL) (a : Int) (v i : Value) (w' : World) : Prop :=
  ∃ k : Nat, k ≤ L.length ∧ i = .int .i64 k ∧ v = .int .i64 (a - ((L.length + sumL (L.take k) : Nat) : Int)) ∧ ((L.length + sumL (L.take k) : Nat) : Int) ≤ a ∧ Below w.heap.size w w'

set_option maxRecDepth 100000 in
set_option maxHeartbeats 1000000 in
theorem szL_any (P : Option Addr) (c : Nat) (L : List QL) (a : Int) (w : World) (ha : 0 ≤ a) (ha2 : a ≤ 1048576) (hm : L.length ≤ 9223372036854775807) (hme : ∀ e ∈ L, e.l.length ≤ 9223372036854775807) (h : LiesG fL w P L) :
    Calls Tryd.prog 10 #[.slice P L.length c, .int .i64 a] w fun r w' => r = .returned (.int .i64 (szR ((L.length + sumL L : Nat) : Int) a)) ∧ Below w.heap.size w w' := by
  by_cases hn : (L.length : Int) ≤ a
  · have h1 : ¬ a - (L.length : Int) < 0 := by omega
    have h2 : 0 ≤ a - (L.length : Int) := by omega
    go_enter Tryd.func10, Tryd.ntmps10
    go_wp2
    go_loopw [1, 5] (fun v i w' => szLInv w L a v i w') (fun v i w' => L.length - (intOf i).toNat)
    case atStart => exact ⟨0, Nat.zero_le _, rfl, by simp [sumL], by simp [sumL]; omega, Below.refl _ _⟩
    case round =>
      obtain ⟨k, hk, rfl, rfl, hle, hB⟩ := hrel
      have hL := h.below hB
      by_cases hlt : k < L.length
      · obtain ⟨B, O, rfl⟩ := hL.has hlt
        have cc := atL hL hlt
        have hml := hme L[k] (List.getElem_mem hlt)
        have hsum : sumL (L.take (k + 1)) = sumL (L.take k) + L[k].l.length := by rw [List.take_succ_eq_append_getElem hlt, sumL_append]; simp [sumL]
        have hall := sumL_take L (k + 1)
        generalize hs : L[k] = s at cc hml hsum
        clear hs
        obtain ⟨c0, c1, c2⟩ := cc
        have hk1 : (k : Int) < (L.length : Int) := by omega
        obtain ⟨q, hq⟩ : ∃ q, a - ((L.length + sumL (L.take k) : Nat) : Int) = q := ⟨_, rfl⟩
        have hq0 : 0 ≤ q := by omega
        have hq2 : q ≤ 1048576 := by omega
        rw [hq]
        by_cases hs2 : (s.l.length : Int) ≤ q
        · have HC : Hid _ := (fun w => szL1_any s q w hq0 hq2 hml)
          rw [szR_pos hs2] at HC
          have h3 : ¬ q - (s.l.length : Int) < 0 := by omega
          have h4 : 0 ≤ q - (s.l.length : Int) := by omega
          have HQ : Hid _ := hq
          have HU : Hid _ := hsum
          clear hq hsum
          go_wp2_with ((go_at_call 20; refine (HC.out _).mono ?_; rintro r w1 ⟨rfl, hb1⟩))
          go_roundw
          case rel => exact ⟨k + 1, by omega, by go_num, by have := HQ.out; have := HU.out; congr 1; omega, by have := HQ.out; have := HU.out; omega, hB.trans (hb1.mono hB.size)⟩
          case measure => simp [intOf]; omega
        · have HC : Hid _ := (fun w => szL1_any s q w hq0 hq2 hml)
          rw [szR_neg hs2] at HC
          have HQ : Hid _ := hq
          have HU : Hid _ := hsum
          clear hq hsum
          go_wp2_with ((go_at_call 20; refine (HC.out _).mono ?_; rintro r w1 ⟨rfl, hb1⟩))
          go_ret
          exact ⟨ret_int (szR_neg (by have := HQ.out; have := HU.out; omega)).symm, hB.trans (hb1.mono hB.size)⟩
      · have hk1 : ¬ (k : Int) < (L.length : Int) := by omega
        rw [List.take_of_length_le (by omega)] at hle ⊢
        obtain ⟨q, hq⟩ : ∃ q, a - ((L.length + sumL L : Nat) : Int) = q := ⟨_, rfl⟩
        rw [hq]
        have HQ : Hid _ := hq
        clear hq
        go_wp2
        go_ret
        exact ⟨ret_int (by rw [szR_pos (by omega)]; have := HQ.out; omega), hB⟩
  · have h1 : a - (L.length : Int) < 0 := by omega
    go_enter Tryd.func10, Tryd.ntmps10
    go_wp2
    go_ret
    exact ⟨ret_int (szR_neg (by omega)).symm, Below.refl _ _⟩

set_option maxRecDepth 100000 in
set_option maxHeartbeats 1000000 in
theorem eqL1_same (e : QL) (Q : Option Addr) (d : Nat) (w : World) (hl : e.l.length ≤ 1048576) (hP : LiesG fO w e.P e.l) (hQ : LiesG fO w Q e.l) :
    Calls Tryd.prog 37 #[.agg #[.int .i64 e.kd, .int .i64 e.bt, .slice e.P e.l.length e.c], .agg #[.int .i64 e.kd, .int .i64 e.bt, .slice Q e.l.length d]] w fun r w' => r = .returned (.bool true) ∧ Below w.heap.size w w' := by
  have HC : Hid _ := (fun W (hb : Below w.heap.size w W) => eqO_same e.P Q e.c d e.l W hl (hP.below hb) (hQ.below hb))
  go_enter Tryd.func37, Tryd.ntmps37
  go_wp2_with ((go_at_call 48; refine (HC.out _ (by repeat (first | exact Below.refl _ _ | (refine Below.setCell ?_ (by simp; try omega) _) | (refine Below.alloc ?_ (by simp; try omega) _)))).mono ?_; rintro r w1 ⟨rfl, hb⟩))
  go_ret
  exact ⟨rfl, Below.trans (by repeat (first | exact Below.refl _ _ | (refine Below.setCell ?_ (by simp; try omega) _) | (refine Below.alloc ?_ (by simp; try omega) _))) (hb.mono (by simp; try omega))⟩

def eqLInv (w : World) (L : List QL) (i : Value) (w' : World) : Prop :=
  ∃ k : Nat, k ≤ L.length ∧ i = .int .i64 k ∧ Below w.heap.size w w'

set_option maxRecDepth 100000 in
set_option maxHeartbeats 2000000 in
theorem eqL_same (P Q : Option Addr) (c d : Nat) (L M : List QL) (w : World) (hl : L.length ≤ 1048576) (hLM : L.map QL.pl = M.map QL.pl) (hle : ∀ e ∈ L, e.l.length ≤ 1048576) (hP : LiesG fL w P L) (hQ : LiesG fL w Q M) (iP : InL w L) (iQ : InL w M) :
    Calls Tryd.prog 19 #[.slice P L.length c, .slice Q L.length d] w fun r w' => r = .returned (.bool true) ∧ Below w.heap.size w w' := by
  have hn : M.length = L.length := by have := congrArg List.length hLM; simpa using this.symm
  go_enter Tryd.func19, Tryd.ntmps19
  go_wp2
  go_loopw [5] (fun i w' => eqLInv w L i w') (fun i w' => L.length - (intOf i).toNat)
  case atStart => exact ⟨0, Nat.zero_le _, rfl, Below.refl _ _⟩
  case round =>
    obtain ⟨k, hk, rfl, hB⟩ := hrel
    have hP1 := hP.below hB
    have hQ1 := hQ.below hB
    by_cases hlt : k < L.length
    · have hlt2 : k < M.length := by omega
      obtain ⟨B, O, rfl⟩ := hP1.has hlt
      obtain ⟨B2, O2, rfl⟩ := hQ1.has hlt2
      have cc := atL hP1 hlt
      have dd := atL hQ1 hlt2
      have r1 := (iP L[k] (List.getElem_mem hlt)).below hB
      have r2 := (iQ M[k] (List.getElem_mem hlt2)).below hB
      have g1 := hle L[k] (List.getElem_mem hlt)
      have hpl : L[k].pl = M[k].pl := by
        have e1 : (L.map QL.pl)[k]? = (M.map QL.pl)[k]? := by rw [hLM]
        simpa [List.getElem?_map, List.getElem?_eq_getElem hlt, List.getElem?_eq_getElem hlt2] using e1
      have hk1 : (k : Int) < (L.length : Int) := by omega
      generalize hx : L[k] = x at cc r1 g1 hpl
      generalize hy : M[k] = y at dd r2 hpl
      simp only [QL.pl, Prod.mk.injEq] at hpl
      obtain ⟨p0, p1, p2⟩ := hpl
      rw [← p0, ← p1, ← p2] at dd
      rw [← p2] at r2
      clear p0 p1 p2 hx
      obtain ⟨c0, c1, c2⟩ := cc
      obtain ⟨d0, d1, d2⟩ := dd
      obtain ⟨yP, hyP⟩ : ∃ q, y.P = q := ⟨_, rfl⟩
      obtain ⟨yc, hyc⟩ : ∃ q, y.c = q := ⟨_, rfl⟩
      rw [hyP] at r2
      rw [hyP, hyc] at d2
      clear hy hyP hyc hn hLM
      have hb1 := hP1.lt hlt
      have hb2 := hQ1.lt hlt2
      go_wp2
      go_region_held3 (fun w' => (w'.cell? ⟨B, O + k * 3, none⟩ = some (.int .i64 x.kd) ∧ w'.cell? ⟨B, O + k * 3 + 1, none⟩ = some (.int .i64 x.bt) ∧ w'.cell? ⟨B, O + k * 3 + 2, none⟩ = some (.slice x.P x.l.length x.c)) ∧ (w'.cell? ⟨B2, O2 + k * 3, none⟩ = some (.int .i64 x.kd) ∧ w'.cell? ⟨B2, O2 + k * 3 + 1, none⟩ = some (.int .i64 x.bt) ∧ w'.cell? ⟨B2, O2 + k * 3 + 2, none⟩ = some (.slice yP x.l.length yc))) (first | assumption | go_keep)
        ((go_at_call 37; refine (eqL1_same x yP yc _ g1 r1.drew r2.drew).mono ?_; rintro r w1 ⟨rfl, hb3⟩; have s1 : (w1.cell? ⟨B, O + k * 3, none⟩ = some (.int .i64 x.kd) ∧ w1.cell? ⟨B, O + k * 3 + 1, none⟩ = some (.int .i64 x.bt) ∧ w1.cell? ⟨B, O + k * 3 + 2, none⟩ = some (.slice x.P x.l.length x.c)) ∧ (w1.cell? ⟨B2, O2 + k * 3, none⟩ = some (.int .i64 x.kd) ∧ w1.cell? ⟨B2, O2 + k * 3 + 1, none⟩ = some (.int .i64 x.bt) ∧ w1.cell? ⟨B2, O2 + k * 3 + 2, none⟩ = some (.slice yP x.l.length yc)) := ⟨⟨((bcell hb3).1 _ _ hb1).trans c0, ((bcell hb3).1 _ _ hb1).trans c1, ((bcell hb3).1 _ _ hb1).trans c2⟩, ⟨((bcell hb3).1 _ _ hb2).trans d0, ((bcell hb3).1 _ _ hb2).trans d1, ((bcell hb3).1 _ _ hb2).trans d2⟩⟩))
      all_goals go_wp2
      all_goals go_roundw
      case rel => exact ⟨k + 1, by omega, by go_num, hB.trans ((Below.trans ((Below.refl _ wr).drew) hb3).mono hB.size)⟩
      case measure => simp [intOf]; omega
    · have hk1 : ¬ (k : Int) < (L.length : Int) := by omega
      go_wp2
      go_ret
      exact ⟨rfl, hB⟩

end Go.Proofs.YtjiignkappabpaaDoor
