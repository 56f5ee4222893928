/-
  KernFrame: copies, sizes and compares of one and of a row of them.
-/
import Derived.Test.YtoahhhmagcnjbabInts
import Derived.Laws.ResultCell
import Derived.Deep.RegionHeld3
namespace Go.Proofs.Ytoahhhmagcnjbab
open Go.ChangeShapes Go.WideShapes Go.ChangeAt Go.RowKit
set_option linter.unusedVariables false

/-- One, with where its row lies. -/
structure QF where
  ad : Int
  P : Option Addr
  c : Nat
  l : List Int
/-- What it says. -/
def QF.pl (e : QF) : Int × List Int := (e.ad, e.l)
/-- The same, its row anew. -/
def QF.re (e : QF) (g : Nat) : QF := ⟨e.ad, some ⟨g, 0, none⟩, e.l.length, e.l⟩
def fF : Form QF := ⟨2, fun e => [.int .i64 e.ad, .slice e.P e.l.length e.c], fun _ => rfl, by decide⟩
/-- The rows of all. -/
def InF (W : World) (L : List QF) : Prop := ∀ e ∈ L, LiesG fU W e.P e.l
theorem InF.below {W W' : World} {L : List QF} (h : InF W L) (hb : Below W.heap.size W W') : InF W' L := fun e he => (h e he).below hb

set_option maxRecDepth 100000 in
set_option maxHeartbeats 2000000 in
theorem toF1_any (e : QF) (w : World) (hl : e.l.length ≤ 1048576) (h : LiesG fU w e.P e.l) :
    Calls Try.prog 46 #[.agg #[.int .i64 e.ad, .slice e.P e.l.length e.c]] w fun r w' => ∃ g, r = .returned (.agg #[.int .i64 e.ad, .slice (some ⟨g, 0, none⟩) e.l.length e.l.length]) ∧ w.heap.size ≤ g ∧ g < w'.heap.size ∧ LiesG fU w' (some ⟨g, 0, none⟩) e.l ∧ Below w.heap.size w w' := by
  go_enter Try.func46, Try.ntmps46
  go_wp2_with ((go_at_call 59; refine (toU_any _ _ _ _ hl (h.below (by repeat (first | exact Below.refl _ _ | (refine Below.setCell ?_ (by simp; try omega) _) | (refine Below.alloc ?_ (by simp; try omega) _))))).mono ?_; rintro r w1 ⟨rfl, hL, hz, hb⟩; obtain ⟨hc, hf⟩ := bcell hb; have hz1 : w.heap.size + 3 ≤ w1.heap.size := (by have := hb.size; simp at this; omega)))
  simp only [World.size_alloc] at hL hz
  have hn1 : ¬ w.heap.size + 1 = w.heap.size + 1 + 1 := by omega
  have hn2 : ¬ w.heap.size + 1 + 1 = w.heap.size + 1 := by omega
  refine bodyPost_ret (show (results Try.f46 _).run Try.prog _ = .ok (.agg #[.int .i64 e.ad, .slice (some ⟨w.heap.size + 1 + 1 + 1, 0, none⟩) e.l.length e.l.length]) _ from by simp [results, Try.results46, go_sem, *]) rfl ⟨_, rfl, ?_, ?_, ?_, ?_⟩
  · omega
  · simp; omega
  · repeat (refine LiesG.far ?_ (fun b o e => by injection e with e; injection e with e; omega))
    exact hL
  · repeat (refine Below.setCell ?_ (by simp; try omega) _)
    refine Below.trans ?_ (hb.mono (by simp; omega))
    exact (by repeat (first | exact Below.refl _ _ | (refine Below.setCell ?_ (by simp; try omega) _) | (refine Below.alloc ?_ (by simp; try omega) _)))

theorem atF {W : World} {B O : Nat} {L : List QF} (h : LiesG fF W (some ⟨B, O, none⟩) L) {k : Nat} (hk : k < L.length) : W.cell? ⟨B, O + k * 2, none⟩ = some (.int .i64 L[k].ad) ∧ W.cell? ⟨B, O + k * 2 + 1, none⟩ = some (.slice L[k].P L[k].l.length L[k].c) :=
  ⟨by have := h.at hk 0 _ rfl; simpa [fF] using this, by have := h.at hk 1 _ rfl; simpa [fF] using this⟩
theorem infoF : (Try.prog.info? 63).map (fun i => (i.zero, i.size, i.bytes)) = some (some (.agg #[.int .i64 0, .slice none 0 0]), 2, 32) := by kernel_rfl
theorem makeF (n : Nat) (hn : n ≤ 1048577) (w : World) :
    (Instr.makeSlice 37 (.int .i64 (n : Int)) (.int .i64 (n : Int))).run Try.prog w = .ok (.slice (some ⟨w.heap.size, 0, none⟩) n n) (w.alloc (.cells (madeCells #[.int .i64 0, .slice none 0 0] (n * fF.n)) 63)) := by
  obtain ⟨i, hi, hzz⟩ := Option.map_eq_some_iff.1 infoF
  simp only [Prod.mk.injEq] at hzz
  obtain ⟨hz, hs, hb⟩ := hzz
  have := run_make (P := Try.prog) w 37 63 i _ Try.underlying37 hi hz .i64 .i64 n n (by omega) (Int.le_refl _) (by rw [hb]; omega) (by omega)
  rw [hs] at this
  exact this

/-- What stands between two rounds: the first k are copied, each with a row of its own. -/
def toFInv (w : World) (L : List QF) (i : Value) (w' : World) : Prop :=
  ∃ k : Nat, k ≤ L.length ∧ i = .int .i64 k ∧ ∃ M : List QF, M.map QF.pl = (L.take k).map QF.pl ∧ LiesG fF w' (some ⟨w.heap.size, 0, none⟩) M ∧ (∀ e ∈ M, LiesG fU w' e.P e.l ∧ ∀ B O, e.P = some ⟨B, O, none⟩ → w.heap.size < B) ∧ RoomG fF w' w.heap.size L.length ∧ Below w.heap.size w w'

set_option maxRecDepth 100000 in
set_option maxHeartbeats 2000000 in
theorem toF_any (P : Option Addr) (c : Nat) (L : List QF) (w : World) (hl : L.length ≤ 1048576) (hle : ∀ e ∈ L, e.l.length ≤ 1048576) (h : LiesG fF w P L) (hi : InF w L) :
    Calls Try.prog 21 #[.slice P L.length c] w fun r w' => ∃ M : List QF, r = .returned (.slice (some ⟨w.heap.size, 0, none⟩) L.length L.length) ∧ M.map QF.pl = L.map QF.pl ∧ LiesG fF w' (some ⟨w.heap.size, 0, none⟩) M ∧ (∀ e ∈ M, LiesG fU w' e.P e.l ∧ ∀ B O, e.P = some ⟨B, O, none⟩ → w.heap.size < B) ∧ w.heap.size < w'.heap.size ∧ Below w.heap.size w w' := by
  have hmk := makeF L.length (by omega)
  go_enter Try.func21, Try.ntmps21
  go_wp2
  go_loopw [4] (fun i w' => toFInv w L i w') (fun i w' => L.length - (intOf i).toNat)
  case atStart =>
    exact ⟨0, Nat.zero_le _, rfl, [], rfl, LiesG.nil _ _ _, fun e he => absurd he (by simp), RoomG.new _ _ _ _ _, (Below.refl _ _).alloc (Nat.le_refl _) _⟩
  case round =>
    clear hmk
    obtain ⟨k, hk, rfl, M, hM, hT, hIn, hR, hB⟩ := hrel
    have hL := h.below hB
    by_cases hlt : k < L.length
    · obtain ⟨B, O, rfl⟩ := hL.has hlt
      have cc := atF hL hlt
      have hrow := (hi L[k] (List.getElem_mem hlt)).below hB
      have hlen := hle L[k] (List.getElem_mem hlt)
      generalize hs : L[k] = s at cc hrow hlen
      have HS : Hid _ := hs
      clear hs
      obtain ⟨c0, c1⟩ := cc
      have hk1 : (k : Int) < (L.length : Int) := by omega
      go_wp2_with (first
        | (go_at_call 46; refine (toF1_any s _ hlen hrow).mono ?_; rintro r w1 ⟨g, rfl, hg, hg1, hLg, hb1⟩; have hR1 := hR.below hb1; have zz := hR1.z; obtain ⟨v0, e0⟩ := Option.isSome_iff_exists.1 (hR1.c (k * 2) (by simp [fF]; omega)); obtain ⟨v1, e1⟩ := Option.isSome_iff_exists.1 (hR1.c (k * 2 + 1) (by simp [fF]; omega))))
      go_roundw
      case measure => simp [intOf]; omega
      case rel =>
        have hGw : w.heap.size < wr.heap.size := hR.lt
        have hMl : M.length = k := by have := congrArg List.length hM; simp at this; omega
        have e1 := (hT.below hb1).snoc hR1 (s.re g) (by omega)
        rw [hMl] at e1
        have e3 := hR1.set (fF.cel (s.re g)) (O := k * 2) (by simp [fF]; omega)
        refine ⟨k + 1, by omega, by go_num, M ++ [(s.re g)], ?_, e1, ?_, e3, ?_⟩
        · rw [List.take_succ_eq_append_getElem hlt, List.map_append, List.map_append, hM, HS.out]; rfl
        · intro e he
          rcases List.mem_append.1 he with he | he
          · obtain ⟨q1, q2⟩ := hIn e he
            refine ⟨?_, q2⟩
            repeat (refine LiesG.far ?_ (fun b o e => by have := q2 b o e; omega))
            exact q1.below hb1
          · rw [List.mem_singleton.1 he]
            refine ⟨?_, fun b o e => by injection e with e; injection e with e; omega⟩
            repeat (refine LiesG.far ?_ (fun b o e => by injection e with e; injection e with e; omega))
            exact hLg
        · repeat (refine Below.setCell ?_ (by simp) _)
          exact hB.trans (hb1.mono hB.size)
    · go_wp2
      go_ret
      rw [List.take_of_length_le (by omega)] at hM
      exact ⟨M, rfl, hM, hT, hIn, hR.lt, hB⟩

set_option maxRecDepth 100000 in
set_option maxHeartbeats 1000000 in
theorem szF1_any (e : QF) (a : Int) (w : World) (ha : 0 ≤ a) (ha2 : a ≤ 1048576) (hm : e.l.length ≤ 9223372036854775807) :
    Calls Try.prog 40 #[.agg #[.int .i64 e.ad, .slice e.P e.l.length e.c], .int .i64 a] w fun r w' => r = .returned (.int .i64 (szR (e.l.length : Int) a)) ∧ Below w.heap.size w w' := by
  by_cases h : (e.l.length : Int) ≤ a
  · have h1 : ¬ a - (e.l.length : Int) < 0 := by omega
    have h2 : 0 ≤ a - (e.l.length : Int) := by omega
    have HC : Hid _ := (fun w => szU_any e.P e.c e.l.length a w ha ha2 hm)
    rw [szR_pos h] at HC ⊢
    go_enter Try.func40, Try.ntmps40
    go_wp2_with ((go_at_call 56; refine (HC.out _).mono ?_; rintro r w1 ⟨rfl, rfl⟩))
    go_ret
    exact ⟨rfl, (Below.refl _ _).alloc (Nat.le_refl _) _⟩
  · have HC : Hid _ := (fun w => szU_any e.P e.c e.l.length a w ha ha2 hm)
    rw [szR_neg h] at HC ⊢
    go_enter Try.func40, Try.ntmps40
    go_wp2_with ((go_at_call 56; refine (HC.out _).mono ?_; rintro r w1 ⟨rfl, rfl⟩))
    go_ret
    exact ⟨rfl, (Below.refl _ _).alloc (Nat.le_refl _) _⟩

/-- How long all rows are together. -/
def sumF : List QF → Nat
  | [] => 0
  | e :: L => e.l.length + sumF L
theorem sumF_append : ∀ (L M : List QF), sumF (L ++ M) = sumF L + sumF M
  | [], _ => by simp [sumF]
  | e :: L, M => by simp [sumF, sumF_append L M]; omega
theorem sumF_take (L : List QF) (k : Nat) : sumF (L.take k) ≤ sumF L := by
  have := sumF_append (L.take k) (L.drop k)
  rw [List.take_append_drop] at this
  omega
theorem sumF_mem : ∀ (L : List QF) (e : QF), e ∈ L → e.l.length ≤ sumF L
  | x :: L, e, h => by
    rcases List.mem_cons.1 h with rfl | h
    · simp [sumF]
    · have := sumF_mem L e h; simp [sumF]; omega

def szFInv (w : World) (L : List QF) (a : Int) (v i : Value) (w' : World) : Prop :=
  ∃ k : Nat, k ≤ L.length ∧ i = .int .i64 k ∧ v = .int .i64 (a - ((L.length + sumF (L.take k) : Nat) : Int)) ∧ ((L.length + sumF (L.take k) : Nat) : Int) ≤ a ∧ Below w.heap.size w w'

set_option maxRecDepth 100000 in
set_option maxHeartbeats 1000000 in
theorem szF_any (P : Option Addr) (c : Nat) (L : List QF) (a : Int) (w : World) (ha : 0 ≤ a) (ha2 : a ≤ 1048576) (hm : L.length ≤ 9223372036854775807) (hme : ∀ e ∈ L, e.l.length ≤ 9223372036854775807) (h : LiesG fF w P L) :
    Calls Try.prog 13 #[.slice P L.length c, .int .i64 a] w fun r w' => r = .returned (.int .i64 (szR ((L.length + sumF L : Nat) : Int) a)) ∧ Below w.heap.size w w' := by
  by_cases hn : (L.length : Int) ≤ a
  · have h1 : ¬ a - (L.length : Int) < 0 := by omega
    have h2 : 0 ≤ a - (L.length : Int) := by omega
    go_enter Try.func13, Try.ntmps13
    go_wp2
    go_loopw [1, 5] (fun v i w' => szFInv w L a v i w') (fun v i w' => L.length - (intOf i).toNat)
    case atStart => exact ⟨0, Nat.zero_le _, rfl, by simp [sumF], by simp [sumF]; omega, Below.refl _ _⟩
    case round =>
      obtain ⟨k, hk, rfl, rfl, hle, hB⟩ := hrel
      have hL := h.below hB
      by_cases hlt : k < L.length
      · obtain ⟨B, O, rfl⟩ := hL.has hlt
        have cc := atF hL hlt
        have hml := hme L[k] (List.getElem_mem hlt)
        have hsum : sumF (L.take (k + 1)) = sumF (L.take k) + L[k].l.length := by rw [List.take_succ_eq_append_getElem hlt, sumF_append]; simp [sumF]
        have hall := sumF_take L (k + 1)
        generalize hs : L[k] = s at cc hml hsum
        clear hs
        obtain ⟨c0, c1⟩ := cc
        have hk1 : (k : Int) < (L.length : Int) := by omega
        obtain ⟨q, hq⟩ : ∃ q, a - ((L.length + sumF (L.take k) : Nat) : Int) = q := ⟨_, rfl⟩
        have hq0 : 0 ≤ q := by omega
        have hq2 : q ≤ 1048576 := by omega
        rw [hq]
        by_cases hs2 : (s.l.length : Int) ≤ q
        · have HC : Hid _ := (fun w => szF1_any s q w hq0 hq2 hml)
          rw [szR_pos hs2] at HC
          have h3 : ¬ q - (s.l.length : Int) < 0 := by omega
          have h4 : 0 ≤ q - (s.l.length : Int) := by omega
          have HQ : Hid _ := hq
          have HU : Hid _ := hsum
          clear hq hsum
          go_wp2_with ((go_at_call 40; refine (HC.out _).mono ?_; rintro r w1 ⟨rfl, hb1⟩))
          go_roundw
          case rel => exact ⟨k + 1, by omega, by go_num, by have := HQ.out; have := HU.out; congr 1; omega, by have := HQ.out; have := HU.out; omega, hB.trans (hb1.mono hB.size)⟩
          case measure => simp [intOf]; omega
        · have HC : Hid _ := (fun w => szF1_any s q w hq0 hq2 hml)
          rw [szR_neg hs2] at HC
          have HQ : Hid _ := hq
          have HU : Hid _ := hsum
          clear hq hsum
          go_wp2_with ((go_at_call 40; refine (HC.out _).mono ?_; rintro r w1 ⟨rfl, hb1⟩))
          go_ret
          exact ⟨ret_int (szR_neg (by have := HQ.out; have := HU.out; omega)).symm, hB.trans (hb1.mono hB.size)⟩
      · have hk1 : ¬ (k : Int) < (L.length : Int) := by omega
        rw [List.take_of_length_le (by omega)] at hle ⊢
        obtain ⟨q, hq⟩ : ∃ q, a - ((L.length + sumF L : Nat) : Int) = q := ⟨_, rfl⟩
        rw [hq]
        have HQ : Hid _ := hq
        clear hq
        go_wp2
        go_ret
        exact ⟨ret_int (by rw [szR_pos (by omega)]; have := HQ.out; omega), hB⟩
  · have h1 : a - (L.length : Int) < 0 := by omega
    go_enter Try.func13, Try.ntmps13
    go_wp2
    go_ret
    exact ⟨ret_int (szR_neg (by omega)).symm, Below.refl _ _⟩

theorem of_beqF {α : Type} [BEq α] [LawfulBEq α] {a b : α} (h : (a == b) = true) : a = b := by simpa using h

set_option maxRecDepth 100000 in
set_option maxHeartbeats 1000000 in
theorem sameF1_any (e x : QF) (w : World) (hl : e.l.length ≤ 1048576) (hm : x.l.length ≤ 1048576) (hP : LiesG fU w e.P e.l) (hQ : LiesG fU w x.P x.l) :
    Calls Try.prog 30 #[.agg #[.int .i64 e.ad, .slice e.P e.l.length e.c], .agg #[.int .i64 x.ad, .slice x.P x.l.length x.c]] w fun r w' => r = .returned (.bool (decide (e.pl = x.pl))) ∧ Below w.heap.size w w' := by
  cases h0 : (e.ad == x.ad)
  · have hv : decide (e.pl = x.pl) = false := by simp [QF.pl]; intros; simp_all
    rw [hv]
    clear hv
    go_enter Try.func30, Try.ntmps30
    go_wp2
    go_ret
    exact ⟨rfl, (by repeat (first | exact Below.refl _ _ | (refine Below.setCell ?_ (by simp; try omega) _) | (refine Below.alloc ?_ (by simp; try omega) _)))⟩
  · skip
    cases hr : decide (e.l = x.l)
    · have HC : Hid _ := (fun W (hb : Below w.heap.size w W) => hr ▸ eqU_impl e.P x.P e.c x.c e.l x.l W hl hm (hP.below hb) (hQ.below hb))
      have hv : decide (e.pl = x.pl) = false := by simpa [QF.pl, of_beqF h0] using hr
      rw [hv]
      clear hr hv
      go_enter Try.func30, Try.ntmps30
      go_wp2_with ((go_at_call 49; refine (HC.out _ (by repeat (first | exact Below.refl _ _ | (refine Below.setCell ?_ (by simp; try omega) _) | (refine Below.alloc ?_ (by simp; try omega) _)))).mono ?_; rintro r w1 ⟨rfl, hb⟩))
      go_ret
      exact ⟨rfl, Below.trans (by repeat (first | exact Below.refl _ _ | (refine Below.setCell ?_ (by simp; try omega) _) | (refine Below.alloc ?_ (by simp; try omega) _))) (hb.mono (by simp; try omega))⟩
    · have HC : Hid _ := (fun W (hb : Below w.heap.size w W) => hr ▸ eqU_impl e.P x.P e.c x.c e.l x.l W hl hm (hP.below hb) (hQ.below hb))
      have hv : decide (e.pl = x.pl) = true := by simpa [QF.pl, of_beqF h0] using hr
      rw [hv]
      clear hr hv
      go_enter Try.func30, Try.ntmps30
      go_wp2_with ((go_at_call 49; refine (HC.out _ (by repeat (first | exact Below.refl _ _ | (refine Below.setCell ?_ (by simp; try omega) _) | (refine Below.alloc ?_ (by simp; try omega) _)))).mono ?_; rintro r w1 ⟨rfl, hb⟩))
      go_ret
      exact ⟨rfl, Below.trans (by repeat (first | exact Below.refl _ _ | (refine Below.setCell ?_ (by simp; try omega) _) | (refine Below.alloc ?_ (by simp; try omega) _))) (hb.mono (by simp; try omega))⟩

theorem pl_nextF {L M : List QF} {k : Nat} (h : sameTo (L.map QF.pl) (M.map QF.pl) k) (h1 : k < L.length) (h2 : k < M.length) (e : L[k].pl = M[k].pl) : sameTo (L.map QF.pl) (M.map QF.pl) (k + 1) :=
  sameTo_next h (by simpa using h1) (by simpa using h2) (by simpa using e)
theorem pl_neF {L M : List QF} {k : Nat} (h1 : k < L.length) (h2 : k < M.length) (e : L[k].pl ≠ M[k].pl) : L.map QF.pl ≠ M.map QF.pl :=
  ne_at (k := k) (by simpa using h1) (by simpa using h2) (by simpa using e)

def sameFInv (w : World) (L M : List QF) (i : Value) (w' : World) : Prop :=
  ∃ k : Nat, k ≤ L.length ∧ i = .int .i64 k ∧ sameTo (L.map QF.pl) (M.map QF.pl) k ∧ Below w.heap.size w w'

set_option maxRecDepth 100000 in
set_option maxHeartbeats 2000000 in
theorem sameF_any (P Q : Option Addr) (c d : Nat) (L M : List QF) (w : World) (hl : L.length ≤ 1048576) (hm : M.length ≤ 1048576) (hle : ∀ e ∈ L, e.l.length ≤ 1048576) (hme : ∀ e ∈ M, e.l.length ≤ 1048576) (hP : LiesG fF w P L) (hQ : LiesG fF w Q M) (iP : InF w L) (iQ : InF w M) :
    Calls Try.prog 29 #[.slice P L.length c, .slice Q M.length d, .func (.func 30) #[] #[]] w fun r w' => r = .returned (.bool (decide (L.map QF.pl = M.map QF.pl))) ∧ Below w.heap.size w w' := by
  by_cases hn : (L.length : Int) = (M.length : Int)
  · have hn1 : L.length = M.length := by omega
    have HN : Hid _ := hn1
    clear hn1
    go_enter Try.func29, Try.ntmps29
    go_wp2
    go_loopw [17] (fun i w' => sameFInv w L M i w') (fun i w' => L.length - (intOf i).toNat)
    case atStart => exact ⟨0, Nat.zero_le _, rfl, rfl, Below.refl _ _⟩
    case round =>
      obtain ⟨k, hk, rfl, hsm, hB⟩ := hrel
      have hP1 := hP.below hB
      have hQ1 := hQ.below hB
      by_cases hlt : k < L.length
      · have hlt2 : k < M.length := by have := HN.out; omega
        obtain ⟨B, O, rfl⟩ := hP1.has hlt
        obtain ⟨B2, O2, rfl⟩ := hQ1.has hlt2
        have hb1 := hP1.lt hlt
        have hb2 := hQ1.lt hlt2
        have cc := atF hP1 hlt
        have dd := atF hQ1 hlt2
        have r1 := (iP L[k] (List.getElem_mem hlt)).below hB
        have r2 := (iQ M[k] (List.getElem_mem hlt2)).below hB
        have g1 := hle L[k] (List.getElem_mem hlt)
        have g2 := hme M[k] (List.getElem_mem hlt2)
        have hk1 : (k : Int) < (L.length : Int) := by omega
        have hk2 : (k : Int) < (M.length : Int) := by omega
        generalize hx : L[k] = x at cc r1 g1
        generalize hy : M[k] = y at dd r2 g2
        have HX : Hid _ := hx
        have HY : Hid _ := hy
        clear hx hy
        obtain ⟨c0, c1⟩ := cc
        obtain ⟨d0, d1⟩ := dd
        have hne1 : ¬ B = wr.heap.size := by omega
        have hne2 : ¬ B2 = wr.heap.size := by omega
        have hne3 : ¬ B2 = wr.heap.size + 1 := by omega
        cases he : decide (x.pl = y.pl)
        · have HC : Hid _ := (fun W (hb : Below wr.heap.size wr W) => he ▸ sameF1_any x y W g1 g2 (r1.below hb) (r2.below hb))
          have HE : Hid _ := he
          clear he
          go_wp2_with ((go_at_call 30; refine (HC.out _ (by repeat (first | exact Below.refl _ _ | (refine Below.setCell ?_ (by simp; try omega) _) | (refine Below.alloc ?_ (by simp; try omega) _)))).mono ?_; rintro r w1 ⟨rfl, hb3⟩))
          go_ret
          exact ⟨ret_bool (decide_eq_false (pl_neF hlt hlt2 (by rw [HX.out, HY.out]; simpa using HE.out))).symm, hB.trans (Below.trans (Below.mono (by repeat (first | exact Below.refl _ _ | (refine Below.setCell ?_ (by simp; try omega) _) | (refine Below.alloc ?_ (by simp; try omega) _))) hB.size) (hb3.mono (by have := hB.size; simp; omega)))⟩
        · have HC : Hid _ := (fun W (hb : Below wr.heap.size wr W) => he ▸ sameF1_any x y W g1 g2 (r1.below hb) (r2.below hb))
          have HE : Hid _ := he
          clear he
          go_wp2_with ((go_at_call 30; refine (HC.out _ (by repeat (first | exact Below.refl _ _ | (refine Below.setCell ?_ (by simp; try omega) _) | (refine Below.alloc ?_ (by simp; try omega) _)))).mono ?_; rintro r w1 ⟨rfl, hb3⟩))
          go_roundw
          case rel => exact ⟨k + 1, by omega, by go_num, pl_nextF hsm hlt hlt2 (by rw [HX.out, HY.out]; simpa using HE.out), hB.trans (Below.trans (Below.mono (by repeat (first | exact Below.refl _ _ | (refine Below.setCell ?_ (by simp; try omega) _) | (refine Below.alloc ?_ (by simp; try omega) _))) hB.size) (hb3.mono (by have := hB.size; simp; omega)))⟩
          case measure => simp [intOf]; omega
      · have hk1 : ¬ (k : Int) < (L.length : Int) := by omega
        go_wp2
        go_ret
        exact ⟨ret_bool (decide_eq_true (sameTo_end hsm (by simpa using hlt) (by simpa using HN.out))).symm, hB⟩
  · go_enter Try.func29, Try.ntmps29
    go_wp2
    go_ret
    exact ⟨ret_bool (decide_eq_false (fun e => hn (by have := congrArg List.length e; simp at this; omega))).symm, Below.refl _ _⟩

set_option maxRecDepth 100000 in
set_option maxHeartbeats 1000000 in
theorem eqF1_same (e : QF) (Q : Option Addr) (d : Nat) (w : World) (hl : e.l.length ≤ 1048576) (hP : LiesG fU w e.P e.l) (hQ : LiesG fU w Q e.l) :
    Calls Try.prog 54 #[.agg #[.int .i64 e.ad, .slice e.P e.l.length e.c], .agg #[.int .i64 e.ad, .slice Q e.l.length d]] w fun r w' => r = .returned (.bool true) ∧ Below w.heap.size w w' := by
  have HC : Hid _ := (fun W (hb : Below w.heap.size w W) => (decide_eq_true (rfl : e.l = e.l)) ▸ eqU_law e.P Q e.c d e.l e.l W hl hl (hP.below hb) (hQ.below hb))
  go_enter Try.func54, Try.ntmps54
  go_wp2_with ((go_at_call 62; refine (HC.out _ (by repeat (first | exact Below.refl _ _ | (refine Below.setCell ?_ (by simp; try omega) _) | (refine Below.alloc ?_ (by simp; try omega) _)))).mono ?_; rintro r w1 ⟨rfl, hb⟩))
  go_ret
  exact ⟨rfl, Below.trans (by repeat (first | exact Below.refl _ _ | (refine Below.setCell ?_ (by simp; try omega) _) | (refine Below.alloc ?_ (by simp; try omega) _))) (hb.mono (by simp; try omega))⟩

def eqFInv (w : World) (L : List QF) (i : Value) (w' : World) : Prop :=
  ∃ k : Nat, k ≤ L.length ∧ i = .int .i64 k ∧ Below w.heap.size w w'

set_option maxRecDepth 100000 in
set_option maxHeartbeats 2000000 in
theorem eqF_same (P Q : Option Addr) (c d : Nat) (L M : List QF) (w : World) (hl : L.length ≤ 1048576) (hLM : L.map QF.pl = M.map QF.pl) (hle : ∀ e ∈ L, e.l.length ≤ 1048576) (hP : LiesG fF w P L) (hQ : LiesG fF w Q M) (iP : InF w L) (iQ : InF w M) :
    Calls Try.prog 36 #[.slice P L.length c, .slice Q L.length d] w fun r w' => r = .returned (.bool true) ∧ Below w.heap.size w w' := by
  have hn : M.length = L.length := by have := congrArg List.length hLM; simpa using this.symm
  go_enter Try.func36, Try.ntmps36
  go_wp2
  go_loopw [5] (fun i w' => eqFInv w L i w') (fun i w' => L.length - (intOf i).toNat)
  case atStart => exact ⟨0, Nat.zero_le _, rfl, Below.refl _ _⟩
  case round =>
    obtain ⟨k, hk, rfl, hB⟩ := hrel
    have hP1 := hP.below hB
    have hQ1 := hQ.below hB
    by_cases hlt : k < L.length
    · have hlt2 : k < M.length := by omega
      obtain ⟨B, O, rfl⟩ := hP1.has hlt
      obtain ⟨B2, O2, rfl⟩ := hQ1.has hlt2
      have cc := atF hP1 hlt
      have dd := atF hQ1 hlt2
      have r1 := (iP L[k] (List.getElem_mem hlt)).below hB
      have r2 := (iQ M[k] (List.getElem_mem hlt2)).below hB
      have g1 := hle L[k] (List.getElem_mem hlt)
      have hpl : L[k].pl = M[k].pl := by
        have e1 : (L.map QF.pl)[k]? = (M.map QF.pl)[k]? := by rw [hLM]
        simpa [List.getElem?_map, List.getElem?_eq_getElem hlt, List.getElem?_eq_getElem hlt2] using e1
      have hk1 : (k : Int) < (L.length : Int) := by omega
      generalize hx : L[k] = x at cc r1 g1 hpl
      generalize hy : M[k] = y at dd r2 hpl
      simp only [QF.pl, Prod.mk.injEq] at hpl
      obtain ⟨p0, p1⟩ := hpl
      rw [← p0, ← p1] at dd
      rw [← p1] at r2
      clear p0 p1 hx
      obtain ⟨c0, c1⟩ := cc
      obtain ⟨d0, d1⟩ := dd
      obtain ⟨yP, hyP⟩ : ∃ q, y.P = q := ⟨_, rfl⟩
      obtain ⟨yc, hyc⟩ : ∃ q, y.c = q := ⟨_, rfl⟩
      rw [hyP] at r2
      rw [hyP, hyc] at d1
      clear hy hyP hyc hn hLM
      have hb1 := hP1.lt hlt
      have hb2 := hQ1.lt hlt2
      go_wp2
      go_region_held3 (fun w' => (w'.cell? ⟨B, O + k * 2, none⟩ = some (.int .i64 x.ad) ∧ w'.cell? ⟨B, O + k * 2 + 1, none⟩ = some (.slice x.P x.l.length x.c)) ∧ (w'.cell? ⟨B2, O2 + k * 2, none⟩ = some (.int .i64 x.ad) ∧ w'.cell? ⟨B2, O2 + k * 2 + 1, none⟩ = some (.slice yP x.l.length yc))) (first | assumption | go_keep)
        ((go_at_call 54; refine (eqF1_same x yP yc _ g1 r1.drew r2.drew).mono ?_; rintro r w1 ⟨rfl, hb3⟩; have s1 : (w1.cell? ⟨B, O + k * 2, none⟩ = some (.int .i64 x.ad) ∧ w1.cell? ⟨B, O + k * 2 + 1, none⟩ = some (.slice x.P x.l.length x.c)) ∧ (w1.cell? ⟨B2, O2 + k * 2, none⟩ = some (.int .i64 x.ad) ∧ w1.cell? ⟨B2, O2 + k * 2 + 1, none⟩ = some (.slice yP x.l.length yc)) := ⟨⟨((bcell hb3).1 _ _ hb1).trans c0, ((bcell hb3).1 _ _ hb1).trans c1⟩, ⟨((bcell hb3).1 _ _ hb2).trans d0, ((bcell hb3).1 _ _ hb2).trans d1⟩⟩))
      all_goals go_wp2
      all_goals go_roundw
      case rel => exact ⟨k + 1, by omega, by go_num, hB.trans ((Below.trans ((Below.refl _ wr).drew) hb3).mono hB.size)⟩
      case measure => simp [intOf]; omega
    · have hk1 : ¬ (k : Int) < (L.length : Int) := by omega
      go_wp2
      go_ret
      exact ⟨rfl, hB⟩

end Go.Proofs.Ytoahhhmagcnjbab
