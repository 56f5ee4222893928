/-
  CapRead of the specification: what it takes a text for, if that has just this text.
-/
import Derived.Test.YthmambhagheocaaGreatDoorReadSpecD
import Derived.Test.YthmambhagheocaaGreatDoorTexts
import Derived.Test.YthmambhagheocaaGreatDoorBx
import Derived.Deep.CutBlock
namespace Go.Proofs.YthmambhagheocaaGreatDoor
open Go.ChangeShapes Go.WideShapes Go.ChangeAt Go.RowKit
set_option linter.unusedVariables false

theorem nameS_any (k : Int) (w : World) (h0 : 1 ≤ k) (h1 : k ≤ 7) :
    Calls Tryz.prog 40 #[.int .i64 k] w fun e w' => e = .returned (.string ⟨(nameL k).toArray⟩) ∧ Below w.heap.size w w' := by
  rcases seven h0 h1 with h | h | h | h | h | h | h <;> subst h
  · exact name_1 w
  · exact name_2 w
  · exact name_3 w
  · exact name_4 w
  · exact name_5 w
  · exact name_6 w
  · exact name_7 w

/-- The kinds that have been looked at, from 1 on. -/
def kindTo (wd : List UInt8) (j : Nat) : Int × Bool := ((List.range' 1 j).map fun n : Nat => (n : Int)).foldl (kindStep wd) (0, false)
theorem kindTo_succ (wd : List UInt8) (j : Nat) : kindTo wd (j + 1) = kindStep wd (kindTo wd j) ((j + 1 : Nat) : Int) := by
  unfold kindTo
  rw [List.range'_concat, List.map_append, List.foldl_append]
  simp only [List.map_cons, List.map_nil, List.foldl_cons, List.foldl_nil]
  congr 2; omega
theorem kindTo_7 (wd : List UInt8) : kindTo wd 7 = kindS wd := rfl

theorem cut_len : ∀ l : List UInt8, ∀ w ∈ cutL l, w.length ≤ l.length
  | [], w, hw => by simp [cutL] at hw; subst hw; simp
  | x :: l, w, hw => by
    have ih := cut_len l
    by_cases h : x = 32
    · subst h
      rw [cutL_space] at hw
      rcases List.mem_cons.1 hw with e | e
      · subst e; simp
      · have := ih w e; simp; omega
    · obtain ⟨h0, t, e⟩ : ∃ h0 t, cutL l = h0 :: t := by
        cases e : cutL l with
        | nil => exact absurd e (cutL_ne l)
        | cons h0 t => exact ⟨h0, t, rfl⟩
      rw [cutL_other h e] at hw
      rcases List.mem_cons.1 hw with e2 | e2
      · subst e2; have := ih h0 (by rw [e]; exact List.mem_cons_self ..); simp; omega
      · have := ih w (by rw [e]; exact List.mem_cons_of_mem _ e2); simp; omega
theorem word_len {s : List UInt8} (hl : s.length ≤ 100) (i : Nat) : (wordAt (wordsS s) i).length ≤ 1000 := by
  unfold wordAt
  rw [List.getD_eq_getElem?_getD]
  by_cases h : i < (wordsS s).length
  · rw [List.getElem?_eq_getElem h]
    have hm : (wordsS s)[i] ∈ cutL s := (List.mem_filter.1 (List.getElem_mem h)).1
    have := cut_len s _ hm
    show (wordsS s)[i].length ≤ 1000
    omega
  · rw [List.getElem?_eq_none (by omega)]; simp

structure RdW (w w1 : World) (Q : Option Addr) (ws : List (List UInt8)) (a : Int) (wd : List UInt8) (i : Value) (w' : World) (j : Nat) : Prop where
  hi : i = .int .i64 ((j + 1 : Nat) : Int)
  hj : j ≤ 7
  bx : Bx w' w1.heap.size 24 [.int .i64 (kindTo wd j).1, .int .i64 a, .int .i64 0, .int .i64 0, .int .i64 0, .int .i64 0, .int .i64 0, .int .i64 0, .bool (kindTo wd j).2]
  rx : Bx w' w.heap.size 24 [.int .i64 0, .int .i64 0, .int .i64 0, .int .i64 0, .int .i64 0, .int .i64 0, .int .i64 0, .int .i64 0, .bool false]
  ls : LiesG fS w' Q ws
  bw : Below w.heap.size w w'

def textC (c : CQ) : List UInt8 := textOr c.k c.a c.b c.r c.d c.g c.q c.f c.o
theorem readS_some {s : List UInt8} {c : CQ} (hl : s.length ≤ 100) (hc : candS s = c) (hn : s ≠ []) (ht : textC c = s) : readS s = some c := by
  have hok : c.ok = true := by
    cases h : c.ok with
    | true => rfl
    | false =>
      exfalso; apply hn; rw [← ht]; unfold textC textOr
      rw [if_neg]; show ¬ c.ok = true; rw [h]; decide
  have htx : c.text = s := by
    rw [← ht]; unfold textC textOr; rw [if_pos (show okB c.k c.a c.b c.r c.d c.g c.q c.f c.o = true from hok)]; rfl
  unfold readS
  rw [hc, if_pos ⟨hl, hn, hok, htx⟩]
theorem readS_none {s : List UInt8} {c : CQ} (hc : candS s = c) (h : s = [] ∨ textC c ≠ s) : readS s = none := by
  unfold readS
  rw [hc, if_neg]
  rintro ⟨_, hn, hok, ht⟩
  rcases h with h | h
  · exact hn h
  · apply h; rw [← ht]; unfold textC textOr; rw [if_pos (show okB c.k c.a c.b c.r c.d c.g c.q c.f c.o = true from hok)]; rfl

theorem below_set9 {n : Nat} {w W : World} (h : Below n w W) (v0 v1 v2 v3 v4 v5 v6 v7 v8 : Value) :
    Below n w (((((((((W.setCell ⟨n, 0, none⟩ v0).setCell ⟨n, 1, none⟩ v1).setCell ⟨n, 2, none⟩ v2).setCell ⟨n, 3, none⟩ v3).setCell ⟨n, 4, none⟩ v4).setCell ⟨n, 5, none⟩ v5).setCell ⟨n, 6, none⟩ v6).setCell ⟨n, 7, none⟩ v7).setCell ⟨n, 8, none⟩ v8) :=
  ((((((((h.setCell (p := ⟨n, 0, none⟩) (Nat.le_refl _) v0).setCell (p := ⟨n, 1, none⟩) (Nat.le_refl _) v1).setCell (p := ⟨n, 2, none⟩) (Nat.le_refl _) v2).setCell (p := ⟨n, 3, none⟩) (Nat.le_refl _) v3).setCell (p := ⟨n, 4, none⟩) (Nat.le_refl _) v4).setCell (p := ⟨n, 5, none⟩) (Nat.le_refl _) v5).setCell (p := ⟨n, 6, none⟩) (Nat.le_refl _) v6).setCell (p := ⟨n, 7, none⟩) (Nat.le_refl _) v7).setCell (p := ⟨n, 8, none⟩) (Nat.le_refl _) v8

/-- What is answered: the capability, or none. -/
def rdV (r : Option CQ) : Value := .tuple #[.agg #[.int .i64 (r.getD CQ.zero).k, .int .i64 (r.getD CQ.zero).a, .int .i64 (r.getD CQ.zero).b, .int .i64 (r.getD CQ.zero).r, .int .i64 (r.getD CQ.zero).d, .int .i64 (r.getD CQ.zero).g, .int .i64 (r.getD CQ.zero).q, .int .i64 (r.getD CQ.zero).f, .bool (r.getD CQ.zero).o], .bool r.isSome]

set_option maxRecDepth 100000 in
set_option maxHeartbeats 8000000 in
theorem capReadS_any (s : List UInt8) (w : World) (hl : s.length ≤ 100) :
    Calls Tryz.prog 13 #[.string ⟨s.toArray⟩] w fun e w' => e = .returned (rdV (readS s)) ∧ Below w.heap.size w w' := by
  have hsz : (⟨s.toArray⟩ : ByteArray).size = s.length := by simp [ByteArray.size]
  have hl1 : ¬ ((s.length : Int) > 100) := by omega
  have r0 := Bx.new w 24 [.int .i64 0, .int .i64 0, .int .i64 0, .int .i64 0, .int .i64 0, .int .i64 0, .int .i64 0, .int .i64 0, .bool false]
  have b0 : Below w.heap.size w (w.alloc (.cells #[.int .i64 0, .int .i64 0, .int .i64 0, .int .i64 0, .int .i64 0, .int .i64 0, .int .i64 0, .int .i64 0, .bool false] 24)) := (Below.refl _ _).alloc (Nat.le_refl _) _
  have HWs : Hid _ := wordsS_any s (w.alloc (.cells #[.int .i64 0, .int .i64 0, .int .i64 0, .int .i64 0, .int .i64 0, .int .i64 0, .int .i64 0, .int .i64 0, .bool false] 24)) hl
  have hwl : (wordsS s).length ≤ 101 := by
    unfold wordsS
    have := cutL_length s
    have h2 := List.length_filter_le (fun x : List UInt8 => !x.isEmpty) (cutL s)
    omega
  have hwe : ∀ i, (wordAt (wordsS s) i).length ≤ 1000 := word_len hl
  have HC : Hid (candS s = candS s) := rfl
  go_enter Tryz.func13, Tryz.ntmps13
  go_upto_region 5 with (first
    | (go_at_call 37; refine Calls.mono HWs.out ?_; rintro e w1 ⟨v, rfl, own, hb1⟩; obtain ⟨Q, cap, rfl, ls, _, _, hPb, _⟩ := own.form)
    | (go_at_call 38; refine Calls.mono (atS_any Q cap 1 (wordsS s) _ ls (by omega) (by omega) (hwe 1)) ?_; rintro e w2 ⟨rfl, hw⟩; have hw := hw.symm; subst hw))
  have hQ : ∀ B O, Q = some ⟨B, O, none⟩ → B < w1.heap.size := fun B O e => (hPb B O e).2.1
  clear hPb own HWs
  have r1 := r0.below hb1
  have hwl1 : w.heap.size < w1.heap.size := r1.lt
  have bw1 := b0.trans (hb1.mono b0.size)
  have bx := Bx.new w1 24 [.int .i64 0, .int .i64 (atS (wordsS s) 1), .int .i64 0, .int .i64 0, .int .i64 0, .int .i64 0, .int .i64 0, .int .i64 0, .bool false]
  have bA : Below w1.heap.size w1 (w1.alloc (.cells #[.int .i64 0, .int .i64 (atS (wordsS s) 1), .int .i64 0, .int .i64 0, .int .i64 0, .int .i64 0, .int .i64 0, .int .i64 0, .bool false] 24)) := (Below.refl _ _).alloc (Nat.le_refl _) _
  have r2 := r1.below bA
  have l2 := ls.below bA
  have bw2 := bw1.trans (bA.mono bw1.size)
  generalize hws : wordsS s = ws at *
  generalize ha : atS ws 1 = a at *
  generalize w1.alloc (.cells #[.int .i64 0, .int .i64 a, .int .i64 0, .int .i64 0, .int .i64 0, .int .i64 0, .int .i64 0, .int .i64 0, .bool false] 24) = w2 at *
  go_wp2
  go_loopw [6] (fun i w' => ∃ j, RdW w w1 Q ws a (wordAt ws 0) i w' j) (fun i w' => 8 - (intOf i).toNat)
  case atStart => exact ⟨0, rfl, by omega, bx, r2, l2, bw2⟩
  case round =>
    obtain ⟨j, rfl, hj, bj, rj, lj, bwj⟩ := hrel
    have hks := kindTo_succ (wordAt ws 0) j
    by_cases hlt : j < 7
    · have hW0 := fun W hW => wordAt_any Q cap 0 ws W hW (by omega) (by omega)
      have HW : Hid _ := hW0
      clear hW0
      have ekk : ((j + 1 : Nat) : Int) = (j : Int) + 1 := by omega
      rw [ekk] at hks
      have HNm : Hid _ := fun W => nameS_any ((j : Int) + 1) W (by omega) (by omega)
      generalize wordAt ws 0 = wd at *
      unfold kindStep at hks
      have hnl : (nameL ((j : Int) + 1)).length ≤ 9 := by have := name_len (k := (j : Int) + 1) (by omega) (by omega) false; simpa [starL] using this
      generalize nameL ((j : Int) + 1) = nm at HNm hks hnl
      have HA : (⟨nm.toArray⟩ : ByteArray) ++ ⟨#[42]⟩ = ⟨(nm ++ [42]).toArray⟩ := bytes_app nm [42]
      have HKS : Hid _ := hks
      clear hks
      obtain ⟨kk, oo, hp⟩ : ∃ kk oo, kindTo wd j = (kk, oo) := ⟨_, _, rfl⟩
      rw [hp] at HKS bj
      simp only at bj
      clear hp
      have hk1 : (j : Int) + 1 ≤ 7 := by omega
      clear ekk
      by_cases e1 : wd = nm
      · have q1 : (wd == nm) = true := by simpa using e1
        go_upto_region 9 with (first
          | (go_at_call 39; refine Calls.mono (HW.out _ lj) ?_; rintro e w3 ⟨rfl, hw⟩; have hw := hw.symm; subst hw)
          | (go_at_call 40; refine Calls.mono (HNm.out _) ?_; rintro e w3 ⟨rfl, hb⟩; replace bj := bj.below hb; replace rj := rj.below hb; replace lj := lj.below hb; replace bwj := bwj.trans (hb.mono bwj.size)))
        have c1 := bj.cell 0 _ rfl
        have z1 := bj.frozen 0
        go_upto_region 10 with fail
        have bs : Below w1.heap.size w3 (w3.setCell ⟨w1.heap.size, 0, none⟩ (.int .i64 ((j : Int) + 1))) := (Below.refl w1.heap.size w3).setCell (p := ⟨w1.heap.size, 0, none⟩) (Nat.le_refl _) _
        replace bj := bj.set 0 (.int .i64 ((j : Int) + 1))
        replace rj := rj.out bs hwl1
        replace lj := lj.out bs hQ
        replace bwj := bwj.trans (bs.mono (by omega))
        generalize w3.setCell ⟨w1.heap.size, 0, none⟩ (.int .i64 ((j : Int) + 1)) = w4 at bj rj lj bwj ⊢
        simp only [List.set] at bj
        clear c1 z1 bs
        go_upto_region 7 with (first
          | (go_at_call 39; refine Calls.mono (HW.out _ lj) ?_; rintro e w3 ⟨rfl, hw⟩; have hw := hw.symm; subst hw)
          | (go_at_call 40; refine Calls.mono (HNm.out _) ?_; rintro e w5 ⟨rfl, hb⟩; replace bj := bj.below hb; replace rj := rj.below hb; replace lj := lj.below hb; replace bwj := bwj.trans (hb.mono bwj.size); have c8 := bj.cell 8 _ rfl; have z8 := bj.frozen 8))
        have bs : Below w1.heap.size w5 (w5.setCell ⟨w1.heap.size, 8, none⟩ (.bool false)) := (Below.refl w1.heap.size w5).setCell (p := ⟨w1.heap.size, 8, none⟩) (Nat.le_refl _) _
        replace bj := bj.set 8 (.bool false)
        replace rj := rj.out bs hwl1
        replace lj := lj.out bs hQ
        replace bwj := bwj.trans (bs.mono (by omega))
        simp only [List.set] at bj
        have hks : kindTo wd (j + 1) = ((j : Int) + 1, false) := by rw [HKS.out, if_pos (.inl e1)]; simp [e1]
        generalize w5.setCell ⟨w1.heap.size, 8, none⟩ (.bool false) = w6 at bj rj lj bwj ⊢
        clear c8 z8 bs
        go_wp2
        go_roundw
        case rel => exact ⟨j + 1, by go_num, by omega, by rw [hks]; exact bj, rj, lj, bwj⟩
        case measure => first | (simp [intOf]; omega) | simp [intOf]
      · have q1 : (wd == nm) = false := by simpa using e1
        by_cases e2 : wd = nm ++ [42]
        · have q2 : (wd == nm ++ [42]) = true := by simpa using e2
          have q3 : (nm ++ [42] == nm) = false := by rw [beq_eq_false_iff_ne]; intro h; have := congrArg List.length h; simp at this
          go_upto_region 9 with (first
          | (go_at_call 39; refine Calls.mono (HW.out _ lj) ?_; rintro e w3 ⟨rfl, hw⟩; have hw := hw.symm; subst hw)
          | (go_at_call 40; refine Calls.mono (HNm.out _) ?_; rintro e w3 ⟨rfl, hb⟩; replace bj := bj.below hb; replace rj := rj.below hb; replace lj := lj.below hb; replace bwj := bwj.trans (hb.mono bwj.size)))
          have c1 := bj.cell 0 _ rfl
          have z1 := bj.frozen 0
          go_upto_region 10 with fail
          have bs : Below w1.heap.size w3 (w3.setCell ⟨w1.heap.size, 0, none⟩ (.int .i64 ((j : Int) + 1))) := (Below.refl w1.heap.size w3).setCell (p := ⟨w1.heap.size, 0, none⟩) (Nat.le_refl _) _
          replace bj := bj.set 0 (.int .i64 ((j : Int) + 1))
          replace rj := rj.out bs hwl1
          replace lj := lj.out bs hQ
          replace bwj := bwj.trans (bs.mono (by omega))
          generalize w3.setCell ⟨w1.heap.size, 0, none⟩ (.int .i64 ((j : Int) + 1)) = w4 at bj rj lj bwj ⊢
          simp only [List.set] at bj
          clear c1 z1 bs
          go_upto_region 7 with (first
          | (go_at_call 39; refine Calls.mono (HW.out _ lj) ?_; rintro e w3 ⟨rfl, hw⟩; have hw := hw.symm; subst hw)
          | (go_at_call 40; refine Calls.mono (HNm.out _) ?_; rintro e w5 ⟨rfl, hb⟩; replace bj := bj.below hb; replace rj := rj.below hb; replace lj := lj.below hb; replace bwj := bwj.trans (hb.mono bwj.size); have c8 := bj.cell 8 _ rfl; have z8 := bj.frozen 8))
          have bs : Below w1.heap.size w5 (w5.setCell ⟨w1.heap.size, 8, none⟩ (.bool true)) := (Below.refl w1.heap.size w5).setCell (p := ⟨w1.heap.size, 8, none⟩) (Nat.le_refl _) _
          replace bj := bj.set 8 (.bool true)
          replace rj := rj.out bs hwl1
          replace lj := lj.out bs hQ
          replace bwj := bwj.trans (bs.mono (by omega))
          simp only [List.set] at bj
          have hks : kindTo wd (j + 1) = ((j : Int) + 1, true) := by rw [HKS.out, if_pos (.inr e2)]; simp [e2]
          generalize w5.setCell ⟨w1.heap.size, 8, none⟩ (.bool true) = w6 at bj rj lj bwj ⊢
          clear c8 z8 bs
          go_wp2
          go_roundw
          case rel => exact ⟨j + 1, by go_num, by omega, by rw [hks]; exact bj, rj, lj, bwj⟩
          case measure => first | (simp [intOf]; omega) | simp [intOf]
        · have q2 : (wd == nm ++ [42]) = false := by simpa using e2
          rw [if_neg (by rintro (h | h); exact e1 h; exact e2 h)] at HKS
          go_wp2_with (first
          | (go_at_call 39; refine Calls.mono (HW.out _ lj) ?_; rintro e w3 ⟨rfl, hw⟩; have hw := hw.symm; subst hw)
          | (go_at_call 40; refine Calls.mono (HNm.out _) ?_; rintro e w3 ⟨rfl, hb⟩; replace bj := bj.below hb; replace rj := rj.below hb; replace lj := lj.below hb; replace bwj := bwj.trans (hb.mono bwj.size)))
          go_roundw
          case rel => exact ⟨j + 1, by go_num, by omega, by rw [HKS.out]; exact bj, rj, lj, bwj⟩
          case measure => first | (simp [intOf]; omega) | simp [intOf]
    · obtain rfl : j = 7 := by omega
      rw [kindTo_7] at bj
      obtain ⟨kk, oo, hp⟩ : ∃ kk oo, kindS (wordAt ws 0) = (kk, oo) := ⟨_, _, rfl⟩
      rw [hp] at bj
      simp only at bj
      clear hks
      have hk1 : ¬ ((7 : Nat) : Int) + 1 ≤ 7 := by omega
      have hk0 := bj.cell 0 _ rfl
      have hz0 := bj.frozen 0
      go_upto_region 11 with fail
      go_upto_block 2 with fail
      clear hk0 hz0
      go_cut [] (fun W => ∃ c : CQ, candS s = c ∧ Bx W w1.heap.size 24 [.int .i64 c.k, .int .i64 c.a, .int .i64 c.b, .int .i64 c.r, .int .i64 c.d, .int .i64 c.g, .int .i64 c.q, .int .i64 c.f, .bool c.o] ∧ Bx W w.heap.size 24 [.int .i64 0, .int .i64 0, .int .i64 0, .int .i64 0, .int .i64 0, .int .i64 0, .int .i64 0, .int .i64 0, .bool false] ∧ Below w.heap.size w W)
      case first =>
        by_cases k1 : kk = 1
        · subst k1
          have cc := bj.cell 0 _ rfl
          have zz := bj.frozen 0
          go_upto_region 13 with fail
          clear cc zz
          have cc := bj.cell 2 _ rfl
          have zz := bj.frozen 2
          go_upto_region 14 with ((go_at_call 38; refine Calls.mono (atS_any Q cap 2 ws _ lj (by omega) (by omega) (hwe 2)) ?_; rintro e w9 ⟨rfl, hw⟩; have hw := hw.symm; subst hw))
          have bs : Below w1.heap.size wr (wr.setCell ⟨w1.heap.size, 2, none⟩ (.int .i64 (atS ws 2))) := (Below.refl w1.heap.size wr).setCell (p := ⟨w1.heap.size, 2, none⟩) (Nat.le_refl _) _
          replace bj := bj.set 2 (.int .i64 (atS ws 2))
          replace rj := rj.out bs hwl1
          replace lj := lj.out bs hQ
          replace bwj := bwj.trans (bs.mono (by omega))
          simp only [List.set] at bj
          generalize wr.setCell ⟨w1.heap.size, 2, none⟩ (.int .i64 (atS ws 2)) = v0 at bj rj lj bwj ⊢
          clear bs cc zz
          have cc := bj.cell 7 _ rfl
          have zz := bj.frozen 7
          go_upto_region 26 with ((go_at_call 38; refine Calls.mono (atS_any Q cap 3 ws _ lj (by omega) (by omega) (hwe 3)) ?_; rintro e w9 ⟨rfl, hw⟩; have hw := hw.symm; subst hw))
          have bs : Below w1.heap.size v0 (v0.setCell ⟨w1.heap.size, 7, none⟩ (.int .i64 (atS ws 3))) := (Below.refl w1.heap.size v0).setCell (p := ⟨w1.heap.size, 7, none⟩) (Nat.le_refl _) _
          replace bj := bj.set 7 (.int .i64 (atS ws 3))
          replace rj := rj.out bs hwl1
          replace lj := lj.out bs hQ
          replace bwj := bwj.trans (bs.mono (by omega))
          simp only [List.set] at bj
          generalize v0.setCell ⟨w1.heap.size, 7, none⟩ (.int .i64 (atS ws 3)) = v1 at bj rj lj bwj ⊢
          clear bs cc zz
          have hcd : candS s = ((⟨1, a, (atS ws 2), 0, 0, 0, 0, (atS ws 3), oo⟩ : CQ)) := by simp only [candS, hws, hp, ha]; simp
          (try go_wp2_with fail)
          go_meet
          case rel => exact ⟨_, hcd, bj, rj, bwj⟩
        by_cases k2 : kk = 2
        · subst k2
          have cc := bj.cell 0 _ rfl
          have zz := bj.frozen 0
          go_upto_region 16 with fail
          clear cc zz
          have cc := bj.cell 2 _ rfl
          have zz := bj.frozen 2
          go_upto_region 17 with ((go_at_call 38; refine Calls.mono (atS_any Q cap 2 ws _ lj (by omega) (by omega) (hwe 2)) ?_; rintro e w9 ⟨rfl, hw⟩; have hw := hw.symm; subst hw))
          have bs : Below w1.heap.size wr (wr.setCell ⟨w1.heap.size, 2, none⟩ (.int .i64 (atS ws 2))) := (Below.refl w1.heap.size wr).setCell (p := ⟨w1.heap.size, 2, none⟩) (Nat.le_refl _) _
          replace bj := bj.set 2 (.int .i64 (atS ws 2))
          replace rj := rj.out bs hwl1
          replace lj := lj.out bs hQ
          replace bwj := bwj.trans (bs.mono (by omega))
          simp only [List.set] at bj
          generalize wr.setCell ⟨w1.heap.size, 2, none⟩ (.int .i64 (atS ws 2)) = v0 at bj rj lj bwj ⊢
          clear bs cc zz
          have cc := bj.cell 5 _ rfl
          have zz := bj.frozen 5
          go_upto_region 18 with ((go_at_call 38; refine Calls.mono (atS_any Q cap 3 ws _ lj (by omega) (by omega) (hwe 3)) ?_; rintro e w9 ⟨rfl, hw⟩; have hw := hw.symm; subst hw))
          have bs : Below w1.heap.size v0 (v0.setCell ⟨w1.heap.size, 5, none⟩ (.int .i64 (atS ws 3))) := (Below.refl w1.heap.size v0).setCell (p := ⟨w1.heap.size, 5, none⟩) (Nat.le_refl _) _
          replace bj := bj.set 5 (.int .i64 (atS ws 3))
          replace rj := rj.out bs hwl1
          replace lj := lj.out bs hQ
          replace bwj := bwj.trans (bs.mono (by omega))
          simp only [List.set] at bj
          generalize v0.setCell ⟨w1.heap.size, 5, none⟩ (.int .i64 (atS ws 3)) = v1 at bj rj lj bwj ⊢
          clear bs cc zz
          have cc := bj.cell 6 _ rfl
          have zz := bj.frozen 6
          go_upto_region 26 with ((go_at_call 38; refine Calls.mono (atS_any Q cap 4 ws _ lj (by omega) (by omega) (hwe 4)) ?_; rintro e w9 ⟨rfl, hw⟩; have hw := hw.symm; subst hw))
          have bs : Below w1.heap.size v1 (v1.setCell ⟨w1.heap.size, 6, none⟩ (.int .i64 (atS ws 4))) := (Below.refl w1.heap.size v1).setCell (p := ⟨w1.heap.size, 6, none⟩) (Nat.le_refl _) _
          replace bj := bj.set 6 (.int .i64 (atS ws 4))
          replace rj := rj.out bs hwl1
          replace lj := lj.out bs hQ
          replace bwj := bwj.trans (bs.mono (by omega))
          simp only [List.set] at bj
          generalize v1.setCell ⟨w1.heap.size, 6, none⟩ (.int .i64 (atS ws 4)) = v2 at bj rj lj bwj ⊢
          clear bs cc zz
          have hcd : candS s = ((⟨2, a, (atS ws 2), 0, 0, (atS ws 3), (atS ws 4), 0, oo⟩ : CQ)) := by simp only [candS, hws, hp, ha]; simp
          (try go_wp2_with fail)
          go_meet
          case rel => exact ⟨_, hcd, bj, rj, bwj⟩
        by_cases k4 : kk = 4
        · subst k4
          have cc := bj.cell 0 _ rfl
          have zz := bj.frozen 0
          go_upto_region 21 with fail
          clear cc zz
          have cc := bj.cell 3 _ rfl
          have zz := bj.frozen 3
          go_upto_region 22 with (first | (go_at_call 39; refine Calls.mono (wordAt_any Q cap 2 ws _ lj (by omega) (by omega)) ?_; rintro e w9 ⟨rfl, hw⟩; have hw := hw.symm; subst hw) | (go_at_call 41; refine Calls.mono (speltS_any (wordAt ws 2) _) ?_; rintro e w8 ⟨rfl, hb⟩; replace bj := bj.below hb; replace rj := rj.below hb; replace lj := lj.below hb; replace bwj := bwj.trans (hb.mono bwj.size); have cc := bj.cell 3 _ rfl; have zz := bj.frozen 3))
          clear cc zz
          have cc := bj.cell 3 _ rfl
          have zz := bj.frozen 3
          have bs : Below w1.heap.size w8 (w8.setCell ⟨w1.heap.size, 3, none⟩ (.int .i64 (speltS (wordAt ws 2)))) := (Below.refl w1.heap.size w8).setCell (p := ⟨w1.heap.size, 3, none⟩) (Nat.le_refl _) _
          replace bj := bj.set 3 (.int .i64 (speltS (wordAt ws 2)))
          replace rj := rj.out bs hwl1
          replace lj := lj.out bs hQ
          replace bwj := bwj.trans (bs.mono (by omega))
          simp only [List.set] at bj
          generalize w8.setCell ⟨w1.heap.size, 3, none⟩ (.int .i64 (speltS (wordAt ws 2))) = v0 at bj rj lj bwj ⊢
          clear bs cc zz
          have cc := bj.cell 4 _ rfl
          have zz := bj.frozen 4
          go_upto_region 26 with ((go_at_call 38; refine Calls.mono (atS_any Q cap 3 ws _ lj (by omega) (by omega) (hwe 3)) ?_; rintro e w9 ⟨rfl, hw⟩; have hw := hw.symm; subst hw))
          have bs : Below w1.heap.size v0 (v0.setCell ⟨w1.heap.size, 4, none⟩ (.int .i64 (atS ws 3))) := (Below.refl w1.heap.size v0).setCell (p := ⟨w1.heap.size, 4, none⟩) (Nat.le_refl _) _
          replace bj := bj.set 4 (.int .i64 (atS ws 3))
          replace rj := rj.out bs hwl1
          replace lj := lj.out bs hQ
          replace bwj := bwj.trans (bs.mono (by omega))
          simp only [List.set] at bj
          generalize v0.setCell ⟨w1.heap.size, 4, none⟩ (.int .i64 (atS ws 3)) = v1 at bj rj lj bwj ⊢
          clear bs cc zz
          have hcd : candS s = ((⟨4, a, 0, (speltS (wordAt ws 2)), (atS ws 3), 0, 0, 0, oo⟩ : CQ)) := by simp only [candS, hws, hp, ha]; simp
          (try go_wp2_with fail)
          go_meet
          case rel => exact ⟨_, hcd, bj, rj, bwj⟩
        by_cases k5 : kk = 5
        · subst k5
          have cc := bj.cell 0 _ rfl
          have zz := bj.frozen 0
          go_upto_region 21 with fail
          clear cc zz
          have cc := bj.cell 3 _ rfl
          have zz := bj.frozen 3
          go_upto_region 22 with (first | (go_at_call 39; refine Calls.mono (wordAt_any Q cap 2 ws _ lj (by omega) (by omega)) ?_; rintro e w9 ⟨rfl, hw⟩; have hw := hw.symm; subst hw) | (go_at_call 41; refine Calls.mono (speltS_any (wordAt ws 2) _) ?_; rintro e w8 ⟨rfl, hb⟩; replace bj := bj.below hb; replace rj := rj.below hb; replace lj := lj.below hb; replace bwj := bwj.trans (hb.mono bwj.size); have cc := bj.cell 3 _ rfl; have zz := bj.frozen 3))
          clear cc zz
          have cc := bj.cell 3 _ rfl
          have zz := bj.frozen 3
          have bs : Below w1.heap.size w8 (w8.setCell ⟨w1.heap.size, 3, none⟩ (.int .i64 (speltS (wordAt ws 2)))) := (Below.refl w1.heap.size w8).setCell (p := ⟨w1.heap.size, 3, none⟩) (Nat.le_refl _) _
          replace bj := bj.set 3 (.int .i64 (speltS (wordAt ws 2)))
          replace rj := rj.out bs hwl1
          replace lj := lj.out bs hQ
          replace bwj := bwj.trans (bs.mono (by omega))
          simp only [List.set] at bj
          generalize w8.setCell ⟨w1.heap.size, 3, none⟩ (.int .i64 (speltS (wordAt ws 2))) = v0 at bj rj lj bwj ⊢
          clear bs cc zz
          have cc := bj.cell 4 _ rfl
          have zz := bj.frozen 4
          go_upto_region 26 with ((go_at_call 38; refine Calls.mono (atS_any Q cap 3 ws _ lj (by omega) (by omega) (hwe 3)) ?_; rintro e w9 ⟨rfl, hw⟩; have hw := hw.symm; subst hw))
          have bs : Below w1.heap.size v0 (v0.setCell ⟨w1.heap.size, 4, none⟩ (.int .i64 (atS ws 3))) := (Below.refl w1.heap.size v0).setCell (p := ⟨w1.heap.size, 4, none⟩) (Nat.le_refl _) _
          replace bj := bj.set 4 (.int .i64 (atS ws 3))
          replace rj := rj.out bs hwl1
          replace lj := lj.out bs hQ
          replace bwj := bwj.trans (bs.mono (by omega))
          simp only [List.set] at bj
          generalize v0.setCell ⟨w1.heap.size, 4, none⟩ (.int .i64 (atS ws 3)) = v1 at bj rj lj bwj ⊢
          clear bs cc zz
          have hcd : candS s = ((⟨5, a, 0, (speltS (wordAt ws 2)), (atS ws 3), 0, 0, 0, oo⟩ : CQ)) := by simp only [candS, hws, hp, ha]; simp
          (try go_wp2_with fail)
          go_meet
          case rel => exact ⟨_, hcd, bj, rj, bwj⟩
        by_cases k6 : kk = 6
        · subst k6
          have cc := bj.cell 0 _ rfl
          have zz := bj.frozen 0
          go_upto_region 24 with fail
          clear cc zz
          have cc := bj.cell 2 _ rfl
          have zz := bj.frozen 2
          go_upto_region 25 with ((go_at_call 38; refine Calls.mono (atS_any Q cap 2 ws _ lj (by omega) (by omega) (hwe 2)) ?_; rintro e w9 ⟨rfl, hw⟩; have hw := hw.symm; subst hw))
          have bs : Below w1.heap.size wr (wr.setCell ⟨w1.heap.size, 2, none⟩ (.int .i64 (atS ws 2))) := (Below.refl w1.heap.size wr).setCell (p := ⟨w1.heap.size, 2, none⟩) (Nat.le_refl _) _
          replace bj := bj.set 2 (.int .i64 (atS ws 2))
          replace rj := rj.out bs hwl1
          replace lj := lj.out bs hQ
          replace bwj := bwj.trans (bs.mono (by omega))
          simp only [List.set] at bj
          generalize wr.setCell ⟨w1.heap.size, 2, none⟩ (.int .i64 (atS ws 2)) = v0 at bj rj lj bwj ⊢
          clear bs cc zz
          have cc := bj.cell 3 _ rfl
          have zz := bj.frozen 3
          go_upto_region 26 with (first | (go_at_call 39; refine Calls.mono (wordAt_any Q cap 3 ws _ lj (by omega) (by omega)) ?_; rintro e w9 ⟨rfl, hw⟩; have hw := hw.symm; subst hw) | (go_at_call 41; refine Calls.mono (speltS_any (wordAt ws 3) _) ?_; rintro e w8 ⟨rfl, hb⟩; replace bj := bj.below hb; replace rj := rj.below hb; replace lj := lj.below hb; replace bwj := bwj.trans (hb.mono bwj.size); have cc := bj.cell 3 _ rfl; have zz := bj.frozen 3))
          clear cc zz
          have cc := bj.cell 3 _ rfl
          have zz := bj.frozen 3
          have bs : Below w1.heap.size w8 (w8.setCell ⟨w1.heap.size, 3, none⟩ (.int .i64 (speltS (wordAt ws 3)))) := (Below.refl w1.heap.size w8).setCell (p := ⟨w1.heap.size, 3, none⟩) (Nat.le_refl _) _
          replace bj := bj.set 3 (.int .i64 (speltS (wordAt ws 3)))
          replace rj := rj.out bs hwl1
          replace lj := lj.out bs hQ
          replace bwj := bwj.trans (bs.mono (by omega))
          simp only [List.set] at bj
          generalize w8.setCell ⟨w1.heap.size, 3, none⟩ (.int .i64 (speltS (wordAt ws 3))) = v1 at bj rj lj bwj ⊢
          clear bs cc zz
          have hcd : candS s = ((⟨6, a, (atS ws 2), (speltS (wordAt ws 3)), 0, 0, 0, 0, oo⟩ : CQ)) := by simp only [candS, hws, hp, ha]; simp
          (try go_wp2_with fail)
          go_meet
          case rel => exact ⟨_, hcd, bj, rj, bwj⟩
        have cc := bj.cell 0 _ rfl
        have zz := bj.frozen 0
        go_upto_region 26 with fail
        clear cc zz
        have hcd : candS s = ((⟨kk, a, 0, 0, 0, 0, 0, 0, oo⟩ : CQ)) := by simp only [candS, hws, hp, ha]; simp [k1, k2, k4, k5, k6]
        (try go_wp2_with fail)
        go_meet
        case rel => exact ⟨_, hcd, bj, rj, bwj⟩
      case rest =>
        obtain ⟨c, hcd, bj, rj, bwj⟩ := hcut
        have HTx : Hid _ := fun W => textSpec_any c.k c.a c.b c.r c.d c.g c.q c.f c.o W
        have hS := fun h1 h2 => readS_some (s := s) hl hcd h1 h2
        have hN := fun h => readS_none (s := s) hcd h
        have hkeep : readS s = some c → rdV (readS s) = rdV (some c) := fun h => by rw [h]
        clear hcd
        obtain ⟨ck, ca, cb, cr, cd, cg, cq, cf, co⟩ := c
        simp only [textC] at hS hN HTx bj
        generalize textOr ck ca cb cr cd cg cq cf co = T at HTx hS hN
        have g0 := bj.cell 0 _ rfl; have g1 := bj.cell 1 _ rfl; have g2 := bj.cell 2 _ rfl; have g3 := bj.cell 3 _ rfl; have g4 := bj.cell 4 _ rfl; have g5 := bj.cell 5 _ rfl; have g6 := bj.cell 6 _ rfl; have g7 := bj.cell 7 _ rfl; have g8 := bj.cell 8 _ rfl
        have q0 := rj.cell 0 _ rfl; have q1 := rj.cell 1 _ rfl; have q2 := rj.cell 2 _ rfl; have q3 := rj.cell 3 _ rfl; have q4 := rj.cell 4 _ rfl; have q5 := rj.cell 5 _ rfl; have q6 := rj.cell 6 _ rfl; have q7 := rj.cell 7 _ rfl; have q8 := rj.cell 8 _ rfl
        have qz := rj.frozen
        by_cases hnil : s = []
        · have HR : Hid _ := hN (.inl hnil)
          clear hS hN HTx hkeep
          subst hnil
          have hne : ((⟨([] : List UInt8).toArray⟩ : ByteArray) == ⟨#[]⟩) = true := rfl
          go_wp2
          refine bodyPost_ret (v := rdV none) (by simp [results, Tryz.results13, go_sem, rdV, CQ.zero, *]) rfl ⟨by rw [HR.out], ?_⟩
          exact below_set9 bwj _ _ _ _ _ _ _ _ _
        · have hne : ((⟨s.toArray⟩ : ByteArray) == ⟨#[]⟩) = false := by rw [str_ne_nil]; simpa using hnil
          have hie : s.isEmpty = false := by simpa using hnil
          go_upto_region 26 with fail
          by_cases hT : T = s
          · have hq : (T == s) = true := by simpa using hT
            have hq2 : (T != s) = false := by simpa using hT
            have HR : Hid _ := hS hnil hT
            clear hS hN hT hkeep
            go_wp2_with ((go_at_call 35; refine Calls.mono (HTx.out _) ?_; rintro e w7 ⟨rfl, hb⟩; have bjt := bj.below hb; have rjt := rj.below hb; have bwt := bwj.trans (hb.mono bwj.size); clear g0 g1 g2 g3 g4 g5 g6 g7 g8 q0 q1 q2 q3 q4 q5 q6 q7 q8 qz; have g0 := bjt.cell 0 _ rfl; have g1 := bjt.cell 1 _ rfl; have g2 := bjt.cell 2 _ rfl; have g3 := bjt.cell 3 _ rfl; have g4 := bjt.cell 4 _ rfl; have g5 := bjt.cell 5 _ rfl; have g6 := bjt.cell 6 _ rfl; have g7 := bjt.cell 7 _ rfl; have g8 := bjt.cell 8 _ rfl; have q0 := rjt.cell 0 _ rfl; have q1 := rjt.cell 1 _ rfl; have q2 := rjt.cell 2 _ rfl; have q3 := rjt.cell 3 _ rfl; have q4 := rjt.cell 4 _ rfl; have q5 := rjt.cell 5 _ rfl; have q6 := rjt.cell 6 _ rfl; have q7 := rjt.cell 7 _ rfl; have q8 := rjt.cell 8 _ rfl; have qz := rjt.frozen))
            refine bodyPost_ret (v := rdV (some ⟨ck, ca, cb, cr, cd, cg, cq, cf, co⟩)) (by simp [results, Tryz.results13, go_sem, rdV, CQ.zero, *]) rfl ⟨by rw [HR.out], ?_⟩
            exact below_set9 bwt _ _ _ _ _ _ _ _ _
          · have hq : (T == s) = false := by simpa using hT
            have hq2 : (T != s) = true := by simpa using hT
            have HR : Hid _ := hN (.inr hT)
            clear hS hN hT hkeep
            go_wp2_with ((go_at_call 35; refine Calls.mono (HTx.out _) ?_; rintro e w7 ⟨rfl, hb⟩; have rjt := rj.below hb; have bwt := bwj.trans (hb.mono bwj.size); clear g0 g1 g2 g3 g4 g5 g6 g7 g8 q0 q1 q2 q3 q4 q5 q6 q7 q8 qz; have q0 := rjt.cell 0 _ rfl; have q1 := rjt.cell 1 _ rfl; have q2 := rjt.cell 2 _ rfl; have q3 := rjt.cell 3 _ rfl; have q4 := rjt.cell 4 _ rfl; have q5 := rjt.cell 5 _ rfl; have q6 := rjt.cell 6 _ rfl; have q7 := rjt.cell 7 _ rfl; have q8 := rjt.cell 8 _ rfl; have qz := rjt.frozen))
            refine bodyPost_ret (v := rdV none) (by simp [results, Tryz.results13, go_sem, rdV, CQ.zero, *]) rfl ⟨by rw [HR.out], ?_⟩
            exact below_set9 bwt _ _ _ _ _ _ _ _ _

end Go.Proofs.YthmambhagheocaaGreatDoor
