/-
  The program's check of something shared.
-/
import Derived.Test.YtjiignkappabpaaDoorBootToF
namespace Go.Proofs.YtjiignkappabpaaDoor
open Go.ChangeShapes Go.WideShapes Go.ChangeAt Go.RowKit
set_option linter.unusedVariables false

theorem all_take {α : Type} {L : List α} {k : Nat} (p : α → Bool) (hk : k < L.length) : (L.take (k + 1)).all p = ((L.take k).all p && p L[k]) := by
  rw [List.take_succ_eq_append_getElem hk, List.all_append]
  simp

def lnkInv (w : World) (n kd bt : Int) (P : Option Addr) (c : Nat) (l : List QO) (v i : Value) (w' : World) : Prop :=
  ∃ k : Nat, k ≤ l.length ∧ i = .int .i64 k ∧ ErrO w' k ((l.take k).all (toB kd n)) v ∧ Bx w' w.heap.size 43 [.int .i64 kd, .int .i64 bt, .slice P l.length c] ∧ Below w.heap.size w w'

set_option maxRecDepth 100000 in
set_option maxHeartbeats 4000000 in
theorem lnkFault_any (n kd bt : Int) (P : Option Addr) (c : Nat) (l : List QO) (w : World) (e0 e1 e2 e3 e4 : Addr) (hS : Sents w e0 e1 e2 e3 e4) (hn : -1000 ≤ n) (hn2 : n ≤ 1000000) (hL : LiesG fO w P l) (hl : l.length ≤ 15)
    (hf : ∀ t ∈ l, -9223372036854775808 ≤ t.rt ∧ t.rt ≤ 9223372036854775807) :
    Calls Tryd.prog 34 #[.int .i64 n, .agg #[.int .i64 kd, .int .i64 bt, .slice P l.length c]] w fun e w' => ∃ v, e = .returned v ∧ ErrO w' 15 (linkB n (kd, bt, l)) v ∧ Below w.heap.size w w' := by
  have bw : Below w.heap.size w (w.alloc (.cells #[.int .i64 kd, .int .i64 bt, .slice P l.length c] 43)) := (Below.refl _ _).alloc (Nat.le_refl _) _
  have hS1 := hS.below bw
  have HA1 : Hid _ := hS1.i1
  have c1 := hS1.c1
  have hx := Bx.new w 43 [.int .i64 kd, .int .i64 bt, .slice P l.length c]
  cases h1 : withinB kd 4 6
  · go_enter Tryd.func34, Tryd.ntmps34
    go_wp2_with ((go_at_call 41; refine Calls.mono (within_eq _ _ _ _ _ (by assumption)) ?_; rintro e w' ⟨rfl, rfl⟩))
    go_ret
    refine ⟨_, rfl, ?_, bw⟩
    have : linkB n (kd, bt, l) = false := by simp [linkB, kindB, h1]
    rw [this]
    exact ErrD.up (d := 0) HA1.out (by omega)
  · cases h2 : (szI kd bt == 0)
    · have hkd : 4 ≤ kd ∧ kd ≤ 6 := by simpa [withinB] using h1
      have HV : Hid (linkB n (kd, bt, l) = l.all (toB kd n)) := by unfold Hid; simp [linkB, kindB, h1, h2]
      go_enter Tryd.func34, Tryd.ntmps34
      go_wp2_with (first
        | (go_at_call 41; refine Calls.mono (within_eq _ _ _ _ _ (by assumption)) ?_; rintro e w' ⟨rfl, rfl⟩)
        | (go_at_call 44; refine Calls.mono (sizeKind_any _ _ _) ?_; rintro e w1 ⟨rfl, hb1⟩; have hx1 := hx.below hb1; have d2 := hx1.cell 2 _ rfl))
      go_loopw [5, 24] (fun v i w' => lnkInv w n kd bt P c l v i w') (fun v i w' => l.length - (intOf i).toNat)
      case atStart => exact ⟨0, Nat.zero_le _, rfl, ErrO.mkN _ _, hx1, bw.trans (hb1.mono bw.size)⟩
      case round =>
        clear hx1 d2 hx hb1 c1
        obtain ⟨k, hk, rfl, hv, hx, hB⟩ := hrel
        have hL1 := hL.below hB
        have d0 := hx.cell 0 _ rfl
        by_cases hlt : k < l.length
        · obtain ⟨B, O, rfl⟩ := hL1.has hlt
          have cc := atO hL1 hlt
          have hat := all_take (toB kd n) hlt
          have hft := hf l[k] (List.getElem_mem hlt)
          generalize l[k] = x at cc hat hft
          have HT : Hid _ := hat
          clear hat
          obtain ⟨p0, p1, p2⟩ := cc
          have hk1 : (k : Int) < (l.length : Int) := by omega
          generalize hA : (l.take k).all (toB kd n) = A at hv HT
          have bA : Below wr.heap.size wr (wr.alloc (.cells #[.int .i64 x.dm, .int .i64 x.rt, .int .i64 x.bd] 61)) := (Below.refl _ _).alloc (Nat.le_refl _) _
          have hS2 := hS.below (hB.trans (bA.mono hB.size))
          have d0A := (hx.below bA).cell 0 _ rfl
          have hv1 := hv.below bA
          rcases hv.split with ⟨rfl, rfl⟩ | ⟨rfl, T, a, rfl⟩
          · go_wp2_with (first
              | (go_at_call 45; refine Calls.mono (toFault_any _ _ x _ _ _ _ _ _ hS2 hn hn2 hkd hft.1 hft.2) ?_; rintro e w2 ⟨v2, rfl, he2, hb2⟩; rcases he2.split with ⟨hq, rfl⟩ | ⟨hq, T2, a2, rfl⟩)
              | (go_at_call 31; refine Calls.mono (join2 w2 _ rfl k _ _ _ _ _ (hv1.below hb2) (he2.up (Nat.zero_le _))) ?_; rintro e w3 ⟨v3, rfl, he3, hb3⟩))
            · go_roundw
              case rel => exact ⟨k + 1, by omega, by go_num, by rw [HT.out]; exact he3, ((hx.below bA).below hb2).below hb3, ((hB.trans (bA.mono hB.size)).trans (hb2.mono (Nat.le_trans hB.size bA.size))).trans (hb3.mono (Nat.le_trans (Nat.le_trans hB.size bA.size) hb2.size))⟩
              case measure => simp [intOf]; omega
            · go_roundw
              case rel => exact ⟨k + 1, by omega, by go_num, by rw [HT.out]; exact he3, ((hx.below bA).below hb2).below hb3, ((hB.trans (bA.mono hB.size)).trans (hb2.mono (Nat.le_trans hB.size bA.size))).trans (hb3.mono (Nat.le_trans (Nat.le_trans hB.size bA.size) hb2.size))⟩
              case measure => simp [intOf]; omega
          · go_wp2_with (first
              | (go_at_call 45; refine Calls.mono (toFault_any _ _ x _ _ _ _ _ _ hS2 hn hn2 hkd hft.1 hft.2) ?_; rintro e w2 ⟨v2, rfl, he2, hb2⟩; rcases he2.split with ⟨hq, rfl⟩ | ⟨hq, T2, a2, rfl⟩)
              | (go_at_call 31; refine Calls.mono (join2 w2 _ rfl k _ _ _ _ _ (hv1.below hb2) (he2.up (Nat.zero_le _))) ?_; rintro e w3 ⟨v3, rfl, he3, hb3⟩))
            · go_roundw
              case rel => exact ⟨k + 1, by omega, by go_num, by rw [HT.out]; exact he3, ((hx.below bA).below hb2).below hb3, ((hB.trans (bA.mono hB.size)).trans (hb2.mono (Nat.le_trans hB.size bA.size))).trans (hb3.mono (Nat.le_trans (Nat.le_trans hB.size bA.size) hb2.size))⟩
              case measure => simp [intOf]; omega
            · go_roundw
              case rel => exact ⟨k + 1, by omega, by go_num, by rw [HT.out]; exact he3, ((hx.below bA).below hb2).below hb3, ((hB.trans (bA.mono hB.size)).trans (hb2.mono (Nat.le_trans hB.size bA.size))).trans (hb3.mono (Nat.le_trans (Nat.le_trans hB.size bA.size) hb2.size))⟩
              case measure => simp [intOf]; omega
        · have hk1 : ¬ (k : Int) < (l.length : Int) := by omega
          rw [List.take_of_length_le (by omega)] at hv
          rcases hv.split with ⟨hq, rfl⟩ | ⟨hq, T, a, rfl⟩
          · go_wp2
            go_ret
            exact ⟨_, rfl, by rw [HV.out]; exact hv.up (by omega), hB⟩
          · go_wp2
            go_ret
            exact ⟨_, rfl, by rw [HV.out]; exact hv.up (by omega), hB⟩
    · have HV : Hid (linkB n (kd, bt, l) = false) := by unfold Hid; simp [linkB, kindB, h1, h2]
      go_enter Tryd.func34, Tryd.ntmps34
      go_wp2_with (first
        | (go_at_call 41; refine Calls.mono (within_eq _ _ _ _ _ (by assumption)) ?_; rintro e w' ⟨rfl, rfl⟩)
        | (go_at_call 44; refine Calls.mono (sizeKind_any _ _ _) ?_; rintro e w1 ⟨rfl, hb1⟩; have hS2 := hS1.below hb1; have c1b := hS2.c1))
      go_ret
      refine ⟨_, rfl, ?_, bw.trans (hb1.mono bw.size)⟩
      rw [HV.out]
      exact ErrD.up (d := 0) hS2.i1 (by omega)

end Go.Proofs.YtjiignkappabpaaDoor
