/-
  The program's check of how often a domain is named.
-/
import Derived.Test.YtjiignkappabpaaDoorBootFault
namespace Go.Proofs.YtjiignkappabpaaDoor
open Go.ChangeShapes Go.WideShapes Go.ChangeAt Go.RowKit
set_option linter.unusedVariables false

theorem namedN_take {L : List QL} {k : Nat} (i : Int) (hk : k < L.length) : namedN i ((L.take (k + 1)).map QL.pl) = namedN i ((L.take k).map QL.pl) + (L[k].l).countP (fun t => t.dm == i) := by
  rw [List.take_succ_eq_append_getElem hk, List.map_append, namedN_append]
  simp [namedN, QL.pl]
theorem countP_take {α : Type} {L : List α} {k : Nat} (p : α → Bool) (hk : k < L.length) : (L.take (k + 1)).countP p = (L.take k).countP p + (if p L[k] then 1 else 0) := by
  rw [List.take_succ_eq_append_getElem hk, List.countP_append]
  cases h : p L[k] <;> simp [h]
theorem namedN_le (i : Int) (L : List QL) (h : ∀ x ∈ L, x.l.length ≤ 15) : namedN i (L.map QL.pl) ≤ L.length * 15 := by
  induction L with
  | nil => simp [namedN]
  | cons x L ih =>
    have h1 := ih fun y hy => h y (List.mem_cons_of_mem _ hy)
    have h2 := h x (List.mem_cons_self ..)
    have h3 : x.l.countP (fun t => t.dm == i) ≤ x.l.length := List.countP_le_length
    simp only [List.map_cons, namedN, QL.pl, List.length_cons]
    omega

def namInv (w : World) (L : List QL) (d : Int) (n i : Value) (w' : World) : Prop :=
  ∃ k : Nat, k ≤ L.length ∧ i = .int .i64 k ∧ n = .int .i64 (namedN d ((L.take k).map QL.pl) : Nat) ∧ Below w.heap.size w w'
def namInv2 (w : World) (l : List QO) (d : Int) (b : Nat) (n i : Value) (w' : World) : Prop :=
  ∃ k : Nat, k ≤ l.length ∧ i = .int .i64 k ∧ n = .int .i64 ((b + (l.take k).countP (fun t => t.dm == d) : Nat) : Int) ∧ Below w.heap.size w w'

set_option maxRecDepth 100000 in
set_option maxHeartbeats 4000000 in
theorem namFault_any (d : Int) (P : Option Addr) (c : Nat) (L : List QL) (w : World) (e0 e1 e2 e3 e4 : Addr) (hS : Sents w e0 e1 e2 e3 e4) (hL : LiesG fL w P L) (hI : InL w L) (hl : L.length ≤ 6) (hle : ∀ x ∈ L, x.l.length ≤ 15) :
    Calls Tryd.prog 33 #[.int .i64 d, .slice P L.length c] w fun e w' => ∃ v, e = .returned v ∧ ErrO w' 0 (decide (namedN d (L.map QL.pl) ≤ 5)) v ∧ Below w.heap.size w w' := by
  go_enter Tryd.func33, Tryd.ntmps33
  go_wp2
  go_loopw [5, 12] (fun n i w' => namInv w L d n i w') (fun n i w' => L.length - (intOf i).toNat)
  case atStart => exact ⟨0, Nat.zero_le _, rfl, rfl, Below.refl _ _⟩
  case round =>
    obtain ⟨k, hk, rfl, rfl, hB⟩ := hrel
    have hL1 := hL.below hB
    by_cases hlt : k < L.length
    · obtain ⟨B, O, rfl⟩ := hL1.has hlt
      have cc := atL hL1 hlt
      have hrow := (hI L[k] (List.getElem_mem hlt)).below hB
      have hlen := hle L[k] (List.getElem_mem hlt)
      have hnt := namedN_take d hlt
      have hnl := namedN_le d (L.take k) fun x hx => hle x (List.mem_of_mem_take hx)
      have htl : (L.take k).length = k := by simp; omega
      generalize L[k] = s at cc hrow hlen hnt
      obtain ⟨skd, sbt, sP, sc, sl⟩ := s
      simp only at cc hrow hlen hnt
      have HN : Hid _ := hnt
      clear hnt
      generalize namedN d ((L.take k).map QL.pl) = b at HN hnl
      obtain ⟨c0, c1, c2⟩ := cc
      have hk1 : (k : Int) < (L.length : Int) := by omega
      have hb90 : b ≤ 90 := by omega
      clear hnl htl
      go_wp2
      go_loopw [5, 19] (fun n i w' => namInv2 wr sl d b n i w') (fun n i w' => sl.length - (intOf i).toNat)
      case atStart => exact ⟨0, Nat.zero_le _, rfl, rfl, (Below.refl _ _).alloc (Nat.le_refl _) _⟩
      case round =>
        obtain ⟨j, hj, rfl, rfl, hB2⟩ := hrel
        have hr1 := hrow.below hB2
        by_cases hlt2 : j < sl.length
        · obtain ⟨B2, O2, rfl⟩ := hr1.has hlt2
          have dd := atO hr1 hlt2
          have hct := countP_take (fun t : QO => t.dm == d) hlt2
          have hcl : (sl.take j).countP (fun t => t.dm == d) ≤ (sl.take j).length := List.countP_le_length
          have htl2 : (sl.take j).length = j := by simp; omega
          generalize sl[j] = x at dd hct
          have HC : Hid _ := hct
          clear hct
          generalize (sl.take j).countP (fun t => t.dm == d) = q at HC hcl
          obtain ⟨d0, d1, d2⟩ := dd
          have hj1 : (j : Int) < (sl.length : Int) := by omega
          have hq : q ≤ 15 := by omega
          clear hcl htl2
          obtain ⟨m, hm⟩ : ∃ m : Int, m = ((b + q : Nat) : Int) := ⟨_, rfl⟩
          have HM : Hid _ := hm
          rw [← hm]
          have hm0 : 0 ≤ m := by omega
          have hm1 : m ≤ 1000 := by omega
          clear hm
          cases hx : (x.dm == d)
          · go_wp2
            go_roundw
            case rel => exact ⟨j + 1, by omega, by go_num, by rw [HC.out, hx, HM.out]; simp, hB2.alloc hB2.size _⟩
            case measure => simp [intOf]; omega
          · go_wp2
            go_roundw
            case rel => exact ⟨j + 1, by omega, by go_num, by rw [HC.out, hx]; have := HM.out; go_num, hB2.alloc hB2.size _⟩
            case measure => simp [intOf]; omega
        · have hj1 : ¬ (j : Int) < (sl.length : Int) := by omega
          rw [List.take_of_length_le (by omega)]
          go_wp2
          go_roundw
          case rel => exact ⟨k + 1, by omega, by go_num, by rw [HN.out], hB.trans (hB2.mono hB.size)⟩
          case measure => simp [intOf]; omega
    · have hk1 : ¬ (k : Int) < (L.length : Int) := by omega
      rw [List.take_of_length_le (by omega)]
      have hnl := namedN_le d L hle
      have hS1 := hS.below hB
      have c3 := hS1.c3
      obtain ⟨m, hm⟩ : ∃ m : Nat, m = namedN d (L.map QL.pl) := ⟨_, rfl⟩
      have HM : Hid _ := hm
      rw [← hm] at hnl ⊢
      clear hm
      by_cases h5 : (m : Int) > 5
      · go_wp2
        go_ret
        refine ⟨_, rfl, ?_, hB⟩
        rw [decide_eq_false (by have := HM.out; omega)]
        exact hS1.i3
      · go_wp2
        go_ret
        refine ⟨_, rfl, ?_, hB⟩
        rw [decide_eq_true (by have := HM.out; omega)]
        rfl

end Go.Proofs.YtjiignkappabpaaDoor
