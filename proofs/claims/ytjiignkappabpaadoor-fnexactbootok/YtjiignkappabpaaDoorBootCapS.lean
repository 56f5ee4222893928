/-
  How often a domain is named, as the specification counts it.
-/
import Derived.Test.YtjiignkappabpaaDoorBootNamF
namespace Go.Proofs.YtjiignkappabpaaDoor
open Go.ChangeShapes Go.WideShapes Go.ChangeAt Go.RowKit
set_option linter.unusedVariables false

def capSInv (w : World) (P : List Value) (L : List QL) (d : Int) (n i : Value) (w' : World) : Prop :=
  ∃ k : Nat, k ≤ L.length ∧ i = .int .i64 k ∧ n = .int .i64 (namedN d ((L.take k).map QL.pl) : Nat) ∧ Bx w' w.heap.size 31 P ∧ Below w.heap.size w w'
def capSInv2 (w : World) (P : List Value) (W : World) (l : List QO) (d : Int) (b : Nat) (n i : Value) (w' : World) : Prop :=
  ∃ k : Nat, k ≤ l.length ∧ i = .int .i64 k ∧ n = .int .i64 ((b + (l.take k).countP (fun t => t.dm == d) : Nat) : Int) ∧ Bx w' w.heap.size 31 P ∧ Below W.heap.size W w'

set_option maxRecDepth 100000 in
set_option maxHeartbeats 4000000 in
theorem capS_any (bits : Int) (dP : Option Addr) (dc : Nat) (dl : List QD) (P : Option Addr) (c : Nat) (L : List QL) (d : Int) (w : World) (hL : LiesG fL w P L) (hI : InL w L) (hl : L.length ≤ 1000) (hle : ∀ x ∈ L, x.l.length ≤ 1048576) :
    Calls Tryd.prog 11 #[.agg #[.int .i64 bits, .slice dP dl.length dc, .slice P L.length c], .int .i64 d] w fun e w' => e = .returned (.int .i64 (namedN d (L.map QL.pl) : Nat)) ∧ Below w.heap.size w w' := by
  have bw : Below w.heap.size w (w.alloc (.cells #[.int .i64 bits, .slice dP dl.length dc, .slice P L.length c] 31)) := (Below.refl _ _).alloc (Nat.le_refl _) _
  have hx := Bx.new w 31 [.int .i64 bits, .slice dP dl.length dc, .slice P L.length c]
  have hbig : ∀ M : List QL, (∀ x ∈ M, x.l.length ≤ 1048576) → namedN d (M.map QL.pl) ≤ M.length * 1048576 := by
    intro M hM
    induction M with
    | nil => simp [namedN]
    | cons x M ih =>
      have h1 := ih fun y hy => hM y (List.mem_cons_of_mem _ hy)
      have h2 := hM x (List.mem_cons_self ..)
      have h3 : x.l.countP (fun t => t.dm == d) ≤ x.l.length := List.countP_le_length
      simp only [List.map_cons, namedN, QL.pl, List.length_cons]
      omega
  go_enter Tryd.func11, Tryd.ntmps11
  go_wp2
  go_loopw [5, 6] (fun n i w' => capSInv w [.int .i64 bits, .slice dP dl.length dc, .slice P L.length c] L d n i w') (fun n i w' => L.length - (intOf i).toNat)
  case atStart => exact ⟨0, Nat.zero_le _, rfl, rfl, hx, bw⟩
  case round =>
    clear hx
    obtain ⟨k, hk, rfl, rfl, hx, hB⟩ := hrel
    have hL1 := hL.below hB
    have x2 := hx.cell 2 _ rfl
    by_cases hlt : k < L.length
    · obtain ⟨B, O, rfl⟩ := hL1.has hlt
      have cc := atL hL1 hlt
      have hrow := (hI L[k] (List.getElem_mem hlt)).below hB
      have hlen := hle L[k] (List.getElem_mem hlt)
      have hnt := namedN_take d hlt
      have hnl := hbig (L.take k) fun x hx => hle x (List.mem_of_mem_take hx)
      have htl : (L.take k).length = k := by simp; omega
      generalize L[k] = s at cc hrow hlen hnt
      obtain ⟨skd, sbt, sP, sc, sl⟩ := s
      simp only at cc hrow hlen hnt
      have HN : Hid _ := hnt
      clear hnt
      generalize namedN d ((L.take k).map QL.pl) = b at HN hnl
      obtain ⟨c0, c1, c2⟩ := cc
      have hk1 : (k : Int) < (L.length : Int) := by omega
      have hb90 : b ≤ 2000000000 := by rw [htl] at hnl; have : k * 1048576 ≤ 1000 * 1048576 := Nat.mul_le_mul_right _ (by omega); omega
      clear hnl htl
      go_wp2
      go_loopw [5, 7] (fun n i w' => capSInv2 w [.int .i64 bits, .slice dP dl.length dc, .slice (some ⟨B, O, none⟩) L.length c] wr sl d b n i w') (fun n i w' => sl.length - (intOf i).toNat)
      case atStart => exact ⟨0, Nat.zero_le _, rfl, rfl, hx, Below.refl _ _⟩
      case round =>
        clear x2
        obtain ⟨j, hj, rfl, rfl, hx2, hB2⟩ := hrel
        have hr1 := hrow.below hB2
        have hL2 := hL1.below hB2
        have x2 := hx2.cell 2 _ rfl
        have f2 := ((bcell hB2).1 _ _ (block_lt_of_cell c2)).trans c2
        by_cases hlt2 : j < sl.length
        · obtain ⟨B2, O2, rfl⟩ := hr1.has hlt2
          have dd := atO hr1 hlt2
          have hct := countP_take (fun t : QO => t.dm == d) hlt2
          have hcl : (sl.take j).countP (fun t => t.dm == d) ≤ (sl.take j).length := List.countP_le_length
          have htl2 : (sl.take j).length = j := by simp; omega
          generalize sl[j] = x at dd hct
          have HC : Hid _ := hct
          clear hct
          generalize (sl.take j).countP (fun t => t.dm == d) = q at HC hcl
          obtain ⟨d0, d1, d2⟩ := dd
          have hj1 : (j : Int) < (sl.length : Int) := by omega
          have hq : q ≤ 1048576 := by omega
          clear hcl htl2
          obtain ⟨m, hm⟩ : ∃ m : Int, m = ((b + q : Nat) : Int) := ⟨_, rfl⟩
          have HM : Hid _ := hm
          rw [← hm]
          have hm0 : 0 ≤ m := by omega
          have hm1 : m ≤ 3000000000 := by omega
          clear hm
          cases hx : (x.dm == d)
          · go_wp2
            go_roundw
            case rel => exact ⟨j + 1, by omega, by go_num, by rw [HC.out, hx, HM.out]; simp, hx2, hB2⟩
            case measure => simp [intOf]; omega
          · go_wp2
            go_roundw
            case rel => exact ⟨j + 1, by omega, by go_num, by rw [HC.out, hx]; have := HM.out; go_num, hx2, hB2⟩
            case measure => simp [intOf]; omega
        · have hj1 : ¬ (j : Int) < (sl.length : Int) := by omega
          rw [List.take_of_length_le (by omega)]
          go_wp2
          go_roundw
          case rel => exact ⟨k + 1, by omega, by go_num, by rw [HN.out], hx2, hB.trans (hB2.mono hB.size)⟩
          case measure => simp [intOf]; omega
    · have hk1 : ¬ (k : Int) < (L.length : Int) := by omega
      rw [List.take_of_length_le (by omega)]
      go_wp2
      go_ret
      exact ⟨rfl, hB⟩

end Go.Proofs.YtjiignkappabpaaDoor
