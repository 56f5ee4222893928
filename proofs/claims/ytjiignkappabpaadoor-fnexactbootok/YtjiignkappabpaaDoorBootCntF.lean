/-
  The program's count of what a plan has.
-/
import Derived.Test.YtjiignkappabpaaDoorBootFault
import Derived.Test.YtjiignkappabpaaDoorBootLnkF
namespace Go.Proofs.YtjiignkappabpaaDoor
open Go.ChangeShapes Go.WideShapes Go.ChangeAt Go.RowKit
set_option linter.unusedVariables false

theorem len_take {L : List QL} {k : Nat} (hk : k < L.length) : ((L.take (k + 1)).map QL.pl).all (fun x => decide ((x.2.2.length : Int) ≤ 15)) = (((L.take k).map QL.pl).all (fun x => decide ((x.2.2.length : Int) ≤ 15)) && decide ((L[k].l.length : Int) ≤ 15)) := by
  rw [List.take_succ_eq_append_getElem hk, List.map_append, List.all_append]
  simp [QL.pl]

/-- Nothing, or an error. -/
def cntV (b : Bool) (a : Addr) : Value := match b with | true => .nilIface | false => eV a

def cntInv (w : World) (L : List QL) (i : Value) (w' : World) : Prop :=
  ∃ k : Nat, k ≤ L.length ∧ i = .int .i64 k ∧ ((L.take k).map QL.pl).all (fun x => decide ((x.2.2.length : Int) ≤ 15)) = true ∧ Below w.heap.size w w'

set_option maxRecDepth 100000 in
set_option maxHeartbeats 4000000 in
theorem cntFault_any (bits : Int) (dP : Option Addr) (dc : Nat) (dl : List QD) (lP : Option Addr) (lc : Nat) (ll : List QL) (w : World) (e0 e1 e2 e3 e4 : Addr) (hS : Sents w e0 e1 e2 e3 e4) (hL : LiesG fL w lP ll) (hd : dl.length ≤ 1048576) (hl : ll.length ≤ 1048576) (hle : ∀ x ∈ ll, x.l.length ≤ 1048576) :
    Calls Tryd.prog 28 #[.agg #[.int .i64 bits, .slice dP dl.length dc, .slice lP ll.length lc]] w fun e w' => ∃ v, e = .returned v ∧ v = cntV (countB dl (ll.map QL.pl)) e0 ∧ Below w.heap.size w w' := by
  have bw : Below w.heap.size w (w.alloc (.cells #[.int .i64 bits, .slice dP dl.length dc, .slice lP ll.length lc] 31)) := (Below.refl _ _).alloc (Nat.le_refl _) _
  have hS1 := hS.below bw
  have c0 := hS1.c0
  have hx := Bx.new w 31 [.int .i64 bits, .slice dP dl.length dc, .slice lP ll.length lc]
  have x1 := hx.cell 1 _ rfl
  have x2 := hx.cell 2 _ rfl
  cases h1 : withinB (dl.length : Int) 1 3
  · have HV : Hid (countB dl (ll.map QL.pl) = false) := by unfold Hid; simp [countB, h1]
    go_enter Tryd.func28, Tryd.ntmps28
    go_wp2_with ((go_at_call 41; refine Calls.mono (within_eq _ _ _ _ _ (by assumption)) ?_; rintro e w' ⟨rfl, rfl⟩))
    go_ret
    exact ⟨_, rfl, by rw [HV.out]; rfl, bw⟩
  · by_cases h2 : (ll.length : Int) > 6
    · have HV : Hid (countB dl (ll.map QL.pl) = false) := by unfold Hid; simp [countB]; intro _ h; omega
      go_enter Tryd.func28, Tryd.ntmps28
      go_wp2_with ((go_at_call 41; refine Calls.mono (within_eq _ _ _ _ _ (by assumption)) ?_; rintro e w' ⟨rfl, rfl⟩))
      go_ret
      exact ⟨_, rfl, by rw [HV.out]; rfl, bw⟩
    · have HV : Hid (countB dl (ll.map QL.pl) = (ll.map QL.pl).all (fun x => decide ((x.2.2.length : Int) ≤ 15))) := by unfold Hid; simp only [countB, h1, List.length_map, Bool.true_and]; rw [decide_eq_true (show (ll.length : Int) ≤ 6 by omega)]; rfl
      go_enter Tryd.func28, Tryd.ntmps28
      go_wp2_with ((go_at_call 41; refine Calls.mono (within_eq _ _ _ _ _ (by assumption)) ?_; rintro e w' ⟨rfl, rfl⟩))
      go_loopw [20] (fun i w' => cntInv w ll i w') (fun i w' => ll.length - (intOf i).toNat)
      case atStart => exact ⟨0, Nat.zero_le _, rfl, rfl, bw⟩
      case round =>
        clear x1 x2 hx c0
        obtain ⟨k, hk, rfl, hv, hB⟩ := hrel
        have hL1 := hL.below hB
        by_cases hlt : k < ll.length
        · obtain ⟨B, O, rfl⟩ := hL1.has hlt
          have cc := atL hL1 hlt
          have hlen := hle ll[k] (List.getElem_mem hlt)
          have hnt := len_take hlt
          generalize hs : ll[k] = s at cc hlen hnt
          have HM : Hid (s ∈ ll) := by unfold Hid; rw [← hs]; exact List.getElem_mem hlt
          clear hs
          obtain ⟨skd, sbt, sP, sc, sl⟩ := s
          simp only at cc hlen hnt
          rw [hv, Bool.true_and] at hnt
          have HN : Hid _ := hnt
          clear hnt
          obtain ⟨p0, p1, p2⟩ := cc
          have hk1 : (k : Int) < (ll.length : Int) := by omega
          have hS2 := hS.below (hB.trans (((Below.refl _ wr).alloc (Nat.le_refl _) (.cells #[.int .i64 skd, .int .i64 sbt, .slice sP sl.length sc] 43)).mono hB.size))
          have c0 := hS2.c0
          by_cases h3 : (sl.length : Int) > 15
          · go_wp2
            go_ret
            refine ⟨_, rfl, ?_, hB.alloc hB.size _⟩
            have : countB dl (ll.map QL.pl) = false := by
              rw [HV.out, Bool.eq_false_iff]
              intro h
              have h7 : decide ((sl.length : Int) ≤ 15) = true := (List.all_eq_true.1 h) _ (List.mem_map_of_mem HM.out)
              have := of_decide_eq_true h7
              omega
            rw [this]; rfl
          · go_wp2
            go_roundw
            case rel => exact ⟨k + 1, by omega, by go_num, by rw [HN.out]; exact decide_eq_true (by omega), hB.alloc hB.size _⟩
            case measure => simp [intOf]; omega
        · have hk1 : ¬ (k : Int) < (ll.length : Int) := by omega
          rw [List.take_of_length_le (by omega)] at hv
          go_wp2
          go_ret
          exact ⟨_, rfl, by rw [HV.out, hv]; rfl, hB⟩

end Go.Proofs.YtjiignkappabpaaDoor
