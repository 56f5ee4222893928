/-
  The specification's check of a plan.
-/
import Derived.Test.YtjiignkappabpaaDoorBootPlanB
import Derived.Test.YtjiignkappabpaaDoorBootCapS
namespace Go.Proofs.YtjiignkappabpaaDoor
open Go.ChangeShapes Go.WideShapes Go.ChangeAt Go.RowKit
set_option linter.unusedVariables false

def okSInv1 (w : World) (p : List Value) (L : List LP) (dl : List QD) (i : Value) (w' : World) : Prop :=
  ∃ k : Nat, k ≤ dl.length ∧ i = .int .i64 k ∧ domsB L 0 (dl.take k) = true ∧ Bx w' w.heap.size 31 p ∧ Below w.heap.size w w'
def okSInv2 (w : World) (p : List Value) (n : Int) (ll : List QL) (i : Value) (w' : World) : Prop :=
  ∃ k : Nat, k ≤ ll.length ∧ i = .int .i64 k ∧ ((ll.take k).map QL.pl).all (linkOkB n) = true ∧ Bx w' w.heap.size 31 p ∧ Below w.heap.size w w'
theorem linkOk_take {L : List QL} {k : Nat} (n : Int) (hk : k < L.length) : ((L.take (k + 1)).map QL.pl).all (linkOkB n) = (((L.take k).map QL.pl).all (linkOkB n) && linkOkB n (L[k].kd, L[k].bt, L[k].l)) := by
  rw [List.take_succ_eq_append_getElem hk, List.map_append, List.all_append]
  simp [QL.pl]

theorem wrap_add2 (a b : Int) (h0 : 0 ≤ a) (h1 : a ≤ 8192) (h2 : 0 ≤ b) (h3 : b ≤ 4096) : IntKind.i64.wrap (a + b) = a + b := by rw [IntKind.wrap_i64]; omega
theorem wrap_sub1 (n : Nat) (h : n ≤ 100) : IntKind.i64.wrap ((n : Int) + 1 - 1) = (n : Int) := by rw [IntKind.wrap_i64]; omega

set_option maxRecDepth 100000 in
set_option maxHeartbeats 8000000 in
theorem bootOkS_any (bits : Int) (dP : Option Addr) (dc : Nat) (dl : List QD) (lP : Option Addr) (lc : Nat) (ll : List QL) (w : World) (hd0 : LiesG fD w dP dl) (hl0 : LiesG fL w lP ll) (hI : InL w ll) (hd : dl.length ≤ 1048576) (hl : ll.length ≤ 1048576) (hle : ∀ x ∈ ll, x.l.length ≤ 1048576) :
    Calls Tryd.prog 5 #[.agg #[.int .i64 bits, .slice dP dl.length dc, .slice lP ll.length lc]] w fun e w' => e = .returned (.bool (planSB (bits, dl, ll.map QL.pl))) ∧ Below w.heap.size w w' := by
  have bw : Below w.heap.size w (w.alloc (.cells #[.int .i64 bits, .slice dP dl.length dc, .slice lP ll.length lc] 31)) := (Below.refl _ _).alloc (Nat.le_refl _) _
  have hx := Bx.new w 31 [.int .i64 bits, .slice dP dl.length dc, .slice lP ll.length lc]
  by_cases h0 : bits < 9
  · have HV : Hid (planSB (bits, dl, ll.map QL.pl) = false) := by
      unfold Hid planSB
      have : (withinB bits 9 12 && (withinB (dl.length : Int) 1 3 && decide (((ll.map QL.pl).length : Int) ≤ 6))) = false := by
        rw [List.length_map, Bool.eq_false_iff]; intro h; simp only [withinB, Bool.and_eq_true, decide_eq_true_eq] at h; omega
      simp only [this, Bool.false_and]
    go_enter Tryd.func5, Tryd.ntmps5
    go_wp2
    go_ret
    exact ⟨ret_bool HV.out.symm, bw⟩
  · skip
    by_cases h1 : bits > 12
    · have HV : Hid (planSB (bits, dl, ll.map QL.pl) = false) := by
        unfold Hid planSB
        have : (withinB bits 9 12 && (withinB (dl.length : Int) 1 3 && decide (((ll.map QL.pl).length : Int) ≤ 6))) = false := by
          rw [List.length_map, Bool.eq_false_iff]; intro h; simp only [withinB, Bool.and_eq_true, decide_eq_true_eq] at h; omega
        simp only [this, Bool.false_and]
      go_enter Tryd.func5, Tryd.ntmps5
      go_wp2
      go_ret
      exact ⟨ret_bool HV.out.symm, bw⟩
    · skip
      by_cases h2 : (dl.length : Int) < 1
      · have HV : Hid (planSB (bits, dl, ll.map QL.pl) = false) := by
          unfold Hid planSB
          have : (withinB bits 9 12 && (withinB (dl.length : Int) 1 3 && decide (((ll.map QL.pl).length : Int) ≤ 6))) = false := by
            rw [List.length_map, Bool.eq_false_iff]; intro h; simp only [withinB, Bool.and_eq_true, decide_eq_true_eq] at h; omega
          simp only [this, Bool.false_and]
        go_enter Tryd.func5, Tryd.ntmps5
        go_wp2
        go_ret
        exact ⟨ret_bool HV.out.symm, bw⟩
      · skip
        by_cases h3 : (dl.length : Int) > 3
        · have HV : Hid (planSB (bits, dl, ll.map QL.pl) = false) := by
            unfold Hid planSB
            have : (withinB bits 9 12 && (withinB (dl.length : Int) 1 3 && decide (((ll.map QL.pl).length : Int) ≤ 6))) = false := by
              rw [List.length_map, Bool.eq_false_iff]; intro h; simp only [withinB, Bool.and_eq_true, decide_eq_true_eq] at h; omega
            simp only [this, Bool.false_and]
          go_enter Tryd.func5, Tryd.ntmps5
          go_wp2
          go_ret
          exact ⟨ret_bool HV.out.symm, bw⟩
        · skip
          by_cases h4 : (ll.length : Int) > 6
          · have HV : Hid (planSB (bits, dl, ll.map QL.pl) = false) := by
              unfold Hid planSB
              have : (withinB bits 9 12 && (withinB (dl.length : Int) 1 3 && decide (((ll.map QL.pl).length : Int) ≤ 6))) = false := by
                rw [List.length_map, Bool.eq_false_iff]; intro h; simp only [withinB, Bool.and_eq_true, decide_eq_true_eq] at h; omega
              simp only [this, Bool.false_and]
            go_enter Tryd.func5, Tryd.ntmps5
            go_wp2
            go_ret
            exact ⟨ret_bool HV.out.symm, bw⟩
          · skip
            have HV : Hid (planSB (bits, dl, ll.map QL.pl) = (domsB (ll.map QL.pl) 0 dl && ((ll.map QL.pl).all (linkOkB dl.length) && decide (lastE (partsS dl (ll.map QL.pl)) ≤ sizeI bits)))) := by
              unfold Hid planSB
              have : (withinB bits 9 12 && (withinB (dl.length : Int) 1 3 && decide (((ll.map QL.pl).length : Int) ≤ 6))) = true := by
                rw [List.length_map]; simp only [withinB, Bool.and_eq_true, decide_eq_true_eq]; omega
              simp only [this, Bool.true_and]
            go_enter Tryd.func5, Tryd.ntmps5
            go_wp2
            go_loopw [3] (fun i w' => okSInv1 w [.int .i64 bits, .slice dP dl.length dc, .slice lP ll.length lc] (ll.map QL.pl) dl i w') (fun i w' => dl.length - (intOf i).toNat)
            case atStart => exact ⟨0, Nat.zero_le _, rfl, rfl, hx, bw⟩
            case round =>
              clear hx
              obtain ⟨k, hk, rfl, hv, hx, hB⟩ := hrel
              have hD := hd0.below hB
              have y1 := hx.cell 1 _ rfl
              by_cases hlt : k < dl.length
              · obtain ⟨B, O, rfl⟩ := hD.has hlt
                have cc := atD hD hlt
                have hno := domsB_no (ll.map QL.pl) hlt
                have hat := domsB_take (ll.map QL.pl) hlt
                rw [hv, Bool.true_and] at hat
                generalize dl[k] = d at cc hno hat
                have HNO : Hid _ := hno
                have HAT : Hid _ := hat
                clear hno hat
                obtain ⟨c0, c1, c2⟩ := cc
                have hk1 : (k : Int) < (dl.length : Int) := by omega
                have bA : Below wr.heap.size wr (wr.alloc (.cells #[.int .i64 d.pr, .int .i64 d.mx, .int .i64 d.bt] 38)) := (Below.refl _ _).alloc (Nat.le_refl _) _
                have hxA := hx.below bA
                have bwA := hB.trans (bA.mono hB.size)
                have a0 := hxA.cell 0 _ rfl
                have a1 := hxA.cell 1 _ rfl
                have a2 := hxA.cell 2 _ rfl
                have HCP : Hid _ := capS_any bits (some ⟨B, O, none⟩) dc dl lP lc ll (k : Int) (wr.alloc (.cells #[.int .i64 d.pr, .int .i64 d.mx, .int .i64 d.bt] 38)) (hl0.below bwA) (hI.below bwA) (by omega) hle
                by_cases g0 : d.pr < 0
                · have HF : Hid (domB d = false) := by unfold Hid; rw [Bool.eq_false_iff]; intro h; simp only [domB, withinB, Bool.and_eq_true, decide_eq_true_eq] at h; omega
                  go_wp2
                  go_ret
                  exact ⟨ret_bool (by rw [HV.out, HNO.out (by rw [HF.out, Bool.false_and]), Bool.false_and]), bwA⟩
                · skip
                  by_cases g1 : d.pr > 7
                  · have HF : Hid (domB d = false) := by unfold Hid; rw [Bool.eq_false_iff]; intro h; simp only [domB, withinB, Bool.and_eq_true, decide_eq_true_eq] at h; omega
                    go_wp2
                    go_ret
                    exact ⟨ret_bool (by rw [HV.out, HNO.out (by rw [HF.out, Bool.false_and]), Bool.false_and]), bwA⟩
                  · skip
                    by_cases g2 : d.mx < 0
                    · have HF : Hid (domB d = false) := by unfold Hid; rw [Bool.eq_false_iff]; intro h; simp only [domB, withinB, Bool.and_eq_true, decide_eq_true_eq] at h; omega
                      go_wp2
                      go_ret
                      exact ⟨ret_bool (by rw [HV.out, HNO.out (by rw [HF.out, Bool.false_and]), Bool.false_and]), bwA⟩
                    · skip
                      by_cases g3 : d.mx > 7
                      · have HF : Hid (domB d = false) := by unfold Hid; rw [Bool.eq_false_iff]; intro h; simp only [domB, withinB, Bool.and_eq_true, decide_eq_true_eq] at h; omega
                        go_wp2
                        go_ret
                        exact ⟨ret_bool (by rw [HV.out, HNO.out (by rw [HF.out, Bool.false_and]), Bool.false_and]), bwA⟩
                      · skip
                        by_cases g4 : d.bt < 5
                        · have HF : Hid (domB d = false) := by unfold Hid; rw [Bool.eq_false_iff]; intro h; simp only [domB, withinB, Bool.and_eq_true, decide_eq_true_eq] at h; omega
                          go_wp2
                          go_ret
                          exact ⟨ret_bool (by rw [HV.out, HNO.out (by rw [HF.out, Bool.false_and]), Bool.false_and]), bwA⟩
                        · skip
                          by_cases g5 : d.bt > 8
                          · have HF : Hid (domB d = false) := by unfold Hid; rw [Bool.eq_false_iff]; intro h; simp only [domB, withinB, Bool.and_eq_true, decide_eq_true_eq] at h; omega
                            go_wp2
                            go_ret
                            exact ⟨ret_bool (by rw [HV.out, HNO.out (by rw [HF.out, Bool.false_and]), Bool.false_and]), bwA⟩
                          · skip
                            have HF : Hid (domB d = true) := by unfold Hid; simp only [domB, withinB, Bool.and_eq_true, decide_eq_true_eq]; omega
                            generalize hnn : namedN (k : Int) (ll.map QL.pl) = nn at *
                            by_cases g6 : (nn : Int) > 5
                            · go_wp2_with ((go_at_call 11; refine Calls.mono HCP.out ?_; rintro e w2 ⟨rfl, hb2⟩))
                              go_ret
                              exact ⟨ret_bool (by rw [HV.out, HNO.out (by rw [HF.out, Bool.true_and]; exact decide_eq_false (by omega)), Bool.false_and]), bwA.trans (hb2.mono bwA.size)⟩
                            · go_wp2_with ((go_at_call 11; refine Calls.mono HCP.out ?_; rintro e w2 ⟨rfl, hb2⟩))
                              go_roundw
                              case rel => exact ⟨k + 1, by omega, by go_num, by rw [HAT.out, HF.out, Bool.true_and]; exact decide_eq_true (by omega), hxA.below hb2, bwA.trans (hb2.mono bwA.size)⟩
                              case measure => simp [intOf]; omega
              · have hk1 : ¬ (k : Int) < (dl.length : Int) := by omega
                rw [List.take_of_length_le (by omega)] at hv
                go_wp2
                go_loopw [5] (fun i w' => okSInv2 w [.int .i64 bits, .slice dP dl.length dc, .slice lP ll.length lc] dl.length ll i w') (fun i w' => ll.length - (intOf i).toNat)
                case atStart => exact ⟨0, Nat.zero_le _, rfl, rfl, hx, hB⟩
                case round =>
                  rw [hv, Bool.true_and] at HV
                  clear hx hB y1 hD hk1
                  obtain ⟨k, hk, rfl, hv2, hx, hB⟩ := hrel
                  have hL1 := hl0.below hB
                  have y0 := hx.cell 0 _ rfl
                  have y1 := hx.cell 1 _ rfl
                  have y2 := hx.cell 2 _ rfl
                  by_cases hlt : k < ll.length
                  · obtain ⟨B, O, rfl⟩ := hL1.has hlt
                    have cc := atL hL1 hlt
                    have hbl := hL1.lt hlt
                    have hrow := (hI ll[k] (List.getElem_mem hlt)).below hB
                    have hlen := hle ll[k] (List.getElem_mem hlt)
                    have hat := linkOk_take (L := ll) (k := k) (dl.length : Int) hlt
                    rw [hv2, Bool.true_and] at hat
                    generalize hs : ll[k] = s at cc hat hrow hlen
                    have HM : Hid (s ∈ ll) := by unfold Hid; rw [← hs]; exact List.getElem_mem hlt
                    clear hs
                    obtain ⟨skd, sbt, sP, sc, sl⟩ := s
                    simp only at cc hat hrow hlen
                    have HAT : Hid _ := hat
                    clear hat
                    obtain ⟨c0, c1, c2⟩ := cc
                    have hk1 : (k : Int) < (ll.length : Int) := by omega
                    have HLK : Hid _ := lnkS_any bits dP dc dl (some ⟨B, O, none⟩) ll.length lc skd sbt sP sc sl wr.drew (by omega) hlen hrow.drew
                    have s0 : (wr.cell? ⟨w.heap.size, 0, none⟩ = some (.int .i64 bits) ∧ wr.cell? ⟨w.heap.size, 1, none⟩ = some (.slice dP dl.length dc) ∧ wr.cell? ⟨w.heap.size, 2, none⟩ = some (.slice (some ⟨B, O, none⟩) ll.length lc)) ∧ (wr.cell? ⟨B, O + k * 3, none⟩ = some (.int .i64 skd) ∧ wr.cell? ⟨B, O + k * 3 + 1, none⟩ = some (.int .i64 sbt) ∧ wr.cell? ⟨B, O + k * 3 + 2, none⟩ = some (.slice sP sl.length sc)) := ⟨⟨y0, y1, y2⟩, ⟨c0, c1, c2⟩⟩
                    have s0d : (wr.drew.cell? ⟨w.heap.size, 0, none⟩ = some (.int .i64 bits) ∧ wr.drew.cell? ⟨w.heap.size, 1, none⟩ = some (.slice dP dl.length dc) ∧ wr.drew.cell? ⟨w.heap.size, 2, none⟩ = some (.slice (some ⟨B, O, none⟩) ll.length lc)) ∧ (wr.drew.cell? ⟨B, O + k * 3, none⟩ = some (.int .i64 skd) ∧ wr.drew.cell? ⟨B, O + k * 3 + 1, none⟩ = some (.int .i64 sbt) ∧ wr.drew.cell? ⟨B, O + k * 3 + 2, none⟩ = some (.slice sP sl.length sc)) := s0
                    have bd : Below w.heap.size w wr.drew := hB.drew
                    cases hq : linkOkB dl.length (skd, sbt, sl)
                    · rw [hq] at HLK
                      have HNO : Hid ((ll.map QL.pl).all (linkOkB dl.length) = false) := by
                        unfold Hid; rw [Bool.eq_false_iff]; intro h'
                        have := (List.all_eq_true.1 h') _ (List.mem_map_of_mem HM.out)
                        simp only [QL.pl, hq] at this; cases this
                      go_wp2_with fail
                      go_region_held3 (fun w' => (w'.cell? ⟨w.heap.size, 0, none⟩ = some (.int .i64 bits) ∧ w'.cell? ⟨w.heap.size, 1, none⟩ = some (.slice dP dl.length dc) ∧ w'.cell? ⟨w.heap.size, 2, none⟩ = some (.slice (some ⟨B, O, none⟩) ll.length lc)) ∧ (w'.cell? ⟨B, O + k * 3, none⟩ = some (.int .i64 skd) ∧ w'.cell? ⟨B, O + k * 3 + 1, none⟩ = some (.int .i64 sbt) ∧ w'.cell? ⟨B, O + k * 3 + 2, none⟩ = some (.slice sP sl.length sc))) (first | exact s0 | exact s0d | exact s1)
                        ((go_at_call 12; refine Calls.mono HLK.out ?_; rintro e w2 ⟨rfl, hb2⟩; have bw2 := bd.trans (hb2.mono bd.size); have hx2 := hx.drew.below hb2; have hL2 := (hL1.drew.below hb2); have s1 : (w2.cell? ⟨w.heap.size, 0, none⟩ = some (.int .i64 bits) ∧ w2.cell? ⟨w.heap.size, 1, none⟩ = some (.slice dP dl.length dc) ∧ w2.cell? ⟨w.heap.size, 2, none⟩ = some (.slice (some ⟨B, O, none⟩) ll.length lc)) ∧ (w2.cell? ⟨B, O + k * 3, none⟩ = some (.int .i64 skd) ∧ w2.cell? ⟨B, O + k * 3 + 1, none⟩ = some (.int .i64 sbt) ∧ w2.cell? ⟨B, O + k * 3 + 2, none⟩ = some (.slice sP sl.length sc)) := ⟨⟨hx2.cell 0 _ rfl, hx2.cell 1 _ rfl, hx2.cell 2 _ rfl⟩, ⟨((bcell hb2).1 _ _ hbl).trans c0, ((bcell hb2).1 _ _ hbl).trans c1, ((bcell hb2).1 _ _ hbl).trans c2⟩⟩))
                      go_wp2
                      go_ret
                      exact ⟨ret_bool (by rw [HV.out, HNO.out, Bool.false_and]), bw2⟩
                    · rw [hq] at HLK
                      go_wp2_with fail
                      go_region_held3 (fun w' => (w'.cell? ⟨w.heap.size, 0, none⟩ = some (.int .i64 bits) ∧ w'.cell? ⟨w.heap.size, 1, none⟩ = some (.slice dP dl.length dc) ∧ w'.cell? ⟨w.heap.size, 2, none⟩ = some (.slice (some ⟨B, O, none⟩) ll.length lc)) ∧ (w'.cell? ⟨B, O + k * 3, none⟩ = some (.int .i64 skd) ∧ w'.cell? ⟨B, O + k * 3 + 1, none⟩ = some (.int .i64 sbt) ∧ w'.cell? ⟨B, O + k * 3 + 2, none⟩ = some (.slice sP sl.length sc))) (first | exact s0 | exact s0d | exact s1)
                        ((go_at_call 12; refine Calls.mono HLK.out ?_; rintro e w2 ⟨rfl, hb2⟩; have bw2 := bd.trans (hb2.mono bd.size); have hx2 := hx.drew.below hb2; have s1 : (w2.cell? ⟨w.heap.size, 0, none⟩ = some (.int .i64 bits) ∧ w2.cell? ⟨w.heap.size, 1, none⟩ = some (.slice dP dl.length dc) ∧ w2.cell? ⟨w.heap.size, 2, none⟩ = some (.slice (some ⟨B, O, none⟩) ll.length lc)) ∧ (w2.cell? ⟨B, O + k * 3, none⟩ = some (.int .i64 skd) ∧ w2.cell? ⟨B, O + k * 3 + 1, none⟩ = some (.int .i64 sbt) ∧ w2.cell? ⟨B, O + k * 3 + 2, none⟩ = some (.slice sP sl.length sc)) := ⟨⟨hx2.cell 0 _ rfl, hx2.cell 1 _ rfl, hx2.cell 2 _ rfl⟩, ⟨((bcell hb2).1 _ _ hbl).trans c0, ((bcell hb2).1 _ _ hbl).trans c1, ((bcell hb2).1 _ _ hbl).trans c2⟩⟩))
                      go_wp2
                      go_roundw
                      case rel => exact ⟨k + 1, by omega, by go_num, by rw [HAT.out]; exact hq, hx2, bw2⟩
                      case measure => simp [intOf]; omega
                  · have hk1 : ¬ (k : Int) < (ll.length : Int) := by omega
                    rw [List.take_of_length_le (by omega)] at hv2
                    rw [hv2, Bool.true_and] at HV
                    have HP : Hid _ := parts_any bits dP dc dl lP lc ll wr (hd0.below hB) (hl0.below hB) (by omega) (by omega)
                    have hpl : (partsS dl (ll.map QL.pl)).length = 3 * dl.length + ll.length := by unfold partsS; rw [layP_length, layP_length, sizesS_length, sizesK_length, List.length_map]; simp
                    have hsb := sizeI_bd bits
                    generalize partsS dl (ll.map QL.pl) = A at *
                    obtain ⟨n, hn⟩ : ∃ n, A.length = n + 1 := ⟨A.length - 1, by omega⟩
                    have hn9 : n ≤ 100 := by omega
                    have HLA : Hid (lastE A = A[n].ad + A[n].sz) := by unfold Hid; rw [lastE_at (by omega)]; simp only [show A.length - 1 = n by omega]
                    clear hpl
                    have hnw : IntKind.i64.wrap ((n : Int) + 1 - 1) = (n : Int) := wrap_sub1 n hn9
                    go_upto_region 15 with ((go_at_call 13; refine Calls.mono HP.out ?_; rintro e w1 ⟨v, rfl, own, hT, hb1⟩; obtain ⟨P, cap, rfl, hlies, _, _, hPb, _⟩ := own.form; rw [hn]))
                    obtain ⟨B, O, rfl⟩ := hlies.has (i := n) (by omega)
                    have hO := (hPb B O rfl).2.2.1
                    subst hO
                    have cc := atA hlies (k := n) (by omega)
                    have hbd := hT A[n] (List.getElem_mem _)
                    generalize A[n] = x at cc hbd HLA
                    obtain ⟨c0, c1, c2⟩ := cc
                    simp only [Nat.zero_add] at c0 c1 c2
                    have hx1 := hx.below hb1
                    have bw1 := hB.trans (hb1.mono hB.size)
                    clear own hT hlies hPb HP hn y0 y1 y2
                    go_upto_region 16 with fail
                    have hxp := Bx.new w1 47 [.int .i64 x.ad, .int .i64 x.sz, .int .i64 x.lb]
                    have bA : Below w1.heap.size w1 (w1.alloc (.cells #[.int .i64 x.ad, .int .i64 x.sz, .int .i64 x.lb] 47)) := (Below.refl _ _).alloc (Nat.le_refl _) _
                    have hxA := hx1.below bA
                    have bwA := bw1.trans (bA.mono bw1.size)
                    generalize w1.alloc (.cells #[.int .i64 x.ad, .int .i64 x.sz, .int .i64 x.lb] 47) = wA at hxp bA hxA bwA ⊢
                    have s0 : (wA.cell? ⟨w.heap.size, 0, none⟩ = some (.int .i64 bits)) ∧ (wA.cell? ⟨w1.heap.size, 0, none⟩ = some (.int .i64 x.ad) ∧ wA.cell? ⟨w1.heap.size, 1, none⟩ = some (.int .i64 x.sz)) := ⟨hxA.cell 0 _ rfl, ⟨hxp.cell 0 _ rfl, hxp.cell 1 _ rfl⟩⟩
                    have s0d : (wA.drew.cell? ⟨w.heap.size, 0, none⟩ = some (.int .i64 bits)) ∧ (wA.drew.cell? ⟨w1.heap.size, 0, none⟩ = some (.int .i64 x.ad) ∧ wA.drew.cell? ⟨w1.heap.size, 1, none⟩ = some (.int .i64 x.sz)) := s0
                    go_region_held3 (fun w' => (w'.cell? ⟨w.heap.size, 0, none⟩ = some (.int .i64 bits)) ∧ (w'.cell? ⟨w1.heap.size, 0, none⟩ = some (.int .i64 x.ad) ∧ w'.cell? ⟨w1.heap.size, 1, none⟩ = some (.int .i64 x.sz))) (first | exact s0 | exact s0d)
                      ((go_at_call 14; refine Calls.mono (sizeSpec_any bits _) ?_; rintro e w9 ⟨rfl, hw⟩; have hw := hw.symm; subst hw))
                    go_wp2
                    go_ret
                    exact ⟨ret_bool (by rw [HV.out, HLA.out, wrap_add2 _ _ hbd.1 hbd.2.1 hbd.2.2.1 hbd.2.2.2]), bwA.drew⟩

end Go.Proofs.YtjiignkappabpaaDoor
