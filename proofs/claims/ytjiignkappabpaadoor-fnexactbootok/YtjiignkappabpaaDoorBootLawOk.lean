/-
  The law of BootOk: its walk.
-/
import Derived.Test.YtjiignkappabpaaDoorBootOkBoth
import Derived.Test.YtjiignkappabpaaDoorOpenPlan
namespace Go.Proofs.YtjiignkappabpaaDoor
open Go.ChangeShapes Go.WideShapes Go.ChangeAt Go.RowKit
set_option linter.unusedVariables false

theorem QP.fit_of {p q : QP} (h : p.pl = q.pl) (hf : p.Fit) : q.Fit := by
  intro x hx t ht
  have h2 := QP.pl_l h
  have : x.pl ∈ p.ll.map QL.pl := by rw [h2]; exact List.mem_map_of_mem hx
  obtain ⟨y, hy, e⟩ := List.mem_map.1 this
  simp [QL.pl] at e
  exact hf y hy t (by rw [e.2.2]; exact ht)
theorem plan_of {p q : QP} (h : q.pl = p.pl) : planB (q.bits, q.dl, q.ll.map QL.pl) = planB p.pl := congrArg planB h

set_option maxRecDepth 100000 in
set_option maxHeartbeats 4000000 in
theorem bootOkLaw_great (p : QP) (w : World) (hP : PlanIn w p) (lP : p.Long) (hsz : ¬ (p.sz : Int) ≤ 1048576) :
    Calls Tryd.prog 3 #[.agg #[.int .i64 p.bits, .slice p.dP p.dl.length p.dc, .slice p.lP p.ll.length p.lc]] w fun e w' => e = .returned (.bool true) ∧ Below w.heap.size w w' := by
  have bw : Below w.heap.size w (w.alloc (.cells #[.int .i64 p.bits, .slice p.dP p.dl.length p.dc, .slice p.lP p.ll.length p.lc] 25)) := (Below.refl _ _).alloc (Nat.le_refl _) _
  have HS1 : Hid _ := szP_any p 1048576 _ (by decide) (by decide) lP (hP.below bw)
  rw [szR_neg hsz] at HS1
  go_enter Tryd.func3, Tryd.ntmps3
  go_wp2_with ((go_at_call 4; refine Calls.mono HS1.out ?_; rintro e w1 ⟨rfl, hb⟩))
  go_ret
  exact ⟨rfl, bw.trans (hb.mono bw.size)⟩

set_option maxRecDepth 100000 in
set_option maxHeartbeats 8000000 in
theorem bootOkLaw_false (p : QP) (w : World) (e0 e1 e2 e3 e4 : Addr) (hS : Sents w e0 e1 e2 e3 e4) (hP : PlanIn w p) (lP : p.Long) (fP : p.Fit) (hsz : (p.sz : Int) ≤ 1048576) (hpb : planB p.pl = false) :
    Calls Tryd.prog 3 #[.agg #[.int .i64 p.bits, .slice p.dP p.dl.length p.dc, .slice p.lP p.ll.length p.lc]] w fun e w' => e = .returned (.bool true) ∧ Below w.heap.size w w' := by
  have sh : p.Short := QP.short (by omega)
  have bw : Below w.heap.size w (w.alloc (.cells #[.int .i64 p.bits, .slice p.dP p.dl.length p.dc, .slice p.lP p.ll.length p.lc] 25)) := (Below.refl _ _).alloc (Nat.le_refl _) _
  have xa := Bx.new w 25 [.int .i64 p.bits, .slice p.dP p.dl.length p.dc, .slice p.lP p.ll.length p.lc]
  have HS1 : Hid _ := szP_any p 1048576 _ (by decide) (by decide) lP (hP.below bw)
  rw [szR_pos hsz] at HS1
  obtain ⟨z, hz⟩ : ∃ z : Int, 1048576 - (p.sz : Int) = z := ⟨_, rfl⟩
  rw [hz] at HS1
  have hz0 : ¬ z < 0 := by omega
  clear hz hsz
  have HT : Hid _ := fun (W : World) (hW : Below w.heap.size w W) => toP_any p W sh (hP.below hW)
  go_enter Tryd.func3, Tryd.ntmps3
  go_upto_region 10 with (first
    | (go_at_call 7; refine Calls.mono (bootOkI_any q2.bits q2.dP q2.dc q2.dl q2.lP q2.lc q2.ll _ e0 e1 e2 e3 e4 (hS.below bw3A) p2A.d p2A.l p2A.li sh2.d sh2.l sh2.li (QP.fit_of hq2.symm fP)) ?_; rw [plan_of hq2, hpb]; rintro e w4 ⟨rfl, hb4⟩)
    | (go_at_call 5; refine Calls.mono (bootOkS2_any q1.bits q1.dP q1.dc q1.dl q1.lP q1.lc q1.ll _ p1.d p1.l p1.li sh1.d sh1.l sh1.li) ?_; rw [plan_of hq1, hpb]; rintro e w2 ⟨rfl, hb2⟩; have bw2 := bw1.trans (hb2.mono bw1.size); have xa2 := xa1.below hb2; have a0 := xa2.cell 0 _ rfl; have a1 := xa2.cell 1 _ rfl; have a2 := xa2.cell 2 _ rfl)
    | (have _q := hb2; go_at_call 6; refine Calls.mono (HT.out _ bw2) ?_; rintro e w3 ⟨q2, rfl, hq2, p2, hb3⟩; have bw3 := bw2.trans (hb3.mono bw2.size); have xa3 := xa2.below hb3; have sh2 := QP.short_of hq2.symm sh; have bA : Below w3.heap.size w3 (w3.alloc (.cells #[.int .i64 q2.bits, .slice q2.dP q2.dl.length q2.dc, .slice q2.lP q2.ll.length q2.lc] 31)) := (Below.refl _ _).alloc (Nat.le_refl _) _; have bw3A := bw3.trans (bA.mono bw3.size); have p2A := p2.below bA)
    | (have _q := hbz; go_at_call 6; refine Calls.mono (HT.out _ bwz) ?_; rintro e w1 ⟨q1, rfl, hq1, p1, hb1⟩; have bw1 := bwz.trans (hb1.mono bwz.size); have xa1 := xaz.below hb1; have sh1 := QP.short_of hq1.symm sh)
    | (go_at_call 4; refine Calls.mono HS1.out ?_; rintro e wz ⟨rfl, hbz⟩; have bwz := bw.trans (hbz.mono bw.size); have xaz := xa.below hbz; have a0 := xaz.cell 0 _ rfl; have a1 := xaz.cell 1 _ rfl; have a2 := xaz.cell 2 _ rfl))
  have bw4 := bw3A.trans (hb4.mono bw3A.size)
  have x4 := (Bx.new w3 31 [.int .i64 q2.bits, .slice q2.dP q2.dl.length q2.dc, .slice q2.lP q2.ll.length q2.lc]).below hb4
  have xa4 := (xa3.below bA).below hb4
  have p24 := p2A.below hb4
  have s0 : (w4.cell? ⟨w3.heap.size, 0, none⟩ = some (.int .i64 q2.bits) ∧ w4.cell? ⟨w3.heap.size, 1, none⟩ = some (.slice q2.dP q2.dl.length q2.dc) ∧ w4.cell? ⟨w3.heap.size, 2, none⟩ = some (.slice q2.lP q2.ll.length q2.lc)) ∧ (w4.cell? ⟨w.heap.size, 0, none⟩ = some (.int .i64 p.bits) ∧ w4.cell? ⟨w.heap.size, 1, none⟩ = some (.slice p.dP p.dl.length p.dc) ∧ w4.cell? ⟨w.heap.size, 2, none⟩ = some (.slice p.lP p.ll.length p.lc)) := ⟨⟨x4.cell 0 _ rfl, x4.cell 1 _ rfl, x4.cell 2 _ rfl⟩, ⟨xa4.cell 0 _ rfl, xa4.cell 1 _ rfl, xa4.cell 2 _ rfl⟩⟩
  have s0d : (w4.drew.cell? ⟨w3.heap.size, 0, none⟩ = some (.int .i64 q2.bits) ∧ w4.drew.cell? ⟨w3.heap.size, 1, none⟩ = some (.slice q2.dP q2.dl.length q2.dc) ∧ w4.drew.cell? ⟨w3.heap.size, 2, none⟩ = some (.slice q2.lP q2.ll.length q2.lc)) ∧ (w4.drew.cell? ⟨w.heap.size, 0, none⟩ = some (.int .i64 p.bits) ∧ w4.drew.cell? ⟨w.heap.size, 1, none⟩ = some (.slice p.dP p.dl.length p.dc) ∧ w4.drew.cell? ⟨w.heap.size, 2, none⟩ = some (.slice p.lP p.ll.length p.lc)) := s0
  have b4d : Below w.heap.size w w4.drew := bw4.drew
  go_region_held3 (fun w' => (w'.cell? ⟨w3.heap.size, 0, none⟩ = some (.int .i64 q2.bits) ∧ w'.cell? ⟨w3.heap.size, 1, none⟩ = some (.slice q2.dP q2.dl.length q2.dc) ∧ w'.cell? ⟨w3.heap.size, 2, none⟩ = some (.slice q2.lP q2.ll.length q2.lc)) ∧ (w'.cell? ⟨w.heap.size, 0, none⟩ = some (.int .i64 p.bits) ∧ w'.cell? ⟨w.heap.size, 1, none⟩ = some (.slice p.dP p.dl.length p.dc) ∧ w'.cell? ⟨w.heap.size, 2, none⟩ = some (.slice p.lP p.ll.length p.lc))) (first | exact s0 | exact s0d | exact s5 | exact s6)
    (first
      | (go_at_call 6; refine Calls.mono (HT.out _ b4d) ?_; rintro e w5 ⟨q3, rfl, hq3, p3, hb5⟩; have x5 := x4.drew.below hb5; have xa5 := xa4.drew.below hb5; have s5 : (w5.cell? ⟨w3.heap.size, 0, none⟩ = some (.int .i64 q2.bits) ∧ w5.cell? ⟨w3.heap.size, 1, none⟩ = some (.slice q2.dP q2.dl.length q2.dc) ∧ w5.cell? ⟨w3.heap.size, 2, none⟩ = some (.slice q2.lP q2.ll.length q2.lc)) ∧ (w5.cell? ⟨w.heap.size, 0, none⟩ = some (.int .i64 p.bits) ∧ w5.cell? ⟨w.heap.size, 1, none⟩ = some (.slice p.dP p.dl.length p.dc) ∧ w5.cell? ⟨w.heap.size, 2, none⟩ = some (.slice p.lP p.ll.length p.lc)) := ⟨⟨x5.cell 0 _ rfl, x5.cell 1 _ rfl, x5.cell 2 _ rfl⟩, ⟨xa5.cell 0 _ rfl, xa5.cell 1 _ rfl, xa5.cell 2 _ rfl⟩⟩)
      | (go_at_call 8; refine Calls.mono (eqP_same q2 q3 _ sh2 (hq2.trans hq3.symm) (p24.drew.below hb5) p3) ?_; rintro e w6 ⟨rfl, hb6⟩; have x6 := x5.below hb6; have xa6 := xa5.below hb6; have s6 : (w6.cell? ⟨w3.heap.size, 0, none⟩ = some (.int .i64 q2.bits) ∧ w6.cell? ⟨w3.heap.size, 1, none⟩ = some (.slice q2.dP q2.dl.length q2.dc) ∧ w6.cell? ⟨w3.heap.size, 2, none⟩ = some (.slice q2.lP q2.ll.length q2.lc)) ∧ (w6.cell? ⟨w.heap.size, 0, none⟩ = some (.int .i64 p.bits) ∧ w6.cell? ⟨w.heap.size, 1, none⟩ = some (.slice p.dP p.dl.length p.dc) ∧ w6.cell? ⟨w.heap.size, 2, none⟩ = some (.slice p.lP p.ll.length p.lc)) := ⟨⟨x6.cell 0 _ rfl, x6.cell 1 _ rfl, x6.cell 2 _ rfl⟩, ⟨xa6.cell 0 _ rfl, xa6.cell 1 _ rfl, xa6.cell 2 _ rfl⟩⟩))
  go_wp2
  go_ret
  exact ⟨rfl, (b4d.trans (hb5.mono b4d.size)).trans (hb6.mono (Nat.le_trans b4d.size hb5.size))⟩

set_option maxRecDepth 100000 in
set_option maxHeartbeats 8000000 in
theorem bootOkLaw_true (p : QP) (w : World) (e0 e1 e2 e3 e4 : Addr) (hS : Sents w e0 e1 e2 e3 e4) (hP : PlanIn w p) (lP : p.Long) (fP : p.Fit) (hsz : (p.sz : Int) ≤ 1048576) (hpb : planB p.pl = true) :
    Calls Tryd.prog 3 #[.agg #[.int .i64 p.bits, .slice p.dP p.dl.length p.dc, .slice p.lP p.ll.length p.lc]] w fun e w' => e = .returned (.bool true) ∧ Below w.heap.size w w' := by
  have sh : p.Short := QP.short (by omega)
  have bw : Below w.heap.size w (w.alloc (.cells #[.int .i64 p.bits, .slice p.dP p.dl.length p.dc, .slice p.lP p.ll.length p.lc] 25)) := (Below.refl _ _).alloc (Nat.le_refl _) _
  have xa := Bx.new w 25 [.int .i64 p.bits, .slice p.dP p.dl.length p.dc, .slice p.lP p.ll.length p.lc]
  have HS1 : Hid _ := szP_any p 1048576 _ (by decide) (by decide) lP (hP.below bw)
  rw [szR_pos hsz] at HS1
  obtain ⟨z, hz⟩ : ∃ z : Int, 1048576 - (p.sz : Int) = z := ⟨_, rfl⟩
  rw [hz] at HS1
  have hz0 : ¬ z < 0 := by omega
  clear hz hsz
  have HT : Hid _ := fun (W : World) (hW : Below w.heap.size w W) => toP_any p W sh (hP.below hW)
  go_enter Tryd.func3, Tryd.ntmps3
  go_upto_region 10 with (first
    | (go_at_call 7; refine Calls.mono (bootOkI_any q2.bits q2.dP q2.dc q2.dl q2.lP q2.lc q2.ll _ e0 e1 e2 e3 e4 (hS.below bw3A) p2A.d p2A.l p2A.li sh2.d sh2.l sh2.li (QP.fit_of hq2.symm fP)) ?_; rw [plan_of hq2, hpb]; rintro e w4 ⟨rfl, hb4⟩)
    | (go_at_call 5; refine Calls.mono (bootOkS2_any q1.bits q1.dP q1.dc q1.dl q1.lP q1.lc q1.ll _ p1.d p1.l p1.li sh1.d sh1.l sh1.li) ?_; rw [plan_of hq1, hpb]; rintro e w2 ⟨rfl, hb2⟩; have bw2 := bw1.trans (hb2.mono bw1.size); have xa2 := xa1.below hb2; have a0 := xa2.cell 0 _ rfl; have a1 := xa2.cell 1 _ rfl; have a2 := xa2.cell 2 _ rfl)
    | (have _q := hb2; go_at_call 6; refine Calls.mono (HT.out _ bw2) ?_; rintro e w3 ⟨q2, rfl, hq2, p2, hb3⟩; have bw3 := bw2.trans (hb3.mono bw2.size); have xa3 := xa2.below hb3; have sh2 := QP.short_of hq2.symm sh; have bA : Below w3.heap.size w3 (w3.alloc (.cells #[.int .i64 q2.bits, .slice q2.dP q2.dl.length q2.dc, .slice q2.lP q2.ll.length q2.lc] 31)) := (Below.refl _ _).alloc (Nat.le_refl _) _; have bw3A := bw3.trans (bA.mono bw3.size); have p2A := p2.below bA)
    | (have _q := hbz; go_at_call 6; refine Calls.mono (HT.out _ bwz) ?_; rintro e w1 ⟨q1, rfl, hq1, p1, hb1⟩; have bw1 := bwz.trans (hb1.mono bwz.size); have xa1 := xaz.below hb1; have sh1 := QP.short_of hq1.symm sh)
    | (go_at_call 4; refine Calls.mono HS1.out ?_; rintro e wz ⟨rfl, hbz⟩; have bwz := bw.trans (hbz.mono bw.size); have xaz := xa.below hbz; have a0 := xaz.cell 0 _ rfl; have a1 := xaz.cell 1 _ rfl; have a2 := xaz.cell 2 _ rfl))
  have bw4 := bw3A.trans (hb4.mono bw3A.size)
  have x4 := (Bx.new w3 31 [.int .i64 q2.bits, .slice q2.dP q2.dl.length q2.dc, .slice q2.lP q2.ll.length q2.lc]).below hb4
  have xa4 := (xa3.below bA).below hb4
  have p24 := p2A.below hb4
  have s0 : (w4.cell? ⟨w3.heap.size, 0, none⟩ = some (.int .i64 q2.bits) ∧ w4.cell? ⟨w3.heap.size, 1, none⟩ = some (.slice q2.dP q2.dl.length q2.dc) ∧ w4.cell? ⟨w3.heap.size, 2, none⟩ = some (.slice q2.lP q2.ll.length q2.lc)) ∧ (w4.cell? ⟨w.heap.size, 0, none⟩ = some (.int .i64 p.bits) ∧ w4.cell? ⟨w.heap.size, 1, none⟩ = some (.slice p.dP p.dl.length p.dc) ∧ w4.cell? ⟨w.heap.size, 2, none⟩ = some (.slice p.lP p.ll.length p.lc)) := ⟨⟨x4.cell 0 _ rfl, x4.cell 1 _ rfl, x4.cell 2 _ rfl⟩, ⟨xa4.cell 0 _ rfl, xa4.cell 1 _ rfl, xa4.cell 2 _ rfl⟩⟩
  have s0d : (w4.drew.cell? ⟨w3.heap.size, 0, none⟩ = some (.int .i64 q2.bits) ∧ w4.drew.cell? ⟨w3.heap.size, 1, none⟩ = some (.slice q2.dP q2.dl.length q2.dc) ∧ w4.drew.cell? ⟨w3.heap.size, 2, none⟩ = some (.slice q2.lP q2.ll.length q2.lc)) ∧ (w4.drew.cell? ⟨w.heap.size, 0, none⟩ = some (.int .i64 p.bits) ∧ w4.drew.cell? ⟨w.heap.size, 1, none⟩ = some (.slice p.dP p.dl.length p.dc) ∧ w4.drew.cell? ⟨w.heap.size, 2, none⟩ = some (.slice p.lP p.ll.length p.lc)) := s0
  have b4d : Below w.heap.size w w4.drew := bw4.drew
  go_region_held3 (fun w' => (w'.cell? ⟨w3.heap.size, 0, none⟩ = some (.int .i64 q2.bits) ∧ w'.cell? ⟨w3.heap.size, 1, none⟩ = some (.slice q2.dP q2.dl.length q2.dc) ∧ w'.cell? ⟨w3.heap.size, 2, none⟩ = some (.slice q2.lP q2.ll.length q2.lc)) ∧ (w'.cell? ⟨w.heap.size, 0, none⟩ = some (.int .i64 p.bits) ∧ w'.cell? ⟨w.heap.size, 1, none⟩ = some (.slice p.dP p.dl.length p.dc) ∧ w'.cell? ⟨w.heap.size, 2, none⟩ = some (.slice p.lP p.ll.length p.lc))) (first | exact s0 | exact s0d | exact s5 | exact s6)
    (first
      | (go_at_call 6; refine Calls.mono (HT.out _ b4d) ?_; rintro e w5 ⟨q3, rfl, hq3, p3, hb5⟩; have x5 := x4.drew.below hb5; have xa5 := xa4.drew.below hb5; have s5 : (w5.cell? ⟨w3.heap.size, 0, none⟩ = some (.int .i64 q2.bits) ∧ w5.cell? ⟨w3.heap.size, 1, none⟩ = some (.slice q2.dP q2.dl.length q2.dc) ∧ w5.cell? ⟨w3.heap.size, 2, none⟩ = some (.slice q2.lP q2.ll.length q2.lc)) ∧ (w5.cell? ⟨w.heap.size, 0, none⟩ = some (.int .i64 p.bits) ∧ w5.cell? ⟨w.heap.size, 1, none⟩ = some (.slice p.dP p.dl.length p.dc) ∧ w5.cell? ⟨w.heap.size, 2, none⟩ = some (.slice p.lP p.ll.length p.lc)) := ⟨⟨x5.cell 0 _ rfl, x5.cell 1 _ rfl, x5.cell 2 _ rfl⟩, ⟨xa5.cell 0 _ rfl, xa5.cell 1 _ rfl, xa5.cell 2 _ rfl⟩⟩)
      | (go_at_call 8; refine Calls.mono (eqP_same q2 q3 _ sh2 (hq2.trans hq3.symm) (p24.drew.below hb5) p3) ?_; rintro e w6 ⟨rfl, hb6⟩; have x6 := x5.below hb6; have xa6 := xa5.below hb6; have s6 : (w6.cell? ⟨w3.heap.size, 0, none⟩ = some (.int .i64 q2.bits) ∧ w6.cell? ⟨w3.heap.size, 1, none⟩ = some (.slice q2.dP q2.dl.length q2.dc) ∧ w6.cell? ⟨w3.heap.size, 2, none⟩ = some (.slice q2.lP q2.ll.length q2.lc)) ∧ (w6.cell? ⟨w.heap.size, 0, none⟩ = some (.int .i64 p.bits) ∧ w6.cell? ⟨w.heap.size, 1, none⟩ = some (.slice p.dP p.dl.length p.dc) ∧ w6.cell? ⟨w.heap.size, 2, none⟩ = some (.slice p.lP p.ll.length p.lc)) := ⟨⟨x6.cell 0 _ rfl, x6.cell 1 _ rfl, x6.cell 2 _ rfl⟩, ⟨xa6.cell 0 _ rfl, xa6.cell 1 _ rfl, xa6.cell 2 _ rfl⟩⟩))
  go_wp2
  go_ret
  exact ⟨rfl, (b4d.trans (hb5.mono b4d.size)).trans (hb6.mono (Nat.le_trans b4d.size hb5.size))⟩

end Go.Proofs.YtjiignkappabpaaDoor
