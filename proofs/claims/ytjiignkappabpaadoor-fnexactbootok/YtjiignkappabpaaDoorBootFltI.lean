/-
  All that is wrong with a plan, as the program finds it.
-/
import Derived.Test.YtjiignkappabpaaDoorBootFaultI
import Derived.Test.YtjiignkappabpaaDoorBootDoms
namespace Go.Proofs.YtjiignkappabpaaDoor
open Go.ChangeShapes Go.WideShapes Go.ChangeAt Go.RowKit
set_option linter.unusedVariables false

theorem ErrO.nilOf {W : World} {d : Nat} {v : Value} (h : ErrO W d true v) : v = .nilIface := h
theorem ErrO.ifaceOf {W : World} {d : Nat} {v : Value} (h : ErrO W d false v) : ∃ T a, v = .iface T (.pointer (some a)) := by
  obtain ⟨T, a, e, _⟩ := ErrD.form h.err; exact ⟨T, a, e⟩

structure FltI (w : World) (p : List Value) (w' : World) (d : Nat) (ok : Bool) (v : Value) : Prop where
  e : ErrO w' d ok v
  b : Bx w' w.heap.size 31 p
  bw : Below w.heap.size w w'
theorem FltI.next {w W W' : World} {p : List Value} {d d' : Nat} {ok ok' : Bool} {v v' : Value} (h : FltI w p W d ok v) (hb : Below W.heap.size W W') (he : ErrO W' d' ok' v') : FltI w p W' d' ok' v' :=
  ⟨he, h.b.below hb, h.bw.trans (hb.mono h.bw.size)⟩
def fltInv1 (w : World) (p : List Value) (m : Bool) (L : List LP) (dl : List QD) (v i : Value) (w' : World) : Prop :=
  ∃ k : Nat, k ≤ dl.length ∧ i = .int .i64 k ∧ FltI w p w' (20 + k) (m && domsB L 0 (dl.take k)) v
def fltInv2 (w : World) (p : List Value) (A : Bool) (n : Int) (ll : List QL) (v i : Value) (w' : World) : Prop :=
  ∃ k : Nat, k ≤ ll.length ∧ i = .int .i64 k ∧ FltI w p w' (40 + k) (A && ((ll.take k).map QL.pl).all (linkB n)) v

theorem link_take {L : List QL} {k : Nat} (n : Int) (hk : k < L.length) : ((L.take (k + 1)).map QL.pl).all (linkB n) = (((L.take k).map QL.pl).all (linkB n) && linkB n (L[k].kd, L[k].bt, L[k].l)) := by
  rw [List.take_succ_eq_append_getElem hk, List.map_append, List.all_append]
  simp [QL.pl]

set_option maxRecDepth 100000 in
set_option maxHeartbeats 8000000 in
theorem bootFault_any (bits : Int) (dP : Option Addr) (dc : Nat) (dl : List QD) (lP : Option Addr) (lc : Nat) (ll : List QL) (w : World) (e0 e1 e2 e3 e4 : Addr) (hS : Sents w e0 e1 e2 e3 e4) (hd0 : LiesG fD w dP dl) (hl0 : LiesG fL w lP ll) (hI : InL w ll) (hd : dl.length ≤ 1048576) (hl : ll.length ≤ 1048576) (hle : ∀ x ∈ ll, x.l.length ≤ 1048576)
    (hf : ∀ x ∈ ll, ∀ t ∈ x.l, -9223372036854775808 ≤ t.rt ∧ t.rt ≤ 9223372036854775807) :
    Calls Tryd.prog 17 #[.agg #[.int .i64 bits, .slice dP dl.length dc, .slice lP ll.length lc]] w fun e w' => ∃ v, e = .returned v ∧ ErrO w' 100 (planB (bits, dl, ll.map QL.pl)) v ∧ Below w.heap.size w w' := by
  have bw : Below w.heap.size w (w.alloc (.cells #[.int .i64 bits, .slice dP dl.length dc, .slice lP ll.length lc] 31)) := (Below.refl _ _).alloc (Nat.le_refl _) _
  have hx := Bx.new w 31 [.int .i64 bits, .slice dP dl.length dc, .slice lP ll.length lc]
  have hS1 := hS.below bw
  have HC : Hid _ := cntFault_any bits dP dc dl lP lc ll _ e0 e1 e2 e3 e4 hS1 (hl0.below bw) hd hl hle
  cases hcnt : countB dl (ll.map QL.pl)
  · have HV : Hid (planB (bits, dl, ll.map QL.pl) = false) := by unfold Hid planB; simp [hcnt]
    rw [hcnt] at HC
    clear hcnt
    go_enter Tryd.func17, Tryd.ntmps17
    go_wp2_with (first
      | (go_at_call 28; refine Calls.mono HC.out ?_; rintro e w1 ⟨v, rfl, hv, hb1⟩; have hv2 : v = eV e0 := hv; clear hv; subst hv2; have hS2 := hS1.below hb1; have c0 := hS2.c0)
      | (go_at_call 29; refine Calls.mono (isSame_any _ _ hS2.i0) ?_; rintro e w2 ⟨rfl, hw⟩; subst hw))
    go_ret
    exact ⟨_, rfl, by rw [HV.out]; exact ErrD.up (d := 0) hS2.i0 (by omega), bw.trans (hb1.mono bw.size)⟩
  · have hc3 : dl.length ≤ 3 ∧ ll.length ≤ 6 ∧ ∀ x ∈ ll, x.l.length ≤ 15 := by
      simp only [countB, Bool.and_eq_true, withinB, decide_eq_true_eq, List.length_map] at hcnt
      refine ⟨by omega, by omega, fun x hx => ?_⟩
      have h7 : decide ((x.l.length : Int) ≤ 15) = true := (List.all_eq_true.1 hcnt.2) _ (List.mem_map_of_mem hx)
      have := of_decide_eq_true h7
      omega
    have HV : Hid (planB (bits, dl, ll.map QL.pl) = (((withinB bits 9 12 && domsB (ll.map QL.pl) 0 dl) && (ll.map QL.pl).all (linkB dl.length)) && decide (endI dl (ll.map QL.pl) ≤ sizeI bits))) := by
      unfold Hid planB; simp only [hcnt, Bool.true_and, domsB_eq]
    rw [hcnt] at HC
    clear hcnt
    go_enter Tryd.func17, Tryd.ntmps17
    go_wp2_with (first
      | (go_at_call 28; refine Calls.mono HC.out ?_; rintro e w1 ⟨v, rfl, hv, hb1⟩; have hv2 : v = .nilIface := hv; clear hv; subst hv2; have hS2 := hS1.below hb1; have c0 := hS2.c0; have hx1 := hx.below hb1; have y0 := hx1.cell 0 _ rfl; have y1 := hx1.cell 1 _ rfl)
      | (go_at_call 29; refine Calls.mono (isNil_any _ _ hS2.i0) ?_; rintro e w2 ⟨rfl, hw⟩; subst hw)
      | (go_at_call 30; refine Calls.mono (memFault_any bits _ e0 e1 e2 e3 e4 hS2) ?_; rintro e w3 ⟨v3, rfl, he3, hw⟩; subst hw))
    have bw1 := bw.trans (hb1.mono bw.size)
    have I0 : FltI w [.int .i64 bits, .slice dP dl.length dc, .slice lP ll.length lc] w1 20 (withinB bits 9 12) v3 := ⟨he3.up (by omega), hx1, bw1⟩
    clear HC he3 y0 hS1 bw hx
    go_loopw [3, 20] (fun v i w' => fltInv1 w [.int .i64 bits, .slice dP dl.length dc, .slice lP ll.length lc] (withinB bits 9 12) (ll.map QL.pl) dl v i w') (fun v i w' => dl.length - (intOf i).toNat)
    case atStart => exact ⟨0, Nat.zero_le _, rfl, by simpa [domsB] using I0⟩
    case round =>
      clear I0 y1 c0 hS2 hb1 bw1 hx1
      obtain ⟨k, hk, rfl, I⟩ := hrel
      have hD := hd0.below I.bw
      by_cases hlt : k < dl.length
      · obtain ⟨B, O, rfl⟩ := hD.has hlt
        have cc := atD hD hlt
        have h1 := domsB_take (ll.map QL.pl) hlt
        generalize dl[k] = d at cc h1
        have H1 : Hid _ := h1
        clear h1
        obtain ⟨c0, c1, c2⟩ := cc
        have hk1 : (k : Int) < (dl.length : Int) := by omega
        generalize domsB (ll.map QL.pl) 0 (dl.take k) = G at *
        go_upto_region 8 with fail
        have hxd := Bx.new wr 38 [.int .i64 d.pr, .int .i64 d.mx, .int .i64 d.bt]
        have bA : Below wr.heap.size wr (wr.alloc (.cells #[.int .i64 d.pr, .int .i64 d.mx, .int .i64 d.bt] 38)) := (Below.refl _ _).alloc (Nat.le_refl _) _
        have IA := I.b.below bA
        have bwA := I.bw.trans (bA.mono I.bw.size)
        have eA := I.e.below bA
        clear c0 c1 c2 hD
        generalize wr.alloc (.cells #[.int .i64 d.pr, .int .i64 d.mx, .int .i64 d.bt] 38) = wA at hxd bA IA bwA eA ⊢
        have HS : Hid (∀ W, Below wA.heap.size wA W → (W.cell? ⟨w.heap.size, 0, none⟩ = some (.int .i64 bits) ∧ W.cell? ⟨w.heap.size, 1, none⟩ = some (.slice (some ⟨B, O, none⟩) dl.length dc) ∧ W.cell? ⟨w.heap.size, 2, none⟩ = some (.slice lP ll.length lc)) ∧ (W.cell? ⟨wr.heap.size, 0, none⟩ = some (.int .i64 d.pr) ∧ W.cell? ⟨wr.heap.size, 1, none⟩ = some (.int .i64 d.mx) ∧ W.cell? ⟨wr.heap.size, 2, none⟩ = some (.int .i64 d.bt))) := fun W hW => ⟨⟨(IA.below hW).cell 0 _ rfl, (IA.below hW).cell 1 _ rfl, (IA.below hW).cell 2 _ rfl⟩, ⟨(hxd.below hW).cell 0 _ rfl, (hxd.below hW).cell 1 _ rfl, (hxd.below hW).cell 2 _ rfl⟩⟩
        have HD : Hid _ := fun (W : World) (hW : Below wA.heap.size wA W) => domFault_any d W e0 e1 e2 e3 e4 (hS.below (bwA.trans (hW.mono bwA.size)))
        have HN : Hid _ := fun (W : World) (hW : Below wA.heap.size wA W) => namFault_any (k : Int) lP lc ll W e0 e1 e2 e3 e4 (hS.below (bwA.trans (hW.mono bwA.size))) (hl0.below (bwA.trans (hW.mono bwA.size))) (hI.below (bwA.trans (hW.mono bwA.size))) hc3.2.1 hc3.2.2
        have bD : Below wA.heap.size wA wA.drew := (Below.refl _ _).drew
        generalize hF : (withinB bits 9 12 && G) = f at *
        have HFq : Hid _ := hF
        clear hF
        cases f
        · obtain ⟨Tf, af, rfl⟩ := I.e.ifaceOf
          cases hd1 : domB d
          · cases hn1 : decide (namedN (k : Int) (ll.map QL.pl) ≤ 5)
            · skip
              go_region_held3 (fun w' => (w'.cell? ⟨w.heap.size, 0, none⟩ = some (.int .i64 bits) ∧ w'.cell? ⟨w.heap.size, 1, none⟩ = some (.slice (some ⟨B, O, none⟩) dl.length dc) ∧ w'.cell? ⟨w.heap.size, 2, none⟩ = some (.slice lP ll.length lc)) ∧ (w'.cell? ⟨wr.heap.size, 0, none⟩ = some (.int .i64 d.pr) ∧ w'.cell? ⟨wr.heap.size, 1, none⟩ = some (.int .i64 d.mx) ∧ w'.cell? ⟨wr.heap.size, 2, none⟩ = some (.int .i64 d.bt))) (first | exact HS.out _ bD | exact HS.out _ bN | exact HS.out _ bM | exact HS.out _ (bN.alloc bN.size _) | exact HS.out _ (bM.alloc bM.size _) | exact HS.out _ bJ)
                (first
                  | (go_at_call 32; refine Calls.mono (HD.out _ (by first | exact bD | exact bN)) ?_; rw [hd1]; rintro e wd ⟨vd, rfl, hed, hbd⟩; obtain ⟨Td, ad, rfl⟩ := hed.ifaceOf; have bM : Below wA.heap.size wA wd := (by first | exact bD.trans (hbd.mono bD.size) | exact bN.trans (hbd.mono bN.size)))
                  | (go_at_call 33; refine Calls.mono (HN.out _ (by first | exact bD | exact bM)) ?_; rw [hn1]; rintro e wn ⟨vn, rfl, hen, hbn⟩; obtain ⟨Tn, an, rfl⟩ := hen.ifaceOf; have bN : Below wA.heap.size wA wn := (by first | exact bD.trans (hbn.mono bD.size) | exact bM.trans (hbn.mono bM.size)))
                  | (go_at_call 31; refine Calls.mono (join3 _ _ (by rfl) (20 + k) false false false _ _ _ _ (by first | exact eA.below bN | exact eA.below bM) (by first | exact (hed.below hbn).up (by omega) | exact hed.up (by omega)) (by first | exact (hen.below hbd).up (by omega) | exact hen.up (by omega))) ?_; rintro e wj ⟨vj, rfl, hej, hbj⟩; have bJ : Below wA.heap.size wA wj := (by first | exact bN.trans (hbj.mono bN.size) | exact bM.trans (hbj.mono bM.size))))
              all_goals have hst : (withinB bits 9 12 && domsB (ll.map QL.pl) 0 (dl.take (k + 1))) = (false && (false && false)) := by rw [H1.out, hd1, hn1, ← Bool.and_assoc, HFq.out]
              all_goals have IJ : FltI w [.int .i64 bits, .slice (some ⟨B, O, none⟩) dl.length dc, .slice lP ll.length lc] wj (20 + (k + 1)) (withinB bits 9 12 && domsB (ll.map QL.pl) 0 (dl.take (k + 1))) vj := ⟨by rw [hst]; exact hej, IA.below bJ, bwA.trans (bJ.mono bwA.size)⟩
              all_goals clear hst
              all_goals go_wp2_with fail
              all_goals go_roundw
              all_goals (first | exact ⟨k + 1, by omega, by go_num, IJ⟩ | (simp [intOf]; omega))
            · skip
              go_region_held3 (fun w' => (w'.cell? ⟨w.heap.size, 0, none⟩ = some (.int .i64 bits) ∧ w'.cell? ⟨w.heap.size, 1, none⟩ = some (.slice (some ⟨B, O, none⟩) dl.length dc) ∧ w'.cell? ⟨w.heap.size, 2, none⟩ = some (.slice lP ll.length lc)) ∧ (w'.cell? ⟨wr.heap.size, 0, none⟩ = some (.int .i64 d.pr) ∧ w'.cell? ⟨wr.heap.size, 1, none⟩ = some (.int .i64 d.mx) ∧ w'.cell? ⟨wr.heap.size, 2, none⟩ = some (.int .i64 d.bt))) (first | exact HS.out _ bD | exact HS.out _ bN | exact HS.out _ bM | exact HS.out _ (bN.alloc bN.size _) | exact HS.out _ (bM.alloc bM.size _) | exact HS.out _ bJ)
                (first
                  | (go_at_call 32; refine Calls.mono (HD.out _ (by first | exact bD | exact bN)) ?_; rw [hd1]; rintro e wd ⟨vd, rfl, hed, hbd⟩; obtain ⟨Td, ad, rfl⟩ := hed.ifaceOf; have bM : Below wA.heap.size wA wd := (by first | exact bD.trans (hbd.mono bD.size) | exact bN.trans (hbd.mono bN.size)))
                  | (go_at_call 33; refine Calls.mono (HN.out _ (by first | exact bD | exact bM)) ?_; rw [hn1]; rintro e wn ⟨vn, rfl, hen, hbn⟩; obtain rfl := hen.nilOf; have bN : Below wA.heap.size wA wn := (by first | exact bD.trans (hbn.mono bD.size) | exact bM.trans (hbn.mono bM.size)))
                  | (go_at_call 31; refine Calls.mono (join3 _ _ (by rfl) (20 + k) false false true _ _ _ _ (by first | exact eA.below bN | exact eA.below bM) (by first | exact (hed.below hbn).up (by omega) | exact hed.up (by omega)) (by first | exact (hen.below hbd).up (by omega) | exact hen.up (by omega))) ?_; rintro e wj ⟨vj, rfl, hej, hbj⟩; have bJ : Below wA.heap.size wA wj := (by first | exact bN.trans (hbj.mono bN.size) | exact bM.trans (hbj.mono bM.size))))
              all_goals have hst : (withinB bits 9 12 && domsB (ll.map QL.pl) 0 (dl.take (k + 1))) = (false && (false && true)) := by rw [H1.out, hd1, hn1, ← Bool.and_assoc, HFq.out]
              all_goals have IJ : FltI w [.int .i64 bits, .slice (some ⟨B, O, none⟩) dl.length dc, .slice lP ll.length lc] wj (20 + (k + 1)) (withinB bits 9 12 && domsB (ll.map QL.pl) 0 (dl.take (k + 1))) vj := ⟨by rw [hst]; exact hej, IA.below bJ, bwA.trans (bJ.mono bwA.size)⟩
              all_goals clear hst
              all_goals go_wp2_with fail
              all_goals go_roundw
              all_goals (first | exact ⟨k + 1, by omega, by go_num, IJ⟩ | (simp [intOf]; omega))
          · cases hn1 : decide (namedN (k : Int) (ll.map QL.pl) ≤ 5)
            · skip
              go_region_held3 (fun w' => (w'.cell? ⟨w.heap.size, 0, none⟩ = some (.int .i64 bits) ∧ w'.cell? ⟨w.heap.size, 1, none⟩ = some (.slice (some ⟨B, O, none⟩) dl.length dc) ∧ w'.cell? ⟨w.heap.size, 2, none⟩ = some (.slice lP ll.length lc)) ∧ (w'.cell? ⟨wr.heap.size, 0, none⟩ = some (.int .i64 d.pr) ∧ w'.cell? ⟨wr.heap.size, 1, none⟩ = some (.int .i64 d.mx) ∧ w'.cell? ⟨wr.heap.size, 2, none⟩ = some (.int .i64 d.bt))) (first | exact HS.out _ bD | exact HS.out _ bN | exact HS.out _ bM | exact HS.out _ (bN.alloc bN.size _) | exact HS.out _ (bM.alloc bM.size _) | exact HS.out _ bJ)
                (first
                  | (go_at_call 32; refine Calls.mono (HD.out _ (by first | exact bD | exact bN)) ?_; rw [hd1]; rintro e wd ⟨vd, rfl, hed, hbd⟩; obtain rfl := hed.nilOf; have bM : Below wA.heap.size wA wd := (by first | exact bD.trans (hbd.mono bD.size) | exact bN.trans (hbd.mono bN.size)))
                  | (go_at_call 33; refine Calls.mono (HN.out _ (by first | exact bD | exact bM)) ?_; rw [hn1]; rintro e wn ⟨vn, rfl, hen, hbn⟩; obtain ⟨Tn, an, rfl⟩ := hen.ifaceOf; have bN : Below wA.heap.size wA wn := (by first | exact bD.trans (hbn.mono bD.size) | exact bM.trans (hbn.mono bM.size)))
                  | (go_at_call 31; refine Calls.mono (join3 _ _ (by rfl) (20 + k) false true false _ _ _ _ (by first | exact eA.below bN | exact eA.below bM) (by first | exact (hed.below hbn).up (by omega) | exact hed.up (by omega)) (by first | exact (hen.below hbd).up (by omega) | exact hen.up (by omega))) ?_; rintro e wj ⟨vj, rfl, hej, hbj⟩; have bJ : Below wA.heap.size wA wj := (by first | exact bN.trans (hbj.mono bN.size) | exact bM.trans (hbj.mono bM.size))))
              all_goals have hst : (withinB bits 9 12 && domsB (ll.map QL.pl) 0 (dl.take (k + 1))) = (false && (true && false)) := by rw [H1.out, hd1, hn1, ← Bool.and_assoc, HFq.out]
              all_goals have IJ : FltI w [.int .i64 bits, .slice (some ⟨B, O, none⟩) dl.length dc, .slice lP ll.length lc] wj (20 + (k + 1)) (withinB bits 9 12 && domsB (ll.map QL.pl) 0 (dl.take (k + 1))) vj := ⟨by rw [hst]; exact hej, IA.below bJ, bwA.trans (bJ.mono bwA.size)⟩
              all_goals clear hst
              all_goals go_wp2_with fail
              all_goals go_roundw
              all_goals (first | exact ⟨k + 1, by omega, by go_num, IJ⟩ | (simp [intOf]; omega))
            · skip
              go_region_held3 (fun w' => (w'.cell? ⟨w.heap.size, 0, none⟩ = some (.int .i64 bits) ∧ w'.cell? ⟨w.heap.size, 1, none⟩ = some (.slice (some ⟨B, O, none⟩) dl.length dc) ∧ w'.cell? ⟨w.heap.size, 2, none⟩ = some (.slice lP ll.length lc)) ∧ (w'.cell? ⟨wr.heap.size, 0, none⟩ = some (.int .i64 d.pr) ∧ w'.cell? ⟨wr.heap.size, 1, none⟩ = some (.int .i64 d.mx) ∧ w'.cell? ⟨wr.heap.size, 2, none⟩ = some (.int .i64 d.bt))) (first | exact HS.out _ bD | exact HS.out _ bN | exact HS.out _ bM | exact HS.out _ (bN.alloc bN.size _) | exact HS.out _ (bM.alloc bM.size _) | exact HS.out _ bJ)
                (first
                  | (go_at_call 32; refine Calls.mono (HD.out _ (by first | exact bD | exact bN)) ?_; rw [hd1]; rintro e wd ⟨vd, rfl, hed, hbd⟩; obtain rfl := hed.nilOf; have bM : Below wA.heap.size wA wd := (by first | exact bD.trans (hbd.mono bD.size) | exact bN.trans (hbd.mono bN.size)))
                  | (go_at_call 33; refine Calls.mono (HN.out _ (by first | exact bD | exact bM)) ?_; rw [hn1]; rintro e wn ⟨vn, rfl, hen, hbn⟩; obtain rfl := hen.nilOf; have bN : Below wA.heap.size wA wn := (by first | exact bD.trans (hbn.mono bD.size) | exact bM.trans (hbn.mono bM.size)))
                  | (go_at_call 31; refine Calls.mono (join3 _ _ (by rfl) (20 + k) false true true _ _ _ _ (by first | exact eA.below bN | exact eA.below bM) (by first | exact (hed.below hbn).up (by omega) | exact hed.up (by omega)) (by first | exact (hen.below hbd).up (by omega) | exact hen.up (by omega))) ?_; rintro e wj ⟨vj, rfl, hej, hbj⟩; have bJ : Below wA.heap.size wA wj := (by first | exact bN.trans (hbj.mono bN.size) | exact bM.trans (hbj.mono bM.size))))
              all_goals have hst : (withinB bits 9 12 && domsB (ll.map QL.pl) 0 (dl.take (k + 1))) = (false && (true && true)) := by rw [H1.out, hd1, hn1, ← Bool.and_assoc, HFq.out]
              all_goals have IJ : FltI w [.int .i64 bits, .slice (some ⟨B, O, none⟩) dl.length dc, .slice lP ll.length lc] wj (20 + (k + 1)) (withinB bits 9 12 && domsB (ll.map QL.pl) 0 (dl.take (k + 1))) vj := ⟨by rw [hst]; exact hej, IA.below bJ, bwA.trans (bJ.mono bwA.size)⟩
              all_goals clear hst
              all_goals go_wp2_with fail
              all_goals go_roundw
              all_goals (first | exact ⟨k + 1, by omega, by go_num, IJ⟩ | (simp [intOf]; omega))
        · obtain rfl := I.e.nilOf
          cases hd1 : domB d
          · cases hn1 : decide (namedN (k : Int) (ll.map QL.pl) ≤ 5)
            · skip
              go_region_held3 (fun w' => (w'.cell? ⟨w.heap.size, 0, none⟩ = some (.int .i64 bits) ∧ w'.cell? ⟨w.heap.size, 1, none⟩ = some (.slice (some ⟨B, O, none⟩) dl.length dc) ∧ w'.cell? ⟨w.heap.size, 2, none⟩ = some (.slice lP ll.length lc)) ∧ (w'.cell? ⟨wr.heap.size, 0, none⟩ = some (.int .i64 d.pr) ∧ w'.cell? ⟨wr.heap.size, 1, none⟩ = some (.int .i64 d.mx) ∧ w'.cell? ⟨wr.heap.size, 2, none⟩ = some (.int .i64 d.bt))) (first | exact HS.out _ bD | exact HS.out _ bN | exact HS.out _ bM | exact HS.out _ (bN.alloc bN.size _) | exact HS.out _ (bM.alloc bM.size _) | exact HS.out _ bJ)
                (first
                  | (go_at_call 32; refine Calls.mono (HD.out _ (by first | exact bD | exact bN)) ?_; rw [hd1]; rintro e wd ⟨vd, rfl, hed, hbd⟩; obtain ⟨Td, ad, rfl⟩ := hed.ifaceOf; have bM : Below wA.heap.size wA wd := (by first | exact bD.trans (hbd.mono bD.size) | exact bN.trans (hbd.mono bN.size)))
                  | (go_at_call 33; refine Calls.mono (HN.out _ (by first | exact bD | exact bM)) ?_; rw [hn1]; rintro e wn ⟨vn, rfl, hen, hbn⟩; obtain ⟨Tn, an, rfl⟩ := hen.ifaceOf; have bN : Below wA.heap.size wA wn := (by first | exact bD.trans (hbn.mono bD.size) | exact bM.trans (hbn.mono bM.size)))
                  | (go_at_call 31; refine Calls.mono (join3 _ _ (by rfl) (20 + k) true false false _ _ _ _ (by first | exact eA.below bN | exact eA.below bM) (by first | exact (hed.below hbn).up (by omega) | exact hed.up (by omega)) (by first | exact (hen.below hbd).up (by omega) | exact hen.up (by omega))) ?_; rintro e wj ⟨vj, rfl, hej, hbj⟩; have bJ : Below wA.heap.size wA wj := (by first | exact bN.trans (hbj.mono bN.size) | exact bM.trans (hbj.mono bM.size))))
              all_goals have hst : (withinB bits 9 12 && domsB (ll.map QL.pl) 0 (dl.take (k + 1))) = (true && (false && false)) := by rw [H1.out, hd1, hn1, ← Bool.and_assoc, HFq.out]
              all_goals have IJ : FltI w [.int .i64 bits, .slice (some ⟨B, O, none⟩) dl.length dc, .slice lP ll.length lc] wj (20 + (k + 1)) (withinB bits 9 12 && domsB (ll.map QL.pl) 0 (dl.take (k + 1))) vj := ⟨by rw [hst]; exact hej, IA.below bJ, bwA.trans (bJ.mono bwA.size)⟩
              all_goals clear hst
              all_goals go_wp2_with fail
              all_goals go_roundw
              all_goals (first | exact ⟨k + 1, by omega, by go_num, IJ⟩ | (simp [intOf]; omega))
            · skip
              go_region_held3 (fun w' => (w'.cell? ⟨w.heap.size, 0, none⟩ = some (.int .i64 bits) ∧ w'.cell? ⟨w.heap.size, 1, none⟩ = some (.slice (some ⟨B, O, none⟩) dl.length dc) ∧ w'.cell? ⟨w.heap.size, 2, none⟩ = some (.slice lP ll.length lc)) ∧ (w'.cell? ⟨wr.heap.size, 0, none⟩ = some (.int .i64 d.pr) ∧ w'.cell? ⟨wr.heap.size, 1, none⟩ = some (.int .i64 d.mx) ∧ w'.cell? ⟨wr.heap.size, 2, none⟩ = some (.int .i64 d.bt))) (first | exact HS.out _ bD | exact HS.out _ bN | exact HS.out _ bM | exact HS.out _ (bN.alloc bN.size _) | exact HS.out _ (bM.alloc bM.size _) | exact HS.out _ bJ)
                (first
                  | (go_at_call 32; refine Calls.mono (HD.out _ (by first | exact bD | exact bN)) ?_; rw [hd1]; rintro e wd ⟨vd, rfl, hed, hbd⟩; obtain ⟨Td, ad, rfl⟩ := hed.ifaceOf; have bM : Below wA.heap.size wA wd := (by first | exact bD.trans (hbd.mono bD.size) | exact bN.trans (hbd.mono bN.size)))
                  | (go_at_call 33; refine Calls.mono (HN.out _ (by first | exact bD | exact bM)) ?_; rw [hn1]; rintro e wn ⟨vn, rfl, hen, hbn⟩; obtain rfl := hen.nilOf; have bN : Below wA.heap.size wA wn := (by first | exact bD.trans (hbn.mono bD.size) | exact bM.trans (hbn.mono bM.size)))
                  | (go_at_call 31; refine Calls.mono (join3 _ _ (by rfl) (20 + k) true false true _ _ _ _ (by first | exact eA.below bN | exact eA.below bM) (by first | exact (hed.below hbn).up (by omega) | exact hed.up (by omega)) (by first | exact (hen.below hbd).up (by omega) | exact hen.up (by omega))) ?_; rintro e wj ⟨vj, rfl, hej, hbj⟩; have bJ : Below wA.heap.size wA wj := (by first | exact bN.trans (hbj.mono bN.size) | exact bM.trans (hbj.mono bM.size))))
              all_goals have hst : (withinB bits 9 12 && domsB (ll.map QL.pl) 0 (dl.take (k + 1))) = (true && (false && true)) := by rw [H1.out, hd1, hn1, ← Bool.and_assoc, HFq.out]
              all_goals have IJ : FltI w [.int .i64 bits, .slice (some ⟨B, O, none⟩) dl.length dc, .slice lP ll.length lc] wj (20 + (k + 1)) (withinB bits 9 12 && domsB (ll.map QL.pl) 0 (dl.take (k + 1))) vj := ⟨by rw [hst]; exact hej, IA.below bJ, bwA.trans (bJ.mono bwA.size)⟩
              all_goals clear hst
              all_goals go_wp2_with fail
              all_goals go_roundw
              all_goals (first | exact ⟨k + 1, by omega, by go_num, IJ⟩ | (simp [intOf]; omega))
          · cases hn1 : decide (namedN (k : Int) (ll.map QL.pl) ≤ 5)
            · skip
              go_region_held3 (fun w' => (w'.cell? ⟨w.heap.size, 0, none⟩ = some (.int .i64 bits) ∧ w'.cell? ⟨w.heap.size, 1, none⟩ = some (.slice (some ⟨B, O, none⟩) dl.length dc) ∧ w'.cell? ⟨w.heap.size, 2, none⟩ = some (.slice lP ll.length lc)) ∧ (w'.cell? ⟨wr.heap.size, 0, none⟩ = some (.int .i64 d.pr) ∧ w'.cell? ⟨wr.heap.size, 1, none⟩ = some (.int .i64 d.mx) ∧ w'.cell? ⟨wr.heap.size, 2, none⟩ = some (.int .i64 d.bt))) (first | exact HS.out _ bD | exact HS.out _ bN | exact HS.out _ bM | exact HS.out _ (bN.alloc bN.size _) | exact HS.out _ (bM.alloc bM.size _) | exact HS.out _ bJ)
                (first
                  | (go_at_call 32; refine Calls.mono (HD.out _ (by first | exact bD | exact bN)) ?_; rw [hd1]; rintro e wd ⟨vd, rfl, hed, hbd⟩; obtain rfl := hed.nilOf; have bM : Below wA.heap.size wA wd := (by first | exact bD.trans (hbd.mono bD.size) | exact bN.trans (hbd.mono bN.size)))
                  | (go_at_call 33; refine Calls.mono (HN.out _ (by first | exact bD | exact bM)) ?_; rw [hn1]; rintro e wn ⟨vn, rfl, hen, hbn⟩; obtain ⟨Tn, an, rfl⟩ := hen.ifaceOf; have bN : Below wA.heap.size wA wn := (by first | exact bD.trans (hbn.mono bD.size) | exact bM.trans (hbn.mono bM.size)))
                  | (go_at_call 31; refine Calls.mono (join3 _ _ (by rfl) (20 + k) true true false _ _ _ _ (by first | exact eA.below bN | exact eA.below bM) (by first | exact (hed.below hbn).up (by omega) | exact hed.up (by omega)) (by first | exact (hen.below hbd).up (by omega) | exact hen.up (by omega))) ?_; rintro e wj ⟨vj, rfl, hej, hbj⟩; have bJ : Below wA.heap.size wA wj := (by first | exact bN.trans (hbj.mono bN.size) | exact bM.trans (hbj.mono bM.size))))
              all_goals have hst : (withinB bits 9 12 && domsB (ll.map QL.pl) 0 (dl.take (k + 1))) = (true && (true && false)) := by rw [H1.out, hd1, hn1, ← Bool.and_assoc, HFq.out]
              all_goals have IJ : FltI w [.int .i64 bits, .slice (some ⟨B, O, none⟩) dl.length dc, .slice lP ll.length lc] wj (20 + (k + 1)) (withinB bits 9 12 && domsB (ll.map QL.pl) 0 (dl.take (k + 1))) vj := ⟨by rw [hst]; exact hej, IA.below bJ, bwA.trans (bJ.mono bwA.size)⟩
              all_goals clear hst
              all_goals go_wp2_with fail
              all_goals go_roundw
              all_goals (first | exact ⟨k + 1, by omega, by go_num, IJ⟩ | (simp [intOf]; omega))
            · skip
              go_region_held3 (fun w' => (w'.cell? ⟨w.heap.size, 0, none⟩ = some (.int .i64 bits) ∧ w'.cell? ⟨w.heap.size, 1, none⟩ = some (.slice (some ⟨B, O, none⟩) dl.length dc) ∧ w'.cell? ⟨w.heap.size, 2, none⟩ = some (.slice lP ll.length lc)) ∧ (w'.cell? ⟨wr.heap.size, 0, none⟩ = some (.int .i64 d.pr) ∧ w'.cell? ⟨wr.heap.size, 1, none⟩ = some (.int .i64 d.mx) ∧ w'.cell? ⟨wr.heap.size, 2, none⟩ = some (.int .i64 d.bt))) (first | exact HS.out _ bD | exact HS.out _ bN | exact HS.out _ bM | exact HS.out _ (bN.alloc bN.size _) | exact HS.out _ (bM.alloc bM.size _) | exact HS.out _ bJ)
                (first
                  | (go_at_call 32; refine Calls.mono (HD.out _ (by first | exact bD | exact bN)) ?_; rw [hd1]; rintro e wd ⟨vd, rfl, hed, hbd⟩; obtain rfl := hed.nilOf; have bM : Below wA.heap.size wA wd := (by first | exact bD.trans (hbd.mono bD.size) | exact bN.trans (hbd.mono bN.size)))
                  | (go_at_call 33; refine Calls.mono (HN.out _ (by first | exact bD | exact bM)) ?_; rw [hn1]; rintro e wn ⟨vn, rfl, hen, hbn⟩; obtain rfl := hen.nilOf; have bN : Below wA.heap.size wA wn := (by first | exact bD.trans (hbn.mono bD.size) | exact bM.trans (hbn.mono bM.size)))
                  | (go_at_call 31; refine Calls.mono (join3 _ _ (by rfl) (20 + k) true true true _ _ _ _ (by first | exact eA.below bN | exact eA.below bM) (by first | exact (hed.below hbn).up (by omega) | exact hed.up (by omega)) (by first | exact (hen.below hbd).up (by omega) | exact hen.up (by omega))) ?_; rintro e wj ⟨vj, rfl, hej, hbj⟩; have bJ : Below wA.heap.size wA wj := (by first | exact bN.trans (hbj.mono bN.size) | exact bM.trans (hbj.mono bM.size))))
              all_goals have hst : (withinB bits 9 12 && domsB (ll.map QL.pl) 0 (dl.take (k + 1))) = (true && (true && true)) := by rw [H1.out, hd1, hn1, ← Bool.and_assoc, HFq.out]
              all_goals have IJ : FltI w [.int .i64 bits, .slice (some ⟨B, O, none⟩) dl.length dc, .slice lP ll.length lc] wj (20 + (k + 1)) (withinB bits 9 12 && domsB (ll.map QL.pl) 0 (dl.take (k + 1))) vj := ⟨by rw [hst]; exact hej, IA.below bJ, bwA.trans (bJ.mono bwA.size)⟩
              all_goals clear hst
              all_goals go_wp2_with fail
              all_goals go_roundw
              all_goals (first | exact ⟨k + 1, by omega, by go_num, IJ⟩ | (simp [intOf]; omega))
      · have hk1 : ¬ (k : Int) < (dl.length : Int) := by omega
        rw [List.take_of_length_le (by omega)] at I
        have I0 := I.next (Below.refl _ _) (I.e.up (show 20 + k ≤ 40 by omega))
        have y2 := I.b.cell 2 _ rfl
        go_wp2_with fail
        go_loopw [3, 38] (fun v i w' => fltInv2 w [.int .i64 bits, .slice dP dl.length dc, .slice lP ll.length lc] (withinB bits 9 12 && domsB (ll.map QL.pl) 0 dl) dl.length ll v i w') (fun v i w' => ll.length - (intOf i).toNat)
        case atStart => exact ⟨0, Nat.zero_le _, rfl, by simpa using I0⟩
        case round =>
          clear I0 I y2 hk1
          obtain ⟨k, hk, rfl, I⟩ := hrel
          have hL1 := hl0.below I.bw
          generalize hA : (withinB bits 9 12 && domsB (ll.map QL.pl) 0 dl) = A at *
          by_cases hlt : k < ll.length
          · obtain ⟨B, O, rfl⟩ := hL1.has hlt
            have cc := atL hL1 hlt
            have hrow := (hI ll[k] (List.getElem_mem hlt)).below I.bw
            have hlen := hc3.2.2 ll[k] (List.getElem_mem hlt)
            have hfx := hf ll[k] (List.getElem_mem hlt)
            have h1 := link_take (L := ll) (k := k) (dl.length : Int) hlt
            generalize ll[k] = x at cc h1 hrow hlen hfx
            obtain ⟨skd, sbt, sP, sc, sl⟩ := x
            simp only at cc h1 hrow hlen hfx
            have H1 : Hid _ := h1
            clear h1
            obtain ⟨c0, c1, c2⟩ := cc
            have hk1 : (k : Int) < (ll.length : Int) := by omega
            generalize hG : ((ll.take k).map QL.pl).all (linkB dl.length) = G at *
            clear hG
            have bA : Below wr.heap.size wr (wr.alloc (.cells #[.int .i64 skd, .int .i64 sbt, .slice sP sl.length sc] 43)) := (Below.refl _ _).alloc (Nat.le_refl _) _
            have hxl := Bx.new wr 43 [.int .i64 skd, .int .i64 sbt, .slice sP sl.length sc]
            have IA := I.next bA (I.e.below bA)
            have y1 := IA.b.cell 1 _ rfl
            have z0 := hxl.cell 0 _ rfl
            have z1 := hxl.cell 1 _ rfl
            have z2 := hxl.cell 2 _ rfl
            have HL : Hid _ := lnkFault_any (dl.length : Int) skd sbt sP sc sl _ e0 e1 e2 e3 e4 (hS.below IA.bw) (by omega) (by omega) (hrow.below bA) hlen hfx
            have eA := IA.e
            have HST : Hid ((A && G) = (A && G)) := rfl
            rcases I.e.split with ⟨hst, rfl⟩ | ⟨hst, Tf, af, rfl⟩
            · go_wp2_with (first
                | (go_at_call 34; refine Calls.mono HL.out ?_; rintro e w2 ⟨v2, rfl, he2, hb2⟩; rcases he2.split with ⟨hq, rfl⟩ | ⟨hq, T2, a2, rfl⟩)
                | (go_at_call 31; refine Calls.mono (join2 w2 _ rfl (40 + k) _ _ _ _ _ (eA.below hb2) (he2.up (by omega))) ?_; rintro e w3 ⟨v3, rfl, he3, hb3⟩))
              all_goals go_roundw
              all_goals (first
                | exact ⟨k + 1, by omega, by go_num, (IA.next hb2 (eA.below hb2)).next hb3 (by rw [H1.out, ← Bool.and_assoc]; exact he3)⟩
                | (simp [intOf]; omega))
            · go_wp2_with (first
                | (go_at_call 34; refine Calls.mono HL.out ?_; rintro e w2 ⟨v2, rfl, he2, hb2⟩; rcases he2.split with ⟨hq, rfl⟩ | ⟨hq, T2, a2, rfl⟩)
                | (go_at_call 31; refine Calls.mono (join2 w2 _ rfl (40 + k) _ _ _ _ _ (eA.below hb2) (he2.up (by omega))) ?_; rintro e w3 ⟨v3, rfl, he3, hb3⟩))
              all_goals go_roundw
              all_goals (first
                | exact ⟨k + 1, by omega, by go_num, (IA.next hb2 (eA.below hb2)).next hb3 (by rw [H1.out, ← Bool.and_assoc]; exact he3)⟩
                | (simp [intOf]; omega))
          · have hk1 : ¬ (k : Int) < (ll.length : Int) := by omega
            rw [List.take_of_length_le (by omega)] at I
            generalize hB : (A && (ll.map QL.pl).all (linkB dl.length)) = F at *
            have hS2 := hS.below I.bw
            have c1 := hS2.c1
            have y0 := I.b.cell 0 _ rfl
            have y1 := I.b.cell 1 _ rfl
            have y2 := I.b.cell 2 _ rfl
            have HR : Hid _ := fun (W : World) (hW : Below wr.heap.size wr W) => roomFault_any bits dP dc dl lP lc ll W e0 e1 e2 e3 e4 (hS2.below hW) (hd0.below (I.bw.trans (hW.mono I.bw.size))) (hl0.below (I.bw.trans (hW.mono I.bw.size))) (by omega) (by omega)
            have eF := I.e
            rcases I.e.split with ⟨hst, rfl⟩ | ⟨hst, Tf, af, rfl⟩
            · have HST : Hid _ := hst
              clear hst
              go_wp2_with (first
                | (go_at_call 29; refine Calls.mono (isNil_any _ _ hS2.i1) ?_; rintro e w2 ⟨rfl, hw⟩; subst hw)
                | (go_at_call 35; refine Calls.mono (HR.out _ (Below.refl _ _)) ?_; rintro e w5 ⟨v5, rfl, he5, hb5⟩; rcases he5.split with ⟨hq, rfl⟩ | ⟨hq, T2, a2, rfl⟩)
                | (go_at_call 31; refine Calls.mono (join2 w5 _ rfl 60 _ _ _ _ _ ((eF.below hb5).up (by omega)) (he5.up (by omega))) ?_; rintro e w6 ⟨v6, rfl, he6, hb6⟩))
              all_goals go_ret
              all_goals exact ⟨_, rfl, by rw [HV.out]; exact he6.up (by omega), (I.bw.trans (hb5.mono I.bw.size)).trans (hb6.mono (Nat.le_trans I.bw.size hb5.size))⟩
            · have HST : Hid _ := hst
              clear hst
              have HIs : Hid _ := is_any (40 + k) _ _ wr (by have := I.e; rw [HST.out] at this; exact this.err) hS2.i1
              go_wp2_with (first
                | (go_at_call 29; refine Calls.mono HIs.out ?_; rintro e w2 ⟨q, rfl, hb2⟩; have y0 := (I.b.below hb2).cell 0 _ rfl; have y1 := (I.b.below hb2).cell 1 _ rfl; have y2 := (I.b.below hb2).cell 2 _ rfl; cases q)
                | (go_at_call 35; refine Calls.mono (HR.out _ hb2) ?_; rintro e w5 ⟨v5, rfl, he5, hb5⟩; rcases he5.split with ⟨hq, rfl⟩ | ⟨hq, T2, a2, rfl⟩)
                | (go_at_call 31; refine Calls.mono (join2 w5 _ rfl 60 _ _ _ _ _ (((eF.below hb2).below hb5).up (by omega)) (he5.up (by omega))) ?_; rintro e w6 ⟨v6, rfl, he6, hb6⟩))
              all_goals go_ret
              all_goals (first
                | exact ⟨_, rfl, by rw [HV.out]; exact he6.up (by omega), ((I.bw.trans (hb2.mono I.bw.size)).trans (hb5.mono (Nat.le_trans I.bw.size hb2.size))).trans (hb6.mono (Nat.le_trans (Nat.le_trans I.bw.size hb2.size) hb5.size))⟩
                | exact ⟨_, rfl, by rw [HV.out, HST.out, Bool.false_and]; have := eF.below hb2; rw [HST.out] at this; exact this.up (by omega), I.bw.trans (hb2.mono I.bw.size)⟩)

end Go.Proofs.YtjiignkappabpaaDoor
