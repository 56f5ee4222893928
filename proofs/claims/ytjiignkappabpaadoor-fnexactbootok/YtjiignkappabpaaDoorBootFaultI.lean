/-
  All that is wrong with a plan, as the program finds it; BootOk and BootLabels of the program.
-/
import Derived.Test.YtjiignkappabpaaDoorBootLay
import Derived.Test.YtjiignkappabpaaDoorBootCntF
import Derived.Test.YtjiignkappabpaaDoorBootDomF
import Derived.Test.YtjiignkappabpaaDoorBootNamF
namespace Go.Proofs.YtjiignkappabpaaDoor
open Go.ChangeShapes Go.WideShapes Go.ChangeAt Go.RowKit
set_option linter.unusedVariables false

theorem fieldEnd (P Q : Option Addr) (n m c d : Nat) (a : Int) (w : World) : (Instr.field 92 (.agg #[.slice P n c, .slice Q m d, .int .i64 a]) 2).run Tryd.prog w = .ok (.int .i64 a) w := by kernel_rfl

set_option maxRecDepth 100000 in
set_option maxHeartbeats 2000000 in
theorem roomFault_any (bits : Int) (dP : Option Addr) (dc : Nat) (dl : List QD) (lP : Option Addr) (lc : Nat) (ll : List QL) (w : World) (e0 e1 e2 e3 e4 : Addr) (hS : Sents w e0 e1 e2 e3 e4) (hd0 : LiesG fD w dP dl) (hl0 : LiesG fL w lP ll) (hd : dl.length ≤ 1000) (hl : ll.length ≤ 1000) :
    Calls Tryd.prog 35 #[.agg #[.int .i64 bits, .slice dP dl.length dc, .slice lP ll.length lc]] w fun e w' => ∃ v, e = .returned v ∧ ErrO w' 0 (decide (endI dl (ll.map QL.pl) ≤ sizeI bits)) v ∧ Below w.heap.size w w' := by
  have bw : Below w.heap.size w (w.alloc (.cells #[.int .i64 bits, .slice dP dl.length dc, .slice lP ll.length lc] 31)) := (Below.refl _ _).alloc (Nat.le_refl _) _
  have hx := Bx.new w 31 [.int .i64 bits, .slice dP dl.length dc, .slice lP ll.length lc]
  have hS1 := hS.below bw
  have hd1 := hd0.below bw
  have hl1 := hl0.below bw
  have he := endL_bound (ll.map QL.pl) (endD 128 dl) (endD_bound dl 128 (by omega) (by omega)).1 (endD_bound dl 128 (by omega) (by omega)).2
  have hsb := sizeI_bd bits
  have HL : Hid _ := fun (W : World) (hW : Below (w.alloc (.cells #[.int .i64 bits, .slice dP dl.length dc, .slice lP ll.length lc] 31)).heap.size (w.alloc (.cells #[.int .i64 bits, .slice dP dl.length dc, .slice lP ll.length lc] 31)) W) => lay_any bits dP dc dl lP lc ll W (hd1.below hW) (hl1.below hW) hd hl
  have he2 : 0 ≤ endI dl (ll.map QL.pl) ∧ endI dl (ll.map QL.pl) ≤ 12288 := he
  clear he
  generalize endI dl (ll.map QL.pl) = a at *
  go_enter Tryd.func35, Tryd.ntmps35
  go_upto_region 1 with fail
  generalize hW0 : w.alloc (.cells #[.int .i64 bits, .slice dP dl.length dc, .slice lP ll.length lc] 31) = w0 at bw hS1 hd1 hl1 HL ⊢
  have hx0 : Bx w0 w.heap.size 31 [.int .i64 bits, .slice dP dl.length dc, .slice lP ll.length lc] := by rw [← hW0]; exact hx
  clear hW0 hx
  have s0 : w0.cell? ⟨w.heap.size, 0, none⟩ = some (.int .i64 bits) ∧ w0.cell? ⟨w.heap.size, 1, none⟩ = some (.slice dP dl.length dc) ∧ w0.cell? ⟨w.heap.size, 2, none⟩ = some (.slice lP ll.length lc) := ⟨hx0.cell 0 _ rfl, hx0.cell 1 _ rfl, hx0.cell 2 _ rfl⟩
  have s0d : w0.drew.cell? ⟨w.heap.size, 0, none⟩ = some (.int .i64 bits) ∧ w0.drew.cell? ⟨w.heap.size, 1, none⟩ = some (.slice dP dl.length dc) ∧ w0.drew.cell? ⟨w.heap.size, 2, none⟩ = some (.slice lP ll.length lc) := s0
  have hfe := fieldEnd
  by_cases h : a > sizeI bits
  · have HV : Hid (decide (a ≤ sizeI bits) = false) := by unfold Hid; simp; omega
    go_region_held3 (fun w' => w'.cell? ⟨w.heap.size, 0, none⟩ = some (.int .i64 bits) ∧ w'.cell? ⟨w.heap.size, 1, none⟩ = some (.slice dP dl.length dc) ∧ w'.cell? ⟨w.heap.size, 2, none⟩ = some (.slice lP ll.length lc)) (first | exact s0 | exact s0d | exact s1)
      (first
        | (go_at_call 46; refine Calls.mono (HL.out _ ((Below.refl _ _).drew)) ?_; rintro e w1 ⟨v, u, rfl, oH, oC, hb1⟩; obtain ⟨vP, vc, rfl, _⟩ := oH.form; obtain ⟨uP, uc, rfl, _⟩ := oC.form; have hx1 := hx0.drew.below hb1; have s1 : w1.cell? ⟨w.heap.size, 0, none⟩ = some (.int .i64 bits) ∧ w1.cell? ⟨w.heap.size, 1, none⟩ = some (.slice dP dl.length dc) ∧ w1.cell? ⟨w.heap.size, 2, none⟩ = some (.slice lP ll.length lc) := ⟨hx1.cell 0 _ rfl, hx1.cell 1 _ rfl, hx1.cell 2 _ rfl⟩)
        | (go_at_call 47; refine Calls.mono (sizeImpl_any bits _) ?_; rintro e w9 ⟨rfl, hw⟩; have hw := hw.symm; subst hw))
    all_goals have hS2 := hS1.below (W' := w1) ((Below.refl _ w0).drew.trans hb1)
    all_goals have c4 := hS2.c4
    all_goals go_wp2
    all_goals go_ret
    all_goals exact ⟨_, rfl, by rw [HV.out]; exact hS2.i4, (bw.trans ((Below.refl _ w0).drew.mono bw.size)).trans (hb1.mono bw.size)⟩
  · have HV : Hid (decide (a ≤ sizeI bits) = true) := by unfold Hid; simp; omega
    go_region_held3 (fun w' => w'.cell? ⟨w.heap.size, 0, none⟩ = some (.int .i64 bits) ∧ w'.cell? ⟨w.heap.size, 1, none⟩ = some (.slice dP dl.length dc) ∧ w'.cell? ⟨w.heap.size, 2, none⟩ = some (.slice lP ll.length lc)) (first | exact s0 | exact s0d | exact s1)
      (first
        | (go_at_call 46; refine Calls.mono (HL.out _ ((Below.refl _ _).drew)) ?_; rintro e w1 ⟨v, u, rfl, oH, oC, hb1⟩; obtain ⟨vP, vc, rfl, _⟩ := oH.form; obtain ⟨uP, uc, rfl, _⟩ := oC.form; have hx1 := hx0.drew.below hb1; have s1 : w1.cell? ⟨w.heap.size, 0, none⟩ = some (.int .i64 bits) ∧ w1.cell? ⟨w.heap.size, 1, none⟩ = some (.slice dP dl.length dc) ∧ w1.cell? ⟨w.heap.size, 2, none⟩ = some (.slice lP ll.length lc) := ⟨hx1.cell 0 _ rfl, hx1.cell 1 _ rfl, hx1.cell 2 _ rfl⟩)
        | (go_at_call 47; refine Calls.mono (sizeImpl_any bits _) ?_; rintro e w9 ⟨rfl, hw⟩; have hw := hw.symm; subst hw))
    all_goals go_wp2
    all_goals go_ret
    all_goals exact ⟨_, rfl, by rw [HV.out]; rfl, (bw.trans ((Below.refl _ w0).drew.mono bw.size)).trans (hb1.mono bw.size)⟩

end Go.Proofs.YtjiignkappabpaaDoor
