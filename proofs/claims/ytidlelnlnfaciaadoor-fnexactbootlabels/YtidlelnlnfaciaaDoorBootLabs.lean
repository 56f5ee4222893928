/-
  BootLabels of the program and of the specification.
-/
import Derived.Test.YtidlelnlnfaciaaDoorBootOkBoth
namespace Go.Proofs.YtidlelnlnfaciaaDoor
open Go.ChangeShapes Go.WideShapes Go.ChangeAt Go.RowKit
set_option linter.unusedVariables false

/-- How many labels a plan has. -/
def labsI (b : Bool) (n m : Nat) : Int := if b = true then (n : Int) + m + 1 else 0

set_option maxRecDepth 100000 in
set_option maxHeartbeats 2000000 in
theorem labsI_any (bits : Int) (dP : Option Addr) (dc : Nat) (dl : List QD) (lP : Option Addr) (lc : Nat) (ll : List QL) (w : World) (e0 e1 e2 e3 e4 : Addr) (hS : Sents w e0 e1 e2 e3 e4) (hd0 : LiesG fD w dP dl) (hl0 : LiesG fL w lP ll) (hI : InL w ll) (hd : dl.length ≤ 1048576) (hl : ll.length ≤ 1048576) (hle : ∀ x ∈ ll, x.l.length ≤ 1048576) (hf : ∀ x ∈ ll, ∀ t ∈ x.l, -9223372036854775808 ≤ t.rt ∧ t.rt ≤ 9223372036854775807) :
    Calls Tryd.prog 7 #[.agg #[.int .i64 bits, .slice dP dl.length dc, .slice lP ll.length lc]] w fun e w' => e = .returned (.int .i64 (labsI (planB (bits, dl, ll.map QL.pl)) dl.length ll.length)) ∧ Below w.heap.size w w' := by
  have bw : Below w.heap.size w (w.alloc (.cells #[.int .i64 bits, .slice dP dl.length dc, .slice lP ll.length lc] 31)) := (Below.refl _ _).alloc (Nat.le_refl _) _
  have x := Bx.new w 31 [.int .i64 bits, .slice dP dl.length dc, .slice lP ll.length lc]
  have HF : Hid _ := bootOkI_any bits dP dc dl lP lc ll _ e0 e1 e2 e3 e4 (hS.below bw) (hd0.below bw) (hl0.below bw) (hI.below bw) hd hl hle hf
  generalize planB (bits, dl, ll.map QL.pl) = b at *
  cases b
  · go_enter Tryd.func7, Tryd.ntmps7
    go_wp2_with ((go_at_call 14; refine Calls.mono HF.out ?_; rintro e w1 ⟨rfl, hb⟩))
    go_ret
    exact ⟨ret_int (by simp [labsI]), bw.trans (hb.mono bw.size)⟩
  · go_enter Tryd.func7, Tryd.ntmps7
    go_wp2_with ((go_at_call 14; refine Calls.mono HF.out ?_; rintro e w1 ⟨rfl, hb⟩; have x1 := x.below hb; have a1 := x1.cell 1 _ rfl; have a2 := x1.cell 2 _ rfl))
    go_ret
    exact ⟨ret_int (by simp [labsI]), bw.trans (hb.mono bw.size)⟩

set_option maxRecDepth 100000 in
set_option maxHeartbeats 2000000 in
theorem labsS_any (bits : Int) (dP : Option Addr) (dc : Nat) (dl : List QD) (lP : Option Addr) (lc : Nat) (ll : List QL) (w : World) (hd0 : LiesG fD w dP dl) (hl0 : LiesG fL w lP ll) (hI : InL w ll) (hd : dl.length ≤ 1048576) (hl : ll.length ≤ 1048576) (hle : ∀ x ∈ ll, x.l.length ≤ 1048576) :
    Calls Tryd.prog 5 #[.agg #[.int .i64 bits, .slice dP dl.length dc, .slice lP ll.length lc]] w fun e w' => e = .returned (.int .i64 (labsI (planB (bits, dl, ll.map QL.pl)) dl.length ll.length)) ∧ Below w.heap.size w w' := by
  have bw : Below w.heap.size w (w.alloc (.cells #[.int .i64 bits, .slice dP dl.length dc, .slice lP ll.length lc] 31)) := (Below.refl _ _).alloc (Nat.le_refl _) _
  have x := Bx.new w 31 [.int .i64 bits, .slice dP dl.length dc, .slice lP ll.length lc]
  have HF : Hid _ := bootOkS2_any bits dP dc dl lP lc ll _ (hd0.below bw) (hl0.below bw) (hI.below bw) hd hl hle
  generalize planB (bits, dl, ll.map QL.pl) = b at *
  cases b
  · go_enter Tryd.func5, Tryd.ntmps5
    go_wp2_with ((go_at_call 11; refine Calls.mono HF.out ?_; rintro e w1 ⟨rfl, hb⟩))
    go_ret
    exact ⟨ret_int (by simp [labsI]), bw.trans (hb.mono bw.size)⟩
  · go_enter Tryd.func5, Tryd.ntmps5
    go_wp2_with ((go_at_call 11; refine Calls.mono HF.out ?_; rintro e w1 ⟨rfl, hb⟩; have x1 := x.below hb; have a1 := x1.cell 1 _ rfl; have a2 := x1.cell 2 _ rfl))
    go_ret
    exact ⟨ret_int (by simp [labsI]), bw.trans (hb.mono bw.size)⟩

end Go.Proofs.YtidlelnlnfaciaaDoor
