/-
  BootOk and BootLabels of the program and of the specification.
-/
import Derived.Test.YtjiignkappabpaaDoorBootFltI
import Derived.Test.YtjiignkappabpaaDoorBootOkS
namespace Go.Proofs.YtjiignkappabpaaDoor
open Go.ChangeShapes Go.WideShapes Go.ChangeAt Go.RowKit
set_option linter.unusedVariables false

set_option maxRecDepth 100000 in
set_option maxHeartbeats 2000000 in
theorem bootOkI_any (bits : Int) (dP : Option Addr) (dc : Nat) (dl : List QD) (lP : Option Addr) (lc : Nat) (ll : List QL) (w : World) (e0 e1 e2 e3 e4 : Addr) (hS : Sents w e0 e1 e2 e3 e4) (hd0 : LiesG fD w dP dl) (hl0 : LiesG fL w lP ll) (hI : InL w ll) (hd : dl.length ≤ 1048576) (hl : ll.length ≤ 1048576) (hle : ∀ x ∈ ll, x.l.length ≤ 1048576) (hf : ∀ x ∈ ll, ∀ t ∈ x.l, -9223372036854775808 ≤ t.rt ∧ t.rt ≤ 9223372036854775807) :
    Calls Tryd.prog 7 #[.agg #[.int .i64 bits, .slice dP dl.length dc, .slice lP ll.length lc]] w fun e w' => e = .returned (.bool (planB (bits, dl, ll.map QL.pl))) ∧ Below w.heap.size w w' := by
  have bw : Below w.heap.size w (w.alloc (.cells #[.int .i64 bits, .slice dP dl.length dc, .slice lP ll.length lc] 31)) := (Below.refl _ _).alloc (Nat.le_refl _) _
  have HF : Hid _ := bootFault_any bits dP dc dl lP lc ll _ e0 e1 e2 e3 e4 (hS.below bw) (hd0.below bw) (hl0.below bw) (hI.below bw) hd hl hle hf
  generalize planB (bits, dl, ll.map QL.pl) = b at *
  cases b
  · go_enter Tryd.func7, Tryd.ntmps7
    go_wp2_with ((go_at_call 17; refine Calls.mono HF.out ?_; rintro e w1 ⟨v, rfl, he, hb⟩; obtain ⟨T, a, rfl⟩ := he.ifaceOf))
    go_ret
    exact ⟨rfl, bw.trans (hb.mono bw.size)⟩
  · go_enter Tryd.func7, Tryd.ntmps7
    go_wp2_with ((go_at_call 17; refine Calls.mono HF.out ?_; rintro e w1 ⟨v, rfl, he, hb⟩; obtain rfl := he.nilOf))
    go_ret
    exact ⟨rfl, bw.trans (hb.mono bw.size)⟩

theorem bootOkS2_any (bits : Int) (dP : Option Addr) (dc : Nat) (dl : List QD) (lP : Option Addr) (lc : Nat) (ll : List QL) (w : World) (hd0 : LiesG fD w dP dl) (hl0 : LiesG fL w lP ll) (hI : InL w ll) (hd : dl.length ≤ 1048576) (hl : ll.length ≤ 1048576) (hle : ∀ x ∈ ll, x.l.length ≤ 1048576) :
    Calls Tryd.prog 5 #[.agg #[.int .i64 bits, .slice dP dl.length dc, .slice lP ll.length lc]] w fun e w' => e = .returned (.bool (planB (bits, dl, ll.map QL.pl))) ∧ Below w.heap.size w w' := by
  rw [← planSB_eq]
  exact bootOkS_any bits dP dc dl lP lc ll w hd0 hl0 hI hd hl hle

end Go.Proofs.YtjiignkappabpaaDoor
