/-
  What toCap of the laws answers; a capability that came in, opened.
-/
import Derived.Test.YtalncgmncafhjaaDoorWords
import Derived.Handy
import Derived.Lib.SmallJoins
namespace Go.Proofs.YtalncgmncafhjaaDoor
open Go.ChangeShapes Go.WideShapes Go.ChangeAt Go.RowKit
set_option linter.unusedVariables false

/-- A contract, told of an earlier world. -/
theorem on_calls {f : Nat} {args : Array Value} {w W : World} {v : Ending} (h : Calls Tryd.prog f args w fun e w' => e = v ∧ Below w.heap.size w w') (hB : Below W.heap.size W w) :
    Calls Tryd.prog f args w fun e w' => e = v ∧ Below W.heap.size W w' := h.mono fun e w' ⟨he, hb⟩ => ⟨he, hB.trans (hb.mono hB.size)⟩

set_option maxHeartbeats 400000 in
theorem toCap_any (k a b r d g q f : Int) (o : Bool) (w : World) :
    Calls Tryd.prog 5 #[.agg #[.int .i64 k, .int .i64 a, .int .i64 b, .int .i64 r, .int .i64 d, .int .i64 g, .int .i64 q, .int .i64 f, .bool o]] w fun e w' => e = .returned (.agg #[.int .i64 k, .int .i64 a, .int .i64 b, .int .i64 r, .int .i64 d, .int .i64 g, .int .i64 q, .int .i64 f, .bool o]) ∧ Below w.heap.size w w' := by
  go_enter Tryd.func5, Tryd.ntmps5
  go_wp2
  exact bodyPost_ret (v := .agg #[.int .i64 k, .int .i64 a, .int .i64 b, .int .i64 r, .int .i64 d, .int .i64 g, .int .i64 q, .int .i64 f, .bool o]) (by simp [results, Tryd.results5, go_sem]) rfl ⟨rfl, by go_grown⟩

theorem array9 {α : Type} {cs : Array α} (h : cs.size = 9) : ∃ c0 c1 c2 c3 c4 c5 c6 c7 c8, cs = #[c0, c1, c2, c3, c4, c5, c6, c7, c8] := by
  obtain ⟨l⟩ := cs
  match l, h with
  | [c0, c1, c2, c3, c4, c5, c6, c7, c8], _ => exact ⟨c0, c1, c2, c3, c4, c5, c6, c7, c8, rfl⟩

theorem cell_int {H : Type} {enc : TypeId × Value → H} {W : World} {base n : Nat} {spare : Nat → Bool} {held : Bool} {v : Value} {y : DataW H × List MemPlace}
    (h : DataW.trod enc Tryd.prog W base spare held n 3 [v] = some y) : ∃ a, v = .int .i64 a ∧ (Lit.int .i64 a).wf = true := by
  obtain ⟨a, e, _, wa⟩ := DataW.trod_int Tryd.underlying3 h
  simp at e
  exact ⟨a, e, wa⟩

theorem cell_bool {H : Type} {enc : TypeId × Value → H} {W : World} {base n : Nat} {spare : Nat → Bool} {held : Bool} {v : Value} {y : DataW H × List MemPlace}
    (h : DataW.trod enc Tryd.prog W base spare held n 4 [v] = some y) : ∃ o, v = .bool o := by
  obtain ⟨a, e, _⟩ := DataW.trod_bool Tryd.underlying4 h
  simp at e
  exact ⟨a, e⟩

set_option maxRecDepth 100000 in
theorem open_cap {H : Type} {enc : TypeId × Value → H} {W : World} {base b0 : Nat} {spare : Nat → Bool} {held : Bool} {rc : Reach} {v : Value} {d : DataW H} {p : List MemPlace}
    (hv : Value.okWide Tryd.prog W rc b0 23 v) (h : DataW.Trod enc Tryd.prog W base spare held 23 v d p) :
    ∃ (k a b r d g q f : Int) (o : Bool), v = .agg #[.int .i64 k, .int .i64 a, .int .i64 b, .int .i64 r, .int .i64 d, .int .i64 g, .int .i64 q, .int .i64 f, .bool o] ∧ (Lit.int .i64 k).wf = true ∧ (Lit.int .i64 a).wf = true ∧ (Lit.int .i64 b).wf = true ∧ (Lit.int .i64 r).wf = true ∧ (Lit.int .i64 d).wf = true ∧ (Lit.int .i64 g).wf = true ∧ (Lit.int .i64 q).wf = true ∧ (Lit.int .i64 f).wf = true := by
  obtain ⟨cs, rfl, hsz⟩ := okWide_struct Tryd.underlying23 hv
  obtain ⟨c0, c1, c2, c3, c4, c5, c6, c7, c8, rfl⟩ := array9 (hsz.trans (by kernel_rfl))
  obtain ⟨fuel, hf⟩ := h
  obtain ⟨xs, n, _, _, _, hl, hx⟩ := DataW.trod_struct Tryd.underlying23 hf
  have hl9 : xs.length = 9 := hl
  have e3 : Tryd.prog.cellsOf 3 = 1 := by kernel_rfl
  have e4 : Tryd.prog.cellsOf 4 = 1 := by kernel_rfl
  have ex : ∀ i, i < 9 → ∃ y, xs[i]? = some y := fun i hi => ⟨_, List.getElem?_eq_getElem (by omega)⟩
  obtain ⟨y0, hy0⟩ := ex 0 (by omega)
  have h0 : DataW.trod enc Tryd.prog W base spare held n 3 [c0] = some y0 := by
    have := hx 0 _ rfl
    rw [hy0] at this
    simpa [Value.cells, e3] using this
  obtain ⟨k, rfl, wk⟩ := cell_int (v := c0) h0
  obtain ⟨y1, hy1⟩ := ex 1 (by omega)
  have h1 : DataW.trod enc Tryd.prog W base spare held n 3 [c1] = some y1 := by
    have := hx 1 _ rfl
    rw [hy1] at this
    simpa [Value.cells, e3] using this
  obtain ⟨a, rfl, wa⟩ := cell_int (v := c1) h1
  obtain ⟨y2, hy2⟩ := ex 2 (by omega)
  have h2 : DataW.trod enc Tryd.prog W base spare held n 3 [c2] = some y2 := by
    have := hx 2 _ rfl
    rw [hy2] at this
    simpa [Value.cells, e3] using this
  obtain ⟨b, rfl, wb⟩ := cell_int (v := c2) h2
  obtain ⟨y3, hy3⟩ := ex 3 (by omega)
  have h3 : DataW.trod enc Tryd.prog W base spare held n 3 [c3] = some y3 := by
    have := hx 3 _ rfl
    rw [hy3] at this
    simpa [Value.cells, e3] using this
  obtain ⟨r, rfl, wr⟩ := cell_int (v := c3) h3
  obtain ⟨y4, hy4⟩ := ex 4 (by omega)
  have h4 : DataW.trod enc Tryd.prog W base spare held n 3 [c4] = some y4 := by
    have := hx 4 _ rfl
    rw [hy4] at this
    simpa [Value.cells, e3] using this
  obtain ⟨d, rfl, wd⟩ := cell_int (v := c4) h4
  obtain ⟨y5, hy5⟩ := ex 5 (by omega)
  have h5 : DataW.trod enc Tryd.prog W base spare held n 3 [c5] = some y5 := by
    have := hx 5 _ rfl
    rw [hy5] at this
    simpa [Value.cells, e3] using this
  obtain ⟨g, rfl, wg⟩ := cell_int (v := c5) h5
  obtain ⟨y6, hy6⟩ := ex 6 (by omega)
  have h6 : DataW.trod enc Tryd.prog W base spare held n 3 [c6] = some y6 := by
    have := hx 6 _ rfl
    rw [hy6] at this
    simpa [Value.cells, e3] using this
  obtain ⟨q, rfl, wq⟩ := cell_int (v := c6) h6
  obtain ⟨y7, hy7⟩ := ex 7 (by omega)
  have h7 : DataW.trod enc Tryd.prog W base spare held n 3 [c7] = some y7 := by
    have := hx 7 _ rfl
    rw [hy7] at this
    simpa [Value.cells, e3] using this
  obtain ⟨f, rfl, wf⟩ := cell_int (v := c7) h7
  obtain ⟨y8, hy8⟩ := ex 8 (by omega)
  have h8 : DataW.trod enc Tryd.prog W base spare held n 4 [c8] = some y8 := by
    have := hx 8 _ rfl
    rw [hy8] at this
    simpa [Value.cells, e4] using this
  obtain ⟨o, rfl⟩ := cell_bool (v := c8) h8
  exact ⟨k, a, b, r, d, g, q, f, o, rfl, wk, wa, wb, wr, wd, wg, wq, wf⟩

end Go.Proofs.YtalncgmncafhjaaDoor
