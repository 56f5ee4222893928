/-
  The closure that lays a part: it keeps where it is.
-/
import Derived.Test.YtjiignkappabpaaDoorBut
import Derived.Test.YtjiignkappabpaaDoorBootPlain
import Derived.Test.YtjiignkappabpaaDoorSizes
import Derived.Test.YtjiignkappabpaaDoorImpl
import Derived.Laws.ResultCell
namespace Go.Proofs.YtjiignkappabpaaDoor
open Go.ChangeShapes Go.WideShapes Go.ChangeAt Go.RowKit
set_option linter.unusedVariables false

/-- The cells of an original. -/
def capL (k a b : Int) : List Value := [.int .i64 k, .int .i64 a, .int .i64 b, .int .i64 (maxI k), .int .i64 0, .int .i64 0, .int .i64 0, .int .i64 0, .bool true]

set_option maxRecDepth 100000 in
set_option maxHeartbeats 2000000 in
theorem layC_any (k b a : Int) (g : Nat) (w : World) (hg : Bx w g 3 [.int .i64 a]) (ha : 0 ≤ a) (ha2 : a ≤ 100000) :
    Calls Tryd.prog 54 #[.int .i64 k, .int .i64 b, .pointer (some ⟨g, 0, none⟩)] w fun e w' => e = .returned (.agg #[.int .i64 k, .int .i64 (upI a (szI k b)), .int .i64 b, .int .i64 (maxI k), .int .i64 0, .int .i64 0, .int .i64 0, .int .i64 0, .bool true]) ∧ Bx w' g 3 [.int .i64 (layE a (szI k b))] ∧ But g w w' := by
  have hs := szI_bound k b
  have hu := upI_bound a (szI k b) ha hs.1 hs.2
  have HL : Hid (layE a (szI k b) = upI a (szI k b) + szI k b) := rfl
  generalize hsz : szI k b = s at *
  have HSZ : Hid _ := hsz
  clear hsz
  generalize layE a s = z at HL ⊢
  have HUP : Hid (∀ W, Calls Tryd.prog 55 #[.int .i64 a, .int .i64 s] W fun e w' => e = .returned (.int .i64 (upI a s)) ∧ Below W.heap.size W w') := fun W => upImpl_any a s W
  generalize upI a s = u at *
  have r0 := Bx.new w 111 [.int .i64 0, .int .i64 0, .int .i64 0, .int .i64 0, .int .i64 0, .int .i64 0, .int .i64 0, .int .i64 0, .bool false]
  have hgl := hg.lt
  go_enter Tryd.func54, Tryd.ntmps54
  go_wp2_with (first
    | (go_at_call 44; refine Calls.mono (sizeKind_any k b _) ?_; rw [HSZ.out]; rintro e w1 ⟨rfl, hb1⟩; have g1 := (hg.alloc _).below hb1; have r1 := r0.below hb1; have c1 := g1.cell 0 _ rfl; have z1 := g1.frozen 0)
    | (go_at_call 55; refine Calls.mono (HUP.out _) ?_; rintro e w2 ⟨rfl, hb2⟩; have g2 := g1.below hb2; have r2 := r1.below hb2; have c2 := g2.cell 0 _ rfl; have z2 := g2.frozen 0)
    | (go_at_call 53; refine Calls.mono (maxImpl_any k _) ?_; rintro e w3 ⟨rfl, hb3⟩; have g3 := (g2.set 0 (.int .i64 (u + s))).below hb3; have r3 := (r2.far (c := g) (k := 0) (.int .i64 (u + s)) (by omega)).below hb3; have q0 := r3.cell 0 _ rfl; have q1 := r3.cell 1 _ rfl; have q2 := r3.cell 2 _ rfl; have q3 := r3.cell 3 _ rfl; have q4 := r3.cell 4 _ rfl; have q5 := r3.cell 5 _ rfl; have q6 := r3.cell 6 _ rfl; have q7 := r3.cell 7 _ rfl; have q8 := r3.cell 8 _ rfl; have zq := r3.frozen))
  refine bodyPost_ret (show (results Tryd.f54 _).run Tryd.prog _ = .ok (.agg #[.int .i64 k, .int .i64 u, .int .i64 b, .int .i64 (maxI k), .int .i64 0, .int .i64 0, .int .i64 0, .int .i64 0, .bool true]) _ from by simp [results, Tryd.results54, go_sem, *]) rfl ⟨rfl, ?_, ?_⟩
  · rw [HL.out]
    iterate 9 (refine Bx.far ?_ _ (by omega))
    exact g3
  · have hB3 : But g w w3 := ((But.of g ((Below.refl _ w).alloc (Nat.le_refl _) _)).trans ((But.of g hb1).trans ((But.of g hb2).set 0 (.int .i64 (u + s))))).trans (But.of g hb3)
    have hsz3 : w.heap.size < w3.heap.size := r3.lt
    iterate 9 (refine But.out ?_ (Nat.le_refl _) _ _)
    exact hB3

end Go.Proofs.YtjiignkappabpaaDoor
