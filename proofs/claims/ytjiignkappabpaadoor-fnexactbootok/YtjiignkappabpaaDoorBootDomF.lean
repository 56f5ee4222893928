/-
  The program's check of a domain.
-/
import Derived.Test.YtjiignkappabpaaDoorBootFault
namespace Go.Proofs.YtjiignkappabpaaDoor
open Go.ChangeShapes Go.WideShapes Go.ChangeAt Go.RowKit
set_option linter.unusedVariables false

set_option maxRecDepth 100000 in
set_option maxHeartbeats 2000000 in
theorem domFault_any (d : QD) (w : World) (e0 e1 e2 e3 e4 : Addr) (hS : Sents w e0 e1 e2 e3 e4) :
    Calls Tryd.prog 32 #[.agg #[.int .i64 d.pr, .int .i64 d.mx, .int .i64 d.bt]] w fun e w' => ∃ v, e = .returned v ∧ ErrO w' 1 (domB d) v ∧ Below w.heap.size w w' := by
  have bw : Below w.heap.size w (w.alloc (.cells #[.int .i64 d.pr, .int .i64 d.mx, .int .i64 d.bt] 38)) := (Below.refl _ _).alloc (Nat.le_refl _) _
  have hS1 := hS.below bw
  have HA1 : Hid _ := hS1.i1
  have HA2 : Hid _ := hS1.i2
  have c1 := hS1.c1
  have c2 := hS1.c2
  unfold domB
  cases h : withinB d.bt 5 8
  · cases h1 : withinB d.pr 0 7
    · go_enter Tryd.func32, Tryd.ntmps32
      go_wp2_with (first
        | (go_at_call 41; refine Calls.mono (within_eq _ _ _ _ _ (by assumption)) ?_; rintro e w' ⟨rfl, rfl⟩)
        | (go_at_call 31; refine Calls.mono (join2 _ _ (by simp) 0 false false _ _ 52 (ErrO.mkE HA1.out) (ErrO.mkE HA2.out)) ?_; rintro e w' ⟨r, rfl, he, hb⟩))
      go_ret
      exact ⟨_, rfl, he, bw.trans (hb.mono bw.size)⟩
    · cases h2 : withinB d.mx 0 7
      · go_enter Tryd.func32, Tryd.ntmps32
        go_wp2_with (first
          | (go_at_call 41; refine Calls.mono (within_eq _ _ _ _ _ (by assumption)) ?_; rintro e w' ⟨rfl, rfl⟩)
          | (go_at_call 31; refine Calls.mono (join2 _ _ (by simp) 0 false false _ _ 52 (ErrO.mkE HA1.out) (ErrO.mkE HA2.out)) ?_; rintro e w' ⟨r, rfl, he, hb⟩))
        go_ret
        exact ⟨_, rfl, he, bw.trans (hb.mono bw.size)⟩
      · go_enter Tryd.func32, Tryd.ntmps32
        go_wp2_with (first
          | (go_at_call 41; refine Calls.mono (within_eq _ _ _ _ _ (by assumption)) ?_; rintro e w' ⟨rfl, rfl⟩)
          | (go_at_call 31; refine Calls.mono (join2 _ _ (by simp) 0 false true _ _ 52 (ErrO.mkE HA1.out) (ErrO.mkN _ _)) ?_; rintro e w' ⟨r, rfl, he, hb⟩))
        go_ret
        exact ⟨_, rfl, he, bw.trans (hb.mono bw.size)⟩
  · cases h1 : withinB d.pr 0 7
    · go_enter Tryd.func32, Tryd.ntmps32
      go_wp2_with (first
        | (go_at_call 41; refine Calls.mono (within_eq _ _ _ _ _ (by assumption)) ?_; rintro e w' ⟨rfl, rfl⟩)
        | (go_at_call 31; refine Calls.mono (join2 _ _ (by simp) 0 true false _ _ 52 (ErrO.mkN _ _) (ErrO.mkE HA2.out)) ?_; rintro e w' ⟨r, rfl, he, hb⟩))
      go_ret
      exact ⟨_, rfl, he, bw.trans (hb.mono bw.size)⟩
    · cases h2 : withinB d.mx 0 7
      · go_enter Tryd.func32, Tryd.ntmps32
        go_wp2_with (first
          | (go_at_call 41; refine Calls.mono (within_eq _ _ _ _ _ (by assumption)) ?_; rintro e w' ⟨rfl, rfl⟩)
          | (go_at_call 31; refine Calls.mono (join2 _ _ (by simp) 0 true false _ _ 52 (ErrO.mkN _ _) (ErrO.mkE HA2.out)) ?_; rintro e w' ⟨r, rfl, he, hb⟩))
        go_ret
        exact ⟨_, rfl, he, bw.trans (hb.mono bw.size)⟩
      · go_enter Tryd.func32, Tryd.ntmps32
        go_wp2_with (first
          | (go_at_call 41; refine Calls.mono (within_eq _ _ _ _ _ (by assumption)) ?_; rintro e w' ⟨rfl, rfl⟩)
          | (go_at_call 31; refine Calls.mono (join2 _ _ (by simp) 0 true true _ _ 52 (ErrO.mkN _ _) (ErrO.mkN _ _)) ?_; rintro e w' ⟨r, rfl, he, hb⟩))
        go_ret
        exact ⟨_, rfl, he, bw.trans (hb.mono bw.size)⟩

end Go.Proofs.YtjiignkappabpaaDoor
