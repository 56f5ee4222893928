/-
  The program's checks of a plan: what each of them answers.
-/
import Derived.Test.YtjiignkappabpaaDoorBootJoin
import Derived.Test.YtjiignkappabpaaDoorBootPlain
import Derived.Test.YtjiignkappabpaaDoorSizes
import Derived.Test.YtjiignkappabpaaDoorQuietFast
namespace Go.Proofs.YtjiignkappabpaaDoor
open Go.ChangeShapes Go.WideShapes Go.ChangeAt Go.RowKit
set_option linter.unusedVariables false

/-- An error of errors.New's make, by its address. -/
abbrev eV (a : Addr) : Value := .iface 131 (.pointer (some a))
/-- The five errors of the package. -/
structure Sents (W : World) (e0 e1 e2 e3 e4 : Addr) : Prop where
  c0 : W.cell? ⟨0, 0, none⟩ = some (eV e0)
  c1 : W.cell? ⟨1, 0, none⟩ = some (eV e1)
  c2 : W.cell? ⟨2, 0, none⟩ = some (eV e2)
  c3 : W.cell? ⟨3, 0, none⟩ = some (eV e3)
  c4 : W.cell? ⟨4, 0, none⟩ = some (eV e4)
  i0 : IsE W (eV e0)
  i1 : IsE W (eV e1)
  i2 : IsE W (eV e2)
  i3 : IsE W (eV e3)
  i4 : IsE W (eV e4)
theorem Sents.below {W W' : World} {e0 e1 e2 e3 e4 : Addr} (h : Sents W e0 e1 e2 e3 e4) (hb : Below W.heap.size W W') : Sents W' e0 e1 e2 e3 e4 :=
  ⟨((bcell hb).1 _ _ (block_lt_of_cell h.c0)).trans h.c0, ((bcell hb).1 _ _ (block_lt_of_cell h.c1)).trans h.c1, ((bcell hb).1 _ _ (block_lt_of_cell h.c2)).trans h.c2, ((bcell hb).1 _ _ (block_lt_of_cell h.c3)).trans h.c3, ((bcell hb).1 _ _ (block_lt_of_cell h.c4)).trans h.c4, h.i0.below hb, h.i1.below hb, h.i2.below hb, h.i3.below hb, h.i4.below hb⟩

theorem within_eq (n l m : Int) (w : World) (b : Bool) (h : withinB n l m = b) :
    Calls Tryd.prog 41 #[.int .i64 n, .int .i64 l, .int .i64 m] w fun e w' => e = .returned (.bool b) ∧ w' = w := by
  subst h; exact within_any n l m w

set_option maxRecDepth 100000 in
set_option maxHeartbeats 1000000 in
theorem memFault_any (b : Int) (w : World) (e0 e1 e2 e3 e4 : Addr) (hS : Sents w e0 e1 e2 e3 e4) :
    Calls Tryd.prog 30 #[.int .i64 b] w fun e w' => ∃ v, e = .returned v ∧ ErrO w' 0 (withinB b 9 12) v ∧ w = w' := by
  have c1 := hS.c1
  cases h : withinB b 9 12
  · go_enter Tryd.func30, Tryd.ntmps30
    go_wp2_with ((go_at_call 41; refine (within_no _ _ _ _ h).mono ?_; rintro e w' ⟨rfl, rfl⟩))
    go_ret
    exact ⟨_, rfl, hS.i1, rfl⟩
  · go_enter Tryd.func30, Tryd.ntmps30
    go_wp2_with ((go_at_call 41; refine (within_yes _ _ _ _ h).mono ?_; rintro e w' ⟨rfl, rfl⟩))
    go_ret
    exact ⟨_, rfl, rfl, rfl⟩

theorem ErrO.mkE {W : World} {v : Value} (h : IsE W v) : ErrO W 0 false v := h
theorem ErrO.split {W : World} {d : Nat} {ok : Bool} {v : Value} (h : ErrO W d ok v) : (ok = true ∧ v = .nilIface) ∨ (ok = false ∧ ∃ T a, v = .iface T (.pointer (some a))) := by
  cases ok
  · obtain ⟨T, a, e, _⟩ := ErrD.form h.err
    exact .inr ⟨rfl, T, a, e⟩
  · exact .inl ⟨rfl, h⟩
theorem ErrO.mkN (W : World) (d : Nat) : ErrO W d true .nilIface := rfl
theorem two_nil (W : World) (d : Nat) (a b : Bool) (u v : Value) (hu : ErrO W d a u) (hv : ErrO W d b v) : (∀ x ∈ [u, v], x = .nilIface ∨ ErrD W d x) ∧ ([u, v].all isNil) = (a && b) := by
  constructor
  · intro x hx
    simp at hx
    rcases hx with rfl | rfl
    · cases a
      · exact .inr hu
      · exact .inl hu
    · cases b
      · exact .inr hv
      · exact .inl hv
  · have e : ∀ (c : Bool) (y : Value), ErrO W d c y → isNil y = c := by
      intro c y hy
      cases c
      · obtain ⟨T, a, rfl, _⟩ := ErrD.form hy.err
        rfl
      · rw [hy.nil]; rfl
    simp [e a u hu, e b v hv]
theorem three_nil (W : World) (d : Nat) (a b c : Bool) (u v z : Value) (hu : ErrO W d a u) (hv : ErrO W d b v) (hz : ErrO W d c z) : (∀ x ∈ [u, v, z], x = .nilIface ∨ ErrD W d x) ∧ ([u, v, z].all isNil) = (a && (b && c)) := by
  have h1 := two_nil W d a b u v hu hv
  have h2 := two_nil W d b c v z hv hz
  constructor
  · intro x hx
    simp at hx
    rcases hx with rfl | rfl | rfl
    · exact h1.1 _ (by simp)
    · exact h2.1 _ (by simp)
    · exact h2.1 _ (by simp)
  · have h3 := h1.2
    have h4 := h2.2
    simp only [List.all_cons, List.all_nil, Bool.and_true] at h3 h4 ⊢
    rw [h4]
    cases a
    · cases hn : isNil u
      · rfl
      · have : u ≠ .nilIface := by obtain ⟨T, q, rfl, _⟩ := ErrD.form hu.err; intro e; cases e
        obtain ⟨T, q, rfl, _⟩ := ErrD.form hu.err
        simp [isNil] at hn
    · rw [hu.nil]; rfl

/-- Two errors joined. -/
theorem join2 (w : World) (g : Nat) (hg : g = w.heap.size) (d : Nat) (a b : Bool) (u v : Value) (T : TypeId) (hu : ErrO w d a u) (hv : ErrO w d b v) :
    Calls Tryd.prog 31 #[.slice (some ⟨g, 0, none⟩) 2 2] (w.alloc (.cells #[u, v] T)) fun e w' => ∃ r, e = .returned r ∧ ErrO w' (d + 1) (a && b) r ∧ Below w.heap.size w w' := by
  subst hg
  have hb : Below w.heap.size w (w.alloc (.cells #[u, v] T)) := (Below.refl _ _).alloc (Nat.le_refl _) _
  obtain ⟨h1, h2⟩ := two_nil _ d a b u v (hu.below hb) (hv.below hb)
  refine Calls.mono (join_any (some ⟨w.heap.size, 0, none⟩) 2 [u, v] _ (Bx.lies (Bx.new w T [u, v])) (by simp) d h1) ?_
  rintro e w' ⟨r, rfl, he, hb'⟩
  rw [h2] at he
  exact ⟨r, rfl, he, hb.trans (hb'.mono (by simp))⟩
theorem join3 (w : World) (g : Nat) (hg : g = w.heap.size) (d : Nat) (a b c : Bool) (u v z : Value) (T : TypeId) (hu : ErrO w d a u) (hv : ErrO w d b v) (hz : ErrO w d c z) :
    Calls Tryd.prog 31 #[.slice (some ⟨g, 0, none⟩) 3 3] (w.alloc (.cells #[u, v, z] T)) fun e w' => ∃ r, e = .returned r ∧ ErrO w' (d + 1) (a && (b && c)) r ∧ Below w.heap.size w w' := by
  subst hg
  have hb : Below w.heap.size w (w.alloc (.cells #[u, v, z] T)) := (Below.refl _ _).alloc (Nat.le_refl _) _
  obtain ⟨h1, h2⟩ := three_nil _ d a b c u v z (hu.below hb) (hv.below hb) (hz.below hb)
  refine Calls.mono (join_any (some ⟨w.heap.size, 0, none⟩) 3 [u, v, z] _ (Bx.lies (Bx.new w T [u, v, z])) (by simp) d h1) ?_
  rintro e w' ⟨r, rfl, he, hb'⟩
  rw [h2] at he
  exact ⟨r, rfl, he, hb.trans (hb'.mono (by simp))⟩

end Go.Proofs.YtjiignkappabpaaDoor
