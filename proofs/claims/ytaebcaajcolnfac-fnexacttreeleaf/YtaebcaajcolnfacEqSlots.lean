/-
  What eqCap, eqTreeSlot and eqTreeSlotS of the laws answer where both sides are the same.
-/
import Derived.Test.YtaebcaajcolnfacHeld
import Derived.Test.YtaebcaajcolnfacQuietFast
import Derived.Test.YtaebcaajcolnfacCapIn
import Derived.Deep.DeepCutAuto
namespace Go.Proofs.Ytaebcaajcolnfac
open Go.ChangeShapes Go.WideShapes Go.ChangeAt Go.RowKit
set_option linter.unusedVariables false

set_option maxHeartbeats 1000000 in
theorem eqCap_same (k a b r d g q f : Int) (o : Bool) (w : World) :
    Calls Try.prog 56 #[.agg #[.int .i64 k, .int .i64 a, .int .i64 b, .int .i64 r, .int .i64 d, .int .i64 g, .int .i64 q, .int .i64 f, .bool o], .agg #[.int .i64 k, .int .i64 a, .int .i64 b, .int .i64 r, .int .i64 d, .int .i64 g, .int .i64 q, .int .i64 f, .bool o]] w fun e w' => e = .returned (.bool true) ∧ Below w.heap.size w w' := by
  go_enter Try.func56, Try.ntmps56
  go_wp2
  go_ret
  exact ⟨rfl, by go_grown⟩

/-- Two blocks of eleven, and a call behind them. -/
theorem two11 {w w1 : World} {a0 a1 a2 a3 a4 a5 a6 a7 a8 a9 a10 b0 b1 b2 b3 b4 b5 b6 b7 b8 b9 b10 : Value} {S T : Nat}
    (hb : Below ((w.alloc (.cells #[a0, a1, a2, a3, a4, a5, a6, a7, a8, a9, a10] S)).alloc (.cells #[b0, b1, b2, b3, b4, b5, b6, b7, b8, b9, b10] T)).heap.size ((w.alloc (.cells #[a0, a1, a2, a3, a4, a5, a6, a7, a8, a9, a10] S)).alloc (.cells #[b0, b1, b2, b3, b4, b5, b6, b7, b8, b9, b10] T)) w1) :
    Holds11 w1 w.heap.size a0 a1 a2 a3 a4 a5 a6 a7 a8 a9 a10 ∧ Holds11 w1 (w.heap.size + 1) b0 b1 b2 b3 b4 b5 b6 b7 b8 b9 b10 ∧ Below w.heap.size w w1 := by
  refine ⟨((Holds11.alloc w a0 a1 a2 a3 a4 a5 a6 a7 a8 a9 a10 S).allocs (by simp) _).below hb (by simp; omega), ?_, ?_⟩
  · have := (Holds11.alloc (w.alloc (.cells #[a0, a1, a2, a3, a4, a5, a6, a7, a8, a9, a10] S)) b0 b1 b2 b3 b4 b5 b6 b7 b8 b9 b10 T).below hb (by simp)
    rw [World.size_alloc] at this
    exact this
  · exact (((Below.refl _ _).alloc (Nat.le_refl _) _).alloc (by simp) _).trans (hb.mono (by simp; omega))

set_option maxHeartbeats 1000000 in
theorem eqSlot_same (s : Sl) (w : World) :
    Calls Try.prog 30 #[.agg #[.int .i64 s.t, .int .i64 s.k, .int .i64 s.e, .int .i64 s.b, .int .i64 s.r, .int .i64 s.d, .int .i64 s.g, .int .i64 s.q, .int .i64 s.f, .bool s.o, .int .i64 s.p], .agg #[.int .i64 s.t, .int .i64 s.k, .int .i64 s.e, .int .i64 s.b, .int .i64 s.r, .int .i64 s.d, .int .i64 s.g, .int .i64 s.q, .int .i64 s.f, .bool s.o, .int .i64 s.p]] w fun e w' => e = .returned (.bool true) ∧ Below w.heap.size w w' := by
  go_enter Try.func30, Try.ntmps30
  go_wp2_with (first
    | (go_at_call 56; refine (eqCap_same _ _ _ _ _ _ _ _ _ _).mono ?_; rintro e w1 ⟨rfl, hb1⟩; obtain ⟨H0, H1, hB⟩ := two11 hb1; clear hb1; have x := H0.c10; have y := H1.c10))
  go_ret
  exact ⟨rfl, hB⟩

/-- What stands between two rounds. -/
def eqInv (w : World) (P Q : Option Addr) (L : List Sl) (i : Value) (w' : World) : Prop :=
  ∃ k : Nat, k ≤ L.length ∧ i = .int .i64 k ∧ Lies w' P L ∧ Lies w' Q L ∧ Below w.heap.size w w'

set_option maxRecDepth 100000 in
set_option maxHeartbeats 2000000 in
theorem eqSlots_same (P Q : Option Addr) (n m c d : Nat) (L : List Sl) (w : World) (hn : n = L.length) (hm : m = L.length) (hl : n ≤ 1048577) (hP : Lies w P L) (hQ : Lies w Q L) :
    Calls Try.prog 13 #[.slice P n c, .slice Q m d] w fun e w' => e = .returned (.bool true) ∧ Below w.heap.size w w' := by
  subst hn
  subst hm
  go_enter Try.func13, Try.ntmps13
  go_wp2
  go_loopw [5] (fun i w' => eqInv w P Q L i w') (fun i w' => L.length - (intOf i).toNat)
  case atStart => exact ⟨0, Nat.zero_le _, rfl, hP, hQ, Below.refl _ _⟩
  case round =>
    obtain ⟨k, hk, rfl, hP1, hQ1, hB⟩ := hrel
    by_cases hlt : k < L.length
    · obtain ⟨B, O, rfl⟩ := hP1.some hlt
      obtain ⟨B2, O2, rfl⟩ := hQ1.some hlt
      obtain ⟨s, hs⟩ : ∃ s, L[k] = s := ⟨_, rfl⟩
      have hc := hP1.cells B O rfl k hlt
      have hd := hQ1.cells B2 O2 rfl k hlt
      rw [hs] at hc hd
      obtain ⟨c0, c1, c2, c3, c4, c5, c6, c7, c8, c9, c10⟩ := hc
      obtain ⟨d0, d1, d2, d3, d4, d5, d6, d7, d8, d9, d10⟩ := hd
      have x0 := cell_regrown c0
      have x1 := cell_regrown c1
      have x2 := cell_regrown c2
      have x3 := cell_regrown c3
      have x4 := cell_regrown c4
      have x5 := cell_regrown c5
      have x6 := cell_regrown c6
      have x7 := cell_regrown c7
      have x8 := cell_regrown c8
      have x9 := cell_regrown c9
      have x10 := cell_regrown c10
      have y0 := cell_regrown d0
      have y1 := cell_regrown d1
      have y2 := cell_regrown d2
      have y3 := cell_regrown d3
      have y4 := cell_regrown d4
      have y5 := cell_regrown d5
      have y6 := cell_regrown d6
      have y7 := cell_regrown d7
      have y8 := cell_regrown d8
      have y9 := cell_regrown d9
      have y10 := cell_regrown d10
      have hk1 : (k : Int) < (L.length : Int) := by omega
      go_upto_region 6 with fail
      refine wq_region (by kernel_rfl) (by kernel_rfl) ?_
      repeat (first | (refine wq_step (fun K hK => ?_); go_simp; first | (refine hK _ ?_; clear hK K) | (apply Exists.intro; refine ⟨fun _ => ?_, hK _ ?_⟩; (go_at_call 30; exact Calls.regrown_of (eqSlot_same _ _)); clear hK K)))
      refine wq_nil ?_
      intro _ hw'
      obtain ⟨⟨dq, osq⟩, hw''⟩ := hw'
      subst hw''
      go_wp2
      go_roundw
      case rel => exact ⟨k + 1, by omega, by go_num, hP1.below (below_regrown wr dq osq), hQ1.below (below_regrown wr dq osq), hB.trans ((below_regrown wr dq osq).mono hB.size)⟩
      case measure => simp [intOf]; omega
    · go_wp2
      go_ret
      exact ⟨rfl, hB⟩

end Go.Proofs.Ytaebcaajcolnfac
