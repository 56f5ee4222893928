/-
 What TreeOk of the specification answers.
-/
import Derived.Test.YtigpbjcmmgdiaaaGreatBt
import Derived.Test.YtigpbjcmmgdiaaaGreatBo
import Derived.Test.YtigpbjcmmgdiaaaGreatBb
namespace Go.Proofs.YtigpbjcmmgdiaaaGreat
open Go.ChangeShapes Go.WideShapes Go.ChangeAt Go.RowKit
set_option linter.unusedVariables false

theorem okSpec_to (k a b r d g q f : Int) (o x : Bool) (w : World) (h : okB k a b r d g q f o = x) :
  Calls Tryz.prog 84 #[.agg #[.int .i64 k, .int .i64 a, .int .i64 b, .int .i64 r, .int .i64 d, .int .i64 g, .int .i64 q, .int .i64 f, .bool o]] w fun e w' => e = .returned (.bool x) ∧ Below w.heap.size w w' := by
 have := okSpec_any k a b r d g q f o w
 rw [h] at this
 exact this
theorem findSpec_bel (P : Option Addr) (n c : Nat) (x : Int) (L : List Sl) (w : World) (hn : n = L.length) (hl : n ≤ 1048576) (h : Lies w P L) :
  Calls Tryz.prog 26 #[.slice P n c, .int .i64 x] w fun e w' => e = .returned (.int .i64 (findI L x)) ∧ Below w.heap.size w w' :=
 (findSpec_any P n c x L w hn hl h).mono fun e w' ⟨he, hw⟩ => ⟨he, by rw [hw]; exact Below.refl _ _⟩

theorem wrap_in {x : Int} (h0 : -9223372036854775808 ≤ x) (h1 : x ≤ 9223372036854775807) : IntKind.i64.wrap x = x := by
 simp only [IntKind.wrap, IntKind.bits, IntKind.signed]
 simp
 omega
theorem tmod4 {x : Int} (h : 0 ≤ x) : x.tmod 4 = x % 4 := Int.tmod_eq_emod_of_nonneg h

theorem At11.alloc (w : World) (s : Sl) (T : Nat) : At11 (w.alloc (.cells #[.int .i64 s.t, .int .i64 s.k, .int .i64 s.e, .int .i64 s.b, .int .i64 s.r, .int .i64 s.d, .int .i64 s.g, .int .i64 s.q, .int .i64 s.f, .bool s.o, .int .i64 s.p] T)) w.heap.size 0 s := by
 constructor <;> go_simp

/-- What stands between two rounds. -/
def okInvS (w : World) (P : Option Addr) (L : List Sl) (v i : Value) (w' : World) : Prop :=
 ∃ (k : Nat) (was : Int), k ≤ L.length ∧ i = .int .i64 k ∧ v = .int .i64 was ∧ -1 ≤ was ∧ was ≤ 12 ∧ goB (-1) [] L = goB was (L.take k) (L.drop k) ∧ Lies w' P L ∧ Below w.heap.size w w'

set_option maxRecDepth 100000 in
set_option maxHeartbeats 4000000 in
theorem treeOkSpec_wide (P : Option Addr) (n c : Nat) (L : List Sl) (w : World) (hn : n = L.length) (hl : n ≤ 1048576) (hcap : n ≤ c) (hcm : c ≤ 9223372036854775807) (h : Lies w P L) :
  Calls Tryz.prog 52 #[.slice P n c] w fun e w' => e = .returned (.bool (treeB L)) ∧ Below w.heap.size w w' := by
 by_cases hbig : 300 < n
 ·go_enter Tryz.func52, Tryz.ntmps52
  go_wp2
  go_ret
  exact ⟨ret_bool (treeB_long (by omega)).symm, Below.refl _ _⟩
 ·go_enter Tryz.func52, Tryz.ntmps52
  go_wp2
  go_loopw [3, 4] (fun v i w' => okInvS w P L v i w') (fun v i w' => L.length - (intOf i).toNat)
  case atStart => exact ⟨0, -1, Nat.zero_le _, rfl, rfl, by omega, by omega, rfl, h, Below.refl _ _⟩
  case round =>
   obtain ⟨k, was, hk, rfl, rfl, hw0, hw1, hg, hL, hB⟩ := hrel
   have HG : Hid _ := hg
   clear hg
   by_cases hlt : k < L.length
   ·obtain ⟨B, O, rfl⟩ := hL.some hlt
    have hkn : k < n := by omega
    obtain ⟨s, hs⟩ : ∃ s, L[k] = s := ⟨_, rfl⟩
    have hc := hL.cells B O rfl k hlt
    rw [hs] at hc
    obtain ⟨c0, c1, c2, c3, c4, c5, c6, c7, c8, c9, c10⟩ := hc
    have hM := At11.alloc wr s 66
    have hB1 : Below w.heap.size w (wr.alloc (.cells #[.int .i64 s.t, .int .i64 s.k, .int .i64 s.e, .int .i64 s.b, .int .i64 s.r, .int .i64 s.d, .int .i64 s.g, .int .i64 s.q, .int .i64 s.f, .bool s.o, .int .i64 s.p] 66)) := hB.alloc hB.size _
    have hL1 : Lies (wr.alloc (.cells #[.int .i64 s.t, .int .i64 s.k, .int .i64 s.e, .int .i64 s.b, .int .i64 s.r, .int .i64 s.d, .int .i64 s.g, .int .i64 s.q, .int .i64 s.f, .bool s.o, .int .i64 s.p] 66)) (some ⟨B, O, none⟩) L := hL.below ((Below.refl _ _).alloc (Nat.le_refl _) _)
    go_upto_region 8 with fail
    generalize hW1 : wr.alloc (.cells #[.int .i64 s.t, .int .i64 s.k, .int .i64 s.e, .int .i64 s.b, .int .i64 s.r, .int .i64 s.d, .int .i64 s.g, .int .i64 s.q, .int .i64 s.f, .bool s.o, .int .i64 s.p] 66) = W1 at hM hB1 hL1 ⊢
    generalize hR : wr.heap.size = R at hM ⊢
    clear hW1 hR c0 c1 c2 c3 c4 c5 c6 c7 c8 c9 c10 hL hB h
    have HL := hL1.take k
    obtain ⟨d0, d1, d2, d3, d4, d5, d6, d7, d8, d9, d10⟩ := hM
    simp only [Nat.zero_add] at d0 d1 d2 d3 d4 d5 d6 d7 d8 d9 d10
    have e0 := cell_regrown d0
    have e1 := cell_regrown d1
    have e2 := cell_regrown d2
    have e3 := cell_regrown d3
    have e4 := cell_regrown d4
    have e5 := cell_regrown d5
    have e6 := cell_regrown d6
    have e7 := cell_regrown d7
    have e8 := cell_regrown d8
    have e9 := cell_regrown d9
    have e10 := cell_regrown d10
    have HS : Hid (L[k] = s) := hs
    clear hs
    have hf0 := findI_ge (L.take k) s.t
    have hwr : IntKind.i64.wrap (was + 1) = was + 1 := wrap_in (by omega) (by omega)
    have hkl : (L.take k).length = k := by simp; omega
    refine wq_region (by kernel_rfl) (by kernel_rfl) ?_
    by_cases h1 : s.p < 0
    ·have g1 : decide (s.p < 0) = true := by simpa using h1
     have hno : Hid (treeB L = false) := goB_no hlt HG.out (by rw [HS.out]; exact slotB_not (by omega))
     repeat (first | (refine wq_step (fun K hK => ?_); go_simp; first | (refine hK _ ?_; clear hK K) | (apply Exists.intro; refine ⟨fun _ => ?_, hK _ ?_⟩; fail; clear hK K)))
     refine wq_nil ?_
     intro _ hw'
     obtain ⟨⟨dq, osq⟩, hw''⟩ := hw'
     subst hw''
     go_wp2
     go_ret
     exact ⟨ret_bool hno.out.symm, hB1.trans ((below_regrown W1 dq osq).mono hB1.size)⟩
    have g1 : decide (s.p < 0) = false := by simpa using h1
    iterate 4 (first | (refine wq_step (fun K hK => ?_); go_simp; first | (refine hK _ ?_; clear hK K) | (apply Exists.intro; refine ⟨fun _ => ?_, hK _ ?_⟩; fail; clear hK K)))
    by_cases h2 : was + 1 < s.p
    ·have g2 : decide (was + 1 < s.p) = true := by simpa using h2
     have hno : Hid (treeB L = false) := goB_no hlt HG.out (by rw [HS.out]; exact slotB_not (by omega))
     repeat (first | (refine wq_step (fun K hK => ?_); go_simp; first | (refine hK _ ?_; clear hK K) | (apply Exists.intro; refine ⟨fun _ => ?_, hK _ ?_⟩; fail; clear hK K)))
     refine wq_nil ?_
     intro _ hw'
     obtain ⟨⟨dq, osq⟩, hw''⟩ := hw'
     subst hw''
     go_wp2
     go_ret
     exact ⟨ret_bool hno.out.symm, hB1.trans ((below_regrown W1 dq osq).mono hB1.size)⟩
    have g2 : decide (was + 1 < s.p) = false := by simpa using h2
    iterate 7 (first | (refine wq_step (fun K hK => ?_); go_simp; first | (refine hK _ ?_; clear hK K) | (apply Exists.intro; refine ⟨fun _ => ?_, hK _ ?_⟩; fail; clear hK K)))
    by_cases h3 : 12 < s.p
    ·have g3 : decide (12 < s.p) = true := by simpa using h3
     have hno : Hid (treeB L = false) := goB_no hlt HG.out (by rw [HS.out]; exact slotB_not (by omega))
     repeat (first | (refine wq_step (fun K hK => ?_); go_simp; first | (refine hK _ ?_; clear hK K) | (apply Exists.intro; refine ⟨fun _ => ?_, hK _ ?_⟩; fail; clear hK K)))
     refine wq_nil ?_
     intro _ hw'
     obtain ⟨⟨dq, osq⟩, hw''⟩ := hw'
     subst hw''
     go_wp2
     go_ret
     exact ⟨ret_bool hno.out.symm, hB1.trans ((below_regrown W1 dq osq).mono hB1.size)⟩
    have g3 : decide (12 < s.p) = false := by simpa using h3
    iterate 5 (first | (refine wq_step (fun K hK => ?_); go_simp; first | (refine hK _ ?_; clear hK K) | (apply Exists.intro; refine ⟨fun _ => ?_, hK _ ?_⟩; fail; clear hK K)))
    by_cases h4 : s.t < 64
    ·have g4 : decide (s.t < 64) = true := by simpa using h4
     have hno : Hid (treeB L = false) := goB_no hlt HG.out (by rw [HS.out]; exact slotB_not (by omega))
     repeat (first | (refine wq_step (fun K hK => ?_); go_simp; first | (refine hK _ ?_; clear hK K) | (apply Exists.intro; refine ⟨fun _ => ?_, hK _ ?_⟩; fail; clear hK K)))
     refine wq_nil ?_
     intro _ hw'
     obtain ⟨⟨dq, osq⟩, hw''⟩ := hw'
     subst hw''
     go_wp2
     go_ret
     exact ⟨ret_bool hno.out.symm, hB1.trans ((below_regrown W1 dq osq).mono hB1.size)⟩
    have g4 : decide (s.t < 64) = false := by simpa using h4
    iterate 5 (first | (refine wq_step (fun K hK => ?_); go_simp; first | (refine hK _ ?_; clear hK K) | (apply Exists.intro; refine ⟨fun _ => ?_, hK _ ?_⟩; fail; clear hK K)))
    by_cases h5 : 4096 ≤ s.t
    ·have g5 : decide (4096 ≤ s.t) = true := by simpa using h5
     have hno : Hid (treeB L = false) := goB_no hlt HG.out (by rw [HS.out]; exact slotB_not (by omega))
     repeat (first | (refine wq_step (fun K hK => ?_); go_simp; first | (refine hK _ ?_; clear hK K) | (apply Exists.intro; refine ⟨fun _ => ?_, hK _ ?_⟩; fail; clear hK K)))
     refine wq_nil ?_
     intro _ hw'
     obtain ⟨⟨dq, osq⟩, hw''⟩ := hw'
     subst hw''
     go_wp2
     go_ret
     exact ⟨ret_bool hno.out.symm, hB1.trans ((below_regrown W1 dq osq).mono hB1.size)⟩
    have g5 : decide (4096 ≤ s.t) = false := by simpa using h5
    iterate 5 (first | (refine wq_step (fun K hK => ?_); go_simp; first | (refine hK _ ?_; clear hK K) | (apply Exists.intro; refine ⟨fun _ => ?_, hK _ ?_⟩; fail; clear hK K)))
    have htm : s.t.tmod 4 = s.t % 4 := tmod4 (by omega)
    have hwm : IntKind.i64.wrap (s.t % 4) = s.t % 4 := wrap_in (by omega) (by omega)
    by_cases h6 : s.t % 4 = 0
    case neg =>
     have g6 : (s.t % 4 != 0) = true := by simpa using h6
     have hno : Hid (treeB L = false) := goB_no hlt HG.out (by rw [HS.out]; exact slotB_not (by omega))
     repeat (first | (refine wq_step (fun K hK => ?_); go_simp; first | (refine hK _ ?_; clear hK K) | (apply Exists.intro; refine ⟨fun _ => ?_, hK _ ?_⟩; fail; clear hK K)))
     refine wq_nil ?_
     intro _ hw'
     obtain ⟨⟨dq, osq⟩, hw''⟩ := hw'
     subst hw''
     go_wp2
     go_ret
     exact ⟨ret_bool hno.out.symm, hB1.trans ((below_regrown W1 dq osq).mono hB1.size)⟩
    have g6 : (s.t % 4 != 0) = false := by simpa using h6
    have H6 : Hid _ := h6
    clear h6
    iterate 6 (first | (refine wq_step (fun K hK => ?_); go_simp; first | (refine hK _ ?_; clear hK K) | (apply Exists.intro; refine ⟨fun _ => ?_, hK _ ?_⟩; fail; clear hK K)))
    cases h7 : okB s.k s.e s.b s.r s.d s.g s.q s.f s.o
    case false =>
     have hno : Hid (treeB L = false) := goB_no hlt HG.out (by rw [HS.out]; exact slotB_not (by rw [h7]; simp))
     repeat (first | (refine wq_step (fun K hK => ?_); go_simp; first | (refine hK _ ?_; clear hK K) | (apply Exists.intro; refine ⟨fun _ => ?_, hK _ ?_⟩; (first | (go_at_call 84; exact Calls.regrown_of (okSpec_to _ _ _ _ _ _ _ _ _ _ _ h7)) | (go_at_call 26; exact Calls.regrown_of (findSpec_bel _ _ _ _ (L.take k) _ (by omega) (by omega) (HL.below (below_regrown _ _ _))))); clear hK K)))
     refine wq_nil ?_
     intro _ hw'
     obtain ⟨⟨dq, osq⟩, hw''⟩ := hw'
     subst hw''
     go_wp2
     go_ret
     exact ⟨ret_bool hno.out.symm, hB1.trans ((below_regrown W1 dq osq).mono hB1.size)⟩
    iterate 6 (first | (refine wq_step (fun K hK => ?_); go_simp; first | (refine hK _ ?_; clear hK K) | (apply Exists.intro; refine ⟨fun _ => ?_, hK _ ?_⟩; (first | (go_at_call 84; exact Calls.regrown_of (okSpec_to _ _ _ _ _ _ _ _ _ _ _ h7)) | (go_at_call 26; exact Calls.regrown_of (findSpec_bel _ _ _ _ (L.take k) _ (by omega) (by omega) (HL.below (below_regrown _ _ _))))); clear hK K)))
    have hk1 : (k : Int) ≤ (c : Int) := by omega
    have hk2 : k ≤ c := by omega
    by_cases h8 : 0 ≤ findI (L.take k) s.t
    ·have g8 : decide (0 ≤ findI (L.take k) s.t) = true := by simpa using h8
     have hno : Hid (treeB L = false) := goB_no hlt HG.out (by rw [HS.out]; exact slotB_not (by omega))
     repeat (first | (refine wq_step (fun K hK => ?_); go_simp; first | (refine hK _ ?_; clear hK K) | (apply Exists.intro; refine ⟨fun _ => ?_, hK _ ?_⟩; (first | (go_at_call 84; exact Calls.regrown_of (okSpec_to _ _ _ _ _ _ _ _ _ _ _ h7)) | (go_at_call 26; exact Calls.regrown_of (findSpec_bel _ _ _ _ (L.take k) _ (by omega) (by omega) (HL.below (below_regrown _ _ _))))); clear hK K)))
     refine wq_nil ?_
     intro _ hw'
     obtain ⟨⟨dq, osq⟩, hw''⟩ := hw'
     subst hw''
     go_wp2
     go_ret
     exact ⟨ret_bool hno.out.symm, hB1.trans ((below_regrown W1 dq osq).mono hB1.size)⟩
    have g8 : decide (0 ≤ findI (L.take k) s.t) = false := by simpa using h8
    have hyes : Hid (goB (-1) [] L = goB s.p (L.take (k + 1)) (L.drop (k + 1))) := by
     have := goB_yes hlt HG.out (by rw [HS.out]; exact slotB_parts.2 ⟨by omega, by omega, by omega, by omega, by omega, H6.out, h7, by omega⟩)
     rw [HS.out] at this; exact this
    repeat (first | (refine wq_step (fun K hK => ?_); go_simp; first | (refine hK _ ?_; clear hK K) | (apply Exists.intro; refine ⟨fun _ => ?_, hK _ ?_⟩; (first | (go_at_call 84; exact Calls.regrown_of (okSpec_to _ _ _ _ _ _ _ _ _ _ _ h7)) | (go_at_call 26; exact Calls.regrown_of (findSpec_bel _ _ _ _ (L.take k) _ (by omega) (by omega) (HL.below (below_regrown _ _ _))))); clear hK K)))
    refine wq_nil ?_
    intro _ hw'
    obtain ⟨⟨dq, osq⟩, hw''⟩ := hw'
    subst hw''
    go_wp2
    go_roundw
    case rel =>
     refine ⟨_, _, _, ?_, rfl, rfl, rfl⟩
     exact ⟨k + 1, s.p, by omega, by go_num, rfl, by omega, by omega, hyes.out, hL1.below (below_regrown W1 dq osq), hB1.trans ((below_regrown W1 dq osq).mono hB1.size)⟩
    case measure => simp [intOf]; omega
   ·have hkn : ¬ k < n := by omega
    go_wp2
    go_ret
    exact ⟨ret_bool (treeB_end (by omega) (by omega) HG.out).symm, hB⟩

theorem treeOkSpec_any (P : Option Addr) (n c : Nat) (L : List Sl) (w : World) (hn : n = L.length) (hl : n ≤ 1048576) (hcap : n ≤ c) (hcm : c ≤ 9223372036854775807) (h : Lies w P L) :
  Calls Tryz.prog 52 #[.slice P n c] w fun e w' => e = .returned (.bool (treeB L)) ∧ Below w.heap.size w w' :=
 treeOkSpec_wide P n c L w hn hl hcap (by omega) h

end Go.Proofs.YtigpbjcmmgdiaaaGreat
