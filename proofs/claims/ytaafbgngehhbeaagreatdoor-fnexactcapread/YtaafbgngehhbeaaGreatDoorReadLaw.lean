/-
  The walk of the law of CapRead: both answer alike at every text. Conditions: what the row lists of the library's variables reads as the program lays it.
-/
import Derived.Test.YtaafbgngehhbeaaGreatDoorReadImplC
import Derived.Test.YtaafbgngehhbeaaGreatDoorEqSlots
namespace Go.Proofs.YtaafbgngehhbeaaGreatDoor
open Go.ChangeShapes Go.WideShapes Go.ChangeAt Go.RowKit
set_option linter.unusedVariables false

set_option maxRecDepth 100000 in
set_option maxHeartbeats 2000000 in
theorem capReadS_long (s : List UInt8) (w : World) (hl : 100 < s.length) (hb : s.length ≤ 9223372036854775807) :
    Calls Tryz.prog 4 #[.string ⟨s.toArray⟩] w fun e w' => e = .returned (rdV (readS s)) ∧ Below w.heap.size w w' := by
  have hsz : (⟨s.toArray⟩ : ByteArray).size = s.length := by simp [ByteArray.size]
  have hl1 : (s.length : Int) > 100 := by omega
  have HR : Hid (readS s = none) := by unfold Hid readS; rw [if_neg]; intro h; omega
  have r0 := Bx.new w 23 [.int .i64 0, .int .i64 0, .int .i64 0, .int .i64 0, .int .i64 0, .int .i64 0, .int .i64 0, .int .i64 0, .bool false]
  have b0 : Below w.heap.size w (w.alloc (.cells #[.int .i64 0, .int .i64 0, .int .i64 0, .int .i64 0, .int .i64 0, .int .i64 0, .int .i64 0, .int .i64 0, .bool false] 23)) := (Below.refl _ _).alloc (Nat.le_refl _) _
  go_enter Tryz.func4, Tryz.ntmps4
  go_upto_region 1 with fail
  generalize w.alloc (.cells #[.int .i64 0, .int .i64 0, .int .i64 0, .int .i64 0, .int .i64 0, .int .i64 0, .int .i64 0, .int .i64 0, .bool false] 23) = W at r0 b0 ⊢
  have q0 := r0.cell 0 _ rfl; have q1 := r0.cell 1 _ rfl; have q2 := r0.cell 2 _ rfl; have q3 := r0.cell 3 _ rfl; have q4 := r0.cell 4 _ rfl; have q5 := r0.cell 5 _ rfl; have q6 := r0.cell 6 _ rfl; have q7 := r0.cell 7 _ rfl; have q8 := r0.cell 8 _ rfl
  have qz := r0.frozen
  go_wp2
  refine bodyPost_ret (v := rdV none) (by simp [results, Tryz.results4, go_sem, rdV, CQ.zero, *]) rfl ⟨by rw [HR.out], below_set9 b0 _ _ _ _ _ _ _ _ _⟩

theorem capReadS_all (s : List UInt8) (w : World) (hb : s.length ≤ 9223372036854775807) :
    Calls Tryz.prog 4 #[.string ⟨s.toArray⟩] w fun e w' => e = .returned (rdV (readI s)) ∧ Below w.heap.size w w' := by
  rw [← read_same]
  by_cases h : s.length ≤ 100
  · exact capReadS_any s w h
  · exact capReadS_long s w (by omega) hb

theorem rdV_is (r : Option CQ) : ∃ (ck ca cb cr cd cg cq cf : Int) (co ok : Bool), rdV r = .tuple #[.agg #[.int .i64 ck, .int .i64 ca, .int .i64 cb, .int .i64 cr, .int .i64 cd, .int .i64 cg, .int .i64 cq, .int .i64 cf, .bool co], .bool ok] := ⟨_, _, _, _, _, _, _, _, _, _, rfl⟩

set_option maxRecDepth 100000 in
set_option maxHeartbeats 2000000 in
theorem capReadLaw (s : List UInt8) (w : World) (hb : s.length ≤ 9223372036854775807) (hL : Laid w) :
    Calls Tryz.prog 3 #[.string ⟨s.toArray⟩] w fun e w' => e = .returned (.bool true) ∧ Below w.heap.size w w' := by
  have hsz : (⟨s.toArray⟩ : ByteArray).size = s.length := by simp [ByteArray.size]
  by_cases h : s.length ≤ 1048576
  · have hl1 : ¬ ((s.length : Int) > 1048576) := by omega
    have HS : Hid _ := fun W => capReadS_all s W hb
    have HI : Hid _ := fun W h2 => capReadI_any s W h h2
    obtain ⟨ck, ca, cb, cr, cd, cg, cq, cf, co, ok, hv⟩ := rdV_is (readI s)
    rw [hv] at HS HI
    clear hv
    go_enter Tryz.func3, Tryz.ntmps3
    go_upto_region 4 with (go_at_call 4; refine Calls.mono (HS.out _) ?_; rintro e w1 ⟨rfl, hb1⟩)
    have x1 := Bx.newAt w1 23 [.int .i64 ck, .int .i64 ca, .int .i64 cb, .int .i64 cr, .int .i64 cd, .int .i64 cg, .int .i64 cq, .int .i64 cf, .bool co] rfl
    have b1 := hb1.alloc hb1.size (.cells #[.int .i64 ck, .int .i64 ca, .int .i64 cb, .int .i64 cr, .int .i64 cd, .int .i64 cg, .int .i64 cq, .int .i64 cf, .bool co] 23)
    clear HS hb1
    generalize w1.alloc (.cells #[.int .i64 ck, .int .i64 ca, .int .i64 cb, .int .i64 cr, .int .i64 cd, .int .i64 cg, .int .i64 cq, .int .i64 cf, .bool co] 23) = W1 at x1 b1 ⊢
    generalize w1.heap.size = M1 at x1 b1 ⊢
    go_upto_region 5 with (go_at_call 5; refine Calls.mono (HI.out _ (hL.below b1)) ?_; rintro e w2 ⟨rfl, hb2⟩)
    have y1 := (x1.below hb2).alloc (.cells #[.int .i64 ck, .int .i64 ca, .int .i64 cb, .int .i64 cr, .int .i64 cd, .int .i64 cg, .int .i64 cq, .int .i64 cf, .bool co] 23)
    have y2 := Bx.newAt w2 23 [.int .i64 ck, .int .i64 ca, .int .i64 cb, .int .i64 cr, .int .i64 cd, .int .i64 cg, .int .i64 cq, .int .i64 cf, .bool co] rfl
    have b2 := (b1.trans (hb2.mono b1.size)).alloc (b1.trans (hb2.mono b1.size)).size (.cells #[.int .i64 ck, .int .i64 ca, .int .i64 cb, .int .i64 cr, .int .i64 cd, .int .i64 cg, .int .i64 cq, .int .i64 cf, .bool co] 23)
    clear HI hb2 x1 b1
    generalize w2.alloc (.cells #[.int .i64 ck, .int .i64 ca, .int .i64 cb, .int .i64 cr, .int .i64 cd, .int .i64 cg, .int .i64 cq, .int .i64 cf, .bool co] 23) = W2 at y1 y2 b2 ⊢
    generalize w2.heap.size = M2 at y1 y2 b2 ⊢
    have f0 := y1.cell 0 _ rfl; have f1 := y1.cell 1 _ rfl; have f2 := y1.cell 2 _ rfl; have f3 := y1.cell 3 _ rfl; have f4 := y1.cell 4 _ rfl; have f5 := y1.cell 5 _ rfl; have f6 := y1.cell 6 _ rfl; have f7 := y1.cell 7 _ rfl; have f8 := y1.cell 8 _ rfl
    have g0 := y2.cell 0 _ rfl; have g1 := y2.cell 1 _ rfl; have g2 := y2.cell 2 _ rfl; have g3 := y2.cell 3 _ rfl; have g4 := y2.cell 4 _ rfl; have g5 := y2.cell 5 _ rfl; have g6 := y2.cell 6 _ rfl; have g7 := y2.cell 7 _ rfl; have g8 := y2.cell 8 _ rfl
    go_wp2_with (go_at_call 6; refine (eqCap_same _ _ _ _ _ _ _ _ _ _).mono ?_; rintro e w5 ⟨rfl, hb5⟩)
    go_ret
    exact ⟨rfl, b2.trans (hb5.mono b2.size)⟩
  · have hl1 : (s.length : Int) > 1048576 := by omega
    go_enter Tryz.func3, Tryz.ntmps3
    go_wp2
    go_ret
    exact ⟨rfl, Below.refl _ _⟩

end Go.Proofs.YtaafbgngehhbeaaGreatDoor
