/-
  The walk of the law of CapRead: both answer alike at every text. Conditions: what the row lists of the library's variables reads as the program lays it.
-/
import Derived.Test.YthmambhagheocaaGreatDoorReadImplC
import Derived.Test.YthmambhagheocaaGreatDoorEqSlots
namespace Go.Proofs.YthmambhagheocaaGreatDoor
open Go.ChangeShapes Go.WideShapes Go.ChangeAt Go.RowKit
set_option linter.unusedVariables false

set_option maxRecDepth 100000 in
set_option maxHeartbeats 2000000 in
theorem capReadS_long (s : List UInt8) (w : World) (hl : 100 < s.length) (hb : s.length ≤ 9223372036854775807) :
    Calls Tryz.prog 13 #[.string ⟨s.toArray⟩] w fun e w' => e = .returned (rdV (readS s)) ∧ Below w.heap.size w w' := by
  have hsz : (⟨s.toArray⟩ : ByteArray).size = s.length := by simp [ByteArray.size]
  have hl1 : (s.length : Int) > 100 := by omega
  have HR : Hid (readS s = none) := by unfold Hid readS; rw [if_neg]; intro h; omega
  have r0 := Bx.new w 24 [.int .i64 0, .int .i64 0, .int .i64 0, .int .i64 0, .int .i64 0, .int .i64 0, .int .i64 0, .int .i64 0, .bool false]
  have b0 : Below w.heap.size w (w.alloc (.cells #[.int .i64 0, .int .i64 0, .int .i64 0, .int .i64 0, .int .i64 0, .int .i64 0, .int .i64 0, .int .i64 0, .bool false] 24)) := (Below.refl _ _).alloc (Nat.le_refl _) _
  go_enter Tryz.func13, Tryz.ntmps13
  go_upto_region 1 with fail
  generalize w.alloc (.cells #[.int .i64 0, .int .i64 0, .int .i64 0, .int .i64 0, .int .i64 0, .int .i64 0, .int .i64 0, .int .i64 0, .bool false] 24) = W at r0 b0 ⊢
  have q0 := r0.cell 0 _ rfl; have q1 := r0.cell 1 _ rfl; have q2 := r0.cell 2 _ rfl; have q3 := r0.cell 3 _ rfl; have q4 := r0.cell 4 _ rfl; have q5 := r0.cell 5 _ rfl; have q6 := r0.cell 6 _ rfl; have q7 := r0.cell 7 _ rfl; have q8 := r0.cell 8 _ rfl
  have qz := r0.frozen
  go_wp2
  refine bodyPost_ret (v := rdV none) (by simp [results, Tryz.results13, go_sem, rdV, CQ.zero, *]) rfl ⟨by rw [HR.out], below_set9 b0 _ _ _ _ _ _ _ _ _⟩

theorem capReadS_all (s : List UInt8) (w : World) (hb : s.length ≤ 9223372036854775807) :
    Calls Tryz.prog 13 #[.string ⟨s.toArray⟩] w fun e w' => e = .returned (rdV (readI s)) ∧ Below w.heap.size w w' := by
  rw [← read_same]
  by_cases h : s.length ≤ 100
  · exact capReadS_any s w h
  · exact capReadS_long s w (by omega) hb

theorem rdV_is (r : Option CQ) : ∃ (ck ca cb cr cd cg cq cf : Int) (co ok : Bool), rdV r = .tuple #[.agg #[.int .i64 ck, .int .i64 ca, .int .i64 cb, .int .i64 cr, .int .i64 cd, .int .i64 cg, .int .i64 cq, .int .i64 cf, .bool co], .bool ok] := ⟨_, _, _, _, _, _, _, _, _, _, rfl⟩

end Go.Proofs.YthmambhagheocaaGreatDoor
