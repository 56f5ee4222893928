/-
  What the parts of a text answer: the word of a kind, the list of its parts, the text of a part; of the program and of the specification.
-/
import Derived.Test.YthmambhagheocaaGreatDoorDigits
import Derived.Test.YthmambhagheocaaGreatDoorShelf
import Derived.Test.YthmambhagheocaaGreatDoorKinds
import Derived.Lib.ItoaLen
import Derived.Lib.AppendIntMem
import Derived.Lib.ItoaMem
import Derived.WalkSmall
namespace Go.Proofs.YthmambhagheocaaGreatDoor
open Go.ChangeShapes Go.WideShapes Go.ChangeAt Go.RowKit
set_option linter.unusedVariables false

theorem wordM_1 (v : Value) (w : World) : (Go.method 257 77 v "loop.example/donjon/impl.word").run Tryz.prog w = .ok (131, v) w := by kernel_rfl
theorem word_1 (w : World) :
    Calls Tryz.prog 131 #[.agg #[]] w fun e w' => e = .returned (.string ⟨(nameL 1).toArray⟩) ∧ w' = w.alloc (.cells #[] 77) := by
  go_enter Tryz.func131, Tryz.ntmps131
  go_wp2
  go_ret
  exact ⟨rfl, rfl⟩
theorem name_1 (w : World) :
    Calls Tryz.prog 40 #[.int .i64 1] w fun e w' => e = .returned (.string ⟨(nameL 1).toArray⟩) ∧ Below w.heap.size w w' := by
  go_enter Tryz.func40, Tryz.ntmps40
  go_wp2
  go_ret
  exact ⟨rfl, (Below.refl _ _).alloc (Nat.le_refl _) _⟩
theorem parts_1 (w : World) :
    Calls Tryz.prog 21 #[kindV 1] w fun e w' => e = .returned (.slice (some ⟨w.heap.size, 0, none⟩) 3 3) ∧ w' = w.alloc (.cells #[.int .i64 0, .int .i64 1, .int .i64 6] 53) := by
  rw [kindV_1]
  have t1 := ta_1_1
  have t2 := ta_1_2
  have t4 := ta_1_4
  have t5 := ta_1_5
  have t6 := ta_1_6
  go_enter Tryz.func21, Tryz.ntmps21
  go_wp2
  go_ret
  exact ⟨rfl, rfl⟩
theorem wordM_2 (v : Value) (w : World) : (Go.method 257 45 v "loop.example/donjon/impl.word").run Tryz.prog w = .ok (128, v) w := by kernel_rfl
theorem word_2 (w : World) :
    Calls Tryz.prog 128 #[.agg #[]] w fun e w' => e = .returned (.string ⟨(nameL 2).toArray⟩) ∧ w' = w.alloc (.cells #[] 45) := by
  go_enter Tryz.func128, Tryz.ntmps128
  go_wp2
  go_ret
  exact ⟨rfl, rfl⟩
theorem name_2 (w : World) :
    Calls Tryz.prog 40 #[.int .i64 2] w fun e w' => e = .returned (.string ⟨(nameL 2).toArray⟩) ∧ Below w.heap.size w w' := by
  go_enter Tryz.func40, Tryz.ntmps40
  go_wp2
  go_ret
  exact ⟨rfl, (Below.refl _ _).alloc (Nat.le_refl _) _⟩
theorem parts_2 (w : World) :
    Calls Tryz.prog 21 #[kindV 2] w fun e w' => e = .returned (.slice (some ⟨w.heap.size, 0, none⟩) 4 4) ∧ w' = w.alloc (.cells #[.int .i64 0, .int .i64 1, .int .i64 4, .int .i64 5] 53) := by
  rw [kindV_2]
  have t1 := ta_2_1
  have t2 := ta_2_2
  have t4 := ta_2_4
  have t5 := ta_2_5
  have t6 := ta_2_6
  go_enter Tryz.func21, Tryz.ntmps21
  go_wp2
  go_ret
  exact ⟨rfl, rfl⟩
theorem wordM_3 (v : Value) (w : World) : (Go.method 257 78 v "loop.example/donjon/impl.word").run Tryz.prog w = .ok (134, v) w := by kernel_rfl
theorem word_3 (w : World) :
    Calls Tryz.prog 134 #[.agg #[]] w fun e w' => e = .returned (.string ⟨(nameL 3).toArray⟩) ∧ w' = w.alloc (.cells #[] 78) := by
  go_enter Tryz.func134, Tryz.ntmps134
  go_wp2
  go_ret
  exact ⟨rfl, rfl⟩
theorem name_3 (w : World) :
    Calls Tryz.prog 40 #[.int .i64 3] w fun e w' => e = .returned (.string ⟨(nameL 3).toArray⟩) ∧ Below w.heap.size w w' := by
  go_enter Tryz.func40, Tryz.ntmps40
  go_wp2
  go_ret
  exact ⟨rfl, (Below.refl _ _).alloc (Nat.le_refl _) _⟩
theorem parts_3 (w : World) :
    Calls Tryz.prog 21 #[kindV 3] w fun e w' => e = .returned (.slice (some ⟨w.heap.size, 0, none⟩) 1 1) ∧ w' = w.alloc (.cells #[.int .i64 0] 53) := by
  rw [kindV_3]
  have t1 := ta_3_1
  have t2 := ta_3_2
  have t4 := ta_3_4
  have t5 := ta_3_5
  have t6 := ta_3_6
  go_enter Tryz.func21, Tryz.ntmps21
  go_wp2
  go_ret
  exact ⟨rfl, rfl⟩
theorem wordM_4 (v : Value) (w : World) : (Go.method 257 79 v "loop.example/donjon/impl.word").run Tryz.prog w = .ok (136, v) w := by kernel_rfl
theorem word_4 (w : World) :
    Calls Tryz.prog 136 #[.agg #[]] w fun e w' => e = .returned (.string ⟨(nameL 4).toArray⟩) ∧ w' = w.alloc (.cells #[] 79) := by
  go_enter Tryz.func136, Tryz.ntmps136
  go_wp2
  go_ret
  exact ⟨rfl, rfl⟩
theorem name_4 (w : World) :
    Calls Tryz.prog 40 #[.int .i64 4] w fun e w' => e = .returned (.string ⟨(nameL 4).toArray⟩) ∧ Below w.heap.size w w' := by
  go_enter Tryz.func40, Tryz.ntmps40
  go_wp2
  go_ret
  exact ⟨rfl, (Below.refl _ _).alloc (Nat.le_refl _) _⟩
theorem parts_4 (w : World) :
    Calls Tryz.prog 21 #[kindV 4] w fun e w' => e = .returned (.slice (some ⟨w.heap.size, 0, none⟩) 3 3) ∧ w' = w.alloc (.cells #[.int .i64 0, .int .i64 2, .int .i64 3] 53) := by
  rw [kindV_4]
  have t1 := ta_4_1
  have t2 := ta_4_2
  have t4 := ta_4_4
  have t5 := ta_4_5
  have t6 := ta_4_6
  go_enter Tryz.func21, Tryz.ntmps21
  go_wp2
  go_ret
  exact ⟨rfl, rfl⟩
theorem wordM_5 (v : Value) (w : World) : (Go.method 257 80 v "loop.example/donjon/impl.word").run Tryz.prog w = .ok (139, v) w := by kernel_rfl
theorem word_5 (w : World) :
    Calls Tryz.prog 139 #[.agg #[]] w fun e w' => e = .returned (.string ⟨(nameL 5).toArray⟩) ∧ w' = w.alloc (.cells #[] 80) := by
  go_enter Tryz.func139, Tryz.ntmps139
  go_wp2
  go_ret
  exact ⟨rfl, rfl⟩
theorem name_5 (w : World) :
    Calls Tryz.prog 40 #[.int .i64 5] w fun e w' => e = .returned (.string ⟨(nameL 5).toArray⟩) ∧ Below w.heap.size w w' := by
  go_enter Tryz.func40, Tryz.ntmps40
  go_wp2
  go_ret
  exact ⟨rfl, (Below.refl _ _).alloc (Nat.le_refl _) _⟩
theorem parts_5 (w : World) :
    Calls Tryz.prog 21 #[kindV 5] w fun e w' => e = .returned (.slice (some ⟨w.heap.size, 0, none⟩) 3 3) ∧ w' = w.alloc (.cells #[.int .i64 0, .int .i64 2, .int .i64 3] 53) := by
  rw [kindV_5]
  have t1 := ta_5_1
  have t2 := ta_5_2
  have t4 := ta_5_4
  have t5 := ta_5_5
  have t6 := ta_5_6
  go_enter Tryz.func21, Tryz.ntmps21
  go_wp2
  go_ret
  exact ⟨rfl, rfl⟩
theorem wordM_6 (v : Value) (w : World) : (Go.method 257 81 v "loop.example/donjon/impl.word").run Tryz.prog w = .ok (142, v) w := by kernel_rfl
theorem word_6 (w : World) :
    Calls Tryz.prog 142 #[.agg #[]] w fun e w' => e = .returned (.string ⟨(nameL 6).toArray⟩) ∧ w' = w.alloc (.cells #[] 81) := by
  go_enter Tryz.func142, Tryz.ntmps142
  go_wp2
  go_ret
  exact ⟨rfl, rfl⟩
theorem name_6 (w : World) :
    Calls Tryz.prog 40 #[.int .i64 6] w fun e w' => e = .returned (.string ⟨(nameL 6).toArray⟩) ∧ Below w.heap.size w w' := by
  go_enter Tryz.func40, Tryz.ntmps40
  go_wp2
  go_ret
  exact ⟨rfl, (Below.refl _ _).alloc (Nat.le_refl _) _⟩
theorem parts_6 (w : World) :
    Calls Tryz.prog 21 #[kindV 6] w fun e w' => e = .returned (.slice (some ⟨w.heap.size, 0, none⟩) 3 3) ∧ w' = w.alloc (.cells #[.int .i64 0, .int .i64 1, .int .i64 2] 53) := by
  rw [kindV_6]
  have t1 := ta_6_1
  have t2 := ta_6_2
  have t4 := ta_6_4
  have t5 := ta_6_5
  have t6 := ta_6_6
  go_enter Tryz.func21, Tryz.ntmps21
  go_wp2
  go_ret
  exact ⟨rfl, rfl⟩
theorem wordM_7 (v : Value) (w : World) : (Go.method 257 82 v "loop.example/donjon/impl.word").run Tryz.prog w = .ok (145, v) w := by kernel_rfl
theorem word_7 (w : World) :
    Calls Tryz.prog 145 #[.agg #[]] w fun e w' => e = .returned (.string ⟨(nameL 7).toArray⟩) ∧ w' = w.alloc (.cells #[] 82) := by
  go_enter Tryz.func145, Tryz.ntmps145
  go_wp2
  go_ret
  exact ⟨rfl, rfl⟩
theorem name_7 (w : World) :
    Calls Tryz.prog 40 #[.int .i64 7] w fun e w' => e = .returned (.string ⟨(nameL 7).toArray⟩) ∧ Below w.heap.size w w' := by
  go_enter Tryz.func40, Tryz.ntmps40
  go_wp2
  go_ret
  exact ⟨rfl, (Below.refl _ _).alloc (Nat.le_refl _) _⟩
theorem parts_7 (w : World) :
    Calls Tryz.prog 21 #[kindV 7] w fun e w' => e = .returned (.slice (some ⟨w.heap.size, 0, none⟩) 1 1) ∧ w' = w.alloc (.cells #[.int .i64 0] 53) := by
  rw [kindV_7]
  have t1 := ta_7_1
  have t2 := ta_7_2
  have t4 := ta_7_4
  have t5 := ta_7_5
  have t6 := ta_7_6
  go_enter Tryz.func21, Tryz.ntmps21
  go_wp2
  go_ret
  exact ⟨rfl, rfl⟩

theorem grow_below (w : World) (k : Nat) (os : Array Obj) : Below w.heap.size w (Sort.grow (w.drewN k) os) :=
  ⟨rfl, rfl, rfl, by simp [Sort.grow], fun i hi => by
    show ((w.drewN k).heap ++ os)[i]? = _
    rw [Array.getElem?_append_left (by show i < w.heap.size; omega)]
    rfl⟩

theorem itoa_any (n : Int) (w : World) (h0 : 0 ≤ n) (h1 : n ≤ 65535) (htab : Lib.TabIs Tryz.prog w "internal/strconv.uint64pow10" .u64 Lib.pow10Tab) :
    Calls Tryz.prog 52 #[.int .i64 n] w fun e w' => e = .returned (.string ⟨(Lib.itoa n).toArray⟩) ∧ Below w.heap.size w w' :=
  (Tryz.strconv_Itoa n (by omega) (by omega) w htab).mono fun e w' ⟨he, k, os, hw⟩ => ⟨he, by rw [hw]; exact grow_below w k os⟩

/-- The text of a part. -/
def partL (p a b r d g q f : Int) : List UInt8 :=
  if p = 0 then Lib.itoa a else if p = 1 then Lib.itoa b else if p = 2 then lettersL r else if p = 3 then Lib.itoa d else if p = 4 then Lib.itoa g else if p = 5 then Lib.itoa q else Lib.itoa f

theorem part_0 (k a b r d g q f : Int) (o : Bool) (w : World) (ha : 0 ≤ a ∧ a ≤ 65535) (hb : 0 ≤ b ∧ b ≤ 65535) (hr0 : 0 ≤ r) (hr1 : r ≤ 7) (hd : 0 ≤ d ∧ d ≤ 65535) (hg : 0 ≤ g ∧ g ≤ 65535) (hq : 0 ≤ q ∧ q ≤ 65535) (hf : 0 ≤ f ∧ f ≤ 65535)
    (htab : Lib.TabIs Tryz.prog w "internal/strconv.uint64pow10" .u64 Lib.pow10Tab) :
    Calls Tryz.prog 23 #[.agg #[.int .i64 k, .int .i64 a, .int .i64 b, .int .i64 r, .int .i64 d, .int .i64 g, .int .i64 q, .int .i64 f, .bool o], .int .i64 0] w fun e w' => e = .returned (.string ⟨(partL 0 a b r d g q f).toArray⟩) ∧ Below w.heap.size w w' := by
  go_enter Tryz.func23, Tryz.ntmps23
  go_wp2_with (first | (go_at_call 52; refine (itoa_any _ _ (by omega) (by omega) (Lib.tabIs_alloc htab _)).mono ?_; rintro e w1 ⟨rfl, hb⟩))
  go_ret
  exact ⟨rfl, ((Below.refl _ _).alloc (Nat.le_refl _) _).trans (hb.mono (by simp))⟩
theorem part_1 (k a b r d g q f : Int) (o : Bool) (w : World) (ha : 0 ≤ a ∧ a ≤ 65535) (hb : 0 ≤ b ∧ b ≤ 65535) (hr0 : 0 ≤ r) (hr1 : r ≤ 7) (hd : 0 ≤ d ∧ d ≤ 65535) (hg : 0 ≤ g ∧ g ≤ 65535) (hq : 0 ≤ q ∧ q ≤ 65535) (hf : 0 ≤ f ∧ f ≤ 65535)
    (htab : Lib.TabIs Tryz.prog w "internal/strconv.uint64pow10" .u64 Lib.pow10Tab) :
    Calls Tryz.prog 23 #[.agg #[.int .i64 k, .int .i64 a, .int .i64 b, .int .i64 r, .int .i64 d, .int .i64 g, .int .i64 q, .int .i64 f, .bool o], .int .i64 1] w fun e w' => e = .returned (.string ⟨(partL 1 a b r d g q f).toArray⟩) ∧ Below w.heap.size w w' := by
  go_enter Tryz.func23, Tryz.ntmps23
  go_wp2_with (first | (go_at_call 52; refine (itoa_any _ _ (by omega) (by omega) (Lib.tabIs_alloc htab _)).mono ?_; rintro e w1 ⟨rfl, hb⟩))
  go_ret
  exact ⟨rfl, ((Below.refl _ _).alloc (Nat.le_refl _) _).trans (hb.mono (by simp))⟩
theorem part_2 (k a b r d g q f : Int) (o : Bool) (w : World) (ha : 0 ≤ a ∧ a ≤ 65535) (hb : 0 ≤ b ∧ b ≤ 65535) (hr0 : 0 ≤ r) (hr1 : r ≤ 7) (hd : 0 ≤ d ∧ d ≤ 65535) (hg : 0 ≤ g ∧ g ≤ 65535) (hq : 0 ≤ q ∧ q ≤ 65535) (hf : 0 ≤ f ∧ f ≤ 65535)
    (htab : Lib.TabIs Tryz.prog w "internal/strconv.uint64pow10" .u64 Lib.pow10Tab) :
    Calls Tryz.prog 23 #[.agg #[.int .i64 k, .int .i64 a, .int .i64 b, .int .i64 r, .int .i64 d, .int .i64 g, .int .i64 q, .int .i64 f, .bool o], .int .i64 2] w fun e w' => e = .returned (.string ⟨(partL 2 a b r d g q f).toArray⟩) ∧ Below w.heap.size w w' := by
  go_enter Tryz.func23, Tryz.ntmps23
  go_wp2_with (first | (go_at_call 53; refine (lettersImpl_any _ _ hr0 hr1).mono ?_; rintro e w' ⟨rfl, rfl⟩))
  go_ret
  exact ⟨rfl, (Below.refl _ _).alloc (Nat.le_refl _) _⟩
theorem part_3 (k a b r d g q f : Int) (o : Bool) (w : World) (ha : 0 ≤ a ∧ a ≤ 65535) (hb : 0 ≤ b ∧ b ≤ 65535) (hr0 : 0 ≤ r) (hr1 : r ≤ 7) (hd : 0 ≤ d ∧ d ≤ 65535) (hg : 0 ≤ g ∧ g ≤ 65535) (hq : 0 ≤ q ∧ q ≤ 65535) (hf : 0 ≤ f ∧ f ≤ 65535)
    (htab : Lib.TabIs Tryz.prog w "internal/strconv.uint64pow10" .u64 Lib.pow10Tab) :
    Calls Tryz.prog 23 #[.agg #[.int .i64 k, .int .i64 a, .int .i64 b, .int .i64 r, .int .i64 d, .int .i64 g, .int .i64 q, .int .i64 f, .bool o], .int .i64 3] w fun e w' => e = .returned (.string ⟨(partL 3 a b r d g q f).toArray⟩) ∧ Below w.heap.size w w' := by
  go_enter Tryz.func23, Tryz.ntmps23
  go_wp2_with (first | (go_at_call 52; refine (itoa_any _ _ (by omega) (by omega) (Lib.tabIs_alloc htab _)).mono ?_; rintro e w1 ⟨rfl, hb⟩))
  go_ret
  exact ⟨rfl, ((Below.refl _ _).alloc (Nat.le_refl _) _).trans (hb.mono (by simp))⟩
theorem part_4 (k a b r d g q f : Int) (o : Bool) (w : World) (ha : 0 ≤ a ∧ a ≤ 65535) (hb : 0 ≤ b ∧ b ≤ 65535) (hr0 : 0 ≤ r) (hr1 : r ≤ 7) (hd : 0 ≤ d ∧ d ≤ 65535) (hg : 0 ≤ g ∧ g ≤ 65535) (hq : 0 ≤ q ∧ q ≤ 65535) (hf : 0 ≤ f ∧ f ≤ 65535)
    (htab : Lib.TabIs Tryz.prog w "internal/strconv.uint64pow10" .u64 Lib.pow10Tab) :
    Calls Tryz.prog 23 #[.agg #[.int .i64 k, .int .i64 a, .int .i64 b, .int .i64 r, .int .i64 d, .int .i64 g, .int .i64 q, .int .i64 f, .bool o], .int .i64 4] w fun e w' => e = .returned (.string ⟨(partL 4 a b r d g q f).toArray⟩) ∧ Below w.heap.size w w' := by
  go_enter Tryz.func23, Tryz.ntmps23
  go_wp2_with (first | (go_at_call 52; refine (itoa_any _ _ (by omega) (by omega) (Lib.tabIs_alloc htab _)).mono ?_; rintro e w1 ⟨rfl, hb⟩))
  go_ret
  exact ⟨rfl, ((Below.refl _ _).alloc (Nat.le_refl _) _).trans (hb.mono (by simp))⟩
theorem part_5 (k a b r d g q f : Int) (o : Bool) (w : World) (ha : 0 ≤ a ∧ a ≤ 65535) (hb : 0 ≤ b ∧ b ≤ 65535) (hr0 : 0 ≤ r) (hr1 : r ≤ 7) (hd : 0 ≤ d ∧ d ≤ 65535) (hg : 0 ≤ g ∧ g ≤ 65535) (hq : 0 ≤ q ∧ q ≤ 65535) (hf : 0 ≤ f ∧ f ≤ 65535)
    (htab : Lib.TabIs Tryz.prog w "internal/strconv.uint64pow10" .u64 Lib.pow10Tab) :
    Calls Tryz.prog 23 #[.agg #[.int .i64 k, .int .i64 a, .int .i64 b, .int .i64 r, .int .i64 d, .int .i64 g, .int .i64 q, .int .i64 f, .bool o], .int .i64 5] w fun e w' => e = .returned (.string ⟨(partL 5 a b r d g q f).toArray⟩) ∧ Below w.heap.size w w' := by
  go_enter Tryz.func23, Tryz.ntmps23
  go_wp2_with (first | (go_at_call 52; refine (itoa_any _ _ (by omega) (by omega) (Lib.tabIs_alloc htab _)).mono ?_; rintro e w1 ⟨rfl, hb⟩))
  go_ret
  exact ⟨rfl, ((Below.refl _ _).alloc (Nat.le_refl _) _).trans (hb.mono (by simp))⟩
theorem part_6 (k a b r d g q f : Int) (o : Bool) (w : World) (ha : 0 ≤ a ∧ a ≤ 65535) (hb : 0 ≤ b ∧ b ≤ 65535) (hr0 : 0 ≤ r) (hr1 : r ≤ 7) (hd : 0 ≤ d ∧ d ≤ 65535) (hg : 0 ≤ g ∧ g ≤ 65535) (hq : 0 ≤ q ∧ q ≤ 65535) (hf : 0 ≤ f ∧ f ≤ 65535)
    (htab : Lib.TabIs Tryz.prog w "internal/strconv.uint64pow10" .u64 Lib.pow10Tab) :
    Calls Tryz.prog 23 #[.agg #[.int .i64 k, .int .i64 a, .int .i64 b, .int .i64 r, .int .i64 d, .int .i64 g, .int .i64 q, .int .i64 f, .bool o], .int .i64 6] w fun e w' => e = .returned (.string ⟨(partL 6 a b r d g q f).toArray⟩) ∧ Below w.heap.size w w' := by
  go_enter Tryz.func23, Tryz.ntmps23
  go_wp2_with (first | (go_at_call 52; refine (itoa_any _ _ (by omega) (by omega) (Lib.tabIs_alloc htab _)).mono ?_; rintro e w1 ⟨rfl, hb⟩))
  go_ret
  exact ⟨rfl, ((Below.refl _ _).alloc (Nat.le_refl _) _).trans (hb.mono (by simp))⟩

end Go.Proofs.YthmambhagheocaaGreatDoor
