/-
  What the small functions of chapter 2 answer: capKindOf, the methods of each kind, CapSize, CapMax and capWithin of the program; l2Bits, CapSize and CapMax of the specification.
-/
import Derived.Test.YthmambhagheocaaGreatDoorWords
namespace Go.Proofs.YthmambhagheocaaGreatDoor
open Go.ChangeShapes Go.WideShapes Go.ChangeAt Go.RowKit
set_option linter.unusedVariables false

/-- The words of an object. -/
def szI (k b : Int) : Int :=
  if k = 1 then (if 2 ≤ b ∧ b ≤ 11 then sizeI b else 0)
  else if k = 2 then (if 1 ≤ b ∧ b ≤ 5 then 4 * sizeI b else 0)
  else if k = 3 then (if b = 0 then 32 else 0)
  else if k = 4 ∨ k = 5 then (if b = 0 then 4 else 0)
  else if k = 6 then (if 0 ≤ b ∧ b ≤ 6 then sizeI b else 0)
  else 0

/-- So many words 2 to the bits times, where the bits are from l to m. -/
def wordsI (c b l m : Int) : Int := if l ≤ b ∧ b ≤ m then c * sizeI b else 0

theorem wordsI_0 (c b : Int) : wordsI c b 0 0 = if b = 0 then c else 0 := by
  unfold wordsI
  by_cases g : b = 0
  · rw [if_pos g, if_pos (by omega), g]; show c * 1 = c; omega
  · rw [if_neg g, if_neg (by omega)]

theorem wordsI_1 (b : Int) : wordsI 1 b 2 11 = szI 1 b := by simp [szI, wordsI]
theorem wordsI_2 (b : Int) : wordsI 4 b 1 5 = szI 2 b := by simp [szI, wordsI]
theorem wordsI_3 (b : Int) : wordsI 32 b 0 0 = szI 3 b := by rw [wordsI_0]; simp [szI]
theorem wordsI_4 (b : Int) : wordsI 4 b 0 0 = szI 4 b := by rw [wordsI_0]; simp [szI]
theorem wordsI_5 (b : Int) : wordsI 4 b 0 0 = szI 5 b := by rw [wordsI_0]; simp [szI]
theorem wordsI_6 (b : Int) : wordsI 1 b 0 6 = szI 6 b := by simp [szI, wordsI]

/-- The rights of a kind. -/
def maxI (k : Int) : Int := if k = 4 then 7 else if k = 5 ∨ k = 6 then 3 else 0

/-- The row of a kind, as a value. -/
def kindV (k : Int) : Value :=
  if k = 1 then .iface 77 (.agg #[]) else if k = 2 then .iface 45 (.agg #[]) else if k = 3 then .iface 78 (.agg #[])
  else if k = 4 then .iface 79 (.agg #[]) else if k = 5 then .iface 80 (.agg #[]) else if k = 6 then .iface 81 (.agg #[])
  else if k = 7 then .iface 82 (.agg #[]) else .nilIface

/-- A kind is one of seven, or none. -/
theorem kind_cases (k : Int) : (k = 1 ∨ k = 2 ∨ k = 3 ∨ k = 4 ∨ k = 5 ∨ k = 6 ∨ k = 7) ∨ (¬ k = 1 ∧ ¬ k = 2 ∧ ¬ k = 3 ∧ ¬ k = 4 ∧ ¬ k = 5 ∧ ¬ k = 6 ∧ ¬ k = 7) := by omega

theorem ret_val {a b : Value} (h : a = b) : Ending.returned a = .returned b := by rw [h]

theorem kindOf_any (k : Int) (w : World) :
    Calls Tryz.prog 17 #[.int .i64 k] w fun e w' => e = .returned (kindV k) ∧ w' = w := by
  rcases kind_cases k with (h | h | h | h | h | h | h) | ⟨h1, h2, h3, h4, h5, h6, h7⟩
  iterate 7
    · subst h
      go_enter Tryz.func17, Tryz.ntmps17
      go_wp2
      go_ret
      exact ⟨ret_val (by simp [kindV]), rfl⟩
  · go_enter Tryz.func17, Tryz.ntmps17
    go_wp2
    go_ret
    exact ⟨ret_val (by simp [kindV, *]), rfl⟩

/-- A number from l to m. -/
def withinB (n l m : Int) : Bool := decide (l ≤ n ∧ n ≤ m)

theorem within_any (n l m : Int) (w : World) :
    Calls Tryz.prog 66 #[.int .i64 n, .int .i64 l, .int .i64 m] w fun e w' => e = .returned (.bool (withinB n l m)) ∧ w' = w := by
  by_cases h : l ≤ n
  all_goals
    go_enter Tryz.func66, Tryz.ntmps66
    go_wp2
    go_ret
    exact ⟨ret_bool (by simp [withinB, h]; try omega), rfl⟩

theorem within_yes (n l m : Int) (w : World) (h : withinB n l m = true) :
    Calls Tryz.prog 66 #[.int .i64 n, .int .i64 l, .int .i64 m] w fun e w' => e = .returned (.bool true) ∧ w' = w := by
  have := within_any n l m w; rw [h] at this; exact this
theorem within_no (n l m : Int) (w : World) (h : withinB n l m = false) :
    Calls Tryz.prog 66 #[.int .i64 n, .int .i64 l, .int .i64 m] w fun e w' => e = .returned (.bool false) ∧ w' = w := by
  have := within_any n l m w; rw [h] at this; exact this

theorem words_yes (c b l m : Int) (w : World) (hc : 0 ≤ c ∧ c ≤ 32) (h1 : l ≤ b) (h2 : b ≤ m) (h3 : 0 ≤ b) (h4 : b ≤ 12) :
    Calls Tryz.prog 74 #[.int .i64 c, .int .i64 b, .int .i64 l, .int .i64 m] w fun e w' => e = .returned (.int .i64 (c * sizeI b)) ∧ w' = w := by
  have hs : 0 ≤ sizeI b ∧ sizeI b ≤ 4096 := by
    have := pow_le12 b.toNat (by omega)
    unfold sizeI; rw [if_pos ⟨h3, h4⟩]; omega
  have hm : 0 ≤ c * sizeI b ∧ c * sizeI b ≤ 32 * 4096 := ⟨Int.mul_nonneg hc.1 hs.1, Int.mul_le_mul hc.2 hs.2 hs.1 (by omega)⟩
  have hd : withinB b l m = true := by simp [withinB, h1, h2]
  go_enter Tryz.func74, Tryz.ntmps74
  go_wp2_with (first | (go_at_call 66; refine (within_any _ _ _ _).mono ?_; rintro e w' ⟨rfl, rfl⟩) | (go_at_call 67; refine (sizeImpl_any _ _).mono ?_; rintro e w' ⟨rfl, rfl⟩))
  go_ret
  exact ⟨rfl, rfl⟩

theorem words_no (c b l m : Int) (w : World) (h : ¬ (l ≤ b ∧ b ≤ m)) :
    Calls Tryz.prog 74 #[.int .i64 c, .int .i64 b, .int .i64 l, .int .i64 m] w fun e w' => e = .returned (.int .i64 0) ∧ w' = w := by
  have hd : withinB b l m = false := by simpa [withinB] using h
  clear h
  go_enter Tryz.func74, Tryz.ntmps74
  go_wp2_with (first | (go_at_call 66; refine (within_any _ _ _ _).mono ?_; rintro e w' ⟨rfl, rfl⟩))
  go_ret
  exact ⟨rfl, rfl⟩

theorem words_any (c b l m : Int) (w : World) (hc : 0 ≤ c ∧ c ≤ 32) (h0 : 0 ≤ l) (h1 : m ≤ 12) :
    Calls Tryz.prog 74 #[.int .i64 c, .int .i64 b, .int .i64 l, .int .i64 m] w fun e w' => e = .returned (.int .i64 (wordsI c b l m)) ∧ w' = w := by
  unfold wordsI
  by_cases h : l ≤ b ∧ b ≤ m
  · rw [if_pos h]; exact words_yes c b l m w hc h.1 h.2 (by omega) (by omega)
  · rw [if_neg h]; exact words_no c b l m w h

/-- The bits go with the kind. -/
def bitsB (k b : Int) : Bool := decide (1 ≤ k ∧ k ≤ 7 ∧ (k = 1 → 2 ≤ b ∧ b ≤ 11) ∧ (k = 2 → 1 ≤ b ∧ b ≤ 5) ∧ (k = 6 → 0 ≤ b ∧ b ≤ 6) ∧ (k = 3 ∨ k = 4 ∨ k = 5 ∨ k = 7 → b = 0))

theorem szI_no {k b : Int} (h : bitsB k b = false) : szI k b = 0 := by
  unfold bitsB at h; rw [decide_eq_false_iff_not] at h
  unfold szI
  repeat' split
  all_goals first | rfl | (exfalso; omega)

theorem size4 (b : Int) (h1 : 1 ≤ b) (h2 : b ≤ 5) : sizeI (b + 2) = szI 2 b := by
  have : b = 1 ∨ b = 2 ∨ b = 3 ∨ b = 4 ∨ b = 5 := by omega
  rcases this with e | e | e | e | e <;> subst e <;> decide

theorem bits_any (k b : Int) (w : World) :
    Calls Tryz.prog 24 #[.int .i64 k, .int .i64 b] w fun e w' => e = .returned (.bool (bitsB k b)) ∧ w' = w := by
  rcases kind_cases k with (h | h | h | h | h | h | h) | ⟨h1, h2, h3, h4, h5, h6, h7⟩
  · subst h
    by_cases g : 2 ≤ b
    all_goals
      go_enter Tryz.func24, Tryz.ntmps24
      go_wp2
      go_ret
      exact ⟨ret_bool (by simp [bitsB, g]; try omega), rfl⟩
  · subst h
    by_cases g : 1 ≤ b
    all_goals
      go_enter Tryz.func24, Tryz.ntmps24
      go_wp2
      go_ret
      exact ⟨ret_bool (by simp [bitsB, g]; try omega), rfl⟩
  iterate 3
    · subst h
      go_enter Tryz.func24, Tryz.ntmps24
      go_wp2
      go_ret
      exact ⟨ret_bool (by rw [Bool.eq_iff_iff]; simp [bitsB]), rfl⟩
  · subst h
    by_cases g : 0 ≤ b
    all_goals
      go_enter Tryz.func24, Tryz.ntmps24
      go_wp2
      go_ret
      exact ⟨ret_bool (by simp [bitsB, g]; try omega), rfl⟩
  · subst h
    go_enter Tryz.func24, Tryz.ntmps24
    go_wp2
    go_ret
    exact ⟨ret_bool (by rw [Bool.eq_iff_iff]; simp [bitsB]), rfl⟩
  · go_enter Tryz.func24, Tryz.ntmps24
    go_wp2
    go_ret
    exact ⟨ret_bool (by unfold bitsB; rw [eq_comm, decide_eq_false_iff_not]; omega), rfl⟩

theorem maxSpec_any (k : Int) (w : World) :
    Calls Tryz.prog 26 #[.int .i64 k] w fun e w' => e = .returned (.int .i64 (maxI k)) ∧ w' = w := by
  by_cases h4 : k = 4
  · subst h4
    go_enter Tryz.func26, Tryz.ntmps26
    go_wp2
    go_ret
    exact ⟨rfl, rfl⟩
  · by_cases h5 : k = 5
    · subst h5
      go_enter Tryz.func26, Tryz.ntmps26
      go_wp2
      go_ret
      exact ⟨rfl, rfl⟩
    · by_cases h6 : k = 6
      · subst h6
        go_enter Tryz.func26, Tryz.ntmps26
        go_wp2
        go_ret
        exact ⟨rfl, rfl⟩
      · go_enter Tryz.func26, Tryz.ntmps26
        go_wp2
        go_ret
        exact ⟨ret_int (by simp [maxI, *]), rfl⟩


/-! Which function a method of a kind is. -/
theorem rightsM_1 (v : Value) (w : World) : (Go.method 257 77 v "loop.example/donjon/impl.rights").run Tryz.prog w = .ok (130, v) w := by kernel_rfl
theorem wordsM_1 (v : Value) (w : World) : (Go.method 257 77 v "loop.example/donjon/impl.words").run Tryz.prog w = .ok (132, v) w := by kernel_rfl
theorem rightsM_2 (v : Value) (w : World) : (Go.method 257 45 v "loop.example/donjon/impl.rights").run Tryz.prog w = .ok (127, v) w := by kernel_rfl
theorem wordsM_2 (v : Value) (w : World) : (Go.method 257 45 v "loop.example/donjon/impl.words").run Tryz.prog w = .ok (129, v) w := by kernel_rfl
theorem rightsM_3 (v : Value) (w : World) : (Go.method 257 78 v "loop.example/donjon/impl.rights").run Tryz.prog w = .ok (133, v) w := by kernel_rfl
theorem wordsM_3 (v : Value) (w : World) : (Go.method 257 78 v "loop.example/donjon/impl.words").run Tryz.prog w = .ok (61, v) w := by kernel_rfl
theorem rightsM_4 (v : Value) (w : World) : (Go.method 257 79 v "loop.example/donjon/impl.rights").run Tryz.prog w = .ok (135, v) w := by kernel_rfl
theorem wordsM_4 (v : Value) (w : World) : (Go.method 257 79 v "loop.example/donjon/impl.words").run Tryz.prog w = .ok (137, v) w := by kernel_rfl
theorem rightsM_5 (v : Value) (w : World) : (Go.method 257 80 v "loop.example/donjon/impl.rights").run Tryz.prog w = .ok (138, v) w := by kernel_rfl
theorem wordsM_5 (v : Value) (w : World) : (Go.method 257 80 v "loop.example/donjon/impl.words").run Tryz.prog w = .ok (140, v) w := by kernel_rfl
theorem rightsM_6 (v : Value) (w : World) : (Go.method 257 81 v "loop.example/donjon/impl.rights").run Tryz.prog w = .ok (141, v) w := by kernel_rfl
theorem wordsM_6 (v : Value) (w : World) : (Go.method 257 81 v "loop.example/donjon/impl.words").run Tryz.prog w = .ok (143, v) w := by kernel_rfl
theorem rightsM_7 (v : Value) (w : World) : (Go.method 257 82 v "loop.example/donjon/impl.rights").run Tryz.prog w = .ok (144, v) w := by kernel_rfl
theorem wordsM_7 (v : Value) (w : World) : (Go.method 257 82 v "loop.example/donjon/impl.words").run Tryz.prog w = .ok (146, v) w := by kernel_rfl

/-! What an assertion of a kind to a kind answers. -/
theorem ta_1_1 (w : World) : (Instr.typeAssert (.iface 77 (.agg #[])) 42 77 true).run Tryz.prog w = .ok (.tuple #[.agg #[], .bool true]) w := by kernel_rfl
theorem ta_1_2 (w : World) : (Instr.typeAssert (.iface 77 (.agg #[])) 42 45 true).run Tryz.prog w = .ok (.tuple #[.agg #[], .bool false]) w := by kernel_rfl
theorem ta_1_3 (w : World) : (Instr.typeAssert (.iface 77 (.agg #[])) 42 78 true).run Tryz.prog w = .ok (.tuple #[.agg #[], .bool false]) w := by kernel_rfl
theorem ta_1_4 (w : World) : (Instr.typeAssert (.iface 77 (.agg #[])) 42 79 true).run Tryz.prog w = .ok (.tuple #[.agg #[], .bool false]) w := by kernel_rfl
theorem ta_1_5 (w : World) : (Instr.typeAssert (.iface 77 (.agg #[])) 42 80 true).run Tryz.prog w = .ok (.tuple #[.agg #[], .bool false]) w := by kernel_rfl
theorem ta_1_6 (w : World) : (Instr.typeAssert (.iface 77 (.agg #[])) 42 81 true).run Tryz.prog w = .ok (.tuple #[.agg #[], .bool false]) w := by kernel_rfl
theorem ta_1_7 (w : World) : (Instr.typeAssert (.iface 77 (.agg #[])) 42 82 true).run Tryz.prog w = .ok (.tuple #[.agg #[], .bool false]) w := by kernel_rfl
theorem ta_2_1 (w : World) : (Instr.typeAssert (.iface 45 (.agg #[])) 42 77 true).run Tryz.prog w = .ok (.tuple #[.agg #[], .bool false]) w := by kernel_rfl
theorem ta_2_2 (w : World) : (Instr.typeAssert (.iface 45 (.agg #[])) 42 45 true).run Tryz.prog w = .ok (.tuple #[.agg #[], .bool true]) w := by kernel_rfl
theorem ta_2_3 (w : World) : (Instr.typeAssert (.iface 45 (.agg #[])) 42 78 true).run Tryz.prog w = .ok (.tuple #[.agg #[], .bool false]) w := by kernel_rfl
theorem ta_2_4 (w : World) : (Instr.typeAssert (.iface 45 (.agg #[])) 42 79 true).run Tryz.prog w = .ok (.tuple #[.agg #[], .bool false]) w := by kernel_rfl
theorem ta_2_5 (w : World) : (Instr.typeAssert (.iface 45 (.agg #[])) 42 80 true).run Tryz.prog w = .ok (.tuple #[.agg #[], .bool false]) w := by kernel_rfl
theorem ta_2_6 (w : World) : (Instr.typeAssert (.iface 45 (.agg #[])) 42 81 true).run Tryz.prog w = .ok (.tuple #[.agg #[], .bool false]) w := by kernel_rfl
theorem ta_2_7 (w : World) : (Instr.typeAssert (.iface 45 (.agg #[])) 42 82 true).run Tryz.prog w = .ok (.tuple #[.agg #[], .bool false]) w := by kernel_rfl
theorem ta_3_1 (w : World) : (Instr.typeAssert (.iface 78 (.agg #[])) 42 77 true).run Tryz.prog w = .ok (.tuple #[.agg #[], .bool false]) w := by kernel_rfl
theorem ta_3_2 (w : World) : (Instr.typeAssert (.iface 78 (.agg #[])) 42 45 true).run Tryz.prog w = .ok (.tuple #[.agg #[], .bool false]) w := by kernel_rfl
theorem ta_3_3 (w : World) : (Instr.typeAssert (.iface 78 (.agg #[])) 42 78 true).run Tryz.prog w = .ok (.tuple #[.agg #[], .bool true]) w := by kernel_rfl
theorem ta_3_4 (w : World) : (Instr.typeAssert (.iface 78 (.agg #[])) 42 79 true).run Tryz.prog w = .ok (.tuple #[.agg #[], .bool false]) w := by kernel_rfl
theorem ta_3_5 (w : World) : (Instr.typeAssert (.iface 78 (.agg #[])) 42 80 true).run Tryz.prog w = .ok (.tuple #[.agg #[], .bool false]) w := by kernel_rfl
theorem ta_3_6 (w : World) : (Instr.typeAssert (.iface 78 (.agg #[])) 42 81 true).run Tryz.prog w = .ok (.tuple #[.agg #[], .bool false]) w := by kernel_rfl
theorem ta_3_7 (w : World) : (Instr.typeAssert (.iface 78 (.agg #[])) 42 82 true).run Tryz.prog w = .ok (.tuple #[.agg #[], .bool false]) w := by kernel_rfl
theorem ta_4_1 (w : World) : (Instr.typeAssert (.iface 79 (.agg #[])) 42 77 true).run Tryz.prog w = .ok (.tuple #[.agg #[], .bool false]) w := by kernel_rfl
theorem ta_4_2 (w : World) : (Instr.typeAssert (.iface 79 (.agg #[])) 42 45 true).run Tryz.prog w = .ok (.tuple #[.agg #[], .bool false]) w := by kernel_rfl
theorem ta_4_3 (w : World) : (Instr.typeAssert (.iface 79 (.agg #[])) 42 78 true).run Tryz.prog w = .ok (.tuple #[.agg #[], .bool false]) w := by kernel_rfl
theorem ta_4_4 (w : World) : (Instr.typeAssert (.iface 79 (.agg #[])) 42 79 true).run Tryz.prog w = .ok (.tuple #[.agg #[], .bool true]) w := by kernel_rfl
theorem ta_4_5 (w : World) : (Instr.typeAssert (.iface 79 (.agg #[])) 42 80 true).run Tryz.prog w = .ok (.tuple #[.agg #[], .bool false]) w := by kernel_rfl
theorem ta_4_6 (w : World) : (Instr.typeAssert (.iface 79 (.agg #[])) 42 81 true).run Tryz.prog w = .ok (.tuple #[.agg #[], .bool false]) w := by kernel_rfl
theorem ta_4_7 (w : World) : (Instr.typeAssert (.iface 79 (.agg #[])) 42 82 true).run Tryz.prog w = .ok (.tuple #[.agg #[], .bool false]) w := by kernel_rfl
theorem ta_5_1 (w : World) : (Instr.typeAssert (.iface 80 (.agg #[])) 42 77 true).run Tryz.prog w = .ok (.tuple #[.agg #[], .bool false]) w := by kernel_rfl
theorem ta_5_2 (w : World) : (Instr.typeAssert (.iface 80 (.agg #[])) 42 45 true).run Tryz.prog w = .ok (.tuple #[.agg #[], .bool false]) w := by kernel_rfl
theorem ta_5_3 (w : World) : (Instr.typeAssert (.iface 80 (.agg #[])) 42 78 true).run Tryz.prog w = .ok (.tuple #[.agg #[], .bool false]) w := by kernel_rfl
theorem ta_5_4 (w : World) : (Instr.typeAssert (.iface 80 (.agg #[])) 42 79 true).run Tryz.prog w = .ok (.tuple #[.agg #[], .bool false]) w := by kernel_rfl
theorem ta_5_5 (w : World) : (Instr.typeAssert (.iface 80 (.agg #[])) 42 80 true).run Tryz.prog w = .ok (.tuple #[.agg #[], .bool true]) w := by kernel_rfl
theorem ta_5_6 (w : World) : (Instr.typeAssert (.iface 80 (.agg #[])) 42 81 true).run Tryz.prog w = .ok (.tuple #[.agg #[], .bool false]) w := by kernel_rfl
theorem ta_5_7 (w : World) : (Instr.typeAssert (.iface 80 (.agg #[])) 42 82 true).run Tryz.prog w = .ok (.tuple #[.agg #[], .bool false]) w := by kernel_rfl
theorem ta_6_1 (w : World) : (Instr.typeAssert (.iface 81 (.agg #[])) 42 77 true).run Tryz.prog w = .ok (.tuple #[.agg #[], .bool false]) w := by kernel_rfl
theorem ta_6_2 (w : World) : (Instr.typeAssert (.iface 81 (.agg #[])) 42 45 true).run Tryz.prog w = .ok (.tuple #[.agg #[], .bool false]) w := by kernel_rfl
theorem ta_6_3 (w : World) : (Instr.typeAssert (.iface 81 (.agg #[])) 42 78 true).run Tryz.prog w = .ok (.tuple #[.agg #[], .bool false]) w := by kernel_rfl
theorem ta_6_4 (w : World) : (Instr.typeAssert (.iface 81 (.agg #[])) 42 79 true).run Tryz.prog w = .ok (.tuple #[.agg #[], .bool false]) w := by kernel_rfl
theorem ta_6_5 (w : World) : (Instr.typeAssert (.iface 81 (.agg #[])) 42 80 true).run Tryz.prog w = .ok (.tuple #[.agg #[], .bool false]) w := by kernel_rfl
theorem ta_6_6 (w : World) : (Instr.typeAssert (.iface 81 (.agg #[])) 42 81 true).run Tryz.prog w = .ok (.tuple #[.agg #[], .bool true]) w := by kernel_rfl
theorem ta_6_7 (w : World) : (Instr.typeAssert (.iface 81 (.agg #[])) 42 82 true).run Tryz.prog w = .ok (.tuple #[.agg #[], .bool false]) w := by kernel_rfl
theorem ta_7_1 (w : World) : (Instr.typeAssert (.iface 82 (.agg #[])) 42 77 true).run Tryz.prog w = .ok (.tuple #[.agg #[], .bool false]) w := by kernel_rfl
theorem ta_7_2 (w : World) : (Instr.typeAssert (.iface 82 (.agg #[])) 42 45 true).run Tryz.prog w = .ok (.tuple #[.agg #[], .bool false]) w := by kernel_rfl
theorem ta_7_3 (w : World) : (Instr.typeAssert (.iface 82 (.agg #[])) 42 78 true).run Tryz.prog w = .ok (.tuple #[.agg #[], .bool false]) w := by kernel_rfl
theorem ta_7_4 (w : World) : (Instr.typeAssert (.iface 82 (.agg #[])) 42 79 true).run Tryz.prog w = .ok (.tuple #[.agg #[], .bool false]) w := by kernel_rfl
theorem ta_7_5 (w : World) : (Instr.typeAssert (.iface 82 (.agg #[])) 42 80 true).run Tryz.prog w = .ok (.tuple #[.agg #[], .bool false]) w := by kernel_rfl
theorem ta_7_6 (w : World) : (Instr.typeAssert (.iface 82 (.agg #[])) 42 81 true).run Tryz.prog w = .ok (.tuple #[.agg #[], .bool false]) w := by kernel_rfl
theorem ta_7_7 (w : World) : (Instr.typeAssert (.iface 82 (.agg #[])) 42 82 true).run Tryz.prog w = .ok (.tuple #[.agg #[], .bool true]) w := by kernel_rfl

theorem kindV_1 : kindV 1 = .iface 77 (.agg #[]) := rfl

theorem words_1 (b : Int) (w : World) :
    Calls Tryz.prog 132 #[.agg #[], .int .i64 b] w fun e w' => e = .returned (.int .i64 (szI 1 b)) ∧ w' = w.alloc (.cells #[] 77) := by
  go_enter Tryz.func132, Tryz.ntmps132
  go_wp2_with (first | (go_at_call 74; refine (words_any _ _ _ _ _ (by omega) (by omega) (by omega)).mono ?_; rintro e w' ⟨rfl, rfl⟩))
  go_ret
  exact ⟨ret_int (wordsI_1 b), rfl⟩

theorem kindV_2 : kindV 2 = .iface 45 (.agg #[]) := rfl

theorem words_2 (b : Int) (w : World) :
    Calls Tryz.prog 129 #[.agg #[], .int .i64 b] w fun e w' => e = .returned (.int .i64 (szI 2 b)) ∧ w' = w.alloc (.cells #[] 45) := by
  go_enter Tryz.func129, Tryz.ntmps129
  go_wp2_with (first | (go_at_call 74; refine (words_any _ _ _ _ _ (by omega) (by omega) (by omega)).mono ?_; rintro e w' ⟨rfl, rfl⟩))
  go_ret
  exact ⟨ret_int (wordsI_2 b), rfl⟩

theorem kindV_3 : kindV 3 = .iface 78 (.agg #[]) := rfl

theorem words_3 (b : Int) (w : World) :
    Calls Tryz.prog 61 #[.agg #[], .int .i64 b] w fun e w' => e = .returned (.int .i64 (szI 3 b)) ∧ w' = w.alloc (.cells #[] 78) := by
  go_enter Tryz.func61, Tryz.ntmps61
  go_wp2_with (first | (go_at_call 74; refine (words_any _ _ _ _ _ (by omega) (by omega) (by omega)).mono ?_; rintro e w' ⟨rfl, rfl⟩))
  go_ret
  exact ⟨ret_int (wordsI_3 b), rfl⟩

theorem kindV_4 : kindV 4 = .iface 79 (.agg #[]) := rfl

theorem words_4 (b : Int) (w : World) :
    Calls Tryz.prog 137 #[.agg #[], .int .i64 b] w fun e w' => e = .returned (.int .i64 (szI 4 b)) ∧ w' = w.alloc (.cells #[] 79) := by
  go_enter Tryz.func137, Tryz.ntmps137
  go_wp2_with (first | (go_at_call 74; refine (words_any _ _ _ _ _ (by omega) (by omega) (by omega)).mono ?_; rintro e w' ⟨rfl, rfl⟩))
  go_ret
  exact ⟨ret_int (wordsI_4 b), rfl⟩

theorem kindV_5 : kindV 5 = .iface 80 (.agg #[]) := rfl

theorem words_5 (b : Int) (w : World) :
    Calls Tryz.prog 140 #[.agg #[], .int .i64 b] w fun e w' => e = .returned (.int .i64 (szI 5 b)) ∧ w' = w.alloc (.cells #[] 80) := by
  go_enter Tryz.func140, Tryz.ntmps140
  go_wp2_with (first | (go_at_call 74; refine (words_any _ _ _ _ _ (by omega) (by omega) (by omega)).mono ?_; rintro e w' ⟨rfl, rfl⟩))
  go_ret
  exact ⟨ret_int (wordsI_5 b), rfl⟩

theorem kindV_6 : kindV 6 = .iface 81 (.agg #[]) := rfl

theorem words_6 (b : Int) (w : World) :
    Calls Tryz.prog 143 #[.agg #[], .int .i64 b] w fun e w' => e = .returned (.int .i64 (szI 6 b)) ∧ w' = w.alloc (.cells #[] 81) := by
  go_enter Tryz.func143, Tryz.ntmps143
  go_wp2_with (first | (go_at_call 74; refine (words_any _ _ _ _ _ (by omega) (by omega) (by omega)).mono ?_; rintro e w' ⟨rfl, rfl⟩))
  go_ret
  exact ⟨ret_int (wordsI_6 b), rfl⟩

theorem kindV_7 : kindV 7 = .iface 82 (.agg #[]) := rfl

theorem words_7 (b : Int) (w : World) :
    Calls Tryz.prog 146 #[.agg #[], .int .i64 b] w fun e w' => e = .returned (.int .i64 (szI 7 b)) ∧ w' = w.alloc (.cells #[] 82) := by
  go_enter Tryz.func146, Tryz.ntmps146
  go_wp2
  go_ret
  exact ⟨rfl, rfl⟩

theorem kindV_none {k : Int} (h1 : ¬ k = 1) (h2 : ¬ k = 2) (h3 : ¬ k = 3) (h4 : ¬ k = 4) (h5 : ¬ k = 5) (h6 : ¬ k = 6) (h7 : ¬ k = 7) : kindV k = .nilIface := by simp only [kindV, h1, h2, h3, h4, h5, h6, h7, if_false]

theorem rights_1 (w : World) :
    Calls Tryz.prog 130 #[.agg #[]] w fun e w' => e = .returned (.int .i64 (maxI 1)) ∧ w' = w.alloc (.cells #[] 77) := by
  go_enter Tryz.func130, Tryz.ntmps130
  go_wp2
  go_ret
  exact ⟨rfl, rfl⟩

theorem rights_2 (w : World) :
    Calls Tryz.prog 127 #[.agg #[]] w fun e w' => e = .returned (.int .i64 (maxI 2)) ∧ w' = w.alloc (.cells #[] 45) := by
  go_enter Tryz.func127, Tryz.ntmps127
  go_wp2
  go_ret
  exact ⟨rfl, rfl⟩

theorem rights_3 (w : World) :
    Calls Tryz.prog 133 #[.agg #[]] w fun e w' => e = .returned (.int .i64 (maxI 3)) ∧ w' = w.alloc (.cells #[] 78) := by
  go_enter Tryz.func133, Tryz.ntmps133
  go_wp2
  go_ret
  exact ⟨rfl, rfl⟩

theorem rights_4 (w : World) :
    Calls Tryz.prog 135 #[.agg #[]] w fun e w' => e = .returned (.int .i64 (maxI 4)) ∧ w' = w.alloc (.cells #[] 79) := by
  go_enter Tryz.func135, Tryz.ntmps135
  go_wp2
  go_ret
  exact ⟨rfl, rfl⟩

theorem rights_5 (w : World) :
    Calls Tryz.prog 138 #[.agg #[]] w fun e w' => e = .returned (.int .i64 (maxI 5)) ∧ w' = w.alloc (.cells #[] 80) := by
  go_enter Tryz.func138, Tryz.ntmps138
  go_wp2
  go_ret
  exact ⟨rfl, rfl⟩

theorem rights_6 (w : World) :
    Calls Tryz.prog 141 #[.agg #[]] w fun e w' => e = .returned (.int .i64 (maxI 6)) ∧ w' = w.alloc (.cells #[] 81) := by
  go_enter Tryz.func141, Tryz.ntmps141
  go_wp2
  go_ret
  exact ⟨rfl, rfl⟩

theorem rights_7 (w : World) :
    Calls Tryz.prog 144 #[.agg #[]] w fun e w' => e = .returned (.int .i64 (maxI 7)) ∧ w' = w.alloc (.cells #[] 82) := by
  go_enter Tryz.func144, Tryz.ntmps144
  go_wp2
  go_ret
  exact ⟨rfl, rfl⟩

theorem sizeSpecKind_any (k b : Int) (w : World) :
    Calls Tryz.prog 28 #[.int .i64 k, .int .i64 b] w fun e w' => e = .returned (.int .i64 (szI k b)) ∧ w' = w := by
  by_cases g : bitsB k b = true
  · have g' := g
    simp only [bitsB, decide_eq_true_eq] at g'
    obtain ⟨g1, g2, g3, g4, g5, g6⟩ := g'
    have hk : k = 1 ∨ k = 2 ∨ k = 3 ∨ k = 4 ∨ k = 5 ∨ k = 6 ∨ k = 7 := by omega
    clear g1 g2
    rcases hk with h | h | h | h | h | h | h
    · subst h
      obtain ⟨g31, g32⟩ := g3 rfl
      clear g3 g4 g5 g6
      go_enter Tryz.func28, Tryz.ntmps28
      go_wp2_with (first | (go_at_call 24; refine (bits_any _ _ _).mono ?_; rintro e w' ⟨rfl, rfl⟩) | (go_at_call 54; refine (sizeSpec_any _ _).mono ?_; rintro e w' ⟨rfl, rfl⟩))
      go_ret
      exact ⟨ret_int (by unfold szI; rw [if_pos rfl, if_pos ⟨g31, g32⟩]), rfl⟩
    · subst h
      obtain ⟨g41, g42⟩ := g4 rfl
      clear g3 g4 g5 g6
      go_enter Tryz.func28, Tryz.ntmps28
      go_wp2_with (first | (go_at_call 24; refine (bits_any _ _ _).mono ?_; rintro e w' ⟨rfl, rfl⟩) | (go_at_call 54; refine (sizeSpec_any _ _).mono ?_; rintro e w' ⟨rfl, rfl⟩))
      go_ret
      exact ⟨ret_int (size4 b g41 g42), rfl⟩
    iterate 3
      · subst h
        have hb : b = 0 := g6 (by omega)
        subst hb
        clear g3 g4 g5 g6
        go_enter Tryz.func28, Tryz.ntmps28
        go_wp2_with (first | (go_at_call 24; refine (bits_any _ _ _).mono ?_; rintro e w' ⟨rfl, rfl⟩))
        go_ret
        exact ⟨rfl, rfl⟩
    · subst h
      obtain ⟨g51, g52⟩ := g5 rfl
      clear g3 g4 g5 g6
      go_enter Tryz.func28, Tryz.ntmps28
      go_wp2_with (first | (go_at_call 24; refine (bits_any _ _ _).mono ?_; rintro e w' ⟨rfl, rfl⟩) | (go_at_call 54; refine (sizeSpec_any _ _).mono ?_; rintro e w' ⟨rfl, rfl⟩))
      go_ret
      exact ⟨ret_int (by unfold szI; simp [g51, g52]), rfl⟩
    · subst h
      clear g3 g4 g5 g6
      go_enter Tryz.func28, Tryz.ntmps28
      go_wp2_with (first | (go_at_call 24; refine (bits_any _ _ _).mono ?_; rintro e w' ⟨rfl, rfl⟩))
      go_ret
      exact ⟨rfl, rfl⟩
  · have g' : bitsB k b = false := by simpa using g
    have hz : Hid (szI k b = 0) := szI_no g'
    clear g
    go_enter Tryz.func28, Tryz.ntmps28
    go_wp2_with (first | (go_at_call 24; refine (bits_any _ _ _).mono ?_; rintro e w' ⟨rfl, rfl⟩))
    go_ret
    exact ⟨ret_int hz.out.symm, rfl⟩

end Go.Proofs.YthmambhagheocaaGreatDoor
