/-
  What the small functions of chapter 2 answer: capKindOf, the methods of each kind, CapSize, CapMax and capWithin of the program; l2Bits, CapSize and CapMax of the specification.
-/
import Derived.Test.YtaafbgngehhbeaaGreatDoorWords
namespace Go.Proofs.YtaafbgngehhbeaaGreatDoor
open Go.ChangeShapes Go.WideShapes Go.ChangeAt Go.RowKit
set_option linter.unusedVariables false

/-- The words of an object. -/
def szI (k b : Int) : Int :=
  if k = 1 then (if 2 ≤ b ∧ b ≤ 11 then sizeI b else 0)
  else if k = 2 then (if 1 ≤ b ∧ b ≤ 5 then 4 * sizeI b else 0)
  else if k = 3 then (if b = 0 then 32 else 0)
  else if k = 4 ∨ k = 5 then (if b = 0 then 4 else 0)
  else if k = 6 then (if 0 ≤ b ∧ b ≤ 6 then sizeI b else 0)
  else 0

/-- So many words 2 to the bits times, where the bits are from l to m. -/
def wordsI (c b l m : Int) : Int := if l ≤ b ∧ b ≤ m then c * sizeI b else 0

theorem wordsI_0 (c b : Int) : wordsI c b 0 0 = if b = 0 then c else 0 := by
  unfold wordsI
  by_cases g : b = 0
  · rw [if_pos g, if_pos (by omega), g]; show c * 1 = c; omega
  · rw [if_neg g, if_neg (by omega)]

theorem wordsI_1 (b : Int) : wordsI 1 b 2 11 = szI 1 b := by simp [szI, wordsI]
theorem wordsI_2 (b : Int) : wordsI 4 b 1 5 = szI 2 b := by simp [szI, wordsI]
theorem wordsI_3 (b : Int) : wordsI 32 b 0 0 = szI 3 b := by rw [wordsI_0]; simp [szI]
theorem wordsI_4 (b : Int) : wordsI 4 b 0 0 = szI 4 b := by rw [wordsI_0]; simp [szI]
theorem wordsI_5 (b : Int) : wordsI 4 b 0 0 = szI 5 b := by rw [wordsI_0]; simp [szI]
theorem wordsI_6 (b : Int) : wordsI 1 b 0 6 = szI 6 b := by simp [szI, wordsI]

/-- The rights of a kind. -/
def maxI (k : Int) : Int := if k = 4 then 7 else if k = 5 ∨ k = 6 then 3 else 0

/-- The row of a kind, as a value. -/
def kindV (k : Int) : Value :=
  if k = 1 then .iface 52 (.agg #[]) else if k = 2 then .iface 53 (.agg #[]) else if k = 3 then .iface 57 (.agg #[])
  else if k = 4 then .iface 54 (.agg #[]) else if k = 5 then .iface 55 (.agg #[]) else if k = 6 then .iface 56 (.agg #[])
  else if k = 7 then .iface 58 (.agg #[]) else .nilIface

/-- A kind is one of seven, or none. -/
theorem kind_cases (k : Int) : (k = 1 ∨ k = 2 ∨ k = 3 ∨ k = 4 ∨ k = 5 ∨ k = 6 ∨ k = 7) ∨ (¬ k = 1 ∧ ¬ k = 2 ∧ ¬ k = 3 ∧ ¬ k = 4 ∧ ¬ k = 5 ∧ ¬ k = 6 ∧ ¬ k = 7) := by omega

theorem ret_val {a b : Value} (h : a = b) : Ending.returned a = .returned b := by rw [h]

theorem kindOf_any (k : Int) (w : World) :
    Calls Tryz.prog 17 #[.int .i64 k] w fun e w' => e = .returned (kindV k) ∧ w' = w := by
  rcases kind_cases k with (h | h | h | h | h | h | h) | ⟨h1, h2, h3, h4, h5, h6, h7⟩
  iterate 7
    · subst h
      go_enter Tryz.func17, Tryz.ntmps17
      go_wp2
      go_ret
      exact ⟨ret_val (by simp [kindV]), rfl⟩
  · go_enter Tryz.func17, Tryz.ntmps17
    go_wp2
    go_ret
    exact ⟨ret_val (by simp [kindV, *]), rfl⟩

/-- A number from l to m. -/
def withinB (n l m : Int) : Bool := decide (l ≤ n ∧ n ≤ m)

theorem within_any (n l m : Int) (w : World) :
    Calls Tryz.prog 52 #[.int .i64 n, .int .i64 l, .int .i64 m] w fun e w' => e = .returned (.bool (withinB n l m)) ∧ w' = w := by
  by_cases h : l ≤ n
  all_goals
    go_enter Tryz.func52, Tryz.ntmps52
    go_wp2
    go_ret
    exact ⟨ret_bool (by simp [withinB, h]; try omega), rfl⟩

theorem within_yes (n l m : Int) (w : World) (h : withinB n l m = true) :
    Calls Tryz.prog 52 #[.int .i64 n, .int .i64 l, .int .i64 m] w fun e w' => e = .returned (.bool true) ∧ w' = w := by
  have := within_any n l m w; rw [h] at this; exact this
theorem within_no (n l m : Int) (w : World) (h : withinB n l m = false) :
    Calls Tryz.prog 52 #[.int .i64 n, .int .i64 l, .int .i64 m] w fun e w' => e = .returned (.bool false) ∧ w' = w := by
  have := within_any n l m w; rw [h] at this; exact this

theorem words_yes (c b l m : Int) (w : World) (hc : 0 ≤ c ∧ c ≤ 32) (h1 : l ≤ b) (h2 : b ≤ m) (h3 : 0 ≤ b) (h4 : b ≤ 12) :
    Calls Tryz.prog 63 #[.int .i64 c, .int .i64 b, .int .i64 l, .int .i64 m] w fun e w' => e = .returned (.int .i64 (c * sizeI b)) ∧ w' = w := by
  have hs : 0 ≤ sizeI b ∧ sizeI b ≤ 4096 := by
    have := pow_le12 b.toNat (by omega)
    unfold sizeI; rw [if_pos ⟨h3, h4⟩]; omega
  have hm : 0 ≤ c * sizeI b ∧ c * sizeI b ≤ 32 * 4096 := ⟨Int.mul_nonneg hc.1 hs.1, Int.mul_le_mul hc.2 hs.2 hs.1 (by omega)⟩
  have hd : withinB b l m = true := by simp [withinB, h1, h2]
  go_enter Tryz.func63, Tryz.ntmps63
  go_wp2_with (first | (go_at_call 52; refine (within_any _ _ _ _).mono ?_; rintro e w' ⟨rfl, rfl⟩) | (go_at_call 53; refine (sizeImpl_any _ _).mono ?_; rintro e w' ⟨rfl, rfl⟩))
  go_ret
  exact ⟨rfl, rfl⟩

theorem words_no (c b l m : Int) (w : World) (h : ¬ (l ≤ b ∧ b ≤ m)) :
    Calls Tryz.prog 63 #[.int .i64 c, .int .i64 b, .int .i64 l, .int .i64 m] w fun e w' => e = .returned (.int .i64 0) ∧ w' = w := by
  have hd : withinB b l m = false := by simpa [withinB] using h
  clear h
  go_enter Tryz.func63, Tryz.ntmps63
  go_wp2_with (first | (go_at_call 52; refine (within_any _ _ _ _).mono ?_; rintro e w' ⟨rfl, rfl⟩))
  go_ret
  exact ⟨rfl, rfl⟩

theorem words_any (c b l m : Int) (w : World) (hc : 0 ≤ c ∧ c ≤ 32) (h0 : 0 ≤ l) (h1 : m ≤ 12) :
    Calls Tryz.prog 63 #[.int .i64 c, .int .i64 b, .int .i64 l, .int .i64 m] w fun e w' => e = .returned (.int .i64 (wordsI c b l m)) ∧ w' = w := by
  unfold wordsI
  by_cases h : l ≤ b ∧ b ≤ m
  · rw [if_pos h]; exact words_yes c b l m w hc h.1 h.2 (by omega) (by omega)
  · rw [if_neg h]; exact words_no c b l m w h

/-- The bits go with the kind. -/
def bitsB (k b : Int) : Bool := decide (1 ≤ k ∧ k ≤ 7 ∧ (k = 1 → 2 ≤ b ∧ b ≤ 11) ∧ (k = 2 → 1 ≤ b ∧ b ≤ 5) ∧ (k = 6 → 0 ≤ b ∧ b ≤ 6) ∧ (k = 3 ∨ k = 4 ∨ k = 5 ∨ k = 7 → b = 0))

theorem szI_no {k b : Int} (h : bitsB k b = false) : szI k b = 0 := by
  unfold bitsB at h; rw [decide_eq_false_iff_not] at h
  unfold szI
  repeat' split
  all_goals first | rfl | (exfalso; omega)

theorem size4 (b : Int) (h1 : 1 ≤ b) (h2 : b ≤ 5) : sizeI (b + 2) = szI 2 b := by
  have : b = 1 ∨ b = 2 ∨ b = 3 ∨ b = 4 ∨ b = 5 := by omega
  rcases this with e | e | e | e | e <;> subst e <;> decide

theorem bits_any (k b : Int) (w : World) :
    Calls Tryz.prog 34 #[.int .i64 k, .int .i64 b] w fun e w' => e = .returned (.bool (bitsB k b)) ∧ w' = w := by
  rcases kind_cases k with (h | h | h | h | h | h | h) | ⟨h1, h2, h3, h4, h5, h6, h7⟩
  · subst h
    by_cases g : 2 ≤ b
    all_goals
      go_enter Tryz.func34, Tryz.ntmps34
      go_wp2
      go_ret
      exact ⟨ret_bool (by simp [bitsB, g]; try omega), rfl⟩
  · subst h
    by_cases g : 1 ≤ b
    all_goals
      go_enter Tryz.func34, Tryz.ntmps34
      go_wp2
      go_ret
      exact ⟨ret_bool (by simp [bitsB, g]; try omega), rfl⟩
  iterate 3
    · subst h
      go_enter Tryz.func34, Tryz.ntmps34
      go_wp2
      go_ret
      exact ⟨ret_bool (by rw [Bool.eq_iff_iff]; simp [bitsB]), rfl⟩
  · subst h
    by_cases g : 0 ≤ b
    all_goals
      go_enter Tryz.func34, Tryz.ntmps34
      go_wp2
      go_ret
      exact ⟨ret_bool (by simp [bitsB, g]; try omega), rfl⟩
  · subst h
    go_enter Tryz.func34, Tryz.ntmps34
    go_wp2
    go_ret
    exact ⟨ret_bool (by rw [Bool.eq_iff_iff]; simp [bitsB]), rfl⟩
  · go_enter Tryz.func34, Tryz.ntmps34
    go_wp2
    go_ret
    exact ⟨ret_bool (by unfold bitsB; rw [eq_comm, decide_eq_false_iff_not]; omega), rfl⟩

theorem maxSpec_any (k : Int) (w : World) :
    Calls Tryz.prog 36 #[.int .i64 k] w fun e w' => e = .returned (.int .i64 (maxI k)) ∧ w' = w := by
  by_cases h4 : k = 4
  · subst h4
    go_enter Tryz.func36, Tryz.ntmps36
    go_wp2
    go_ret
    exact ⟨rfl, rfl⟩
  · by_cases h5 : k = 5
    · subst h5
      go_enter Tryz.func36, Tryz.ntmps36
      go_wp2
      go_ret
      exact ⟨rfl, rfl⟩
    · by_cases h6 : k = 6
      · subst h6
        go_enter Tryz.func36, Tryz.ntmps36
        go_wp2
        go_ret
        exact ⟨rfl, rfl⟩
      · go_enter Tryz.func36, Tryz.ntmps36
        go_wp2
        go_ret
        exact ⟨ret_int (by simp [maxI, *]), rfl⟩


/-! Which function a method of a kind is. -/
theorem rightsM_1 (v : Value) (w : World) : (Go.method 241 52 v "loop.example/donjon/impl.rights").run Tryz.prog w = .ok (110, v) w := by kernel_rfl
theorem wordsM_1 (v : Value) (w : World) : (Go.method 241 52 v "loop.example/donjon/impl.words").run Tryz.prog w = .ok (112, v) w := by kernel_rfl
theorem rightsM_2 (v : Value) (w : World) : (Go.method 241 53 v "loop.example/donjon/impl.rights").run Tryz.prog w = .ok (113, v) w := by kernel_rfl
theorem wordsM_2 (v : Value) (w : World) : (Go.method 241 53 v "loop.example/donjon/impl.words").run Tryz.prog w = .ok (115, v) w := by kernel_rfl
theorem rightsM_3 (v : Value) (w : World) : (Go.method 241 57 v "loop.example/donjon/impl.rights").run Tryz.prog w = .ok (125, v) w := by kernel_rfl
theorem wordsM_3 (v : Value) (w : World) : (Go.method 241 57 v "loop.example/donjon/impl.words").run Tryz.prog w = .ok (47, v) w := by kernel_rfl
theorem rightsM_4 (v : Value) (w : World) : (Go.method 241 54 v "loop.example/donjon/impl.rights").run Tryz.prog w = .ok (116, v) w := by kernel_rfl
theorem wordsM_4 (v : Value) (w : World) : (Go.method 241 54 v "loop.example/donjon/impl.words").run Tryz.prog w = .ok (118, v) w := by kernel_rfl
theorem rightsM_5 (v : Value) (w : World) : (Go.method 241 55 v "loop.example/donjon/impl.rights").run Tryz.prog w = .ok (119, v) w := by kernel_rfl
theorem wordsM_5 (v : Value) (w : World) : (Go.method 241 55 v "loop.example/donjon/impl.words").run Tryz.prog w = .ok (121, v) w := by kernel_rfl
theorem rightsM_6 (v : Value) (w : World) : (Go.method 241 56 v "loop.example/donjon/impl.rights").run Tryz.prog w = .ok (122, v) w := by kernel_rfl
theorem wordsM_6 (v : Value) (w : World) : (Go.method 241 56 v "loop.example/donjon/impl.words").run Tryz.prog w = .ok (124, v) w := by kernel_rfl
theorem rightsM_7 (v : Value) (w : World) : (Go.method 241 58 v "loop.example/donjon/impl.rights").run Tryz.prog w = .ok (127, v) w := by kernel_rfl
theorem wordsM_7 (v : Value) (w : World) : (Go.method 241 58 v "loop.example/donjon/impl.words").run Tryz.prog w = .ok (129, v) w := by kernel_rfl

/-! What an assertion of a kind to a kind answers. -/
theorem ta_1_1 (w : World) : (Instr.typeAssert (.iface 52 (.agg #[])) 41 52 true).run Tryz.prog w = .ok (.tuple #[.agg #[], .bool true]) w := by kernel_rfl
theorem ta_1_2 (w : World) : (Instr.typeAssert (.iface 52 (.agg #[])) 41 53 true).run Tryz.prog w = .ok (.tuple #[.agg #[], .bool false]) w := by kernel_rfl
theorem ta_1_3 (w : World) : (Instr.typeAssert (.iface 52 (.agg #[])) 41 57 true).run Tryz.prog w = .ok (.tuple #[.agg #[], .bool false]) w := by kernel_rfl
theorem ta_1_4 (w : World) : (Instr.typeAssert (.iface 52 (.agg #[])) 41 54 true).run Tryz.prog w = .ok (.tuple #[.agg #[], .bool false]) w := by kernel_rfl
theorem ta_1_5 (w : World) : (Instr.typeAssert (.iface 52 (.agg #[])) 41 55 true).run Tryz.prog w = .ok (.tuple #[.agg #[], .bool false]) w := by kernel_rfl
theorem ta_1_6 (w : World) : (Instr.typeAssert (.iface 52 (.agg #[])) 41 56 true).run Tryz.prog w = .ok (.tuple #[.agg #[], .bool false]) w := by kernel_rfl
theorem ta_1_7 (w : World) : (Instr.typeAssert (.iface 52 (.agg #[])) 41 58 true).run Tryz.prog w = .ok (.tuple #[.agg #[], .bool false]) w := by kernel_rfl
theorem ta_2_1 (w : World) : (Instr.typeAssert (.iface 53 (.agg #[])) 41 52 true).run Tryz.prog w = .ok (.tuple #[.agg #[], .bool false]) w := by kernel_rfl
theorem ta_2_2 (w : World) : (Instr.typeAssert (.iface 53 (.agg #[])) 41 53 true).run Tryz.prog w = .ok (.tuple #[.agg #[], .bool true]) w := by kernel_rfl
theorem ta_2_3 (w : World) : (Instr.typeAssert (.iface 53 (.agg #[])) 41 57 true).run Tryz.prog w = .ok (.tuple #[.agg #[], .bool false]) w := by kernel_rfl
theorem ta_2_4 (w : World) : (Instr.typeAssert (.iface 53 (.agg #[])) 41 54 true).run Tryz.prog w = .ok (.tuple #[.agg #[], .bool false]) w := by kernel_rfl
theorem ta_2_5 (w : World) : (Instr.typeAssert (.iface 53 (.agg #[])) 41 55 true).run Tryz.prog w = .ok (.tuple #[.agg #[], .bool false]) w := by kernel_rfl
theorem ta_2_6 (w : World) : (Instr.typeAssert (.iface 53 (.agg #[])) 41 56 true).run Tryz.prog w = .ok (.tuple #[.agg #[], .bool false]) w := by kernel_rfl
theorem ta_2_7 (w : World) : (Instr.typeAssert (.iface 53 (.agg #[])) 41 58 true).run Tryz.prog w = .ok (.tuple #[.agg #[], .bool false]) w := by kernel_rfl
theorem ta_3_1 (w : World) : (Instr.typeAssert (.iface 57 (.agg #[])) 41 52 true).run Tryz.prog w = .ok (.tuple #[.agg #[], .bool false]) w := by kernel_rfl
theorem ta_3_2 (w : World) : (Instr.typeAssert (.iface 57 (.agg #[])) 41 53 true).run Tryz.prog w = .ok (.tuple #[.agg #[], .bool false]) w := by kernel_rfl
theorem ta_3_3 (w : World) : (Instr.typeAssert (.iface 57 (.agg #[])) 41 57 true).run Tryz.prog w = .ok (.tuple #[.agg #[], .bool true]) w := by kernel_rfl
theorem ta_3_4 (w : World) : (Instr.typeAssert (.iface 57 (.agg #[])) 41 54 true).run Tryz.prog w = .ok (.tuple #[.agg #[], .bool false]) w := by kernel_rfl
theorem ta_3_5 (w : World) : (Instr.typeAssert (.iface 57 (.agg #[])) 41 55 true).run Tryz.prog w = .ok (.tuple #[.agg #[], .bool false]) w := by kernel_rfl
theorem ta_3_6 (w : World) : (Instr.typeAssert (.iface 57 (.agg #[])) 41 56 true).run Tryz.prog w = .ok (.tuple #[.agg #[], .bool false]) w := by kernel_rfl
theorem ta_3_7 (w : World) : (Instr.typeAssert (.iface 57 (.agg #[])) 41 58 true).run Tryz.prog w = .ok (.tuple #[.agg #[], .bool false]) w := by kernel_rfl
theorem ta_4_1 (w : World) : (Instr.typeAssert (.iface 54 (.agg #[])) 41 52 true).run Tryz.prog w = .ok (.tuple #[.agg #[], .bool false]) w := by kernel_rfl
theorem ta_4_2 (w : World) : (Instr.typeAssert (.iface 54 (.agg #[])) 41 53 true).run Tryz.prog w = .ok (.tuple #[.agg #[], .bool false]) w := by kernel_rfl
theorem ta_4_3 (w : World) : (Instr.typeAssert (.iface 54 (.agg #[])) 41 57 true).run Tryz.prog w = .ok (.tuple #[.agg #[], .bool false]) w := by kernel_rfl
theorem ta_4_4 (w : World) : (Instr.typeAssert (.iface 54 (.agg #[])) 41 54 true).run Tryz.prog w = .ok (.tuple #[.agg #[], .bool true]) w := by kernel_rfl
theorem ta_4_5 (w : World) : (Instr.typeAssert (.iface 54 (.agg #[])) 41 55 true).run Tryz.prog w = .ok (.tuple #[.agg #[], .bool false]) w := by kernel_rfl
theorem ta_4_6 (w : World) : (Instr.typeAssert (.iface 54 (.agg #[])) 41 56 true).run Tryz.prog w = .ok (.tuple #[.agg #[], .bool false]) w := by kernel_rfl
theorem ta_4_7 (w : World) : (Instr.typeAssert (.iface 54 (.agg #[])) 41 58 true).run Tryz.prog w = .ok (.tuple #[.agg #[], .bool false]) w := by kernel_rfl
theorem ta_5_1 (w : World) : (Instr.typeAssert (.iface 55 (.agg #[])) 41 52 true).run Tryz.prog w = .ok (.tuple #[.agg #[], .bool false]) w := by kernel_rfl
theorem ta_5_2 (w : World) : (Instr.typeAssert (.iface 55 (.agg #[])) 41 53 true).run Tryz.prog w = .ok (.tuple #[.agg #[], .bool false]) w := by kernel_rfl
theorem ta_5_3 (w : World) : (Instr.typeAssert (.iface 55 (.agg #[])) 41 57 true).run Tryz.prog w = .ok (.tuple #[.agg #[], .bool false]) w := by kernel_rfl
theorem ta_5_4 (w : World) : (Instr.typeAssert (.iface 55 (.agg #[])) 41 54 true).run Tryz.prog w = .ok (.tuple #[.agg #[], .bool false]) w := by kernel_rfl
theorem ta_5_5 (w : World) : (Instr.typeAssert (.iface 55 (.agg #[])) 41 55 true).run Tryz.prog w = .ok (.tuple #[.agg #[], .bool true]) w := by kernel_rfl
theorem ta_5_6 (w : World) : (Instr.typeAssert (.iface 55 (.agg #[])) 41 56 true).run Tryz.prog w = .ok (.tuple #[.agg #[], .bool false]) w := by kernel_rfl
theorem ta_5_7 (w : World) : (Instr.typeAssert (.iface 55 (.agg #[])) 41 58 true).run Tryz.prog w = .ok (.tuple #[.agg #[], .bool false]) w := by kernel_rfl
theorem ta_6_1 (w : World) : (Instr.typeAssert (.iface 56 (.agg #[])) 41 52 true).run Tryz.prog w = .ok (.tuple #[.agg #[], .bool false]) w := by kernel_rfl
theorem ta_6_2 (w : World) : (Instr.typeAssert (.iface 56 (.agg #[])) 41 53 true).run Tryz.prog w = .ok (.tuple #[.agg #[], .bool false]) w := by kernel_rfl
theorem ta_6_3 (w : World) : (Instr.typeAssert (.iface 56 (.agg #[])) 41 57 true).run Tryz.prog w = .ok (.tuple #[.agg #[], .bool false]) w := by kernel_rfl
theorem ta_6_4 (w : World) : (Instr.typeAssert (.iface 56 (.agg #[])) 41 54 true).run Tryz.prog w = .ok (.tuple #[.agg #[], .bool false]) w := by kernel_rfl
theorem ta_6_5 (w : World) : (Instr.typeAssert (.iface 56 (.agg #[])) 41 55 true).run Tryz.prog w = .ok (.tuple #[.agg #[], .bool false]) w := by kernel_rfl
theorem ta_6_6 (w : World) : (Instr.typeAssert (.iface 56 (.agg #[])) 41 56 true).run Tryz.prog w = .ok (.tuple #[.agg #[], .bool true]) w := by kernel_rfl
theorem ta_6_7 (w : World) : (Instr.typeAssert (.iface 56 (.agg #[])) 41 58 true).run Tryz.prog w = .ok (.tuple #[.agg #[], .bool false]) w := by kernel_rfl
theorem ta_7_1 (w : World) : (Instr.typeAssert (.iface 58 (.agg #[])) 41 52 true).run Tryz.prog w = .ok (.tuple #[.agg #[], .bool false]) w := by kernel_rfl
theorem ta_7_2 (w : World) : (Instr.typeAssert (.iface 58 (.agg #[])) 41 53 true).run Tryz.prog w = .ok (.tuple #[.agg #[], .bool false]) w := by kernel_rfl
theorem ta_7_3 (w : World) : (Instr.typeAssert (.iface 58 (.agg #[])) 41 57 true).run Tryz.prog w = .ok (.tuple #[.agg #[], .bool false]) w := by kernel_rfl
theorem ta_7_4 (w : World) : (Instr.typeAssert (.iface 58 (.agg #[])) 41 54 true).run Tryz.prog w = .ok (.tuple #[.agg #[], .bool false]) w := by kernel_rfl
theorem ta_7_5 (w : World) : (Instr.typeAssert (.iface 58 (.agg #[])) 41 55 true).run Tryz.prog w = .ok (.tuple #[.agg #[], .bool false]) w := by kernel_rfl
theorem ta_7_6 (w : World) : (Instr.typeAssert (.iface 58 (.agg #[])) 41 56 true).run Tryz.prog w = .ok (.tuple #[.agg #[], .bool false]) w := by kernel_rfl
theorem ta_7_7 (w : World) : (Instr.typeAssert (.iface 58 (.agg #[])) 41 58 true).run Tryz.prog w = .ok (.tuple #[.agg #[], .bool true]) w := by kernel_rfl

theorem kindV_1 : kindV 1 = .iface 52 (.agg #[]) := rfl

theorem words_1 (b : Int) (w : World) :
    Calls Tryz.prog 112 #[.agg #[], .int .i64 b] w fun e w' => e = .returned (.int .i64 (szI 1 b)) ∧ w' = w.alloc (.cells #[] 52) := by
  go_enter Tryz.func112, Tryz.ntmps112
  go_wp2_with (first | (go_at_call 63; refine (words_any _ _ _ _ _ (by omega) (by omega) (by omega)).mono ?_; rintro e w' ⟨rfl, rfl⟩))
  go_ret
  exact ⟨ret_int (wordsI_1 b), rfl⟩

theorem kindV_2 : kindV 2 = .iface 53 (.agg #[]) := rfl

theorem words_2 (b : Int) (w : World) :
    Calls Tryz.prog 115 #[.agg #[], .int .i64 b] w fun e w' => e = .returned (.int .i64 (szI 2 b)) ∧ w' = w.alloc (.cells #[] 53) := by
  go_enter Tryz.func115, Tryz.ntmps115
  go_wp2_with (first | (go_at_call 63; refine (words_any _ _ _ _ _ (by omega) (by omega) (by omega)).mono ?_; rintro e w' ⟨rfl, rfl⟩))
  go_ret
  exact ⟨ret_int (wordsI_2 b), rfl⟩

theorem kindV_3 : kindV 3 = .iface 57 (.agg #[]) := rfl

theorem words_3 (b : Int) (w : World) :
    Calls Tryz.prog 47 #[.agg #[], .int .i64 b] w fun e w' => e = .returned (.int .i64 (szI 3 b)) ∧ w' = w.alloc (.cells #[] 57) := by
  go_enter Tryz.func47, Tryz.ntmps47
  go_wp2_with (first | (go_at_call 63; refine (words_any _ _ _ _ _ (by omega) (by omega) (by omega)).mono ?_; rintro e w' ⟨rfl, rfl⟩))
  go_ret
  exact ⟨ret_int (wordsI_3 b), rfl⟩

theorem kindV_4 : kindV 4 = .iface 54 (.agg #[]) := rfl

theorem words_4 (b : Int) (w : World) :
    Calls Tryz.prog 118 #[.agg #[], .int .i64 b] w fun e w' => e = .returned (.int .i64 (szI 4 b)) ∧ w' = w.alloc (.cells #[] 54) := by
  go_enter Tryz.func118, Tryz.ntmps118
  go_wp2_with (first | (go_at_call 63; refine (words_any _ _ _ _ _ (by omega) (by omega) (by omega)).mono ?_; rintro e w' ⟨rfl, rfl⟩))
  go_ret
  exact ⟨ret_int (wordsI_4 b), rfl⟩

theorem kindV_5 : kindV 5 = .iface 55 (.agg #[]) := rfl

theorem words_5 (b : Int) (w : World) :
    Calls Tryz.prog 121 #[.agg #[], .int .i64 b] w fun e w' => e = .returned (.int .i64 (szI 5 b)) ∧ w' = w.alloc (.cells #[] 55) := by
  go_enter Tryz.func121, Tryz.ntmps121
  go_wp2_with (first | (go_at_call 63; refine (words_any _ _ _ _ _ (by omega) (by omega) (by omega)).mono ?_; rintro e w' ⟨rfl, rfl⟩))
  go_ret
  exact ⟨ret_int (wordsI_5 b), rfl⟩

theorem kindV_6 : kindV 6 = .iface 56 (.agg #[]) := rfl

theorem words_6 (b : Int) (w : World) :
    Calls Tryz.prog 124 #[.agg #[], .int .i64 b] w fun e w' => e = .returned (.int .i64 (szI 6 b)) ∧ w' = w.alloc (.cells #[] 56) := by
  go_enter Tryz.func124, Tryz.ntmps124
  go_wp2_with (first | (go_at_call 63; refine (words_any _ _ _ _ _ (by omega) (by omega) (by omega)).mono ?_; rintro e w' ⟨rfl, rfl⟩))
  go_ret
  exact ⟨ret_int (wordsI_6 b), rfl⟩

theorem kindV_7 : kindV 7 = .iface 58 (.agg #[]) := rfl

theorem words_7 (b : Int) (w : World) :
    Calls Tryz.prog 129 #[.agg #[], .int .i64 b] w fun e w' => e = .returned (.int .i64 (szI 7 b)) ∧ w' = w.alloc (.cells #[] 58) := by
  go_enter Tryz.func129, Tryz.ntmps129
  go_wp2
  go_ret
  exact ⟨rfl, rfl⟩

theorem kindV_none {k : Int} (h1 : ¬ k = 1) (h2 : ¬ k = 2) (h3 : ¬ k = 3) (h4 : ¬ k = 4) (h5 : ¬ k = 5) (h6 : ¬ k = 6) (h7 : ¬ k = 7) : kindV k = .nilIface := by simp only [kindV, h1, h2, h3, h4, h5, h6, h7, if_false]

theorem rights_1 (w : World) :
    Calls Tryz.prog 110 #[.agg #[]] w fun e w' => e = .returned (.int .i64 (maxI 1)) ∧ w' = w.alloc (.cells #[] 52) := by
  go_enter Tryz.func110, Tryz.ntmps110
  go_wp2
  go_ret
  exact ⟨rfl, rfl⟩

theorem rights_2 (w : World) :
    Calls Tryz.prog 113 #[.agg #[]] w fun e w' => e = .returned (.int .i64 (maxI 2)) ∧ w' = w.alloc (.cells #[] 53) := by
  go_enter Tryz.func113, Tryz.ntmps113
  go_wp2
  go_ret
  exact ⟨rfl, rfl⟩

theorem rights_3 (w : World) :
    Calls Tryz.prog 125 #[.agg #[]] w fun e w' => e = .returned (.int .i64 (maxI 3)) ∧ w' = w.alloc (.cells #[] 57) := by
  go_enter Tryz.func125, Tryz.ntmps125
  go_wp2
  go_ret
  exact ⟨rfl, rfl⟩

theorem rights_4 (w : World) :
    Calls Tryz.prog 116 #[.agg #[]] w fun e w' => e = .returned (.int .i64 (maxI 4)) ∧ w' = w.alloc (.cells #[] 54) := by
  go_enter Tryz.func116, Tryz.ntmps116
  go_wp2
  go_ret
  exact ⟨rfl, rfl⟩

theorem rights_5 (w : World) :
    Calls Tryz.prog 119 #[.agg #[]] w fun e w' => e = .returned (.int .i64 (maxI 5)) ∧ w' = w.alloc (.cells #[] 55) := by
  go_enter Tryz.func119, Tryz.ntmps119
  go_wp2
  go_ret
  exact ⟨rfl, rfl⟩

theorem rights_6 (w : World) :
    Calls Tryz.prog 122 #[.agg #[]] w fun e w' => e = .returned (.int .i64 (maxI 6)) ∧ w' = w.alloc (.cells #[] 56) := by
  go_enter Tryz.func122, Tryz.ntmps122
  go_wp2
  go_ret
  exact ⟨rfl, rfl⟩

theorem rights_7 (w : World) :
    Calls Tryz.prog 127 #[.agg #[]] w fun e w' => e = .returned (.int .i64 (maxI 7)) ∧ w' = w.alloc (.cells #[] 58) := by
  go_enter Tryz.func127, Tryz.ntmps127
  go_wp2
  go_ret
  exact ⟨rfl, rfl⟩

theorem sizeSpecKind_any (k b : Int) (w : World) :
    Calls Tryz.prog 38 #[.int .i64 k, .int .i64 b] w fun e w' => e = .returned (.int .i64 (szI k b)) ∧ w' = w := by
  by_cases g : bitsB k b = true
  · have g' := g
    simp only [bitsB, decide_eq_true_eq] at g'
    obtain ⟨g1, g2, g3, g4, g5, g6⟩ := g'
    have hk : k = 1 ∨ k = 2 ∨ k = 3 ∨ k = 4 ∨ k = 5 ∨ k = 6 ∨ k = 7 := by omega
    clear g1 g2
    rcases hk with h | h | h | h | h | h | h
    · subst h
      obtain ⟨g31, g32⟩ := g3 rfl
      clear g3 g4 g5 g6
      go_enter Tryz.func38, Tryz.ntmps38
      go_wp2_with (first | (go_at_call 34; refine (bits_any _ _ _).mono ?_; rintro e w' ⟨rfl, rfl⟩) | (go_at_call 54; refine (sizeSpec_any _ _).mono ?_; rintro e w' ⟨rfl, rfl⟩))
      go_ret
      exact ⟨ret_int (by unfold szI; rw [if_pos rfl, if_pos ⟨g31, g32⟩]), rfl⟩
    · subst h
      obtain ⟨g41, g42⟩ := g4 rfl
      clear g3 g4 g5 g6
      go_enter Tryz.func38, Tryz.ntmps38
      go_wp2_with (first | (go_at_call 34; refine (bits_any _ _ _).mono ?_; rintro e w' ⟨rfl, rfl⟩) | (go_at_call 54; refine (sizeSpec_any _ _).mono ?_; rintro e w' ⟨rfl, rfl⟩))
      go_ret
      exact ⟨ret_int (size4 b g41 g42), rfl⟩
    iterate 3
      · subst h
        have hb : b = 0 := g6 (by omega)
        subst hb
        clear g3 g4 g5 g6
        go_enter Tryz.func38, Tryz.ntmps38
        go_wp2_with (first | (go_at_call 34; refine (bits_any _ _ _).mono ?_; rintro e w' ⟨rfl, rfl⟩))
        go_ret
        exact ⟨rfl, rfl⟩
    · subst h
      obtain ⟨g51, g52⟩ := g5 rfl
      clear g3 g4 g5 g6
      go_enter Tryz.func38, Tryz.ntmps38
      go_wp2_with (first | (go_at_call 34; refine (bits_any _ _ _).mono ?_; rintro e w' ⟨rfl, rfl⟩) | (go_at_call 54; refine (sizeSpec_any _ _).mono ?_; rintro e w' ⟨rfl, rfl⟩))
      go_ret
      exact ⟨ret_int (by unfold szI; simp [g51, g52]), rfl⟩
    · subst h
      clear g3 g4 g5 g6
      go_enter Tryz.func38, Tryz.ntmps38
      go_wp2_with (first | (go_at_call 34; refine (bits_any _ _ _).mono ?_; rintro e w' ⟨rfl, rfl⟩))
      go_ret
      exact ⟨rfl, rfl⟩
  · have g' : bitsB k b = false := by simpa using g
    have hz : Hid (szI k b = 0) := szI_no g'
    clear g
    go_enter Tryz.func38, Tryz.ntmps38
    go_wp2_with (first | (go_at_call 34; refine (bits_any _ _ _).mono ?_; rintro e w' ⟨rfl, rfl⟩))
    go_ret
    exact ⟨ret_int hz.out.symm, rfl⟩

end Go.Proofs.YtaafbgngehhbeaaGreatDoor
