/-
  What the methods of a range answer: none, end, rest and rangeOf of the program, each at every range of at most 4096 and 4096 words.
-/
import Derived.Test.YtjiignkappabpaaDoorCore
import Derived.Below
import Derived.Laws.ResultCell
import Derived.Deep.RegionHeld3
import Derived.WalkLawsBesides
namespace Go.Proofs.YtjiignkappabpaaDoor
open Go.ChangeShapes Go.WideShapes Go.ChangeAt Go.RowKit

theorem none_yes (w : World) :
    Calls Tryd.prog 58 #[.agg #[.int .u32 0, .int .u32 0]] w fun e w' => e = .returned (.bool true) ∧ w' = w.alloc (.cells #[.int .u32 0, .int .u32 0] 128) := by
  go_enter Tryd.func58, Tryd.ntmps58
  go_wp2
  go_ret
  exact ⟨rfl, rfl⟩

theorem none_no (x y : Int) (w : World) (h : 1 ≤ y) :
    Calls Tryd.prog 58 #[.agg #[.int .u32 x, .int .u32 y]] w fun e w' => e = .returned (.bool false) ∧ w' = w.alloc (.cells #[.int .u32 x, .int .u32 y] 128) := by
  have hy : (y == 0) = false := by simp; omega
  have hy' : y ≠ 0 := by omega
  go_enter Tryd.func58, Tryd.ntmps58
  go_wp2
  go_ret
  exact ⟨rfl, rfl⟩

theorem end_any (x y : Int) (w : World) (hx0 : 0 ≤ x) (hx : x ≤ 4096) (hy0 : 0 ≤ y) (hy : y ≤ 4096) :
    Calls Tryd.prog 60 #[.agg #[.int .u32 x, .int .u32 y]] w fun e w' => e = .returned (.int .u32 (x + y)) ∧ w' = w.alloc (.cells #[.int .u32 x, .int .u32 y] 128) := by
  go_enter Tryd.func60, Tryd.ntmps60
  go_wp2
  go_ret
  exact ⟨rfl, rfl⟩

theorem rangeOf_fine (a s : Int) (w : World) (h : fineB a s = true) :
    Calls Tryd.prog 57 #[.int .i64 a, .int .i64 s] w fun e w' => e = .returned (.agg #[.int .u32 a, .int .u32 s]) ∧ w' = w.alloc (.cells #[.int .u32 a, .int .u32 s] 128) := by
  obtain ⟨h1, h2, h3, h4⟩ := fineB_true h
  clear h
  go_enter Tryd.func57, Tryd.ntmps57
  go_wp2
  exact bodyPost_ret (v := .agg #[.int .u32 a, .int .u32 s]) (by simp [results, Tryd.results57, go_sem]) rfl ⟨rfl, rfl⟩

theorem rangeOf_no (a s : Int) (w : World) (h : fineB a s = false) :
    Calls Tryd.prog 57 #[.int .i64 a, .int .i64 s] w fun e w' => e = .returned (.agg #[.int .u32 0, .int .u32 0]) ∧ w' = w.alloc (.cells #[.int .u32 0, .int .u32 0] 128) := by
  have h' : ¬ (0 ≤ a ∧ 0 < s ∧ a ≤ 4096 ∧ s ≤ 4096) := by simpa [fineB] using h
  clear h
  by_cases h1 : a < 0 <;> by_cases h2 : 4096 < a <;> by_cases h3 : s < 1 <;> by_cases h4 : 4096 < s
  all_goals try (exfalso; omega)
  all_goals
    clear h'
    go_enter Tryd.func57, Tryd.ntmps57
    go_wp2
    exact bodyPost_ret (v := .agg #[.int .u32 0, .int .u32 0]) (by simp [results, Tryd.results57, go_sem]) rfl ⟨rfl, rfl⟩

/-- The words that two ranges share. -/
def comA (x y z t : Int) : Int := if min (x + y) (z + t) ≤ max x z then 0 else max x z
def comS (x y z t : Int) : Int := if min (x + y) (z + t) ≤ max x z then 0 else min (x + y) (z + t) - max x z

theorem com_is {a b p q : Int} (ha : a = p) (hb : b = q) : Ending.returned (.agg #[.int .u32 p, .int .u32 q]) = .returned (.agg #[.int .u32 a, .int .u32 b]) := by rw [ha, hb]

end Go.Proofs.YtjiignkappabpaaDoor
