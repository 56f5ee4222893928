/-
  What the methods of a range answer: none, end, rest and rangeOf of the program, each at every range of at most 4096 and 4096 words.
-/
import Derived.Test.YthmambhagheocaaGreatDoorCore
import Derived.Below
import Derived.Laws.ResultCell
import Derived.Deep.RegionHeld3
import Derived.WalkLawsBesides
namespace Go.Proofs.YthmambhagheocaaGreatDoor
open Go.ChangeShapes Go.WideShapes Go.ChangeAt Go.RowKit

theorem none_yes (w : World) :
    Calls Tryz.prog 63 #[.agg #[.int .u32 0, .int .u32 0]] w fun e w' => e = .returned (.bool true) ∧ w' = w.alloc (.cells #[.int .u32 0, .int .u32 0] 88) := by
  go_enter Tryz.func63, Tryz.ntmps63
  go_wp2
  go_ret
  exact ⟨rfl, rfl⟩

theorem none_no (x y : Int) (w : World) (h : 1 ≤ y) :
    Calls Tryz.prog 63 #[.agg #[.int .u32 x, .int .u32 y]] w fun e w' => e = .returned (.bool false) ∧ w' = w.alloc (.cells #[.int .u32 x, .int .u32 y] 88) := by
  have hy : (y == 0) = false := by simp; omega
  have hy' : y ≠ 0 := by omega
  go_enter Tryz.func63, Tryz.ntmps63
  go_wp2
  go_ret
  exact ⟨rfl, rfl⟩

theorem end_any (x y : Int) (w : World) (hx0 : 0 ≤ x) (hx : x ≤ 4096) (hy0 : 0 ≤ y) (hy : y ≤ 4096) :
    Calls Tryz.prog 83 #[.agg #[.int .u32 x, .int .u32 y]] w fun e w' => e = .returned (.int .u32 (x + y)) ∧ w' = w.alloc (.cells #[.int .u32 x, .int .u32 y] 88) := by
  go_enter Tryz.func83, Tryz.ntmps83
  go_wp2
  go_ret
  exact ⟨rfl, rfl⟩

theorem rangeOf_fine (a s : Int) (w : World) (h : fineB a s = true) :
    Calls Tryz.prog 62 #[.int .i64 a, .int .i64 s] w fun e w' => e = .returned (.agg #[.int .u32 a, .int .u32 s]) ∧ w' = w.alloc (.cells #[.int .u32 a, .int .u32 s] 88) := by
  obtain ⟨h1, h2, h3, h4⟩ := fineB_true h
  clear h
  go_enter Tryz.func62, Tryz.ntmps62
  go_wp2
  exact bodyPost_ret (v := .agg #[.int .u32 a, .int .u32 s]) (by simp [results, Tryz.results62, go_sem]) rfl ⟨rfl, rfl⟩

theorem rangeOf_no (a s : Int) (w : World) (h : fineB a s = false) :
    Calls Tryz.prog 62 #[.int .i64 a, .int .i64 s] w fun e w' => e = .returned (.agg #[.int .u32 0, .int .u32 0]) ∧ w' = w.alloc (.cells #[.int .u32 0, .int .u32 0] 88) := by
  have h' : ¬ (0 ≤ a ∧ 0 < s ∧ a ≤ 4096 ∧ s ≤ 4096) := by simpa [fineB] using h
  clear h
  by_cases h1 : a < 0 <;> by_cases h2 : 4096 < a <;> by_cases h3 : s < 1 <;> by_cases h4 : 4096 < s
  all_goals try (exfalso; omega)
  all_goals
    clear h'
    go_enter Tryz.func62, Tryz.ntmps62
    go_wp2
    exact bodyPost_ret (v := .agg #[.int .u32 0, .int .u32 0]) (by simp [results, Tryz.results62, go_sem]) rfl ⟨rfl, rfl⟩

/-- The words that two ranges share. -/
def comA (x y z t : Int) : Int := if min (x + y) (z + t) ≤ max x z then 0 else max x z
def comS (x y z t : Int) : Int := if min (x + y) (z + t) ≤ max x z then 0 else min (x + y) (z + t) - max x z

theorem com_is {a b p q : Int} (ha : a = p) (hb : b = q) : Ending.returned (.agg #[.int .u32 p, .int .u32 q]) = .returned (.agg #[.int .u32 a, .int .u32 b]) := by rw [ha, hb]

set_option maxHeartbeats 1000000 in
theorem common_a (x y z t : Int) (w : World) (hx0 : 0 ≤ x) (hx : x ≤ 4096) (hy0 : 0 ≤ y) (hy : y ≤ 4096) (hz0 : 0 ≤ z) (hz : z ≤ 4096) (ht0 : 0 ≤ t) (ht : t ≤ 4096)
    (h1 : x < z) :
    Calls Tryz.prog 75 #[.agg #[.int .u32 x, .int .u32 y], .agg #[.int .u32 z, .int .u32 t]] w fun e w' => e = .returned (.agg #[.int .u32 (comA x y z t), .int .u32 (comS x y z t)]) ∧ Below w.heap.size w w' := by
  go_enter Tryz.func75, Tryz.ntmps75
  go_wp2
  go_region_held3 (fun w' => w'.cell? ⟨w.heap.size, 0, none⟩ = some (.int .u32 x) ∧ w'.cell? ⟨w.heap.size, 1, none⟩ = some (.int .u32 y) ∧ w'.cell? ⟨w.heap.size + 1, 0, none⟩ = some (.int .u32 z) ∧ w'.cell? ⟨w.heap.size + 1, 1, none⟩ = some (.int .u32 t)) (go_simp) (first | (go_at_call 83; refine (end_any _ _ _ (by omega) (by omega) (by omega) (by omega)).mono ?_; rintro e w1 ⟨rfl, rfl⟩))
  all_goals go_wp2
  all_goals first | exact bodyPost_ret (v := .agg #[.int .u32 0, .int .u32 0]) (by simp [results, Tryz.results75, go_sem]) rfl ⟨com_is (by unfold comA; omega) (by unfold comS; omega), by repeat (first | exact Below.refl _ _ | apply Below.drew | (refine Below.alloc ?_ (by simp; try omega) _))⟩ | exact bodyPost_ret (v := .agg #[.int .u32 z, .int .u32 (x + y - z)]) (by simp [results, Tryz.results75, go_sem]) rfl ⟨com_is (by unfold comA; omega) (by unfold comS; omega), by repeat (first | exact Below.refl _ _ | apply Below.drew | (refine Below.alloc ?_ (by simp; try omega) _))⟩ | exact bodyPost_ret (v := .agg #[.int .u32 z, .int .u32 (z + t - z)]) (by simp [results, Tryz.results75, go_sem]) rfl ⟨com_is (by unfold comA; omega) (by unfold comS; omega), by repeat (first | exact Below.refl _ _ | apply Below.drew | (refine Below.alloc ?_ (by simp; try omega) _))⟩ | exact bodyPost_ret (v := .agg #[.int .u32 z, .int .u32 t]) (by simp [results, Tryz.results75, go_sem]) rfl ⟨com_is (by unfold comA; omega) (by unfold comS; omega), by repeat (first | exact Below.refl _ _ | apply Below.drew | (refine Below.alloc ?_ (by simp; try omega) _))⟩

set_option maxHeartbeats 1000000 in
theorem common_b (x y z t : Int) (w : World) (hx0 : 0 ≤ x) (hx : x ≤ 4096) (hy0 : 0 ≤ y) (hy : y ≤ 4096) (hz0 : 0 ≤ z) (hz : z ≤ 4096) (ht0 : 0 ≤ t) (ht : t ≤ 4096)
    (h1 : ¬ x < z) :
    Calls Tryz.prog 75 #[.agg #[.int .u32 x, .int .u32 y], .agg #[.int .u32 z, .int .u32 t]] w fun e w' => e = .returned (.agg #[.int .u32 (comA x y z t), .int .u32 (comS x y z t)]) ∧ Below w.heap.size w w' := by
  go_enter Tryz.func75, Tryz.ntmps75
  go_wp2
  go_region_held3 (fun w' => w'.cell? ⟨w.heap.size, 0, none⟩ = some (.int .u32 x) ∧ w'.cell? ⟨w.heap.size, 1, none⟩ = some (.int .u32 y) ∧ w'.cell? ⟨w.heap.size + 1, 0, none⟩ = some (.int .u32 z) ∧ w'.cell? ⟨w.heap.size + 1, 1, none⟩ = some (.int .u32 t)) (go_simp) (first | (go_at_call 83; refine (end_any _ _ _ (by omega) (by omega) (by omega) (by omega)).mono ?_; rintro e w1 ⟨rfl, rfl⟩))
  all_goals go_wp2
  all_goals first | exact bodyPost_ret (v := .agg #[.int .u32 0, .int .u32 0]) (by simp [results, Tryz.results75, go_sem]) rfl ⟨com_is (by unfold comA; omega) (by unfold comS; omega), by repeat (first | exact Below.refl _ _ | apply Below.drew | (refine Below.alloc ?_ (by simp; try omega) _))⟩ | exact bodyPost_ret (v := .agg #[.int .u32 x, .int .u32 (x + y - x)]) (by simp [results, Tryz.results75, go_sem]) rfl ⟨com_is (by unfold comA; omega) (by unfold comS; omega), by repeat (first | exact Below.refl _ _ | apply Below.drew | (refine Below.alloc ?_ (by simp; try omega) _))⟩ | exact bodyPost_ret (v := .agg #[.int .u32 x, .int .u32 y]) (by simp [results, Tryz.results75, go_sem]) rfl ⟨com_is (by unfold comA; omega) (by unfold comS; omega), by repeat (first | exact Below.refl _ _ | apply Below.drew | (refine Below.alloc ?_ (by simp; try omega) _))⟩ | exact bodyPost_ret (v := .agg #[.int .u32 x, .int .u32 (z + t - x)]) (by simp [results, Tryz.results75, go_sem]) rfl ⟨com_is (by unfold comA; omega) (by unfold comS; omega), by repeat (first | exact Below.refl _ _ | apply Below.drew | (refine Below.alloc ?_ (by simp; try omega) _))⟩

theorem common_any (x y z t : Int) (w : World) (hx0 : 0 ≤ x) (hx : x ≤ 4096) (hy0 : 0 ≤ y) (hy : y ≤ 4096) (hz0 : 0 ≤ z) (hz : z ≤ 4096) (ht0 : 0 ≤ t) (ht : t ≤ 4096) :
    Calls Tryz.prog 75 #[.agg #[.int .u32 x, .int .u32 y], .agg #[.int .u32 z, .int .u32 t]] w fun e w' => e = .returned (.agg #[.int .u32 (comA x y z t), .int .u32 (comS x y z t)]) ∧ Below w.heap.size w w' := by
  by_cases h1 : x < z
  · exact common_a x y z t w hx0 hx hy0 hy hz0 hz ht0 ht h1
  · exact common_b x y z t w hx0 hx hy0 hy hz0 hz ht0 ht h1

end Go.Proofs.YthmambhagheocaaGreatDoor
