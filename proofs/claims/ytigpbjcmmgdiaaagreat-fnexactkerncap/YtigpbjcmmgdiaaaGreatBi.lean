/-
  Texts of the proof, put together: Impl, Within, OkImpl.
-/
import Derived.Test.YtigpbjcmmgdiaaaGreatBa
import Derived.Test.YtigpbjcmmgdiaaaGreatBs
/-
 What WordUp, WordMeet and WordIn of the program answer, each at every argument.
-/
namespace Go.Proofs.YtigpbjcmmgdiaaaGreat
open Go.ChangeShapes Go.WideShapes Go.ChangeAt Go.RowKit
set_option linter.unusedVariables false

theorem common_is (x y z t p q : Int) (w : World) (hx0 : 0 ≤ x) (hx : x ≤ 4096) (hy0 : 0 ≤ y) (hy : y ≤ 4096) (hz0 : 0 ≤ z) (hz : z ≤ 4096) (ht0 : 0 ≤ t) (ht : t ≤ 4096) (hp : Hid (comA x y z t = p)) (hq : Hid (comS x y z t = q)) :
  Calls Tryz.prog 114 #[.agg #[.int .u32 x, .int .u32 y], .agg #[.int .u32 z, .int .u32 t]] w fun e w' => e = .returned (.agg #[.int .u32 p, .int .u32 q]) ∧ Below w.heap.size w w' := by
 have := common_any x y z t w hx0 hx hy0 hy hz0 hz ht0 ht
 rw [hp.out, hq.out] at this
 exact this

end Go.Proofs.YtigpbjcmmgdiaaaGreat
/-
 What WordIn of the program answers, at every argument.
-/
namespace Go.Proofs.YtigpbjcmmgdiaaaGreat
open Go.ChangeShapes Go.WideShapes Go.ChangeAt Go.RowKit
set_option linter.unusedVariables false

set_option maxHeartbeats 1000000 in
theorem withinM_no (b t : Int) (w : World) :
  Calls Tryz.prog 107 #[.agg #[.int .u32 0, .int .u32 0], .agg #[.int .u32 b, .int .u32 t]] w fun e w' => e = .returned (.bool false) ∧ Below w.heap.size w w' := by
 go_enter Tryz.func107, Tryz.ntmps107
 go_wp2
 refine wp_region_any (by kernel_rfl) ?_
 change wpAny _ _ _ _ _ _ _ (World.drew _)
 refine wpAny_ready (rs := [0]) (by kernel_rfl) (by simp) ?_
 refine AllReady.cons rfl (fun K hK => ?_) AllReady.nil
 go_simp
 refine hK _ _ ?_; clear hK K
 refine wpAny_ready (rs := [1]) (by kernel_rfl) (by simp) ?_
 refine AllReady.cons rfl (fun K hK => ?_) AllReady.nil
 go_simp
 go_wp2_with (first | (go_at_call 115; refine (none_yes _).mono ?_; rintro e w1 ⟨rfl, rfl⟩))
 first | (refine hK _ _ ?_; clear hK K) | skip
 refine wpAny_ready (rs := [2]) (by kernel_rfl) (by simp) ?_
 refine AllReady.cons rfl (fun K hK => ?_) AllReady.nil
 go_simp
 refine hK _ _ ?_; clear hK K
 refine wpAny_ready (rs := [3]) (by kernel_rfl) (by simp) ?_
 refine AllReady.cons rfl (fun K hK => ?_) AllReady.nil
 go_simp
 refine hK _ _ ?_; clear hK K
 refine wpAny_take (i := 4) (v := undef) rfl (by kernel_rfl) (by kernel_rfl) (by kernel_rfl) (fun _ _ _ h => h) (Or.inr ⟨by rfl, rfl⟩) ?_
 refine wpAny_take (i := 5) (v := undef) rfl (by kernel_rfl) (by kernel_rfl) (by kernel_rfl) (fun _ _ _ h => h) (Or.inr ⟨by rfl, rfl⟩) ?_
 refine wpAny_take (i := 6) (v := undef) rfl (by kernel_rfl) (by kernel_rfl) (by kernel_rfl) (fun _ _ _ h => h) (Or.inr ⟨by rfl, rfl⟩) ?_
 refine wpAny_take (i := 7) (v := undef) rfl (by kernel_rfl) (by kernel_rfl) (by kernel_rfl) (fun _ _ _ h => h) (Or.inr ⟨by rfl, rfl⟩) ?_
 refine wpAny_take (i := 8) (v := undef) rfl (by kernel_rfl) (by kernel_rfl) (by kernel_rfl) (fun _ _ _ h => h) (Or.inr ⟨by rfl, rfl⟩) ?_
 refine wpAny_ready (rs := [9]) (by kernel_rfl) (by simp) ?_
 refine AllReady.cons rfl (fun K hK => ?_) AllReady.nil
 go_simp
 refine hK _ _ ?_; clear hK K
 refine wpAny_ready (rs := [10]) (by kernel_rfl) (by simp) ?_
 refine AllReady.cons rfl (fun K hK => ?_) AllReady.nil
 go_simp
 refine hK _ _ ?_; clear hK K
 refine wpAny_done (by kernel_rfl) ?_ _
 go_wp2
 go_ret
 exact ⟨rfl, by repeat (first | exact Below.refl _ _ | apply Below.drew | (refine Below.alloc ?_ (by simp; try omega) _))⟩

set_option maxHeartbeats 1000000 in
theorem withinM_a (a s b t : Int) (w : World) (h1 : 0 ≤ a) (h2 : 0 < s) (h3 : a ≤ 4096) (h4 : s ≤ 4096) (k1 : 0 ≤ b) (k2 : 0 ≤ t) (k3 : b ≤ 4096) (k4 : t ≤ 4096)
  (hp : Hid (comA a s b t = a)) (hq : Hid (comS a s b t = s)) :
  Calls Tryz.prog 107 #[.agg #[.int .u32 a, .int .u32 s], .agg #[.int .u32 b, .int .u32 t]] w fun e w' => e = .returned (.bool true) ∧ Below w.heap.size w w' := by
 go_enter Tryz.func107, Tryz.ntmps107
 go_wp2
 go_region_held3 (fun w' => (w'.cell? ⟨w.heap.size, 0, none⟩ = some (.int .u32 a) ∧ w'.cell? ⟨w.heap.size, 1, none⟩ = some (.int .u32 s)) ∧ (w'.cell? ⟨w.heap.size + 1, 0, none⟩ = some (.int .u32 b) ∧ w'.cell? ⟨w.heap.size + 1, 1, none⟩ = some (.int .u32 t)) ∧ w.heap.size + 1 < w'.heap.size) (go_simp) (first | (go_at_call 115; refine (none_no _ _ _ (by omega)).mono ?_; rintro e w1 ⟨rfl, rfl⟩) | (go_at_call 114; refine (common_is _ _ _ _ a s _ (by omega) (by omega) (by omega) (by omega) (by omega) (by omega) (by omega) (by omega) hp hq).mono ?_; rintro e w1 ⟨rfl, hb⟩; obtain ⟨hc, hf⟩ := bcell hb; have hz : w.heap.size + 1 < w1.heap.size := (by have := hb.size; simp at this; omega)))
 all_goals go_wp2
 all_goals go_ret
 all_goals exact ⟨rfl, by refine Below.trans ?_ (hb.mono (by simp; omega)); repeat (first | exact Below.refl _ _ | apply Below.drew | (refine Below.alloc ?_ (by simp; try omega) _))⟩

set_option maxHeartbeats 1000000 in
theorem withinM_b (a s b t p q : Int) (w : World) (h1 : 0 ≤ a) (h2 : 0 < s) (h3 : a ≤ 4096) (h4 : s ≤ 4096) (k1 : 0 ≤ b) (k2 : 0 ≤ t) (k3 : b ≤ 4096) (k4 : t ≤ 4096)
  (hp : Hid (comA a s b t = p)) (hq : Hid (comS a s b t = q)) (hpa : (p == a) = false) (hpa1 : ¬ p = a) :
  Calls Tryz.prog 107 #[.agg #[.int .u32 a, .int .u32 s], .agg #[.int .u32 b, .int .u32 t]] w fun e w' => e = .returned (.bool false) ∧ Below w.heap.size w w' := by
 go_enter Tryz.func107, Tryz.ntmps107
 go_wp2
 go_region_held3 (fun w' => (w'.cell? ⟨w.heap.size, 0, none⟩ = some (.int .u32 a) ∧ w'.cell? ⟨w.heap.size, 1, none⟩ = some (.int .u32 s)) ∧ (w'.cell? ⟨w.heap.size + 1, 0, none⟩ = some (.int .u32 b) ∧ w'.cell? ⟨w.heap.size + 1, 1, none⟩ = some (.int .u32 t)) ∧ w.heap.size + 1 < w'.heap.size) (go_simp) (first | (go_at_call 115; refine (none_no _ _ _ (by omega)).mono ?_; rintro e w1 ⟨rfl, rfl⟩) | (go_at_call 114; refine (common_is _ _ _ _ p q _ (by omega) (by omega) (by omega) (by omega) (by omega) (by omega) (by omega) (by omega) hp hq).mono ?_; rintro e w1 ⟨rfl, hb⟩; obtain ⟨hc, hf⟩ := bcell hb; have hz : w.heap.size + 1 < w1.heap.size := (by have := hb.size; simp at this; omega)))
 all_goals go_wp2
 all_goals go_ret
 all_goals exact ⟨rfl, by refine Below.trans ?_ (hb.mono (by simp; omega)); repeat (first | exact Below.refl _ _ | apply Below.drew | (refine Below.alloc ?_ (by simp; try omega) _))⟩

set_option maxHeartbeats 1000000 in
theorem withinM_c (a s b t q : Int) (w : World) (h1 : 0 ≤ a) (h2 : 0 < s) (h3 : a ≤ 4096) (h4 : s ≤ 4096) (k1 : 0 ≤ b) (k2 : 0 ≤ t) (k3 : b ≤ 4096) (k4 : t ≤ 4096)
  (hp : Hid (comA a s b t = a)) (hq : Hid (comS a s b t = q)) (hqs : (q == s) = false) (hqs1 : ¬ q = s) :
  Calls Tryz.prog 107 #[.agg #[.int .u32 a, .int .u32 s], .agg #[.int .u32 b, .int .u32 t]] w fun e w' => e = .returned (.bool false) ∧ Below w.heap.size w w' := by
 go_enter Tryz.func107, Tryz.ntmps107
 go_wp2
 go_region_held3 (fun w' => (w'.cell? ⟨w.heap.size, 0, none⟩ = some (.int .u32 a) ∧ w'.cell? ⟨w.heap.size, 1, none⟩ = some (.int .u32 s)) ∧ (w'.cell? ⟨w.heap.size + 1, 0, none⟩ = some (.int .u32 b) ∧ w'.cell? ⟨w.heap.size + 1, 1, none⟩ = some (.int .u32 t)) ∧ w.heap.size + 1 < w'.heap.size) (go_simp) (first | (go_at_call 115; refine (none_no _ _ _ (by omega)).mono ?_; rintro e w1 ⟨rfl, rfl⟩) | (go_at_call 114; refine (common_is _ _ _ _ a q _ (by omega) (by omega) (by omega) (by omega) (by omega) (by omega) (by omega) (by omega) hp hq).mono ?_; rintro e w1 ⟨rfl, hb⟩; obtain ⟨hc, hf⟩ := bcell hb; have hz : w.heap.size + 1 < w1.heap.size := (by have := hb.size; simp at this; omega)))
 all_goals go_wp2
 all_goals go_ret
 all_goals exact ⟨rfl, by refine Below.trans ?_ (hb.mono (by simp; omega)); repeat (first | exact Below.refl _ _ | apply Below.drew | (refine Below.alloc ?_ (by simp; try omega) _))⟩

/-- One range in another, as numbers. -/
theorem withinM_any (a s b t : Int) (w : World) (h1 : 0 ≤ a) (h2 : 0 < s) (h3 : a ≤ 4096) (h4 : s ≤ 4096) (k1 : 0 ≤ b) (k2 : 0 ≤ t) (k3 : b ≤ 4096) (k4 : t ≤ 4096) :
  Calls Tryz.prog 107 #[.agg #[.int .u32 a, .int .u32 s], .agg #[.int .u32 b, .int .u32 t]] w fun e w' => e = .returned (.bool (decide (b ≤ a ∧ a + s ≤ b + t))) ∧ Below w.heap.size w w' := by
 by_cases g : b ≤ a ∧ a + s ≤ b + t
 ·rw [decide_eq_true g]
  exact withinM_a a s b t w h1 h2 h3 h4 k1 k2 k3 k4 (by unfold Hid comA; rw [if_neg (by omega)]; omega) (by unfold Hid comS; rw [if_neg (by omega)]; omega)
 ·rw [decide_eq_false g]
  by_cases e1 : comA a s b t = a
  ·have e2 : ¬ comS a s b t = s := by
    unfold comA at e1; unfold comS
    split at e1 <;> (try rw [if_pos ‹_›]) <;> (try rw [if_neg ‹_›]) <;> omega
   exact withinM_c a s b t _ w h1 h2 h3 h4 k1 k2 k3 k4 e1 rfl (by simpa using e2) e2
  ·exact withinM_b a s b t _ _ w h1 h2 h3 h4 k1 k2 k3 k4 rfl rfl (by simpa using e1) e1

set_option maxHeartbeats 1000000 in
theorem inImpl_any (a s b t : Int) (w : World) :
  Calls Tryz.prog 189 #[.int .i64 a, .int .i64 s, .int .i64 b, .int .i64 t] w fun e w' => e = .returned (.bool (inB a s b t)) ∧ Below w.heap.size w w' := by
 cases h : fineB a s
 ·have e : inB a s b t = false := by unfold inB; simp [h]
  rw [e]
  cases k : fineB b t
  ·go_enter Tryz.func189, Tryz.ntmps189
   go_wp2_with (first | (go_at_call 104; refine (rangeOf_no _ _ _ (by assumption)).mono ?_; rintro e w' ⟨rfl, rfl⟩) | (go_at_call 107; refine (withinM_no _ _ _).mono ?_; rintro e w1 ⟨rfl, hb⟩))
   go_ret
   exact ⟨rfl, (((Below.refl _ _).alloc (Nat.le_refl _) _).alloc (by simp) _).trans (hb.mono (by simp; omega))⟩
  ·go_enter Tryz.func189, Tryz.ntmps189
   go_wp2_with (first | (go_at_call 104; refine (rangeOf_no _ _ _ (by assumption)).mono ?_; rintro e w' ⟨rfl, rfl⟩) | (go_at_call 104; refine (rangeOf_fine _ _ _ (by assumption)).mono ?_; rintro e w' ⟨rfl, rfl⟩) | (go_at_call 107; refine (withinM_no _ _ _).mono ?_; rintro e w1 ⟨rfl, hb⟩))
   go_ret
   exact ⟨rfl, (((Below.refl _ _).alloc (Nat.le_refl _) _).alloc (by simp) _).trans (hb.mono (by simp; omega))⟩
 ·obtain ⟨h1, h2, h3, h4⟩ := fineB_true h
  cases k : fineB b t
  ·have e : inB a s b t = false := by unfold inB; simp [k]
   have HC : Hid _ := (fun w => withinM_any a s 0 0 w h1 h2 h3 h4 (by omega) (by omega) (by omega) (by omega))
   rw [e]
   rw [decide_eq_false (by omega)] at HC
   go_enter Tryz.func189, Tryz.ntmps189
   go_wp2_with (first | (go_at_call 104; refine (rangeOf_no _ _ _ (by assumption)).mono ?_; rintro e w' ⟨rfl, rfl⟩) | (go_at_call 104; refine (rangeOf_fine _ _ _ (by assumption)).mono ?_; rintro e w' ⟨rfl, rfl⟩) | (go_at_call 107; refine (HC.out _).mono ?_; rintro e w1 ⟨rfl, hb⟩))
   go_ret
   exact ⟨rfl, (((Below.refl _ _).alloc (Nat.le_refl _) _).alloc (by simp) _).trans (hb.mono (by simp; omega))⟩
  ·obtain ⟨k1, k2, k3, k4⟩ := fineB_true k
   have e : inB a s b t = decide (b ≤ a ∧ a + s ≤ b + t) := by unfold inB; simp [h, k]
   have HC : Hid _ := (fun w => e ▸ withinM_any a s b t w h1 h2 h3 h4 (by omega) (by omega) (by omega) (by omega))
   clear e
   go_enter Tryz.func189, Tryz.ntmps189
   go_wp2_with (first | (go_at_call 104; refine (rangeOf_fine _ _ _ (by assumption)).mono ?_; rintro e w' ⟨rfl, rfl⟩) | (go_at_call 107; refine (HC.out _).mono ?_; rintro e w1 ⟨rfl, hb⟩))
   go_ret
   exact ⟨rfl, (((Below.refl _ _).alloc (Nat.le_refl _) _).alloc (by simp) _).trans (hb.mono (by simp; omega))⟩

end Go.Proofs.YtigpbjcmmgdiaaaGreat
/-
 What CapOk of the program answers, at every capability.
-/
namespace Go.Proofs.YtigpbjcmmgdiaaaGreat
open Go.ChangeShapes Go.WideShapes Go.ChangeAt Go.RowKit
set_option linter.unusedVariables false

/-- What a walk leans on of the row of a kind: its value, which function its method rights is, and what that answers. -/
structure IsKind (k : Int) (T g : Nat) : Prop where
 val : kindV k = .iface T (.agg #[])
 met : ∀ (v : Value) (w : World), (Go.method 360 T v "loop.example/donjon/impl.rights").run Tryz.prog w = .ok (g, v) w
 ent : ∀ (args : Array Value) (w : World), (callFunc g args).run Tryz.prog w = .ok (.enter g args) w
 ans : ∀ w : World, Calls Tryz.prog g #[.agg #[]] w fun e w' => e = .returned (.int .i64 (maxI k)) ∧ w' = w.alloc (.cells #[] T)

theorem isKind_1 : IsKind 1 209 233 := ⟨kindV_1, rightsM_1, fun _ _ => by kernel_rfl, rights_1⟩
theorem isKind_2 : IsKind 2 210 236 := ⟨kindV_2, rightsM_2, fun _ _ => by kernel_rfl, rights_2⟩
theorem isKind_3 : IsKind 3 208 231 := ⟨kindV_3, rightsM_3, fun _ _ => by kernel_rfl, rights_3⟩
theorem isKind_4 : IsKind 4 211 239 := ⟨kindV_4, rightsM_4, fun _ _ => by kernel_rfl, rights_4⟩
theorem isKind_5 : IsKind 5 212 242 := ⟨kindV_5, rightsM_5, fun _ _ => by kernel_rfl, rights_5⟩
theorem isKind_6 : IsKind 6 213 245 := ⟨kindV_6, rightsM_6, fun _ _ => by kernel_rfl, rights_6⟩
theorem isKind_7 : IsKind 7 207 228 := ⟨kindV_7, rightsM_7, fun _ _ => by kernel_rfl, rights_7⟩

theorem isKind {k : Int} (h1 : 1 ≤ k) (h7 : k ≤ 7) : ∃ T g, IsKind k T g := by
 rcases seven h1 h7 with h | h | h | h | h | h | h <;> subst h
 ·exact ⟨_, _, isKind_1⟩
 ·exact ⟨_, _, isKind_2⟩
 ·exact ⟨_, _, isKind_3⟩
 ·exact ⟨_, _, isKind_4⟩
 ·exact ⟨_, _, isKind_5⟩
 ·exact ⟨_, _, isKind_6⟩
 ·exact ⟨_, _, isKind_7⟩

set_option maxHeartbeats 400000 in
theorem okImpl_none (k a b r d g q f : Int) (o : Bool) (w : World) (h1 : ¬ k = 1) (h2 : ¬ k = 2) (h3 : ¬ k = 3) (h4 : ¬ k = 4) (h5 : ¬ k = 5) (h6 : ¬ k = 6) (h7 : ¬ k = 7) :
  Calls Tryz.prog 174 #[.agg #[.int .i64 k, .int .i64 a, .int .i64 b, .int .i64 r, .int .i64 d, .int .i64 g, .int .i64 q, .int .i64 f, .bool o]] w fun e w' => e = .returned (.bool false) ∧ Below w.heap.size w w' := by
 have hv := kindV_none h1 h2 h3 h4 h5 h6 h7
 clear h1 h2 h3 h4 h5 h6 h7
 go_enter Tryz.func174, Tryz.ntmps174
 go_wp2_with (first | (go_at_call 158; refine (kindOf_any _ _).mono ?_; rintro e w' ⟨rfl, rfl⟩; rw [hv]))
 go_quiet (fail)
 go_wp2
 go_ret
 exact ⟨rfl, by repeat (first | exact Below.refl _ _ | apply Below.drew | (refine below_drewN ?_ _) | (refine Below.alloc ?_ (by simp; try omega) _))⟩

set_option maxHeartbeats 400000 in
theorem okImpl_no (T m : Nat) (k a b r d g q f : Int) (o : Bool) (w : World) (HK : IsKind k T m) (hr : (bits BinOp.andNot IntKind.i64 r (maxI k) != 0) = true) :
  Calls Tryz.prog 174 #[.agg #[.int .i64 k, .int .i64 a, .int .i64 b, .int .i64 r, .int .i64 d, .int .i64 g, .int .i64 q, .int .i64 f, .bool o]] w fun e w' => e = .returned (.bool false) ∧ Below w.heap.size w w' := by
 have hm := HK.met
 have he := HK.ent
 go_enter Tryz.func174, Tryz.ntmps174
 go_wp2_with (first | (go_at_call 158; refine (kindOf_any _ _).mono ?_; rintro e w' ⟨rfl, rfl⟩; rw [HK.val]))
 go_region_held3 (fun w' => w'.cell? ⟨w.heap.size, 3, none⟩ = some (.int .i64 r)) (go_simp) (first | (refine (HK.ans _).mono ?_; rintro e w1 ⟨rfl, rfl⟩))
 all_goals go_wp2
 all_goals go_ret
 all_goals exact ⟨rfl, by repeat (first | exact Below.refl _ _ | apply Below.drew | (refine below_drewN ?_ _) | (refine Below.alloc ?_ (by simp; try omega) _))⟩

theorem span_is {T m : Nat} {k : Int} (HK : IsKind k T m) (h1 : 1 ≤ k) (h7 : k ≤ 7) (b : Int) (w : World) :
  Calls Tryz.prog 157 #[.iface T (.agg #[]), .int .i64 b] w fun e w' => e = .returned (.int .i64 (spanI k b)) ∧ Below w.heap.size w w' := by
 rw [← HK.val]; exact span_any k b w h1 h7
theorem beside_is {T m : Nat} {k : Int} (HK : IsKind k T m) (h1 : 1 ≤ k) (h7 : k ≤ 7) (a b r d g q f : Int) (o : Bool) (w : World) :
  Calls Tryz.prog 190 #[.iface T (.agg #[]), .agg #[.int .i64 k, .int .i64 a, .int .i64 b, .int .i64 r, .int .i64 d, .int .i64 g, .int .i64 q, .int .i64 f, .bool o]] w fun e w' => e = .returned (.bool (besideB k b d g q f)) ∧ Below w.heap.size w w' := by
 rw [← HK.val]; exact beside_any k k a b r d g q f o w h1 h7
theorem orig_is {T m : Nat} {k : Int} (HK : IsKind k T m) (h1 : 1 ≤ k) (h7 : k ≤ 7) (o : Bool) (w : World) :
  Calls Tryz.prog 191 #[.iface T (.agg #[]), .bool o] w fun e w' => e = .returned (.bool (origB k o)) ∧ w' = w := by
 rw [← HK.val]; exact orig_any k o w h1 h7

set_option maxHeartbeats 400000 in
theorem okImpl_a (T m : Nat) (k a b r d g q f : Int) (o : Bool) (w : World) (HK : IsKind k T m) (hk1 : 1 ≤ k) (hk7 : k ≤ 7) (hr : (bits BinOp.andNot IntKind.i64 r (maxI k) != 0) = false) (hA : alignB a (spanI k b) = false) :
  Calls Tryz.prog 174 #[.agg #[.int .i64 k, .int .i64 a, .int .i64 b, .int .i64 r, .int .i64 d, .int .i64 g, .int .i64 q, .int .i64 f, .bool o]] w fun e w' => e = .returned (.bool (false)) ∧ Below w.heap.size w w' := by
 have hm := HK.met
 have he := HK.ent
 go_enter Tryz.func174, Tryz.ntmps174
 go_wp2_with (first | (go_at_call 158; refine (kindOf_any _ _).mono ?_; rintro e w' ⟨rfl, rfl⟩; rw [HK.val]))
 go_region_held3 (fun w' => w'.cell? ⟨w.heap.size, 3, none⟩ = some (.int .i64 r)) (go_simp) (first | (refine (HK.ans _).mono ?_; rintro e w1 ⟨rfl, rfl⟩))
 all_goals go_wp2_with (first | (go_at_call 157; refine (span_is HK hk1 hk7 _ _).mono ?_; rintro e w1 ⟨rfl, hb1⟩; obtain ⟨hc1, hf1⟩ := bcell hb1; have hz1 : w.heap.size < w1.heap.size := (by have := hb1.size; simp at this; omega)) | (go_at_call 188; refine (alignImpl_any _ _ _).mono ?_; rintro e w2 ⟨rfl, hb2⟩; obtain ⟨hc2, hf2⟩ := bcell hb2; have hz2 : w.heap.size < w2.heap.size := (by have := hb2.size; omega)))
 all_goals go_ret
 all_goals exact ⟨rfl, by refine Below.trans ?_ (hb2.mono (by omega)); refine Below.trans ?_ (hb1.mono (by simp; omega)); repeat (first | exact Below.refl _ _ | apply Below.drew | (refine below_drewN ?_ _) | (refine Below.alloc ?_ (by simp; try omega) _))⟩

set_option maxHeartbeats 400000 in
theorem okImpl_b (T m : Nat) (k a b r d g q f : Int) (o : Bool) (w : World) (HK : IsKind k T m) (hk1 : 1 ≤ k) (hk7 : k ≤ 7) (hr : (bits BinOp.andNot IntKind.i64 r (maxI k) != 0) = false) (hA : alignB a (spanI k b) = true) (hI : inB a (spanI k b) 0 4096 = false) :
  Calls Tryz.prog 174 #[.agg #[.int .i64 k, .int .i64 a, .int .i64 b, .int .i64 r, .int .i64 d, .int .i64 g, .int .i64 q, .int .i64 f, .bool o]] w fun e w' => e = .returned (.bool (false)) ∧ Below w.heap.size w w' := by
 have hm := HK.met
 have he := HK.ent
 go_enter Tryz.func174, Tryz.ntmps174
 go_wp2_with (first | (go_at_call 158; refine (kindOf_any _ _).mono ?_; rintro e w' ⟨rfl, rfl⟩; rw [HK.val]))
 go_region_held3 (fun w' => w'.cell? ⟨w.heap.size, 3, none⟩ = some (.int .i64 r)) (go_simp) (first | (refine (HK.ans _).mono ?_; rintro e w1 ⟨rfl, rfl⟩))
 all_goals go_wp2_with (first | (go_at_call 157; refine (span_is HK hk1 hk7 _ _).mono ?_; rintro e w1 ⟨rfl, hb1⟩; obtain ⟨hc1, hf1⟩ := bcell hb1; have hz1 : w.heap.size < w1.heap.size := (by have := hb1.size; simp at this; omega)) | (go_at_call 188; refine (alignImpl_any _ _ _).mono ?_; rintro e w2 ⟨rfl, hb2⟩; obtain ⟨hc2, hf2⟩ := bcell hb2; have hz2 : w.heap.size < w2.heap.size := (by have := hb2.size; omega)) | (go_at_call 189; refine (inImpl_any _ _ _ _ _).mono ?_; rintro e w3 ⟨rfl, hb3⟩; obtain ⟨hc3, hf3⟩ := bcell hb3; have hz3 : w.heap.size < w3.heap.size := (by have := hb3.size; omega)))
 all_goals go_ret
 all_goals exact ⟨rfl, by refine Below.trans ?_ (hb3.mono (by omega)); refine Below.trans ?_ (hb2.mono (by omega)); refine Below.trans ?_ (hb1.mono (by simp; omega)); repeat (first | exact Below.refl _ _ | apply Below.drew | (refine below_drewN ?_ _) | (refine Below.alloc ?_ (by simp; try omega) _))⟩

set_option maxHeartbeats 400000 in
theorem okImpl_c (T m : Nat) (k a b r d g q f : Int) (o : Bool) (w : World) (HK : IsKind k T m) (hk1 : 1 ≤ k) (hk7 : k ≤ 7) (hr : (bits BinOp.andNot IntKind.i64 r (maxI k) != 0) = false) (hA : alignB a (spanI k b) = true) (hI : inB a (spanI k b) 0 4096 = true) (hB : besideB k b d g q f = false) :
  Calls Tryz.prog 174 #[.agg #[.int .i64 k, .int .i64 a, .int .i64 b, .int .i64 r, .int .i64 d, .int .i64 g, .int .i64 q, .int .i64 f, .bool o]] w fun e w' => e = .returned (.bool (false)) ∧ Below w.heap.size w w' := by
 have hm := HK.met
 have he := HK.ent
 go_enter Tryz.func174, Tryz.ntmps174
 go_wp2_with (first | (go_at_call 158; refine (kindOf_any _ _).mono ?_; rintro e w' ⟨rfl, rfl⟩; rw [HK.val]))
 go_region_held3 (fun w' => w'.cell? ⟨w.heap.size, 3, none⟩ = some (.int .i64 r)) (go_simp) (first | (refine (HK.ans _).mono ?_; rintro e w1 ⟨rfl, rfl⟩))
 all_goals go_wp2_with (first | (go_at_call 157; refine (span_is HK hk1 hk7 _ _).mono ?_; rintro e w1 ⟨rfl, hb1⟩; obtain ⟨hc1, hf1⟩ := bcell hb1; have hz1 : w.heap.size < w1.heap.size := (by have := hb1.size; simp at this; omega)) | (go_at_call 188; refine (alignImpl_any _ _ _).mono ?_; rintro e w2 ⟨rfl, hb2⟩; obtain ⟨hc2, hf2⟩ := bcell hb2; have hz2 : w.heap.size < w2.heap.size := (by have := hb2.size; omega)) | (go_at_call 189; refine (inImpl_any _ _ _ _ _).mono ?_; rintro e w3 ⟨rfl, hb3⟩; obtain ⟨hc3, hf3⟩ := bcell hb3; have hz3 : w.heap.size < w3.heap.size := (by have := hb3.size; omega)) | (go_at_call 190; refine (beside_is HK hk1 hk7 _ _ _ _ _ _ _ _ _).mono ?_; rintro e w4 ⟨rfl, hb4⟩; obtain ⟨hc4, hf4⟩ := bcell hb4; have hz4 : w.heap.size < w4.heap.size := (by have := hb4.size; omega)))
 all_goals go_ret
 all_goals exact ⟨rfl, by refine Below.trans ?_ (hb4.mono (by omega)); refine Below.trans ?_ (hb3.mono (by omega)); refine Below.trans ?_ (hb2.mono (by omega)); refine Below.trans ?_ (hb1.mono (by simp; omega)); repeat (first | exact Below.refl _ _ | apply Below.drew | (refine below_drewN ?_ _) | (refine Below.alloc ?_ (by simp; try omega) _))⟩

set_option maxHeartbeats 400000 in
theorem okImpl_d (T m : Nat) (k a b r d g q f : Int) (o : Bool) (w : World) (HK : IsKind k T m) (hk1 : 1 ≤ k) (hk7 : k ≤ 7) (hr : (bits BinOp.andNot IntKind.i64 r (maxI k) != 0) = false) (hA : alignB a (spanI k b) = true) (hI : inB a (spanI k b) 0 4096 = true) (hB : besideB k b d g q f = true) :
  Calls Tryz.prog 174 #[.agg #[.int .i64 k, .int .i64 a, .int .i64 b, .int .i64 r, .int .i64 d, .int .i64 g, .int .i64 q, .int .i64 f, .bool o]] w fun e w' => e = .returned (.bool (origB k o)) ∧ Below w.heap.size w w' := by
 have hm := HK.met
 have he := HK.ent
 go_enter Tryz.func174, Tryz.ntmps174
 go_wp2_with (first | (go_at_call 158; refine (kindOf_any _ _).mono ?_; rintro e w' ⟨rfl, rfl⟩; rw [HK.val]))
 go_region_held3 (fun w' => w'.cell? ⟨w.heap.size, 3, none⟩ = some (.int .i64 r)) (go_simp) (first | (refine (HK.ans _).mono ?_; rintro e w1 ⟨rfl, rfl⟩))
 all_goals go_wp2_with (first | (go_at_call 157; refine (span_is HK hk1 hk7 _ _).mono ?_; rintro e w1 ⟨rfl, hb1⟩; obtain ⟨hc1, hf1⟩ := bcell hb1; have hz1 : w.heap.size < w1.heap.size := (by have := hb1.size; simp at this; omega)) | (go_at_call 188; refine (alignImpl_any _ _ _).mono ?_; rintro e w2 ⟨rfl, hb2⟩; obtain ⟨hc2, hf2⟩ := bcell hb2; have hz2 : w.heap.size < w2.heap.size := (by have := hb2.size; omega)) | (go_at_call 189; refine (inImpl_any _ _ _ _ _).mono ?_; rintro e w3 ⟨rfl, hb3⟩; obtain ⟨hc3, hf3⟩ := bcell hb3; have hz3 : w.heap.size < w3.heap.size := (by have := hb3.size; omega)) | (go_at_call 190; refine (beside_is HK hk1 hk7 _ _ _ _ _ _ _ _ _).mono ?_; rintro e w4 ⟨rfl, hb4⟩; obtain ⟨hc4, hf4⟩ := bcell hb4; have hz4 : w.heap.size < w4.heap.size := (by have := hb4.size; omega)) | (go_at_call 191; refine (orig_is HK hk1 hk7 _ _).mono ?_; rintro e w' ⟨rfl, rfl⟩))
 all_goals go_ret
 all_goals exact ⟨rfl, by refine Below.trans ?_ (hb4.mono (by omega)); refine Below.trans ?_ (hb3.mono (by omega)); refine Below.trans ?_ (hb2.mono (by omega)); refine Below.trans ?_ (hb1.mono (by simp; omega)); repeat (first | exact Below.refl _ _ | apply Below.drew | (refine below_drewN ?_ _) | (refine Below.alloc ?_ (by simp; try omega) _))⟩

theorem okImpl_any (k a b r d g q f : Int) (o : Bool) (w : World) (h0 : -9223372036854775808 ≤ r) (h1 : r ≤ 9223372036854775807) :
  Calls Tryz.prog 174 #[.agg #[.int .i64 k, .int .i64 a, .int .i64 b, .int .i64 r, .int .i64 d, .int .i64 g, .int .i64 q, .int .i64 f, .bool o]] w fun e w' => e = .returned (.bool (okB k a b r d g q f o)) ∧ Below w.heap.size w w' := by
 by_cases hk : 1 ≤ k ∧ k ≤ 7
 ·obtain ⟨hk1, hk7⟩ := hk
  obtain ⟨T, m, HK⟩ := isKind hk1 hk7
  have hr := notRights k r h0 h1
  have hk : withinB k 1 7 = true := by simp [withinB, hk1, hk7]
  cases e1 : withinB r 0 (maxI k)
  ·rw [e1] at hr
   have : okB k a b r d g q f o = false := by simp [okB, e1]
   rw [this]; exact okImpl_no T m k a b r d g q f o w HK (by simpa using hr)
  ·rw [e1] at hr
   have hr' : (bits BinOp.andNot IntKind.i64 r (maxI k) != 0) = false := by simpa using hr
   cases e2 : alignB a (spanI k b)
   ·have : okB k a b r d g q f o = false := by simp [okB, e2]
    rw [this]; exact okImpl_a T m k a b r d g q f o w HK hk1 hk7 hr' e2
   ·cases e3 : inB a (spanI k b) 0 4096
    ·have : okB k a b r d g q f o = false := by simp [okB, e3]
     rw [this]; exact okImpl_b T m k a b r d g q f o w HK hk1 hk7 hr' e2 e3
    ·cases e4 : besideB k b d g q f
     ·have : okB k a b r d g q f o = false := by simp [okB, e4]
      rw [this]; exact okImpl_c T m k a b r d g q f o w HK hk1 hk7 hr' e2 e3 e4
     ·have : okB k a b r d g q f o = origB k o := by simp [okB, hk, e1, e2, e3, e4]
      rw [this]; exact okImpl_d T m k a b r d g q f o w HK hk1 hk7 hr' e2 e3 e4
 ·have : okB k a b r d g q f o = false := by simp [okB, withinB, hk]
  rw [this]
  exact okImpl_none k a b r d g q f o w (by omega) (by omega) (by omega) (by omega) (by omega) (by omega) (by omega)

end Go.Proofs.YtigpbjcmmgdiaaaGreat
