/-
  What CapOk of the program answers, at every capability.
-/
import Derived.Test.YthmambhagheocaaGreatDoorOkay
import Derived.Test.YthmambhagheocaaGreatDoorBeside
import Derived.Test.YthmambhagheocaaGreatDoorWithin
namespace Go.Proofs.YthmambhagheocaaGreatDoor
open Go.ChangeShapes Go.WideShapes Go.ChangeAt Go.RowKit
set_option linter.unusedVariables false

/-- What a walk leans on of the row of a kind: its value, which function its method rights is, and what that answers. -/
structure IsKind (k : Int) (T g : Nat) : Prop where
  val : kindV k = .iface T (.agg #[])
  met : ∀ (v : Value) (w : World), (Go.method 257 T v "loop.example/donjon/impl.rights").run Tryz.prog w = .ok (g, v) w
  ent : ∀ (args : Array Value) (w : World), (callFunc g args).run Tryz.prog w = .ok (.enter g args) w
  ans : ∀ w : World, Calls Tryz.prog g #[.agg #[]] w fun e w' => e = .returned (.int .i64 (maxI k)) ∧ w' = w.alloc (.cells #[] T)

theorem isKind_1 : IsKind 1 77 130 := ⟨kindV_1, rightsM_1, fun _ _ => by kernel_rfl, rights_1⟩
theorem isKind_2 : IsKind 2 45 127 := ⟨kindV_2, rightsM_2, fun _ _ => by kernel_rfl, rights_2⟩
theorem isKind_3 : IsKind 3 78 133 := ⟨kindV_3, rightsM_3, fun _ _ => by kernel_rfl, rights_3⟩
theorem isKind_4 : IsKind 4 79 135 := ⟨kindV_4, rightsM_4, fun _ _ => by kernel_rfl, rights_4⟩
theorem isKind_5 : IsKind 5 80 138 := ⟨kindV_5, rightsM_5, fun _ _ => by kernel_rfl, rights_5⟩
theorem isKind_6 : IsKind 6 81 141 := ⟨kindV_6, rightsM_6, fun _ _ => by kernel_rfl, rights_6⟩
theorem isKind_7 : IsKind 7 82 144 := ⟨kindV_7, rightsM_7, fun _ _ => by kernel_rfl, rights_7⟩

theorem isKind {k : Int} (h1 : 1 ≤ k) (h7 : k ≤ 7) : ∃ T g, IsKind k T g := by
  rcases seven h1 h7 with h | h | h | h | h | h | h <;> subst h
  · exact ⟨_, _, isKind_1⟩
  · exact ⟨_, _, isKind_2⟩
  · exact ⟨_, _, isKind_3⟩
  · exact ⟨_, _, isKind_4⟩
  · exact ⟨_, _, isKind_5⟩
  · exact ⟨_, _, isKind_6⟩
  · exact ⟨_, _, isKind_7⟩

set_option maxHeartbeats 400000 in
theorem okImpl_none (k a b r d g q f : Int) (o : Bool) (w : World) (h1 : ¬ k = 1) (h2 : ¬ k = 2) (h3 : ¬ k = 3) (h4 : ¬ k = 4) (h5 : ¬ k = 5) (h6 : ¬ k = 6) (h7 : ¬ k = 7) :
    Calls Tryz.prog 14 #[.agg #[.int .i64 k, .int .i64 a, .int .i64 b, .int .i64 r, .int .i64 d, .int .i64 g, .int .i64 q, .int .i64 f, .bool o]] w fun e w' => e = .returned (.bool false) ∧ Below w.heap.size w w' := by
  have hv := kindV_none h1 h2 h3 h4 h5 h6 h7
  clear h1 h2 h3 h4 h5 h6 h7
  go_enter Tryz.func14, Tryz.ntmps14
  go_wp2_with (first | (go_at_call 17; refine (kindOf_any _ _).mono ?_; rintro e w' ⟨rfl, rfl⟩; rw [hv]))
  go_quiet (fail)
  go_wp2
  go_ret
  exact ⟨rfl, by repeat (first | exact Below.refl _ _ | apply Below.drew | (refine below_drewN ?_ _) | (refine Below.alloc ?_ (by simp; try omega) _))⟩

set_option maxHeartbeats 400000 in
theorem okImpl_no (T m : Nat) (k a b r d g q f : Int) (o : Bool) (w : World) (HK : IsKind k T m) (hr : (bits BinOp.andNot IntKind.i64 r (maxI k) != 0) = true) :
    Calls Tryz.prog 14 #[.agg #[.int .i64 k, .int .i64 a, .int .i64 b, .int .i64 r, .int .i64 d, .int .i64 g, .int .i64 q, .int .i64 f, .bool o]] w fun e w' => e = .returned (.bool false) ∧ Below w.heap.size w w' := by
  have hm := HK.met
  have he := HK.ent
  go_enter Tryz.func14, Tryz.ntmps14
  go_wp2_with (first | (go_at_call 17; refine (kindOf_any _ _).mono ?_; rintro e w' ⟨rfl, rfl⟩; rw [HK.val]))
  go_region_held3 (fun w' => w'.cell? ⟨w.heap.size, 3, none⟩ = some (.int .i64 r)) (go_simp) (first | (refine (HK.ans _).mono ?_; rintro e w1 ⟨rfl, rfl⟩))
  all_goals go_wp2
  all_goals go_ret
  all_goals exact ⟨rfl, by repeat (first | exact Below.refl _ _ | apply Below.drew | (refine below_drewN ?_ _) | (refine Below.alloc ?_ (by simp; try omega) _))⟩

theorem span_is {T m : Nat} {k : Int} (HK : IsKind k T m) (h1 : 1 ≤ k) (h7 : k ≤ 7) (b : Int) (w : World) :
    Calls Tryz.prog 42 #[.iface T (.agg #[]), .int .i64 b] w fun e w' => e = .returned (.int .i64 (spanI k b)) ∧ Below w.heap.size w w' := by
  rw [← HK.val]; exact span_any k b w h1 h7
theorem beside_is {T m : Nat} {k : Int} (HK : IsKind k T m) (h1 : 1 ≤ k) (h7 : k ≤ 7) (a b r d g q f : Int) (o : Bool) (w : World) :
    Calls Tryz.prog 45 #[.iface T (.agg #[]), .agg #[.int .i64 k, .int .i64 a, .int .i64 b, .int .i64 r, .int .i64 d, .int .i64 g, .int .i64 q, .int .i64 f, .bool o]] w fun e w' => e = .returned (.bool (besideB k b d g q f)) ∧ Below w.heap.size w w' := by
  rw [← HK.val]; exact beside_any k k a b r d g q f o w h1 h7
theorem orig_is {T m : Nat} {k : Int} (HK : IsKind k T m) (h1 : 1 ≤ k) (h7 : k ≤ 7) (o : Bool) (w : World) :
    Calls Tryz.prog 46 #[.iface T (.agg #[]), .bool o] w fun e w' => e = .returned (.bool (origB k o)) ∧ w' = w := by
  rw [← HK.val]; exact orig_any k o w h1 h7

set_option maxHeartbeats 400000 in
theorem okImpl_a (T m : Nat) (k a b r d g q f : Int) (o : Bool) (w : World) (HK : IsKind k T m) (hk1 : 1 ≤ k) (hk7 : k ≤ 7) (hr : (bits BinOp.andNot IntKind.i64 r (maxI k) != 0) = false) (hA : alignB a (spanI k b) = false) :
    Calls Tryz.prog 14 #[.agg #[.int .i64 k, .int .i64 a, .int .i64 b, .int .i64 r, .int .i64 d, .int .i64 g, .int .i64 q, .int .i64 f, .bool o]] w fun e w' => e = .returned (.bool (false)) ∧ Below w.heap.size w w' := by
  have hm := HK.met
  have he := HK.ent
  go_enter Tryz.func14, Tryz.ntmps14
  go_wp2_with (first | (go_at_call 17; refine (kindOf_any _ _).mono ?_; rintro e w' ⟨rfl, rfl⟩; rw [HK.val]))
  go_region_held3 (fun w' => w'.cell? ⟨w.heap.size, 3, none⟩ = some (.int .i64 r)) (go_simp) (first | (refine (HK.ans _).mono ?_; rintro e w1 ⟨rfl, rfl⟩))
  all_goals go_wp2_with (first | (go_at_call 42; refine (span_is HK hk1 hk7 _ _).mono ?_; rintro e w1 ⟨rfl, hb1⟩; obtain ⟨hc1, hf1⟩ := bcell hb1; have hz1 : w.heap.size < w1.heap.size := (by have := hb1.size; simp at this; omega)) | (go_at_call 43; refine (alignImpl_any _ _ _).mono ?_; rintro e w2 ⟨rfl, hb2⟩; obtain ⟨hc2, hf2⟩ := bcell hb2; have hz2 : w.heap.size < w2.heap.size := (by have := hb2.size; omega)))
  all_goals go_ret
  all_goals exact ⟨rfl, by refine Below.trans ?_ (hb2.mono (by omega)); refine Below.trans ?_ (hb1.mono (by simp; omega)); repeat (first | exact Below.refl _ _ | apply Below.drew | (refine below_drewN ?_ _) | (refine Below.alloc ?_ (by simp; try omega) _))⟩

set_option maxHeartbeats 400000 in
theorem okImpl_b (T m : Nat) (k a b r d g q f : Int) (o : Bool) (w : World) (HK : IsKind k T m) (hk1 : 1 ≤ k) (hk7 : k ≤ 7) (hr : (bits BinOp.andNot IntKind.i64 r (maxI k) != 0) = false) (hA : alignB a (spanI k b) = true) (hI : inB a (spanI k b) 0 4096 = false) :
    Calls Tryz.prog 14 #[.agg #[.int .i64 k, .int .i64 a, .int .i64 b, .int .i64 r, .int .i64 d, .int .i64 g, .int .i64 q, .int .i64 f, .bool o]] w fun e w' => e = .returned (.bool (false)) ∧ Below w.heap.size w w' := by
  have hm := HK.met
  have he := HK.ent
  go_enter Tryz.func14, Tryz.ntmps14
  go_wp2_with (first | (go_at_call 17; refine (kindOf_any _ _).mono ?_; rintro e w' ⟨rfl, rfl⟩; rw [HK.val]))
  go_region_held3 (fun w' => w'.cell? ⟨w.heap.size, 3, none⟩ = some (.int .i64 r)) (go_simp) (first | (refine (HK.ans _).mono ?_; rintro e w1 ⟨rfl, rfl⟩))
  all_goals go_wp2_with (first | (go_at_call 42; refine (span_is HK hk1 hk7 _ _).mono ?_; rintro e w1 ⟨rfl, hb1⟩; obtain ⟨hc1, hf1⟩ := bcell hb1; have hz1 : w.heap.size < w1.heap.size := (by have := hb1.size; simp at this; omega)) | (go_at_call 43; refine (alignImpl_any _ _ _).mono ?_; rintro e w2 ⟨rfl, hb2⟩; obtain ⟨hc2, hf2⟩ := bcell hb2; have hz2 : w.heap.size < w2.heap.size := (by have := hb2.size; omega)) | (go_at_call 44; refine (inImpl_any _ _ _ _ _).mono ?_; rintro e w3 ⟨rfl, hb3⟩; obtain ⟨hc3, hf3⟩ := bcell hb3; have hz3 : w.heap.size < w3.heap.size := (by have := hb3.size; omega)))
  all_goals go_ret
  all_goals exact ⟨rfl, by refine Below.trans ?_ (hb3.mono (by omega)); refine Below.trans ?_ (hb2.mono (by omega)); refine Below.trans ?_ (hb1.mono (by simp; omega)); repeat (first | exact Below.refl _ _ | apply Below.drew | (refine below_drewN ?_ _) | (refine Below.alloc ?_ (by simp; try omega) _))⟩

set_option maxHeartbeats 400000 in
theorem okImpl_c (T m : Nat) (k a b r d g q f : Int) (o : Bool) (w : World) (HK : IsKind k T m) (hk1 : 1 ≤ k) (hk7 : k ≤ 7) (hr : (bits BinOp.andNot IntKind.i64 r (maxI k) != 0) = false) (hA : alignB a (spanI k b) = true) (hI : inB a (spanI k b) 0 4096 = true) (hB : besideB k b d g q f = false) :
    Calls Tryz.prog 14 #[.agg #[.int .i64 k, .int .i64 a, .int .i64 b, .int .i64 r, .int .i64 d, .int .i64 g, .int .i64 q, .int .i64 f, .bool o]] w fun e w' => e = .returned (.bool (false)) ∧ Below w.heap.size w w' := by
  have hm := HK.met
  have he := HK.ent
  go_enter Tryz.func14, Tryz.ntmps14
  go_wp2_with (first | (go_at_call 17; refine (kindOf_any _ _).mono ?_; rintro e w' ⟨rfl, rfl⟩; rw [HK.val]))
  go_region_held3 (fun w' => w'.cell? ⟨w.heap.size, 3, none⟩ = some (.int .i64 r)) (go_simp) (first | (refine (HK.ans _).mono ?_; rintro e w1 ⟨rfl, rfl⟩))
  all_goals go_wp2_with (first | (go_at_call 42; refine (span_is HK hk1 hk7 _ _).mono ?_; rintro e w1 ⟨rfl, hb1⟩; obtain ⟨hc1, hf1⟩ := bcell hb1; have hz1 : w.heap.size < w1.heap.size := (by have := hb1.size; simp at this; omega)) | (go_at_call 43; refine (alignImpl_any _ _ _).mono ?_; rintro e w2 ⟨rfl, hb2⟩; obtain ⟨hc2, hf2⟩ := bcell hb2; have hz2 : w.heap.size < w2.heap.size := (by have := hb2.size; omega)) | (go_at_call 44; refine (inImpl_any _ _ _ _ _).mono ?_; rintro e w3 ⟨rfl, hb3⟩; obtain ⟨hc3, hf3⟩ := bcell hb3; have hz3 : w.heap.size < w3.heap.size := (by have := hb3.size; omega)) | (go_at_call 45; refine (beside_is HK hk1 hk7 _ _ _ _ _ _ _ _ _).mono ?_; rintro e w4 ⟨rfl, hb4⟩; obtain ⟨hc4, hf4⟩ := bcell hb4; have hz4 : w.heap.size < w4.heap.size := (by have := hb4.size; omega)))
  all_goals go_ret
  all_goals exact ⟨rfl, by refine Below.trans ?_ (hb4.mono (by omega)); refine Below.trans ?_ (hb3.mono (by omega)); refine Below.trans ?_ (hb2.mono (by omega)); refine Below.trans ?_ (hb1.mono (by simp; omega)); repeat (first | exact Below.refl _ _ | apply Below.drew | (refine below_drewN ?_ _) | (refine Below.alloc ?_ (by simp; try omega) _))⟩

set_option maxHeartbeats 400000 in
theorem okImpl_d (T m : Nat) (k a b r d g q f : Int) (o : Bool) (w : World) (HK : IsKind k T m) (hk1 : 1 ≤ k) (hk7 : k ≤ 7) (hr : (bits BinOp.andNot IntKind.i64 r (maxI k) != 0) = false) (hA : alignB a (spanI k b) = true) (hI : inB a (spanI k b) 0 4096 = true) (hB : besideB k b d g q f = true) :
    Calls Tryz.prog 14 #[.agg #[.int .i64 k, .int .i64 a, .int .i64 b, .int .i64 r, .int .i64 d, .int .i64 g, .int .i64 q, .int .i64 f, .bool o]] w fun e w' => e = .returned (.bool (origB k o)) ∧ Below w.heap.size w w' := by
  have hm := HK.met
  have he := HK.ent
  go_enter Tryz.func14, Tryz.ntmps14
  go_wp2_with (first | (go_at_call 17; refine (kindOf_any _ _).mono ?_; rintro e w' ⟨rfl, rfl⟩; rw [HK.val]))
  go_region_held3 (fun w' => w'.cell? ⟨w.heap.size, 3, none⟩ = some (.int .i64 r)) (go_simp) (first | (refine (HK.ans _).mono ?_; rintro e w1 ⟨rfl, rfl⟩))
  all_goals go_wp2_with (first | (go_at_call 42; refine (span_is HK hk1 hk7 _ _).mono ?_; rintro e w1 ⟨rfl, hb1⟩; obtain ⟨hc1, hf1⟩ := bcell hb1; have hz1 : w.heap.size < w1.heap.size := (by have := hb1.size; simp at this; omega)) | (go_at_call 43; refine (alignImpl_any _ _ _).mono ?_; rintro e w2 ⟨rfl, hb2⟩; obtain ⟨hc2, hf2⟩ := bcell hb2; have hz2 : w.heap.size < w2.heap.size := (by have := hb2.size; omega)) | (go_at_call 44; refine (inImpl_any _ _ _ _ _).mono ?_; rintro e w3 ⟨rfl, hb3⟩; obtain ⟨hc3, hf3⟩ := bcell hb3; have hz3 : w.heap.size < w3.heap.size := (by have := hb3.size; omega)) | (go_at_call 45; refine (beside_is HK hk1 hk7 _ _ _ _ _ _ _ _ _).mono ?_; rintro e w4 ⟨rfl, hb4⟩; obtain ⟨hc4, hf4⟩ := bcell hb4; have hz4 : w.heap.size < w4.heap.size := (by have := hb4.size; omega)) | (go_at_call 46; refine (orig_is HK hk1 hk7 _ _).mono ?_; rintro e w' ⟨rfl, rfl⟩))
  all_goals go_ret
  all_goals exact ⟨rfl, by refine Below.trans ?_ (hb4.mono (by omega)); refine Below.trans ?_ (hb3.mono (by omega)); refine Below.trans ?_ (hb2.mono (by omega)); refine Below.trans ?_ (hb1.mono (by simp; omega)); repeat (first | exact Below.refl _ _ | apply Below.drew | (refine below_drewN ?_ _) | (refine Below.alloc ?_ (by simp; try omega) _))⟩

theorem okImpl_any (k a b r d g q f : Int) (o : Bool) (w : World) (h0 : -9223372036854775808 ≤ r) (h1 : r ≤ 9223372036854775807) :
    Calls Tryz.prog 14 #[.agg #[.int .i64 k, .int .i64 a, .int .i64 b, .int .i64 r, .int .i64 d, .int .i64 g, .int .i64 q, .int .i64 f, .bool o]] w fun e w' => e = .returned (.bool (okB k a b r d g q f o)) ∧ Below w.heap.size w w' := by
  by_cases hk : 1 ≤ k ∧ k ≤ 7
  · obtain ⟨hk1, hk7⟩ := hk
    obtain ⟨T, m, HK⟩ := isKind hk1 hk7
    have hr := notRights k r h0 h1
    have hk : withinB k 1 7 = true := by simp [withinB, hk1, hk7]
    cases e1 : withinB r 0 (maxI k)
    · rw [e1] at hr
      have : okB k a b r d g q f o = false := by simp [okB, e1]
      rw [this]; exact okImpl_no T m k a b r d g q f o w HK (by simpa using hr)
    · rw [e1] at hr
      have hr' : (bits BinOp.andNot IntKind.i64 r (maxI k) != 0) = false := by simpa using hr
      cases e2 : alignB a (spanI k b)
      · have : okB k a b r d g q f o = false := by simp [okB, e2]
        rw [this]; exact okImpl_a T m k a b r d g q f o w HK hk1 hk7 hr' e2
      · cases e3 : inB a (spanI k b) 0 4096
        · have : okB k a b r d g q f o = false := by simp [okB, e3]
          rw [this]; exact okImpl_b T m k a b r d g q f o w HK hk1 hk7 hr' e2 e3
        · cases e4 : besideB k b d g q f
          · have : okB k a b r d g q f o = false := by simp [okB, e4]
            rw [this]; exact okImpl_c T m k a b r d g q f o w HK hk1 hk7 hr' e2 e3 e4
          · have : okB k a b r d g q f o = origB k o := by simp [okB, hk, e1, e2, e3, e4]
            rw [this]; exact okImpl_d T m k a b r d g q f o w HK hk1 hk7 hr' e2 e3 e4
  · have : okB k a b r d g q f o = false := by simp [okB, withinB, hk]
    rw [this]
    exact okImpl_none k a b r d g q f o w (by omega) (by omega) (by omega) (by omega) (by omega) (by omega) (by omega)

end Go.Proofs.YthmambhagheocaaGreatDoor
