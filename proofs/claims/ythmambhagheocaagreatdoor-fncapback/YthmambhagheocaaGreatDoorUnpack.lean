/-
  What CapUnpack of the program and of the specification answer, at every two words.
-/
import Derived.Test.YthmambhagheocaaGreatDoorPack
import Derived.Test.YthmambhagheocaaGreatDoorMem
import Derived.Deep.Cut
namespace Go.Proofs.YthmambhagheocaaGreatDoor
open Go.ChangeShapes Go.WideShapes Go.ChangeAt Go.RowKit
set_option linter.unusedVariables false

theorem maskN (n : Nat) (hn : n ≤ 16) {x c s : Int} (hc : c = ((2 ^ n - 1 : Nat) : Int)) (hs : s = ((2 ^ n : Nat) : Int)) (h0 : 0 ≤ x) (h1 : x ≤ 4294967295) : bits BinOp.and IntKind.u32 x c = x % s := by
  obtain ⟨X, rfl⟩ := Int.eq_ofNat_of_zero_le h0
  have hp : 2 ^ n ≤ 2 ^ 16 := Nat.pow_le_pow_right (by omega) hn
  subst hc hs
  rw [u32_and_nat _ _ (by omega) (by omega), Nat.and_two_pow_sub_one_eq_mod X n]
  exact Int.natCast_emod X (2 ^ n)

theorem ta_nil (w : World) : (Instr.typeAssert .nilIface 42 45 true).run Tryz.prog w = .ok (.tuple #[.agg #[], .bool false]) w := by kernel_rfl

theorem ta_node (k : Int) (x : Bool) (h : (k == 2) = x) (w : World) : (Instr.typeAssert (kindV k) 42 45 true).run Tryz.prog w = .ok (.tuple #[.agg #[], .bool x]) w := by
  rcases kind_cases k with (e | e | e | e | e | e | e) | ⟨h1, h2, h3, h4, h5, h6, h7⟩
  · subst e; subst h; rw [kindV_1]; exact ta_1_2 w
  · subst e; subst h; rw [kindV_2]; exact ta_2_2 w
  · subst e; subst h; rw [kindV_3]; exact ta_3_2 w
  · subst e; subst h; rw [kindV_4]; exact ta_4_2 w
  · subst e; subst h; rw [kindV_5]; exact ta_5_2 w
  · subst e; subst h; rw [kindV_6]; exact ta_6_2 w
  · subst e; subst h; rw [kindV_7]; exact ta_7_2 w
  · have : x = false := by rw [← h]; simpa using h2
    subst this
    rw [kindV_none h1 h2 h3 h4 h5 h6 h7]; exact ta_nil w

/-- The fields of two words. -/
structure Fields (a b K A B R Q F H : Int) (O : Bool) : Prop where
  kk : a % 16 = K
  aa : b % 65536 = A
  bb : a / 256 % 16 = B
  rr : a / 32 % 8 = R
  qq : a / 4096 % 16 = Q
  ff : a / 65536 = F
  hh : b / 65536 = H
  oo : (a / 16 % 2 == 1) = O

theorem words_back {a b K A B R Q F H : Int} {O : Bool} (f : Fields a b K A B R Q F H O) (ha0 : 0 ≤ a) (hb0 : 0 ≤ b) (d g : Int) (h : d + g = H) : packA K B R Q F O = a ∧ packB A d g = b := by
  obtain ⟨kk, aa, bb, rr, qq, ff, hh, oo⟩ := f
  have ho : oI O = a / 16 % 2 := by
    unfold oI
    cases O
    · have : ¬ a / 16 % 2 = 1 := by simpa using oo
      simp; omega
    · have : a / 16 % 2 = 1 := by simpa using oo
      simp; omega
  unfold packA packB
  rw [ho]
  constructor <;> omega

set_option maxHeartbeats 400000 in
theorem unpackImpl_ny (a b K A B R Q F H : Int) (O : Bool) (w : World) (ha0 : 0 ≤ a) (ha1 : a ≤ 4294967295) (hb0 : 0 ≤ b) (hb1 : b ≤ 4294967295) (f : Fields a b K A B R Q F H O) (hk : (K == 2) = true) (ho : okB K A B R 0 H Q F O = true) :
    Calls Tryz.prog 6 #[.int .u32 a, .int .u32 b] w fun e w' => e = .returned (.tuple #[.agg #[.int .i64 K, .int .i64 A, .int .i64 B, .int .i64 R, .int .i64 0, .int .i64 H, .int .i64 Q, .int .i64 F, .bool O], .bool true]) ∧ Below w.heap.size w w' := by
  have hbK : 0 ≤ K ∧ K ≤ 15 := by have := f.kk; omega
  have hbA : 0 ≤ A ∧ A ≤ 65535 := by have := f.aa; omega
  have hbB : 0 ≤ B ∧ B ≤ 15 := by have := f.bb; omega
  have hbR : 0 ≤ R ∧ R ≤ 7 := by have := f.rr; omega
  have hbQ : 0 ≤ Q ∧ Q ≤ 15 := by have := f.qq; omega
  have hbF : 0 ≤ F ∧ F ≤ 65535 := by have := f.ff; omega
  have hbH : 0 ≤ H ∧ H ≤ 65535 := by have := f.hh; omega
  have mk : bits BinOp.and IntKind.u32 a 15 = K := by rw [maskN 4 (by omega) (s := 16) (by decide) (by decide) ha0 ha1]; exact f.kk
  have ma : bits BinOp.and IntKind.u32 b 65535 = A := by rw [maskN 16 (by omega) (s := 65536) (by decide) (by decide) hb0 hb1]; exact f.aa
  have mb : bits BinOp.and IntKind.u32 (a / 256) 15 = B := by rw [maskN 4 (by omega) (s := 16) (by decide) (by decide) (by omega) (by omega)]; exact f.bb
  have mr : bits BinOp.and IntKind.u32 (a / 32) 7 = R := by rw [maskN 3 (by omega) (s := 8) (by decide) (by decide) (by omega) (by omega)]; exact f.rr
  have mq : bits BinOp.and IntKind.u32 (a / 4096) 15 = Q := by rw [maskN 4 (by omega) (s := 16) (by decide) (by decide) (by omega) (by omega)]; exact f.qq
  have mo : (bits BinOp.and IntKind.u32 (a / 16) 1 == 1) = O := by rw [maskN 1 (by omega) (s := 2) (by decide) (by decide) (by omega) (by omega)]; exact f.oo
  have mf := f.ff
  have mh := f.hh
  have tn := ta_node K true hk
  go_enter Tryz.func6, Tryz.ntmps6
  go_upto_region 3 with fail
  obtain ⟨HR, HC, fR, fC, hB2, hs⟩ := after2 (w := w) (w1 := (w.alloc (.cells #[.int .i64 0, .int .i64 0, .int .i64 0, .int .i64 0, .int .i64 0, .int .i64 0, .int .i64 0, .int .i64 0, .bool false] 24)).alloc (.cells #[.int .i64 K, .int .i64 A, .int .i64 B, .int .i64 R, .int .i64 0, .int .i64 0, .int .i64 Q, .int .i64 F, .bool O] 24)) (T := 24) (Below.refl _ _)
  generalize (w.alloc (.cells #[.int .i64 0, .int .i64 0, .int .i64 0, .int .i64 0, .int .i64 0, .int .i64 0, .int .i64 0, .int .i64 0, .bool false] 24)).alloc (.cells #[.int .i64 K, .int .i64 A, .int .i64 B, .int .i64 R, .int .i64 0, .int .i64 0, .int .i64 Q, .int .i64 F, .bool O] 24) = W2 at HR HC fR fC hB2 hs ⊢
  have hne : w.heap.size ≠ w.heap.size + 1 := by omega
  have hne2 : w.heap.size + 1 ≠ w.heap.size := by omega
  obtain ⟨c0, c1, c2, c3, c4, c5, c6, c7, c8⟩ := id HC
  obtain ⟨z0, z1, z2, z3, z4, z5, z6, z7, z8⟩ := id HR
  clear mk ma mb mr mq mo mf mh f
  go_wp2_with (first | (go_at_call 17; refine (kindOf_any _ _).mono ?_; rintro e w' ⟨rfl, rfl⟩))
  refine (okImpl_any _ _ _ _ _ _ _ _ _ _ (by omega) (by omega)).mono ?_
  rintro e w3 ⟨rfl, hb3⟩
  rw [ho]
  have HC3 := (HC.putOne5 (.int .i64 H)).below hb3 (by simp; omega)
  have HR3 := (HR.other (C := w.heap.size + 1) 5 (.int .i64 H) hne2).below hb3 (by simp; omega)
  have fR3 : ∀ i, w3.frozen? ⟨w.heap.size, i, none⟩ = false := fun i => by rw [(bcell hb3).2 _ _ (by simp; omega)]; go_simp
  have hB3 := (hB2.setCell (p := ⟨w.heap.size + 1, 5, none⟩) (by simp) (.int .i64 H)).trans (hb3.mono (by simp; omega))
  clear hb3 c0 c1 c2 c3 c4 c5 c6 c7 c8 z0 z1 z2 z3 z4 z5 z6 z7 z8 HC HR fC fR hB2
  obtain ⟨c0, c1, c2, c3, c4, c5, c6, c7, c8⟩ := HC3
  obtain ⟨z0, z1, z2, z3, z4, z5, z6, z7, z8⟩ := id HR3
  go_wp2_with fail
  have HF := HR3.put (.int .i64 K) (.int .i64 A) (.int .i64 B) (.int .i64 R) (.int .i64 0) (.int .i64 H) (.int .i64 Q) (.int .i64 F) (.bool O)
  refine bodyPost_ret (impl_CapUnpack_res rfl rfl HF) rfl ?_
  refine ⟨rfl, ?_⟩
  repeat (refine Below.setCell ?_ (by simp; try omega) _)
  exact hB3

set_option maxHeartbeats 400000 in
theorem unpackImpl_nn (a b K A B R Q F H : Int) (O : Bool) (w : World) (ha0 : 0 ≤ a) (ha1 : a ≤ 4294967295) (hb0 : 0 ≤ b) (hb1 : b ≤ 4294967295) (f : Fields a b K A B R Q F H O) (hk : (K == 2) = true) (ho : okB K A B R 0 H Q F O = false) :
    Calls Tryz.prog 6 #[.int .u32 a, .int .u32 b] w fun e w' => e = .returned (.tuple #[.agg #[.int .i64 0, .int .i64 0, .int .i64 0, .int .i64 0, .int .i64 0, .int .i64 0, .int .i64 0, .int .i64 0, .bool false], .bool false]) ∧ Below w.heap.size w w' := by
  have hbK : 0 ≤ K ∧ K ≤ 15 := by have := f.kk; omega
  have hbA : 0 ≤ A ∧ A ≤ 65535 := by have := f.aa; omega
  have hbB : 0 ≤ B ∧ B ≤ 15 := by have := f.bb; omega
  have hbR : 0 ≤ R ∧ R ≤ 7 := by have := f.rr; omega
  have hbQ : 0 ≤ Q ∧ Q ≤ 15 := by have := f.qq; omega
  have hbF : 0 ≤ F ∧ F ≤ 65535 := by have := f.ff; omega
  have hbH : 0 ≤ H ∧ H ≤ 65535 := by have := f.hh; omega
  have mk : bits BinOp.and IntKind.u32 a 15 = K := by rw [maskN 4 (by omega) (s := 16) (by decide) (by decide) ha0 ha1]; exact f.kk
  have ma : bits BinOp.and IntKind.u32 b 65535 = A := by rw [maskN 16 (by omega) (s := 65536) (by decide) (by decide) hb0 hb1]; exact f.aa
  have mb : bits BinOp.and IntKind.u32 (a / 256) 15 = B := by rw [maskN 4 (by omega) (s := 16) (by decide) (by decide) (by omega) (by omega)]; exact f.bb
  have mr : bits BinOp.and IntKind.u32 (a / 32) 7 = R := by rw [maskN 3 (by omega) (s := 8) (by decide) (by decide) (by omega) (by omega)]; exact f.rr
  have mq : bits BinOp.and IntKind.u32 (a / 4096) 15 = Q := by rw [maskN 4 (by omega) (s := 16) (by decide) (by decide) (by omega) (by omega)]; exact f.qq
  have mo : (bits BinOp.and IntKind.u32 (a / 16) 1 == 1) = O := by rw [maskN 1 (by omega) (s := 2) (by decide) (by decide) (by omega) (by omega)]; exact f.oo
  have mf := f.ff
  have mh := f.hh
  have tn := ta_node K true hk
  go_enter Tryz.func6, Tryz.ntmps6
  go_upto_region 3 with fail
  obtain ⟨HR, HC, fR, fC, hB2, hs⟩ := after2 (w := w) (w1 := (w.alloc (.cells #[.int .i64 0, .int .i64 0, .int .i64 0, .int .i64 0, .int .i64 0, .int .i64 0, .int .i64 0, .int .i64 0, .bool false] 24)).alloc (.cells #[.int .i64 K, .int .i64 A, .int .i64 B, .int .i64 R, .int .i64 0, .int .i64 0, .int .i64 Q, .int .i64 F, .bool O] 24)) (T := 24) (Below.refl _ _)
  generalize (w.alloc (.cells #[.int .i64 0, .int .i64 0, .int .i64 0, .int .i64 0, .int .i64 0, .int .i64 0, .int .i64 0, .int .i64 0, .bool false] 24)).alloc (.cells #[.int .i64 K, .int .i64 A, .int .i64 B, .int .i64 R, .int .i64 0, .int .i64 0, .int .i64 Q, .int .i64 F, .bool O] 24) = W2 at HR HC fR fC hB2 hs ⊢
  have hne : w.heap.size ≠ w.heap.size + 1 := by omega
  have hne2 : w.heap.size + 1 ≠ w.heap.size := by omega
  obtain ⟨c0, c1, c2, c3, c4, c5, c6, c7, c8⟩ := id HC
  obtain ⟨z0, z1, z2, z3, z4, z5, z6, z7, z8⟩ := id HR
  clear mk ma mb mr mq mo mf mh f
  go_wp2_with (first | (go_at_call 17; refine (kindOf_any _ _).mono ?_; rintro e w' ⟨rfl, rfl⟩))
  refine (okImpl_any _ _ _ _ _ _ _ _ _ _ (by omega) (by omega)).mono ?_
  rintro e w3 ⟨rfl, hb3⟩
  rw [ho]
  have HC3 := (HC.putOne5 (.int .i64 H)).below hb3 (by simp; omega)
  have HR3 := (HR.other (C := w.heap.size + 1) 5 (.int .i64 H) hne2).below hb3 (by simp; omega)
  have fR3 : ∀ i, w3.frozen? ⟨w.heap.size, i, none⟩ = false := fun i => by rw [(bcell hb3).2 _ _ (by simp; omega)]; go_simp
  have hB3 := (hB2.setCell (p := ⟨w.heap.size + 1, 5, none⟩) (by simp) (.int .i64 H)).trans (hb3.mono (by simp; omega))
  clear hb3 c0 c1 c2 c3 c4 c5 c6 c7 c8 z0 z1 z2 z3 z4 z5 z6 z7 z8 HC HR fC fR hB2
  obtain ⟨c0, c1, c2, c3, c4, c5, c6, c7, c8⟩ := HC3
  obtain ⟨z0, z1, z2, z3, z4, z5, z6, z7, z8⟩ := id HR3
  go_wp2_with fail
  have HF := HR3.put (.int .i64 0) (.int .i64 0) (.int .i64 0) (.int .i64 0) (.int .i64 0) (.int .i64 0) (.int .i64 0) (.int .i64 0) (.bool false)
  refine bodyPost_ret (impl_CapUnpack_res rfl rfl HF) rfl ?_
  refine ⟨rfl, ?_⟩
  repeat (refine Below.setCell ?_ (by simp; try omega) _)
  exact hB3

set_option maxHeartbeats 400000 in
theorem unpackSpec_ny (a b K A B R Q F H : Int) (O : Bool) (w : World) (ha0 : 0 ≤ a) (ha1 : a ≤ 4294967295) (hb0 : 0 ≤ b) (hb1 : b ≤ 4294967295) (f : Fields a b K A B R Q F H O) (hk : (K == 2) = true) (ho : okB K A B R 0 H Q F O = true) :
    Calls Tryz.prog 11 #[.int .u32 a, .int .u32 b] w fun e w' => e = .returned (.tuple #[.agg #[.int .i64 K, .int .i64 A, .int .i64 B, .int .i64 R, .int .i64 0, .int .i64 H, .int .i64 Q, .int .i64 F, .bool O], .bool true]) ∧ Below w.heap.size w w' := by
  have hbK : 0 ≤ K ∧ K ≤ 15 := by have := f.kk; omega
  have hbA : 0 ≤ A ∧ A ≤ 65535 := by have := f.aa; omega
  have hbB : 0 ≤ B ∧ B ≤ 15 := by have := f.bb; omega
  have hbR : 0 ≤ R ∧ R ≤ 7 := by have := f.rr; omega
  have hbQ : 0 ≤ Q ∧ Q ≤ 15 := by have := f.qq; omega
  have hbF : 0 ≤ F ∧ F ≤ 65535 := by have := f.ff; omega
  have hbH : 0 ≤ H ∧ H ≤ 65535 := by have := f.hh; omega
  have hw := words_back f ha0 hb0 0 H (by omega)
  have hz : (a == 0) = false := by
    have := (ok_bounds ho).1
    have := f.kk
    simp; omega
  have mk := f.kk
  have ma := f.aa
  have mb := f.bb
  have mr := f.rr
  have mq := f.qq
  have mo := f.oo
  have mf := f.ff
  have mh := f.hh
  go_enter Tryz.func11, Tryz.ntmps11
  go_upto_region 4 with fail
  obtain ⟨HR, HC, fR, fC, hB2, hs⟩ := after2 (w := w) (w1 := (w.alloc (.cells #[.int .i64 0, .int .i64 0, .int .i64 0, .int .i64 0, .int .i64 0, .int .i64 0, .int .i64 0, .int .i64 0, .bool false] 24)).alloc (.cells #[.int .i64 K, .int .i64 A, .int .i64 B, .int .i64 R, .int .i64 0, .int .i64 0, .int .i64 Q, .int .i64 F, .bool O] 24)) (T := 24) (Below.refl _ _)
  generalize (w.alloc (.cells #[.int .i64 0, .int .i64 0, .int .i64 0, .int .i64 0, .int .i64 0, .int .i64 0, .int .i64 0, .int .i64 0, .bool false] 24)).alloc (.cells #[.int .i64 K, .int .i64 A, .int .i64 B, .int .i64 R, .int .i64 0, .int .i64 0, .int .i64 Q, .int .i64 F, .bool O] 24) = W2 at HR HC fR fC hB2 hs ⊢
  have hne : w.heap.size ≠ w.heap.size + 1 := by omega
  have hne2 : w.heap.size + 1 ≠ w.heap.size := by omega
  obtain ⟨c0, c1, c2, c3, c4, c5, c6, c7, c8⟩ := id HC
  obtain ⟨z0, z1, z2, z3, z4, z5, z6, z7, z8⟩ := id HR
  clear mk ma mb mr mq mo mf f
  go_wp2_with fail
  refine (packSpec_yes _ _ _ _ _ _ _ _ _ _ ho).mono ?_
  rintro e w3 ⟨rfl, hb3⟩
  rw [hw.1, hw.2]
  have HC3 := (HC.putOne5 (.int .i64 H)).below hb3 (by simp; omega)
  have HR3 := (HR.other (C := w.heap.size + 1) 5 (.int .i64 H) hne2).below hb3 (by simp; omega)
  have fR3 : ∀ i, w3.frozen? ⟨w.heap.size, i, none⟩ = false := fun i => by rw [(bcell hb3).2 _ _ (by simp; omega)]; go_simp
  have hB3 := (hB2.setCell (p := ⟨w.heap.size + 1, 5, none⟩) (by simp) (.int .i64 H)).trans (hb3.mono (by simp; omega))
  clear hb3 c0 c1 c2 c3 c4 c5 c6 c7 c8 z0 z1 z2 z3 z4 z5 z6 z7 z8 HC HR fC fR hB2
  obtain ⟨c0, c1, c2, c3, c4, c5, c6, c7, c8⟩ := HC3
  obtain ⟨z0, z1, z2, z3, z4, z5, z6, z7, z8⟩ := id HR3
  go_wp2_with fail
  have HF := HR3.put (.int .i64 K) (.int .i64 A) (.int .i64 B) (.int .i64 R) (.int .i64 0) (.int .i64 H) (.int .i64 Q) (.int .i64 F) (.bool O)
  refine bodyPost_ret (spec_CapUnpack_res rfl rfl HF) rfl ?_
  refine ⟨rfl, ?_⟩
  repeat (refine Below.setCell ?_ (by simp; try omega) _)
  exact hB3

set_option maxHeartbeats 400000 in
theorem unpackSpec_nna (a b K A B R Q F H : Int) (O : Bool) (w : World) (ha0 : 0 ≤ a) (ha1 : a ≤ 4294967295) (hb0 : 0 ≤ b) (hb1 : b ≤ 4294967295) (f : Fields a b K A B R Q F H O) (hk : (K == 2) = true) (ho : okB K A B R 0 H Q F O = false) (hz : (a == 0) = false) (hz2 : ((0 : Int) != a) = true) :
    Calls Tryz.prog 11 #[.int .u32 a, .int .u32 b] w fun e w' => e = .returned (.tuple #[.agg #[.int .i64 0, .int .i64 0, .int .i64 0, .int .i64 0, .int .i64 0, .int .i64 0, .int .i64 0, .int .i64 0, .bool false], .bool false]) ∧ Below w.heap.size w w' := by
  have hbK : 0 ≤ K ∧ K ≤ 15 := by have := f.kk; omega
  have hbA : 0 ≤ A ∧ A ≤ 65535 := by have := f.aa; omega
  have hbB : 0 ≤ B ∧ B ≤ 15 := by have := f.bb; omega
  have hbR : 0 ≤ R ∧ R ≤ 7 := by have := f.rr; omega
  have hbQ : 0 ≤ Q ∧ Q ≤ 15 := by have := f.qq; omega
  have hbF : 0 ≤ F ∧ F ≤ 65535 := by have := f.ff; omega
  have hbH : 0 ≤ H ∧ H ≤ 65535 := by have := f.hh; omega
  have mk := f.kk
  have ma := f.aa
  have mb := f.bb
  have mr := f.rr
  have mq := f.qq
  have mo := f.oo
  have mf := f.ff
  have mh := f.hh
  go_enter Tryz.func11, Tryz.ntmps11
  go_upto_region 4 with fail
  obtain ⟨HR, HC, fR, fC, hB2, hs⟩ := after2 (w := w) (w1 := (w.alloc (.cells #[.int .i64 0, .int .i64 0, .int .i64 0, .int .i64 0, .int .i64 0, .int .i64 0, .int .i64 0, .int .i64 0, .bool false] 24)).alloc (.cells #[.int .i64 K, .int .i64 A, .int .i64 B, .int .i64 R, .int .i64 0, .int .i64 0, .int .i64 Q, .int .i64 F, .bool O] 24)) (T := 24) (Below.refl _ _)
  generalize (w.alloc (.cells #[.int .i64 0, .int .i64 0, .int .i64 0, .int .i64 0, .int .i64 0, .int .i64 0, .int .i64 0, .int .i64 0, .bool false] 24)).alloc (.cells #[.int .i64 K, .int .i64 A, .int .i64 B, .int .i64 R, .int .i64 0, .int .i64 0, .int .i64 Q, .int .i64 F, .bool O] 24) = W2 at HR HC fR fC hB2 hs ⊢
  have hne : w.heap.size ≠ w.heap.size + 1 := by omega
  have hne2 : w.heap.size + 1 ≠ w.heap.size := by omega
  obtain ⟨c0, c1, c2, c3, c4, c5, c6, c7, c8⟩ := id HC
  obtain ⟨z0, z1, z2, z3, z4, z5, z6, z7, z8⟩ := id HR
  clear mk ma mb mr mq mo mf f
  go_wp2_with fail
  refine (packSpec_no _ _ _ _ _ _ _ _ _ _ ho).mono ?_
  rintro e w3 ⟨rfl, hb3⟩
  have HC3 := (HC.putOne5 (.int .i64 H)).below hb3 (by simp; omega)
  have HR3 := (HR.other (C := w.heap.size + 1) 5 (.int .i64 H) hne2).below hb3 (by simp; omega)
  have fR3 : ∀ i, w3.frozen? ⟨w.heap.size, i, none⟩ = false := fun i => by rw [(bcell hb3).2 _ _ (by simp; omega)]; go_simp
  have hB3 := (hB2.setCell (p := ⟨w.heap.size + 1, 5, none⟩) (by simp) (.int .i64 H)).trans (hb3.mono (by simp; omega))
  clear hb3 c0 c1 c2 c3 c4 c5 c6 c7 c8 z0 z1 z2 z3 z4 z5 z6 z7 z8 HC HR fC fR hB2
  obtain ⟨c0, c1, c2, c3, c4, c5, c6, c7, c8⟩ := HC3
  obtain ⟨z0, z1, z2, z3, z4, z5, z6, z7, z8⟩ := id HR3
  go_wp2_with fail
  have HF := HR3.put (.int .i64 0) (.int .i64 0) (.int .i64 0) (.int .i64 0) (.int .i64 0) (.int .i64 0) (.int .i64 0) (.int .i64 0) (.bool false)
  refine bodyPost_ret (spec_CapUnpack_res rfl rfl HF) rfl ?_
  refine ⟨rfl, ?_⟩
  repeat (refine Below.setCell ?_ (by simp; try omega) _)
  exact hB3

set_option maxHeartbeats 400000 in
theorem unpackSpec_nnb (a b K A B R Q F H : Int) (O : Bool) (w : World) (ha0 : 0 ≤ a) (ha1 : a ≤ 4294967295) (hb0 : 0 ≤ b) (hb1 : b ≤ 4294967295) (f : Fields a b K A B R Q F H O) (hk : (K == 2) = true) (ho : okB K A B R 0 H Q F O = false) (hz : (a == 0) = true) (hz2 : ((0 : Int) != a) = false) (hz3 : ((0 : Int) != b) = true) :
    Calls Tryz.prog 11 #[.int .u32 a, .int .u32 b] w fun e w' => e = .returned (.tuple #[.agg #[.int .i64 0, .int .i64 0, .int .i64 0, .int .i64 0, .int .i64 0, .int .i64 0, .int .i64 0, .int .i64 0, .bool false], .bool false]) ∧ Below w.heap.size w w' := by
  have hbK : 0 ≤ K ∧ K ≤ 15 := by have := f.kk; omega
  have hbA : 0 ≤ A ∧ A ≤ 65535 := by have := f.aa; omega
  have hbB : 0 ≤ B ∧ B ≤ 15 := by have := f.bb; omega
  have hbR : 0 ≤ R ∧ R ≤ 7 := by have := f.rr; omega
  have hbQ : 0 ≤ Q ∧ Q ≤ 15 := by have := f.qq; omega
  have hbF : 0 ≤ F ∧ F ≤ 65535 := by have := f.ff; omega
  have hbH : 0 ≤ H ∧ H ≤ 65535 := by have := f.hh; omega
  have mk := f.kk
  have ma := f.aa
  have mb := f.bb
  have mr := f.rr
  have mq := f.qq
  have mo := f.oo
  have mf := f.ff
  have mh := f.hh
  go_enter Tryz.func11, Tryz.ntmps11
  go_upto_region 4 with fail
  obtain ⟨HR, HC, fR, fC, hB2, hs⟩ := after2 (w := w) (w1 := (w.alloc (.cells #[.int .i64 0, .int .i64 0, .int .i64 0, .int .i64 0, .int .i64 0, .int .i64 0, .int .i64 0, .int .i64 0, .bool false] 24)).alloc (.cells #[.int .i64 K, .int .i64 A, .int .i64 B, .int .i64 R, .int .i64 0, .int .i64 0, .int .i64 Q, .int .i64 F, .bool O] 24)) (T := 24) (Below.refl _ _)
  generalize (w.alloc (.cells #[.int .i64 0, .int .i64 0, .int .i64 0, .int .i64 0, .int .i64 0, .int .i64 0, .int .i64 0, .int .i64 0, .bool false] 24)).alloc (.cells #[.int .i64 K, .int .i64 A, .int .i64 B, .int .i64 R, .int .i64 0, .int .i64 0, .int .i64 Q, .int .i64 F, .bool O] 24) = W2 at HR HC fR fC hB2 hs ⊢
  have hne : w.heap.size ≠ w.heap.size + 1 := by omega
  have hne2 : w.heap.size + 1 ≠ w.heap.size := by omega
  obtain ⟨c0, c1, c2, c3, c4, c5, c6, c7, c8⟩ := id HC
  obtain ⟨z0, z1, z2, z3, z4, z5, z6, z7, z8⟩ := id HR
  clear mk ma mb mr mq mo mf f
  go_wp2_with fail
  refine (packSpec_no _ _ _ _ _ _ _ _ _ _ ho).mono ?_
  rintro e w3 ⟨rfl, hb3⟩
  have HC3 := (HC.putOne5 (.int .i64 H)).below hb3 (by simp; omega)
  have HR3 := (HR.other (C := w.heap.size + 1) 5 (.int .i64 H) hne2).below hb3 (by simp; omega)
  have fR3 : ∀ i, w3.frozen? ⟨w.heap.size, i, none⟩ = false := fun i => by rw [(bcell hb3).2 _ _ (by simp; omega)]; go_simp
  have hB3 := (hB2.setCell (p := ⟨w.heap.size + 1, 5, none⟩) (by simp) (.int .i64 H)).trans (hb3.mono (by simp; omega))
  clear hb3 c0 c1 c2 c3 c4 c5 c6 c7 c8 z0 z1 z2 z3 z4 z5 z6 z7 z8 HC HR fC fR hB2
  obtain ⟨c0, c1, c2, c3, c4, c5, c6, c7, c8⟩ := HC3
  obtain ⟨z0, z1, z2, z3, z4, z5, z6, z7, z8⟩ := id HR3
  go_wp2_with fail
  have HF := HR3.put (.int .i64 0) (.int .i64 0) (.int .i64 0) (.int .i64 0) (.int .i64 0) (.int .i64 0) (.int .i64 0) (.int .i64 0) (.bool false)
  refine bodyPost_ret (spec_CapUnpack_res rfl rfl HF) rfl ?_
  refine ⟨rfl, ?_⟩
  repeat (refine Below.setCell ?_ (by simp; try omega) _)
  exact hB3

set_option maxHeartbeats 400000 in
theorem unpackSpec_nnc (a b K A B R Q F H : Int) (O : Bool) (w : World) (ha0 : 0 ≤ a) (ha1 : a ≤ 4294967295) (hb0 : 0 ≤ b) (hb1 : b ≤ 4294967295) (f : Fields a b K A B R Q F H O) (hk : (K == 2) = true) (ho : okB K A B R 0 H Q F O = false) (hz : (a == 0) = true) (hz2 : ((0 : Int) != a) = false) (hz3 : ((0 : Int) != b) = false) :
    Calls Tryz.prog 11 #[.int .u32 a, .int .u32 b] w fun e w' => e = .returned (.tuple #[.agg #[.int .i64 0, .int .i64 0, .int .i64 0, .int .i64 0, .int .i64 0, .int .i64 0, .int .i64 0, .int .i64 0, .bool false], .bool false]) ∧ Below w.heap.size w w' := by
  have hbK : 0 ≤ K ∧ K ≤ 15 := by have := f.kk; omega
  have hbA : 0 ≤ A ∧ A ≤ 65535 := by have := f.aa; omega
  have hbB : 0 ≤ B ∧ B ≤ 15 := by have := f.bb; omega
  have hbR : 0 ≤ R ∧ R ≤ 7 := by have := f.rr; omega
  have hbQ : 0 ≤ Q ∧ Q ≤ 15 := by have := f.qq; omega
  have hbF : 0 ≤ F ∧ F ≤ 65535 := by have := f.ff; omega
  have hbH : 0 ≤ H ∧ H ≤ 65535 := by have := f.hh; omega
  have mk := f.kk
  have ma := f.aa
  have mb := f.bb
  have mr := f.rr
  have mq := f.qq
  have mo := f.oo
  have mf := f.ff
  have mh := f.hh
  go_enter Tryz.func11, Tryz.ntmps11
  go_upto_region 4 with fail
  obtain ⟨HR, HC, fR, fC, hB2, hs⟩ := after2 (w := w) (w1 := (w.alloc (.cells #[.int .i64 0, .int .i64 0, .int .i64 0, .int .i64 0, .int .i64 0, .int .i64 0, .int .i64 0, .int .i64 0, .bool false] 24)).alloc (.cells #[.int .i64 K, .int .i64 A, .int .i64 B, .int .i64 R, .int .i64 0, .int .i64 0, .int .i64 Q, .int .i64 F, .bool O] 24)) (T := 24) (Below.refl _ _)
  generalize (w.alloc (.cells #[.int .i64 0, .int .i64 0, .int .i64 0, .int .i64 0, .int .i64 0, .int .i64 0, .int .i64 0, .int .i64 0, .bool false] 24)).alloc (.cells #[.int .i64 K, .int .i64 A, .int .i64 B, .int .i64 R, .int .i64 0, .int .i64 0, .int .i64 Q, .int .i64 F, .bool O] 24) = W2 at HR HC fR fC hB2 hs ⊢
  have hne : w.heap.size ≠ w.heap.size + 1 := by omega
  have hne2 : w.heap.size + 1 ≠ w.heap.size := by omega
  obtain ⟨c0, c1, c2, c3, c4, c5, c6, c7, c8⟩ := id HC
  obtain ⟨z0, z1, z2, z3, z4, z5, z6, z7, z8⟩ := id HR
  clear mk ma mb mr mq mo mf f
  go_wp2_with fail
  refine (packSpec_no _ _ _ _ _ _ _ _ _ _ ho).mono ?_
  rintro e w3 ⟨rfl, hb3⟩
  have HC3 := (HC.putOne5 (.int .i64 H)).below hb3 (by simp; omega)
  have HR3 := (HR.other (C := w.heap.size + 1) 5 (.int .i64 H) hne2).below hb3 (by simp; omega)
  have fR3 : ∀ i, w3.frozen? ⟨w.heap.size, i, none⟩ = false := fun i => by rw [(bcell hb3).2 _ _ (by simp; omega)]; go_simp
  have hB3 := (hB2.setCell (p := ⟨w.heap.size + 1, 5, none⟩) (by simp) (.int .i64 H)).trans (hb3.mono (by simp; omega))
  clear hb3 c0 c1 c2 c3 c4 c5 c6 c7 c8 z0 z1 z2 z3 z4 z5 z6 z7 z8 HC HR fC fR hB2
  obtain ⟨c0, c1, c2, c3, c4, c5, c6, c7, c8⟩ := HC3
  obtain ⟨z0, z1, z2, z3, z4, z5, z6, z7, z8⟩ := id HR3
  go_wp2_with fail
  have HF := HR3.put (.int .i64 0) (.int .i64 0) (.int .i64 0) (.int .i64 0) (.int .i64 0) (.int .i64 0) (.int .i64 0) (.int .i64 0) (.bool false)
  refine bodyPost_ret (spec_CapUnpack_res rfl rfl HF) rfl ?_
  refine ⟨rfl, ?_⟩
  repeat (refine Below.setCell ?_ (by simp; try omega) _)
  exact hB3

set_option maxHeartbeats 400000 in
theorem unpackImpl_oy (a b K A B R Q F H : Int) (O : Bool) (w : World) (ha0 : 0 ≤ a) (ha1 : a ≤ 4294967295) (hb0 : 0 ≤ b) (hb1 : b ≤ 4294967295) (f : Fields a b K A B R Q F H O) (hk : (K == 2) = false) (ho : okB K A B R H 0 Q F O = true) :
    Calls Tryz.prog 6 #[.int .u32 a, .int .u32 b] w fun e w' => e = .returned (.tuple #[.agg #[.int .i64 K, .int .i64 A, .int .i64 B, .int .i64 R, .int .i64 H, .int .i64 0, .int .i64 Q, .int .i64 F, .bool O], .bool true]) ∧ Below w.heap.size w w' := by
  have hbK : 0 ≤ K ∧ K ≤ 15 := by have := f.kk; omega
  have hbA : 0 ≤ A ∧ A ≤ 65535 := by have := f.aa; omega
  have hbB : 0 ≤ B ∧ B ≤ 15 := by have := f.bb; omega
  have hbR : 0 ≤ R ∧ R ≤ 7 := by have := f.rr; omega
  have hbQ : 0 ≤ Q ∧ Q ≤ 15 := by have := f.qq; omega
  have hbF : 0 ≤ F ∧ F ≤ 65535 := by have := f.ff; omega
  have hbH : 0 ≤ H ∧ H ≤ 65535 := by have := f.hh; omega
  have mk : bits BinOp.and IntKind.u32 a 15 = K := by rw [maskN 4 (by omega) (s := 16) (by decide) (by decide) ha0 ha1]; exact f.kk
  have ma : bits BinOp.and IntKind.u32 b 65535 = A := by rw [maskN 16 (by omega) (s := 65536) (by decide) (by decide) hb0 hb1]; exact f.aa
  have mb : bits BinOp.and IntKind.u32 (a / 256) 15 = B := by rw [maskN 4 (by omega) (s := 16) (by decide) (by decide) (by omega) (by omega)]; exact f.bb
  have mr : bits BinOp.and IntKind.u32 (a / 32) 7 = R := by rw [maskN 3 (by omega) (s := 8) (by decide) (by decide) (by omega) (by omega)]; exact f.rr
  have mq : bits BinOp.and IntKind.u32 (a / 4096) 15 = Q := by rw [maskN 4 (by omega) (s := 16) (by decide) (by decide) (by omega) (by omega)]; exact f.qq
  have mo : (bits BinOp.and IntKind.u32 (a / 16) 1 == 1) = O := by rw [maskN 1 (by omega) (s := 2) (by decide) (by decide) (by omega) (by omega)]; exact f.oo
  have mf := f.ff
  have mh := f.hh
  have tn := ta_node K false hk
  go_enter Tryz.func6, Tryz.ntmps6
  go_upto_region 3 with fail
  obtain ⟨HR, HC, fR, fC, hB2, hs⟩ := after2 (w := w) (w1 := (w.alloc (.cells #[.int .i64 0, .int .i64 0, .int .i64 0, .int .i64 0, .int .i64 0, .int .i64 0, .int .i64 0, .int .i64 0, .bool false] 24)).alloc (.cells #[.int .i64 K, .int .i64 A, .int .i64 B, .int .i64 R, .int .i64 0, .int .i64 0, .int .i64 Q, .int .i64 F, .bool O] 24)) (T := 24) (Below.refl _ _)
  generalize (w.alloc (.cells #[.int .i64 0, .int .i64 0, .int .i64 0, .int .i64 0, .int .i64 0, .int .i64 0, .int .i64 0, .int .i64 0, .bool false] 24)).alloc (.cells #[.int .i64 K, .int .i64 A, .int .i64 B, .int .i64 R, .int .i64 0, .int .i64 0, .int .i64 Q, .int .i64 F, .bool O] 24) = W2 at HR HC fR fC hB2 hs ⊢
  have hne : w.heap.size ≠ w.heap.size + 1 := by omega
  have hne2 : w.heap.size + 1 ≠ w.heap.size := by omega
  obtain ⟨c0, c1, c2, c3, c4, c5, c6, c7, c8⟩ := id HC
  obtain ⟨z0, z1, z2, z3, z4, z5, z6, z7, z8⟩ := id HR
  clear mk ma mb mr mq mo mf mh f
  go_wp2_with (first | (go_at_call 17; refine (kindOf_any _ _).mono ?_; rintro e w' ⟨rfl, rfl⟩))
  refine (okImpl_any _ _ _ _ _ _ _ _ _ _ (by omega) (by omega)).mono ?_
  rintro e w3 ⟨rfl, hb3⟩
  rw [ho]
  have HC3 := (HC.putOne4 (.int .i64 H)).below hb3 (by simp; omega)
  have HR3 := (HR.other (C := w.heap.size + 1) 4 (.int .i64 H) hne2).below hb3 (by simp; omega)
  have fR3 : ∀ i, w3.frozen? ⟨w.heap.size, i, none⟩ = false := fun i => by rw [(bcell hb3).2 _ _ (by simp; omega)]; go_simp
  have hB3 := (hB2.setCell (p := ⟨w.heap.size + 1, 4, none⟩) (by simp) (.int .i64 H)).trans (hb3.mono (by simp; omega))
  clear hb3 c0 c1 c2 c3 c4 c5 c6 c7 c8 z0 z1 z2 z3 z4 z5 z6 z7 z8 HC HR fC fR hB2
  obtain ⟨c0, c1, c2, c3, c4, c5, c6, c7, c8⟩ := HC3
  obtain ⟨z0, z1, z2, z3, z4, z5, z6, z7, z8⟩ := id HR3
  go_wp2_with fail
  have HF := HR3.put (.int .i64 K) (.int .i64 A) (.int .i64 B) (.int .i64 R) (.int .i64 H) (.int .i64 0) (.int .i64 Q) (.int .i64 F) (.bool O)
  refine bodyPost_ret (impl_CapUnpack_res rfl rfl HF) rfl ?_
  refine ⟨rfl, ?_⟩
  repeat (refine Below.setCell ?_ (by simp; try omega) _)
  exact hB3

set_option maxHeartbeats 400000 in
theorem unpackImpl_on (a b K A B R Q F H : Int) (O : Bool) (w : World) (ha0 : 0 ≤ a) (ha1 : a ≤ 4294967295) (hb0 : 0 ≤ b) (hb1 : b ≤ 4294967295) (f : Fields a b K A B R Q F H O) (hk : (K == 2) = false) (ho : okB K A B R H 0 Q F O = false) :
    Calls Tryz.prog 6 #[.int .u32 a, .int .u32 b] w fun e w' => e = .returned (.tuple #[.agg #[.int .i64 0, .int .i64 0, .int .i64 0, .int .i64 0, .int .i64 0, .int .i64 0, .int .i64 0, .int .i64 0, .bool false], .bool false]) ∧ Below w.heap.size w w' := by
  have hbK : 0 ≤ K ∧ K ≤ 15 := by have := f.kk; omega
  have hbA : 0 ≤ A ∧ A ≤ 65535 := by have := f.aa; omega
  have hbB : 0 ≤ B ∧ B ≤ 15 := by have := f.bb; omega
  have hbR : 0 ≤ R ∧ R ≤ 7 := by have := f.rr; omega
  have hbQ : 0 ≤ Q ∧ Q ≤ 15 := by have := f.qq; omega
  have hbF : 0 ≤ F ∧ F ≤ 65535 := by have := f.ff; omega
  have hbH : 0 ≤ H ∧ H ≤ 65535 := by have := f.hh; omega
  have mk : bits BinOp.and IntKind.u32 a 15 = K := by rw [maskN 4 (by omega) (s := 16) (by decide) (by decide) ha0 ha1]; exact f.kk
  have ma : bits BinOp.and IntKind.u32 b 65535 = A := by rw [maskN 16 (by omega) (s := 65536) (by decide) (by decide) hb0 hb1]; exact f.aa
  have mb : bits BinOp.and IntKind.u32 (a / 256) 15 = B := by rw [maskN 4 (by omega) (s := 16) (by decide) (by decide) (by omega) (by omega)]; exact f.bb
  have mr : bits BinOp.and IntKind.u32 (a / 32) 7 = R := by rw [maskN 3 (by omega) (s := 8) (by decide) (by decide) (by omega) (by omega)]; exact f.rr
  have mq : bits BinOp.and IntKind.u32 (a / 4096) 15 = Q := by rw [maskN 4 (by omega) (s := 16) (by decide) (by decide) (by omega) (by omega)]; exact f.qq
  have mo : (bits BinOp.and IntKind.u32 (a / 16) 1 == 1) = O := by rw [maskN 1 (by omega) (s := 2) (by decide) (by decide) (by omega) (by omega)]; exact f.oo
  have mf := f.ff
  have mh := f.hh
  have tn := ta_node K false hk
  go_enter Tryz.func6, Tryz.ntmps6
  go_upto_region 3 with fail
  obtain ⟨HR, HC, fR, fC, hB2, hs⟩ := after2 (w := w) (w1 := (w.alloc (.cells #[.int .i64 0, .int .i64 0, .int .i64 0, .int .i64 0, .int .i64 0, .int .i64 0, .int .i64 0, .int .i64 0, .bool false] 24)).alloc (.cells #[.int .i64 K, .int .i64 A, .int .i64 B, .int .i64 R, .int .i64 0, .int .i64 0, .int .i64 Q, .int .i64 F, .bool O] 24)) (T := 24) (Below.refl _ _)
  generalize (w.alloc (.cells #[.int .i64 0, .int .i64 0, .int .i64 0, .int .i64 0, .int .i64 0, .int .i64 0, .int .i64 0, .int .i64 0, .bool false] 24)).alloc (.cells #[.int .i64 K, .int .i64 A, .int .i64 B, .int .i64 R, .int .i64 0, .int .i64 0, .int .i64 Q, .int .i64 F, .bool O] 24) = W2 at HR HC fR fC hB2 hs ⊢
  have hne : w.heap.size ≠ w.heap.size + 1 := by omega
  have hne2 : w.heap.size + 1 ≠ w.heap.size := by omega
  obtain ⟨c0, c1, c2, c3, c4, c5, c6, c7, c8⟩ := id HC
  obtain ⟨z0, z1, z2, z3, z4, z5, z6, z7, z8⟩ := id HR
  clear mk ma mb mr mq mo mf mh f
  go_wp2_with (first | (go_at_call 17; refine (kindOf_any _ _).mono ?_; rintro e w' ⟨rfl, rfl⟩))
  refine (okImpl_any _ _ _ _ _ _ _ _ _ _ (by omega) (by omega)).mono ?_
  rintro e w3 ⟨rfl, hb3⟩
  rw [ho]
  have HC3 := (HC.putOne4 (.int .i64 H)).below hb3 (by simp; omega)
  have HR3 := (HR.other (C := w.heap.size + 1) 4 (.int .i64 H) hne2).below hb3 (by simp; omega)
  have fR3 : ∀ i, w3.frozen? ⟨w.heap.size, i, none⟩ = false := fun i => by rw [(bcell hb3).2 _ _ (by simp; omega)]; go_simp
  have hB3 := (hB2.setCell (p := ⟨w.heap.size + 1, 4, none⟩) (by simp) (.int .i64 H)).trans (hb3.mono (by simp; omega))
  clear hb3 c0 c1 c2 c3 c4 c5 c6 c7 c8 z0 z1 z2 z3 z4 z5 z6 z7 z8 HC HR fC fR hB2
  obtain ⟨c0, c1, c2, c3, c4, c5, c6, c7, c8⟩ := HC3
  obtain ⟨z0, z1, z2, z3, z4, z5, z6, z7, z8⟩ := id HR3
  go_wp2_with fail
  have HF := HR3.put (.int .i64 0) (.int .i64 0) (.int .i64 0) (.int .i64 0) (.int .i64 0) (.int .i64 0) (.int .i64 0) (.int .i64 0) (.bool false)
  refine bodyPost_ret (impl_CapUnpack_res rfl rfl HF) rfl ?_
  refine ⟨rfl, ?_⟩
  repeat (refine Below.setCell ?_ (by simp; try omega) _)
  exact hB3

set_option maxHeartbeats 400000 in
theorem unpackSpec_oy (a b K A B R Q F H : Int) (O : Bool) (w : World) (ha0 : 0 ≤ a) (ha1 : a ≤ 4294967295) (hb0 : 0 ≤ b) (hb1 : b ≤ 4294967295) (f : Fields a b K A B R Q F H O) (hk : (K == 2) = false) (ho : okB K A B R H 0 Q F O = true) :
    Calls Tryz.prog 11 #[.int .u32 a, .int .u32 b] w fun e w' => e = .returned (.tuple #[.agg #[.int .i64 K, .int .i64 A, .int .i64 B, .int .i64 R, .int .i64 H, .int .i64 0, .int .i64 Q, .int .i64 F, .bool O], .bool true]) ∧ Below w.heap.size w w' := by
  have hbK : 0 ≤ K ∧ K ≤ 15 := by have := f.kk; omega
  have hbA : 0 ≤ A ∧ A ≤ 65535 := by have := f.aa; omega
  have hbB : 0 ≤ B ∧ B ≤ 15 := by have := f.bb; omega
  have hbR : 0 ≤ R ∧ R ≤ 7 := by have := f.rr; omega
  have hbQ : 0 ≤ Q ∧ Q ≤ 15 := by have := f.qq; omega
  have hbF : 0 ≤ F ∧ F ≤ 65535 := by have := f.ff; omega
  have hbH : 0 ≤ H ∧ H ≤ 65535 := by have := f.hh; omega
  have hw := words_back f ha0 hb0 H 0 (by omega)
  have hz : (a == 0) = false := by
    have := (ok_bounds ho).1
    have := f.kk
    simp; omega
  have mk := f.kk
  have ma := f.aa
  have mb := f.bb
  have mr := f.rr
  have mq := f.qq
  have mo := f.oo
  have mf := f.ff
  have mh := f.hh
  go_enter Tryz.func11, Tryz.ntmps11
  go_upto_region 4 with fail
  obtain ⟨HR, HC, fR, fC, hB2, hs⟩ := after2 (w := w) (w1 := (w.alloc (.cells #[.int .i64 0, .int .i64 0, .int .i64 0, .int .i64 0, .int .i64 0, .int .i64 0, .int .i64 0, .int .i64 0, .bool false] 24)).alloc (.cells #[.int .i64 K, .int .i64 A, .int .i64 B, .int .i64 R, .int .i64 0, .int .i64 0, .int .i64 Q, .int .i64 F, .bool O] 24)) (T := 24) (Below.refl _ _)
  generalize (w.alloc (.cells #[.int .i64 0, .int .i64 0, .int .i64 0, .int .i64 0, .int .i64 0, .int .i64 0, .int .i64 0, .int .i64 0, .bool false] 24)).alloc (.cells #[.int .i64 K, .int .i64 A, .int .i64 B, .int .i64 R, .int .i64 0, .int .i64 0, .int .i64 Q, .int .i64 F, .bool O] 24) = W2 at HR HC fR fC hB2 hs ⊢
  have hne : w.heap.size ≠ w.heap.size + 1 := by omega
  have hne2 : w.heap.size + 1 ≠ w.heap.size := by omega
  obtain ⟨c0, c1, c2, c3, c4, c5, c6, c7, c8⟩ := id HC
  obtain ⟨z0, z1, z2, z3, z4, z5, z6, z7, z8⟩ := id HR
  clear mk ma mb mr mq mo mf f
  go_wp2_with fail
  refine (packSpec_yes _ _ _ _ _ _ _ _ _ _ ho).mono ?_
  rintro e w3 ⟨rfl, hb3⟩
  rw [hw.1, hw.2]
  have HC3 := (HC.putOne4 (.int .i64 H)).below hb3 (by simp; omega)
  have HR3 := (HR.other (C := w.heap.size + 1) 4 (.int .i64 H) hne2).below hb3 (by simp; omega)
  have fR3 : ∀ i, w3.frozen? ⟨w.heap.size, i, none⟩ = false := fun i => by rw [(bcell hb3).2 _ _ (by simp; omega)]; go_simp
  have hB3 := (hB2.setCell (p := ⟨w.heap.size + 1, 4, none⟩) (by simp) (.int .i64 H)).trans (hb3.mono (by simp; omega))
  clear hb3 c0 c1 c2 c3 c4 c5 c6 c7 c8 z0 z1 z2 z3 z4 z5 z6 z7 z8 HC HR fC fR hB2
  obtain ⟨c0, c1, c2, c3, c4, c5, c6, c7, c8⟩ := HC3
  obtain ⟨z0, z1, z2, z3, z4, z5, z6, z7, z8⟩ := id HR3
  go_wp2_with fail
  have HF := HR3.put (.int .i64 K) (.int .i64 A) (.int .i64 B) (.int .i64 R) (.int .i64 H) (.int .i64 0) (.int .i64 Q) (.int .i64 F) (.bool O)
  refine bodyPost_ret (spec_CapUnpack_res rfl rfl HF) rfl ?_
  refine ⟨rfl, ?_⟩
  repeat (refine Below.setCell ?_ (by simp; try omega) _)
  exact hB3

set_option maxHeartbeats 400000 in
theorem unpackSpec_ona (a b K A B R Q F H : Int) (O : Bool) (w : World) (ha0 : 0 ≤ a) (ha1 : a ≤ 4294967295) (hb0 : 0 ≤ b) (hb1 : b ≤ 4294967295) (f : Fields a b K A B R Q F H O) (hk : (K == 2) = false) (ho : okB K A B R H 0 Q F O = false) (hz : (a == 0) = false) (hz2 : ((0 : Int) != a) = true) :
    Calls Tryz.prog 11 #[.int .u32 a, .int .u32 b] w fun e w' => e = .returned (.tuple #[.agg #[.int .i64 0, .int .i64 0, .int .i64 0, .int .i64 0, .int .i64 0, .int .i64 0, .int .i64 0, .int .i64 0, .bool false], .bool false]) ∧ Below w.heap.size w w' := by
  have hbK : 0 ≤ K ∧ K ≤ 15 := by have := f.kk; omega
  have hbA : 0 ≤ A ∧ A ≤ 65535 := by have := f.aa; omega
  have hbB : 0 ≤ B ∧ B ≤ 15 := by have := f.bb; omega
  have hbR : 0 ≤ R ∧ R ≤ 7 := by have := f.rr; omega
  have hbQ : 0 ≤ Q ∧ Q ≤ 15 := by have := f.qq; omega
  have hbF : 0 ≤ F ∧ F ≤ 65535 := by have := f.ff; omega
  have hbH : 0 ≤ H ∧ H ≤ 65535 := by have := f.hh; omega
  have mk := f.kk
  have ma := f.aa
  have mb := f.bb
  have mr := f.rr
  have mq := f.qq
  have mo := f.oo
  have mf := f.ff
  have mh := f.hh
  go_enter Tryz.func11, Tryz.ntmps11
  go_upto_region 4 with fail
  obtain ⟨HR, HC, fR, fC, hB2, hs⟩ := after2 (w := w) (w1 := (w.alloc (.cells #[.int .i64 0, .int .i64 0, .int .i64 0, .int .i64 0, .int .i64 0, .int .i64 0, .int .i64 0, .int .i64 0, .bool false] 24)).alloc (.cells #[.int .i64 K, .int .i64 A, .int .i64 B, .int .i64 R, .int .i64 0, .int .i64 0, .int .i64 Q, .int .i64 F, .bool O] 24)) (T := 24) (Below.refl _ _)
  generalize (w.alloc (.cells #[.int .i64 0, .int .i64 0, .int .i64 0, .int .i64 0, .int .i64 0, .int .i64 0, .int .i64 0, .int .i64 0, .bool false] 24)).alloc (.cells #[.int .i64 K, .int .i64 A, .int .i64 B, .int .i64 R, .int .i64 0, .int .i64 0, .int .i64 Q, .int .i64 F, .bool O] 24) = W2 at HR HC fR fC hB2 hs ⊢
  have hne : w.heap.size ≠ w.heap.size + 1 := by omega
  have hne2 : w.heap.size + 1 ≠ w.heap.size := by omega
  obtain ⟨c0, c1, c2, c3, c4, c5, c6, c7, c8⟩ := id HC
  obtain ⟨z0, z1, z2, z3, z4, z5, z6, z7, z8⟩ := id HR
  clear mk ma mb mr mq mo mf f
  go_wp2_with fail
  refine (packSpec_no _ _ _ _ _ _ _ _ _ _ ho).mono ?_
  rintro e w3 ⟨rfl, hb3⟩
  have HC3 := (HC.putOne4 (.int .i64 H)).below hb3 (by simp; omega)
  have HR3 := (HR.other (C := w.heap.size + 1) 4 (.int .i64 H) hne2).below hb3 (by simp; omega)
  have fR3 : ∀ i, w3.frozen? ⟨w.heap.size, i, none⟩ = false := fun i => by rw [(bcell hb3).2 _ _ (by simp; omega)]; go_simp
  have hB3 := (hB2.setCell (p := ⟨w.heap.size + 1, 4, none⟩) (by simp) (.int .i64 H)).trans (hb3.mono (by simp; omega))
  clear hb3 c0 c1 c2 c3 c4 c5 c6 c7 c8 z0 z1 z2 z3 z4 z5 z6 z7 z8 HC HR fC fR hB2
  obtain ⟨c0, c1, c2, c3, c4, c5, c6, c7, c8⟩ := HC3
  obtain ⟨z0, z1, z2, z3, z4, z5, z6, z7, z8⟩ := id HR3
  go_wp2_with fail
  have HF := HR3.put (.int .i64 0) (.int .i64 0) (.int .i64 0) (.int .i64 0) (.int .i64 0) (.int .i64 0) (.int .i64 0) (.int .i64 0) (.bool false)
  refine bodyPost_ret (spec_CapUnpack_res rfl rfl HF) rfl ?_
  refine ⟨rfl, ?_⟩
  repeat (refine Below.setCell ?_ (by simp; try omega) _)
  exact hB3

set_option maxHeartbeats 400000 in
theorem unpackSpec_onb (a b K A B R Q F H : Int) (O : Bool) (w : World) (ha0 : 0 ≤ a) (ha1 : a ≤ 4294967295) (hb0 : 0 ≤ b) (hb1 : b ≤ 4294967295) (f : Fields a b K A B R Q F H O) (hk : (K == 2) = false) (ho : okB K A B R H 0 Q F O = false) (hz : (a == 0) = true) (hz2 : ((0 : Int) != a) = false) (hz3 : ((0 : Int) != b) = true) :
    Calls Tryz.prog 11 #[.int .u32 a, .int .u32 b] w fun e w' => e = .returned (.tuple #[.agg #[.int .i64 0, .int .i64 0, .int .i64 0, .int .i64 0, .int .i64 0, .int .i64 0, .int .i64 0, .int .i64 0, .bool false], .bool false]) ∧ Below w.heap.size w w' := by
  have hbK : 0 ≤ K ∧ K ≤ 15 := by have := f.kk; omega
  have hbA : 0 ≤ A ∧ A ≤ 65535 := by have := f.aa; omega
  have hbB : 0 ≤ B ∧ B ≤ 15 := by have := f.bb; omega
  have hbR : 0 ≤ R ∧ R ≤ 7 := by have := f.rr; omega
  have hbQ : 0 ≤ Q ∧ Q ≤ 15 := by have := f.qq; omega
  have hbF : 0 ≤ F ∧ F ≤ 65535 := by have := f.ff; omega
  have hbH : 0 ≤ H ∧ H ≤ 65535 := by have := f.hh; omega
  have mk := f.kk
  have ma := f.aa
  have mb := f.bb
  have mr := f.rr
  have mq := f.qq
  have mo := f.oo
  have mf := f.ff
  have mh := f.hh
  go_enter Tryz.func11, Tryz.ntmps11
  go_upto_region 4 with fail
  obtain ⟨HR, HC, fR, fC, hB2, hs⟩ := after2 (w := w) (w1 := (w.alloc (.cells #[.int .i64 0, .int .i64 0, .int .i64 0, .int .i64 0, .int .i64 0, .int .i64 0, .int .i64 0, .int .i64 0, .bool false] 24)).alloc (.cells #[.int .i64 K, .int .i64 A, .int .i64 B, .int .i64 R, .int .i64 0, .int .i64 0, .int .i64 Q, .int .i64 F, .bool O] 24)) (T := 24) (Below.refl _ _)
  generalize (w.alloc (.cells #[.int .i64 0, .int .i64 0, .int .i64 0, .int .i64 0, .int .i64 0, .int .i64 0, .int .i64 0, .int .i64 0, .bool false] 24)).alloc (.cells #[.int .i64 K, .int .i64 A, .int .i64 B, .int .i64 R, .int .i64 0, .int .i64 0, .int .i64 Q, .int .i64 F, .bool O] 24) = W2 at HR HC fR fC hB2 hs ⊢
  have hne : w.heap.size ≠ w.heap.size + 1 := by omega
  have hne2 : w.heap.size + 1 ≠ w.heap.size := by omega
  obtain ⟨c0, c1, c2, c3, c4, c5, c6, c7, c8⟩ := id HC
  obtain ⟨z0, z1, z2, z3, z4, z5, z6, z7, z8⟩ := id HR
  clear mk ma mb mr mq mo mf f
  go_wp2_with fail
  refine (packSpec_no _ _ _ _ _ _ _ _ _ _ ho).mono ?_
  rintro e w3 ⟨rfl, hb3⟩
  have HC3 := (HC.putOne4 (.int .i64 H)).below hb3 (by simp; omega)
  have HR3 := (HR.other (C := w.heap.size + 1) 4 (.int .i64 H) hne2).below hb3 (by simp; omega)
  have fR3 : ∀ i, w3.frozen? ⟨w.heap.size, i, none⟩ = false := fun i => by rw [(bcell hb3).2 _ _ (by simp; omega)]; go_simp
  have hB3 := (hB2.setCell (p := ⟨w.heap.size + 1, 4, none⟩) (by simp) (.int .i64 H)).trans (hb3.mono (by simp; omega))
  clear hb3 c0 c1 c2 c3 c4 c5 c6 c7 c8 z0 z1 z2 z3 z4 z5 z6 z7 z8 HC HR fC fR hB2
  obtain ⟨c0, c1, c2, c3, c4, c5, c6, c7, c8⟩ := HC3
  obtain ⟨z0, z1, z2, z3, z4, z5, z6, z7, z8⟩ := id HR3
  go_wp2_with fail
  have HF := HR3.put (.int .i64 0) (.int .i64 0) (.int .i64 0) (.int .i64 0) (.int .i64 0) (.int .i64 0) (.int .i64 0) (.int .i64 0) (.bool false)
  refine bodyPost_ret (spec_CapUnpack_res rfl rfl HF) rfl ?_
  refine ⟨rfl, ?_⟩
  repeat (refine Below.setCell ?_ (by simp; try omega) _)
  exact hB3

set_option maxHeartbeats 400000 in
theorem unpackSpec_onc (a b K A B R Q F H : Int) (O : Bool) (w : World) (ha0 : 0 ≤ a) (ha1 : a ≤ 4294967295) (hb0 : 0 ≤ b) (hb1 : b ≤ 4294967295) (f : Fields a b K A B R Q F H O) (hk : (K == 2) = false) (ho : okB K A B R H 0 Q F O = false) (hz : (a == 0) = true) (hz2 : ((0 : Int) != a) = false) (hz3 : ((0 : Int) != b) = false) :
    Calls Tryz.prog 11 #[.int .u32 a, .int .u32 b] w fun e w' => e = .returned (.tuple #[.agg #[.int .i64 0, .int .i64 0, .int .i64 0, .int .i64 0, .int .i64 0, .int .i64 0, .int .i64 0, .int .i64 0, .bool false], .bool false]) ∧ Below w.heap.size w w' := by
  have hbK : 0 ≤ K ∧ K ≤ 15 := by have := f.kk; omega
  have hbA : 0 ≤ A ∧ A ≤ 65535 := by have := f.aa; omega
  have hbB : 0 ≤ B ∧ B ≤ 15 := by have := f.bb; omega
  have hbR : 0 ≤ R ∧ R ≤ 7 := by have := f.rr; omega
  have hbQ : 0 ≤ Q ∧ Q ≤ 15 := by have := f.qq; omega
  have hbF : 0 ≤ F ∧ F ≤ 65535 := by have := f.ff; omega
  have hbH : 0 ≤ H ∧ H ≤ 65535 := by have := f.hh; omega
  have mk := f.kk
  have ma := f.aa
  have mb := f.bb
  have mr := f.rr
  have mq := f.qq
  have mo := f.oo
  have mf := f.ff
  have mh := f.hh
  go_enter Tryz.func11, Tryz.ntmps11
  go_upto_region 4 with fail
  obtain ⟨HR, HC, fR, fC, hB2, hs⟩ := after2 (w := w) (w1 := (w.alloc (.cells #[.int .i64 0, .int .i64 0, .int .i64 0, .int .i64 0, .int .i64 0, .int .i64 0, .int .i64 0, .int .i64 0, .bool false] 24)).alloc (.cells #[.int .i64 K, .int .i64 A, .int .i64 B, .int .i64 R, .int .i64 0, .int .i64 0, .int .i64 Q, .int .i64 F, .bool O] 24)) (T := 24) (Below.refl _ _)
  generalize (w.alloc (.cells #[.int .i64 0, .int .i64 0, .int .i64 0, .int .i64 0, .int .i64 0, .int .i64 0, .int .i64 0, .int .i64 0, .bool false] 24)).alloc (.cells #[.int .i64 K, .int .i64 A, .int .i64 B, .int .i64 R, .int .i64 0, .int .i64 0, .int .i64 Q, .int .i64 F, .bool O] 24) = W2 at HR HC fR fC hB2 hs ⊢
  have hne : w.heap.size ≠ w.heap.size + 1 := by omega
  have hne2 : w.heap.size + 1 ≠ w.heap.size := by omega
  obtain ⟨c0, c1, c2, c3, c4, c5, c6, c7, c8⟩ := id HC
  obtain ⟨z0, z1, z2, z3, z4, z5, z6, z7, z8⟩ := id HR
  clear mk ma mb mr mq mo mf f
  go_wp2_with fail
  refine (packSpec_no _ _ _ _ _ _ _ _ _ _ ho).mono ?_
  rintro e w3 ⟨rfl, hb3⟩
  have HC3 := (HC.putOne4 (.int .i64 H)).below hb3 (by simp; omega)
  have HR3 := (HR.other (C := w.heap.size + 1) 4 (.int .i64 H) hne2).below hb3 (by simp; omega)
  have fR3 : ∀ i, w3.frozen? ⟨w.heap.size, i, none⟩ = false := fun i => by rw [(bcell hb3).2 _ _ (by simp; omega)]; go_simp
  have hB3 := (hB2.setCell (p := ⟨w.heap.size + 1, 4, none⟩) (by simp) (.int .i64 H)).trans (hb3.mono (by simp; omega))
  clear hb3 c0 c1 c2 c3 c4 c5 c6 c7 c8 z0 z1 z2 z3 z4 z5 z6 z7 z8 HC HR fC fR hB2
  obtain ⟨c0, c1, c2, c3, c4, c5, c6, c7, c8⟩ := HC3
  obtain ⟨z0, z1, z2, z3, z4, z5, z6, z7, z8⟩ := id HR3
  go_wp2_with fail
  have HF := HR3.put (.int .i64 0) (.int .i64 0) (.int .i64 0) (.int .i64 0) (.int .i64 0) (.int .i64 0) (.int .i64 0) (.int .i64 0) (.bool false)
  refine bodyPost_ret (spec_CapUnpack_res rfl rfl HF) rfl ?_
  refine ⟨rfl, ?_⟩
  repeat (refine Below.setCell ?_ (by simp; try omega) _)
  exact hB3

end Go.Proofs.YthmambhagheocaaGreatDoor
