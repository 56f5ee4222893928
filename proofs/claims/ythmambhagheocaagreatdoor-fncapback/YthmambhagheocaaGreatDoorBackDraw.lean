/-
  What the drawing of a capability, of two words, and of a text answers: some capability with few rights; some two words; some short text.
-/
import Derived.Test.YthmambhagheocaaGreatDoorPairDrawn
import Derived.Test.YthmambhagheocaaGreatDoorPack
import Derived.Test.YthmambhagheocaaGreatDoorTexts
import Derived.Test.YthmambhagheocaaGreatDoorReadImplC
namespace Go.Proofs.YthmambhagheocaaGreatDoor
open Go.ChangeShapes Go.WideShapes Go.ChangeAt Go.RowKit
set_option linter.unusedVariables false

theorem u64_range (x : Int) : 0 ≤ IntKind.u64.wrap x ∧ IntKind.u64.wrap x ≤ 18446744073709551615 := by
  rw [IntKind.wrap_u64]; omega
theorem u32_range (x : Int) : 0 ≤ IntKind.u32.wrap x ∧ IntKind.u32.wrap x ≤ 4294967295 := by
  rw [IntKind.wrap_u32]; omega

set_option maxRecDepth 100000 in
set_option maxHeartbeats 2000000 in
theorem word64_fr (p n k : Nat) (w : World) (h : Reads w p n k) (hk : k ≤ 2900) (hp : p < w.heap.size) :
    Calls Tryz.prog 34 #[.pointer (some ⟨p, 0, none⟩)] w fun e w' => ∃ x : Int, e = .returned (.int .u64 x) ∧ (∃ j, j ≤ k + 8 ∧ Reads w' p n j) ∧ Fr p w w' := by
  go_enter Tryz.func34, Tryz.ntmps34
  go_wp2
  go_loopw [3, 4] (fun v i w' => ∃ (j : Nat) (x : Int), j ≤ 8 ∧ v = .int .u64 x ∧ i = .int .i64 (j : Int) ∧ Reads w' p n (k + j) ∧ Fr p w w') (fun v i w' => 8 - (intOf i).toNat)
  case atStart => exact ⟨0, 0, by omega, rfl, rfl, h, Fr.refl p w⟩
  case round =>
    obtain ⟨j, x, hj, rfl, rfl, hr, F⟩ := hrel
    by_cases hlt : j < 8
    · have hj1 : (j : Int) < 8 := by omega
      go_wp2_with (go_at_call 32; refine (pick_fr p n (k + j) _ _ hr (by omega) (by omega) (by omega)).mono ?_; rintro e w1 ⟨y, rfl, hy, hr1, F1⟩)
      go_roundw
      case rel => exact ⟨j + 1, _, by omega, rfl, by go_num, hr1, F.trans F1⟩
      case measure => simp [intOf]; omega
    · have hj1 : ¬ (j : Int) < 8 := by omega
      go_wp2
      go_ret
      exact ⟨⟨_, rfl⟩, ⟨k + j, by omega, hr⟩, F⟩

theorem of_fr (p n k q L Cc : Nat) (w : World) (h : Reads w p n k) (hk : k ≤ 3000) (hL : 1 ≤ L) (hL1 : L ≤ 300) (hq : q ≠ p)
    (hc : ∀ j, j < L → ∃ s : List UInt8, w.cell? ⟨q, j, none⟩ = some (.string ⟨s.toArray⟩) ∧ s.length ≤ 100) :
    Calls Tryz.prog 36 #[.pointer (some ⟨p, 0, none⟩), .slice (some ⟨q, 0, none⟩) L Cc] w fun e w' => ∃ s : List UInt8, e = .returned (.string ⟨s.toArray⟩) ∧ s.length ≤ 100 ∧ Reads w' p n (k + 1) ∧ Fr p w w' := by
  go_enter Tryz.func36, Tryz.ntmps36
  go_wp2_with (go_at_call 32; refine (pick_any p n k _ _ h hk (by omega) (by omega)).mono ?_; rintro e w1 ⟨x, rfl, hx0, hx1, hr, ht⟩; obtain ⟨m, rfl⟩ : ∃ m : Nat, x = m := ⟨x.toNat, by omega⟩; obtain ⟨v, hv, hv0⟩ := hc m (by omega); have hv1' : w1.cell? ⟨q, m, none⟩ = some (.string ⟨v.toArray⟩) := (by rw [ht.1 _ _ hq]; exact hv))
  go_ret
  exact ⟨v, rfl, hv0, hr, Fr.of_turned ht⟩

/-- The cells of a list of texts that was just made. -/
theorem made_strs (w : World) (T : Nat) (L : List (List UInt8)) (hz : ∀ z ∈ L, z.length ≤ 100) (j : Nat) (hj : j < L.length) :
    ∃ s : List UInt8, (w.alloc (.cells (L.map strV).toArray T)).cell? ⟨w.heap.size, j, none⟩ = some (.string ⟨s.toArray⟩) ∧ s.length ≤ 100 := by
  refine ⟨L[j], ?_, hz _ (List.getElem_mem hj)⟩
  simp [go_sem, hj, strV]

theorem reads_below {w w' : World} {p n k : Nat} (h : Reads w p n k) (hp : p < w.heap.size) (hb : Below w.heap.size w w') : Reads w' p n k := by
  obtain ⟨a, c, g0, g1, g2, g3, g4⟩ := id h
  exact h.later ((hb.cell (p := ⟨p, 1, none⟩) hp).trans g1) ((hb.frozen (p := ⟨p, 1, none⟩) hp).trans g2) (hb.cell (p := ⟨p, 0, none⟩) hp) (fun b o1 hbp => hb.cell (p := ⟨b, o1, none⟩) (Nat.lt_trans hbp hp))
theorem word_range (k a b r d g q f : Int) (o : Bool) : (0 ≤ wordA k a b r d g q f o ∧ wordA k a b r d g q f o ≤ 4294967295) ∧ (0 ≤ wordB k a b r d g q f o ∧ wordB k a b r d g q f o ≤ 4294967295) := by
  unfold wordA wordB
  by_cases h : okB k a b r d g q f o = true
  · rw [if_pos h, if_pos h]
    obtain ⟨⟨k0, k1⟩, ⟨a0, a1⟩, ⟨b0, b1⟩, ⟨r0, r1⟩, ⟨d0, d1⟩, ⟨g0, g1⟩, ⟨q0, q1⟩, ⟨f0, f1⟩, hd⟩ := ok_bounds h
    unfold packA packB oI
    cases o <;> simp <;> omega
  · rw [if_neg h, if_neg h]; omega
theorem textOr_len (k a b r d g q f : Int) (o : Bool) : (textOr k a b r d g q f o).length ≤ 100 := by
  unfold textOr
  by_cases h : okB k a b r d g q f o = true
  · rw [if_pos h]; exact (text_len (c := ⟨k, a, b, r, d, g, q, f, o⟩) h).1
  · rw [if_neg h]; simp

set_option maxHeartbeats 2000000 in
theorem drawPack_any (a : Option Addr) (n c : Nat) (w : World) (h : Bytes w a n c) (hn : n ≤ 1048576) :
    Calls Tryz.prog 4 #[.slice a n c] w fun e w' => ∃ (k' a' b' r' d' g' q' f' : Int) (o' : Bool), e = .returned (.agg #[.int .i64 k', .int .i64 a', .int .i64 b', .int .i64 r', .int .i64 d', .int .i64 g', .int .i64 q', .int .i64 f', .bool o']) ∧ (-10 ≤ r' ∧ r' ≤ 10) ∧ Below w.heap.size w w' := by
  go_enter Tryz.func4, Tryz.ntmps4
  go_wp2_with fail
  have r0 := Bx.new w 24 [.int .i64 0, .int .i64 0, .int .i64 0, .int .i64 0, .int .i64 0, .int .i64 0, .int .i64 0, .int .i64 0, .bool false]
  have hB0 : Below w.heap.size w (w.alloc (.cells #[.int .i64 0, .int .i64 0, .int .i64 0, .int .i64 0, .int .i64 0, .int .i64 0, .int .i64 0, .int .i64 0, .bool false] 24)) := (Below.refl _ _).alloc (Nat.le_refl _) _
  refine (open_any a n c _ (h.alloc _) hn).mono ?_
  rintro e W ⟨rfl, ⟨l, hr⟩, hb, hsz⟩
  have r1 := r0.below hb
  have hB := hB0.trans (hb.mono hB0.size)
  have hs0 : w.heap.size < (w.alloc (.cells #[.int .i64 0, .int .i64 0, .int .i64 0, .int .i64 0, .int .i64 0, .int .i64 0, .int .i64 0, .int .i64 0, .bool false] 24)).heap.size := r0.lt
  generalize (w.alloc (.cells #[.int .i64 0, .int .i64 0, .int .i64 0, .int .i64 0, .int .i64 0, .int .i64 0, .int .i64 0, .int .i64 0, .bool false] 24)).heap.size = p at hr hsz hs0 ⊢
  go_wp2_with fail
  refine (half_any p l 0 _ hr (by omega) (by omega)).mono ?_
  rintro e W1 ⟨k', a', b', r', d', g', q', f', o', rfl, hrt, _, F⟩
  have r2 : Bx W1 w.heap.size 24 [.int .i64 0, .int .i64 0, .int .i64 0, .int .i64 0, .int .i64 0, .int .i64 0, .int .i64 0, .int .i64 0, .bool false] := r1.same (F.obj _ (by omega) (by omega))
  have hB1 : Below w.heap.size w W1 := hB.trans (F.bel.mono (by omega))
  have q0 := r2.cell 0 _ rfl; have q1 := r2.cell 1 _ rfl; have q2 := r2.cell 2 _ rfl; have q3 := r2.cell 3 _ rfl; have q4 := r2.cell 4 _ rfl; have q5 := r2.cell 5 _ rfl; have q6 := r2.cell 6 _ rfl; have q7 := r2.cell 7 _ rfl; have q8 := r2.cell 8 _ rfl
  have qz := r2.frozen
  go_wp2_with fail
  refine bodyPost_ret (v := .agg #[.int .i64 k', .int .i64 a', .int .i64 b', .int .i64 r', .int .i64 d', .int .i64 g', .int .i64 q', .int .i64 f', .bool o']) (by simp [results, Tryz.results4, go_sem, *]) rfl ⟨_, _, _, _, _, _, _, _, _, rfl, hrt, below_set9 hB1 _ _ _ _ _ _ _ _ _⟩

set_option maxRecDepth 100000 in
set_option maxHeartbeats 4000000 in
theorem drawUnpack_any (a : Option Addr) (n c : Nat) (w : World) (h : Bytes w a n c) (hn : n ≤ 1048576) :
    Calls Tryz.prog 10 #[.slice a n c] w fun e w' => ∃ x y : Int, e = .returned (.tuple #[.int .u32 x, .int .u32 y]) ∧ (0 ≤ x ∧ x ≤ 4294967295) ∧ (0 ≤ y ∧ y ≤ 4294967295) ∧ Below w.heap.size w w' := by
  go_enter Tryz.func10, Tryz.ntmps10
  go_wp2_with fail
  refine (open_any a n c _ h hn).mono ?_
  rintro e W ⟨rfl, ⟨l, hr⟩, hb, hsz⟩
  obtain ⟨p, hp⟩ : ∃ p, p = w.heap.size := ⟨_, rfl⟩
  rw [← hp] at hr hsz hb ⊢
  have HPz : Hid (p = w.heap.size) := hp
  clear hp
  go_wp2_with fail
  refine (cap_any p l 0 _ hr (by omega) (by omega)).mono ?_
  rintro e W1 ⟨k', a', b', r', d', g', q', f', o', rfl, hrt, ⟨j, hj, hr1⟩, F1⟩
  go_wp2_with fail
  refine (packSpec_any k' a' b' r' d' g' q' f' o' _).mono ?_
  rintro e W2 ⟨rfl, hb2⟩
  obtain ⟨hx, hy⟩ := word_range k' a' b' r' d' g' q' f' o'
  generalize wordA k' a' b' r' d' g' q' f' o' = x at hx ⊢
  generalize wordB k' a' b' r' d' g' q' f' o' = y at hy ⊢
  have hs1 : p < W1.heap.size := by have := F1.siz; omega
  have hr2 : Reads W2 p l j := reads_below hr1 hs1 hb2
  have B1 : Below p w W1 := hb.trans (F1.bel)
  have B2 : Below p w W2 := B1.trans (hb2.mono (by omega))
  have hs2 : p < W2.heap.size := by have := hb2.size; omega
  clear hr hb hsz F1 hr1 hb2 B1 hs1
  go_wp2_with fail
  refine (pick_fr p l j 6 _ hr2 (by omega) (by omega) (by omega)).mono ?_
  rintro e W3 ⟨z, rfl, hz, hr3, F3⟩
  have B3 : Below p w W3 := B2.trans F3.bel
  have hs3 : p < W3.heap.size := by have := F3.siz; omega
  clear hr2 F3 B2 hs2
  cases e0 : (z == 0)
  · cases e1 : (z == 1)
    · cases e2 : (z == 2)
      · go_wp2_with fail
        go_ret2
        exact ⟨x, y, rfl, hx, hy, by rw [← HPz.out]; exact B3⟩
      · go_wp2_with fail
        refine (word64_fr p l (j + 1) _ hr3 (by omega) hs3).mono ?_
        rintro e W4 ⟨u, rfl, ⟨j4, hj4, hr4⟩, F4⟩
        go_wp2_with fail
        refine (word64_fr p l j4 _ hr4 (by omega) (by have := F4.siz; omega)).mono ?_
        rintro e W5 ⟨v, rfl, ⟨j5, hj5, hr5⟩, F5⟩
        go_wp2_with fail
        go_ret2
        exact ⟨_, _, rfl, u32_range _, u32_range _, by rw [← HPz.out]; exact (B3.trans F4.bel).trans F5.bel⟩
    · go_wp2_with fail
      refine (num_fr p l (j + 1) _ _ _ 0 2147483648 _ (reads_alloc hr3 hs3 _) (by omega) (by omega) (by omega) (by omega) (fun j hj => by have := made_cells W3 3 [1, 4, 65536, 8192, 2147483648] (0) (2147483648) (by intro z hz; simp at hz; omega) j (by simpa using hj); simpa using this)).mono ?_
      rintro e W4 ⟨u, rfl, hu, hr4, F4⟩
      go_wp2_with fail
      go_ret2
      exact ⟨_, _, rfl, hx, u32_range _, by rw [← HPz.out]; exact (B3.alloc (by omega) _).trans F4.bel⟩
  · go_wp2_with fail
    refine (num_fr p l (j + 1) _ _ _ 0 2147483648 _ (reads_alloc hr3 hs3 _) (by omega) (by omega) (by omega) (by omega) (fun j hj => by have := made_cells W3 3 [1, 16, 32, 256, 4096, 65536, 2147483648] (0) (2147483648) (by intro z hz; simp at hz; omega) j (by simpa using hj); simpa using this)).mono ?_
    rintro e W4 ⟨u, rfl, hu, hr4, F4⟩
    go_wp2_with fail
    go_ret2
    exact ⟨_, _, rfl, u32_range _, hy, by rw [← HPz.out]; exact (B3.alloc (by omega) _).trans F4.bel⟩

set_option maxRecDepth 100000 in
set_option maxHeartbeats 4000000 in
theorem drawRead_any (a : Option Addr) (n c : Nat) (w : World) (h : Bytes w a n c) (hn : n ≤ 1048576) :
    Calls Tryz.prog 12 #[.slice a n c] w fun e w' => ∃ s : List UInt8, e = .returned (.string ⟨s.toArray⟩) ∧ s.length ≤ 1000 ∧ Below w.heap.size w w' := by
  go_enter Tryz.func12, Tryz.ntmps12
  go_wp2_with fail
  refine (open_any a n c _ h hn).mono ?_
  rintro e W ⟨rfl, ⟨l, hr⟩, hb, hsz⟩
  obtain ⟨p, hp⟩ : ∃ p, p = w.heap.size := ⟨_, rfl⟩
  rw [← hp] at hr hsz hb ⊢
  have HPz : Hid (p = w.heap.size) := hp
  clear hp
  go_wp2_with fail
  refine (cap_any p l 0 _ hr (by omega) (by omega)).mono ?_
  rintro e W1 ⟨k', a', b', r', d', g', q', f', o', rfl, hrt, ⟨j, hj, hr1⟩, F1⟩
  go_wp2_with fail
  refine (textSpec_any k' a' b' r' d' g' q' f' o' _).mono ?_
  rintro e W2 ⟨rfl, hb2⟩
  have hx := textOr_len k' a' b' r' d' g' q' f' o'
  generalize textOr k' a' b' r' d' g' q' f' o' = t at hx ⊢
  have hs1 : p < W1.heap.size := by have := F1.siz; omega
  have hr2 : Reads W2 p l j := reads_below hr1 hs1 hb2
  have B1 : Below p w W1 := hb.trans (F1.bel)
  have B2 : Below p w W2 := B1.trans (hb2.mono (by omega))
  have hs2 : p < W2.heap.size := by have := hb2.size; omega
  clear hr hb hsz F1 hr1 hb2 B1 hs1
  go_wp2_with fail
  refine (pick_fr p l j 9 _ hr2 (by omega) (by omega) (by omega)).mono ?_
  rintro e W3 ⟨z, rfl, hz, hr3, F3⟩
  have B3 : Below p w W3 := B2.trans F3.bel
  have hs3 : p < W3.heap.size := by have := F3.siz; omega
  clear hr2 F3 B2 hs2
  cases e0 : (z == 0)
  · cases e1 : (z == 1)
    · cases e2 : (z == 2)
      · go_wp2_with fail
        go_ret
        exact ⟨t, rfl, by omega, by rw [← HPz.out]; exact B3⟩
      · go_wp2_with fail
        refine (of_fr p l (j + 1) _ _ _ _ (reads_alloc hr3 hs3 _) (by omega) (by omega) (by omega) (by omega) (fun j hj => by have := made_strs W3 9 [[32], [120], [42]] (by decide) j (by simpa using hj); simpa [strV] using this)).mono ?_
        rintro e W4 ⟨s, rfl, hs, hr4, F4⟩
        have happ := bytes_app s t
        go_wp2_with fail
        go_ret
        exact ⟨s ++ t, by simp, by simp; omega, by rw [← HPz.out]; exact (B3.alloc (by omega) _).trans F4.bel⟩
    · go_wp2_with fail
      refine (of_fr p l (j + 1) _ _ _ _ (reads_alloc hr3 hs3 _) (by omega) (by omega) (by omega) (by omega) (fun j hj => by have := made_strs W3 9 [[48], [32], [32, 48], [114]] (by decide) j (by simpa using hj); simpa [strV] using this)).mono ?_
      rintro e W4 ⟨s, rfl, hs, hr4, F4⟩
      have happ := bytes_app t s
      go_wp2_with fail
      go_ret
      exact ⟨t ++ s, by simp, by simp; omega, by rw [← HPz.out]; exact (B3.alloc (by omega) _).trans F4.bel⟩
  · go_wp2_with fail
    refine (of_fr p l (j + 1) _ _ _ _ (reads_alloc hr3 hs3 _) (by omega) (by omega) (by omega) (by omega) (fun j hj => by have := made_strs W3 9 [[], [101, 110, 100], [101, 110, 100, 32, 52], [101, 110, 100, 32, 52, 32, 114, 119], [101, 110, 100, 32, 52, 32, 119, 114, 32, 48], [101, 110, 100, 32, 52, 32, 45, 32, 48], [101, 110, 100, 42, 32, 49, 50, 56, 32, 114, 119, 103, 32, 48], [101, 110, 100, 32, 52, 32, 114, 119, 32, 48, 49], [117, 110, 116, 121, 112, 101, 100, 32, 49, 50, 56, 32, 54, 32, 48], [117, 110, 116, 121, 112, 101, 100, 42, 32, 49, 50, 56, 32, 54, 32, 48], [114, 101, 112, 108, 121, 42, 32, 49, 50, 56], [114, 101, 112, 108, 121, 32, 49, 50, 56], [110, 111, 100, 101, 32, 49, 50, 56, 32, 51, 32, 48, 32, 48, 32, 48], [110, 111, 100, 101, 32, 49, 50, 56, 32, 51, 32, 49, 32, 48], [116, 104, 114, 101, 97, 100, 32, 32, 49, 50, 56], [84, 104, 114, 101, 97, 100, 32, 49, 50, 56], [102, 114, 97, 109, 101, 32, 49, 51, 48, 32, 50, 32, 114, 119], [110, 111, 116, 101, 32, 49, 50, 56, 32, 114, 119, 103, 32, 48], [110, 111, 116, 101, 42, 32, 49, 50, 56, 32, 114, 119, 32, 54, 53, 53, 51, 54], [116, 104, 114, 101, 97, 100, 32, 49, 50, 56, 32]] (by decide) j (by simpa using hj); simpa [strV] using this)).mono ?_
    rintro e W4 ⟨s, rfl, hs, hr4, F4⟩
    go_wp2_with fail
    go_ret
    exact ⟨s, rfl, by omega, by rw [← HPz.out]; exact (B3.alloc (by omega) _).trans F4.bel⟩

end Go.Proofs.YthmambhagheocaaGreatDoor
