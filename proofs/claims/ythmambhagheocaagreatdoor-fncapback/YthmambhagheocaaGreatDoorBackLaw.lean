/-
  The walk of the law FnCapBack.
-/
import Derived.Test.YthmambhagheocaaGreatDoorBackDraw
import Derived.Test.YthmambhagheocaaGreatDoorBackFacts
import Derived.Test.YthmambhagheocaaGreatDoorReadLaw
namespace Go.Proofs.YthmambhagheocaaGreatDoor
open Go.ChangeShapes Go.WideShapes Go.ChangeAt Go.RowKit
set_option linter.unusedVariables false

theorem Bytes.low {w w' : World} {a : Option Addr} {n c : Nat} (h : Bytes w a n c) (hb : Below w.heap.size w w') : Bytes w' a n c := by
  rcases h with e | ⟨b, x, e, hbl, hnc, hz⟩
  · exact .inl e
  · exact .inr ⟨b, x, e, Nat.lt_of_lt_of_le hbl hb.size, hnc, fun j hj => by rw [hb.cell (p := ⟨b, x + j, none⟩) hbl]; exact hz j hj⟩
/-- What is read of the text of a capability. -/
theorem read_text (c : CQ) : readI (textOr c.k c.a c.b c.r c.d c.g c.q c.f c.o) = if c.ok = true then some c else none := by
  unfold textOr
  by_cases h : c.ok = true
  · have h2 : okB c.k c.a c.b c.r c.d c.g c.q c.f c.o = true := h
    rw [if_pos h, if_pos h2]; exact read_complete h
  · have h2 : ¬ okB c.k c.a c.b c.r c.d c.g c.q c.f c.o = true := h
    rw [if_neg h, if_neg h2]; decide
theorem capReadI_c (s : List UInt8) (c : Option CQ) (w : World) (hl : s.length ≤ 1048576) (hL : Laid w) (hc : readI s = c) :
    Calls Tryz.prog 7 #[.string ⟨s.toArray⟩] w fun e w' => e = .returned (.tuple #[.agg #[.int .i64 (c.getD CQ.zero).k, .int .i64 (c.getD CQ.zero).a, .int .i64 (c.getD CQ.zero).b, .int .i64 (c.getD CQ.zero).r, .int .i64 (c.getD CQ.zero).d, .int .i64 (c.getD CQ.zero).g, .int .i64 (c.getD CQ.zero).q, .int .i64 (c.getD CQ.zero).f, .bool (c.getD CQ.zero).o], .bool c.isSome]) ∧ Below w.heap.size w w' := by
  rw [← hc]; exact capReadI_any s w hl hL
theorem capReadS_c (s : List UInt8) (c : Option CQ) (w : World) (hb : s.length ≤ 9223372036854775807) (hc : readI s = c) :
    Calls Tryz.prog 13 #[.string ⟨s.toArray⟩] w fun e w' => e = .returned (.tuple #[.agg #[.int .i64 (c.getD CQ.zero).k, .int .i64 (c.getD CQ.zero).a, .int .i64 (c.getD CQ.zero).b, .int .i64 (c.getD CQ.zero).r, .int .i64 (c.getD CQ.zero).d, .int .i64 (c.getD CQ.zero).g, .int .i64 (c.getD CQ.zero).q, .int .i64 (c.getD CQ.zero).f, .bool (c.getD CQ.zero).o], .bool c.isSome]) ∧ Below w.heap.size w w' := by
  rw [← hc]; exact capReadS_all s w hb

set_option maxRecDepth 100000 in
set_option maxHeartbeats 8000000 in
theorem back_law (a0 a1 : Option Addr) (n0 n1 l0 l1 : Nat) (w : World) (h0 : Bytes w a0 n0 l0) (h1 : Bytes w a1 n1 l1) (hn0 : n0 ≤ 1048576) (hn1 : n1 ≤ 1048576) (hL : Laid w) :
    Calls Tryz.prog 3 #[.slice a0 n0 l0, .slice a1 n1 l1] w fun e w' => e = .returned (.bool true) ∧ Below w.heap.size w w' := by
  have hi0 : ¬ (1048576 : Int) < (n0 : Int) := by omega
  have hi1 : ¬ (1048576 : Int) < (n1 : Int) := by omega
  go_enter Tryz.func3, Tryz.ntmps3
  go_upto_region 4 with (go_at_call 4; refine (drawPack_any a0 n0 l0 _ h0 hn0).mono ?_; rintro e W1 ⟨k', a', b', r', d', g', q', f', o', rfl, hr, hb1⟩)
  obtain ⟨c, hc⟩ : ∃ c : CQ, c = ⟨k', a', b', r', d', g', q', f', o'⟩ := ⟨_, rfl⟩
  obtain ⟨rfl, rfl, rfl, rfl, rfl, rfl, rfl, rfl, rfl⟩ : k' = c.k ∧ a' = c.a ∧ b' = c.b ∧ r' = c.r ∧ d' = c.d ∧ g' = c.g ∧ q' = c.q ∧ f' = c.f ∧ o' = c.o := by subst hc; exact ⟨rfl, rfl, rfl, rfl, rfl, rfl, rfl, rfl, rfl⟩
  clear hc hi0 hi1
  have x1 := Bx.newAt W1 24 [.int .i64 c.k, .int .i64 c.a, .int .i64 c.b, .int .i64 c.r, .int .i64 c.d, .int .i64 c.g, .int .i64 c.q, .int .i64 c.f, .bool c.o] rfl
  have B1 := hb1.alloc hb1.size (.cells #[.int .i64 c.k, .int .i64 c.a, .int .i64 c.b, .int .i64 c.r, .int .i64 c.d, .int .i64 c.g, .int .i64 c.q, .int .i64 c.f, .bool c.o] 24)
  have hM1 : w.heap.size ≤ W1.heap.size := hb1.size
  clear hb1
  generalize W1.alloc (.cells #[.int .i64 c.k, .int .i64 c.a, .int .i64 c.b, .int .i64 c.r, .int .i64 c.d, .int .i64 c.g, .int .i64 c.q, .int .i64 c.f, .bool c.o] 24) = V1 at x1 B1 ⊢
  generalize W1.heap.size = M1 at x1 hM1 ⊢
  have y0 := x1.cell 0 _ rfl; have y1 := x1.cell 1 _ rfl; have y2 := x1.cell 2 _ rfl; have y3 := x1.cell 3 _ rfl; have y4 := x1.cell 4 _ rfl; have y5 := x1.cell 5 _ rfl; have y6 := x1.cell 6 _ rfl; have y7 := x1.cell 7 _ rfl; have y8 := x1.cell 8 _ rfl
  have hr0 : -9223372036854775808 ≤ c.r := by omega
  have hr1 : c.r ≤ 9223372036854775807 := by omega
  have HP : Hid _ := fun W => packImpl_any c.k c.a c.b c.r c.d c.g c.q c.f c.o W hr0 hr1
  obtain ⟨hxa, hxb⟩ := word_range c.k c.a c.b c.r c.d c.g c.q c.f c.o
  change 0 ≤ wA c ∧ wA c ≤ 4294967295 at hxa
  change 0 ≤ wB c ∧ wB c ≤ 4294967295 at hxb
  have HU0 := fun W => unpackI_any (wA c) (wB c) W hxa hxb
  obtain ⟨u, hu⟩ : ∃ u, unC (wA c) (wB c) = u := ⟨_, rfl⟩
  obtain ⟨ou, hou⟩ : ∃ o, (candU (wA c) (wB c)).ok = o := ⟨_, rfl⟩
  rw [hu, hou] at HU0
  have HU : Hid _ := HU0
  have HU1 : Hid _ := hu
  have HU2 : Hid _ := hou
  clear HU0 hu hou
  have HT : Hid _ := fun W => textImpl_any c.k c.a c.b c.r c.d c.g c.q c.f c.o W hr0 hr1
  have htl := textOr_len c.k c.a c.b c.r c.d c.g c.q c.f c.o
  have HRd : Hid _ := fun W hW => capReadI_c _ _ W (Nat.le_trans htl (by decide)) hW (read_text c)
  have HO : Hid _ := fun W => okSpec_any c.k c.a c.b c.r c.d c.g c.q c.f c.o W
  go_upto_region 5 with (go_at_call 5; refine Calls.mono (HP.out _) ?_; rintro e V2 ⟨rfl, hb⟩)
  have x2 := x1.below hb
  have B2 := B1.trans (hb.mono B1.size)
  clear y0 y1 y2 y3 y4 y5 y6 y7 y8
  clear hb x1 B1 HP
  go_upto_region 6 with (go_at_call 6; refine Calls.mono (HU.out _) ?_; rintro e V3 ⟨rfl, hb⟩)
  have x3 := (x2.below hb).alloc (.cells #[.int .i64 u.k, .int .i64 u.a, .int .i64 u.b, .int .i64 u.r, .int .i64 u.d, .int .i64 u.g, .int .i64 u.q, .int .i64 u.f, .bool u.o] 24)
  have u3 := Bx.newAt V3 24 [.int .i64 u.k, .int .i64 u.a, .int .i64 u.b, .int .i64 u.r, .int .i64 u.d, .int .i64 u.g, .int .i64 u.q, .int .i64 u.f, .bool u.o] rfl
  have B3 := (B2.trans (hb.mono B2.size)).alloc (B2.trans (hb.mono B2.size)).size (.cells #[.int .i64 u.k, .int .i64 u.a, .int .i64 u.b, .int .i64 u.r, .int .i64 u.d, .int .i64 u.g, .int .i64 u.q, .int .i64 u.f, .bool u.o] 24)
  clear hb x2 B2 HU
  generalize V3.alloc (.cells #[.int .i64 u.k, .int .i64 u.a, .int .i64 u.b, .int .i64 u.r, .int .i64 u.d, .int .i64 u.g, .int .i64 u.q, .int .i64 u.f, .bool u.o] 24) = X3 at x3 u3 B3 ⊢
  generalize V3.heap.size = M2 at u3 ⊢
  have y0 := x3.cell 0 _ rfl; have y1 := x3.cell 1 _ rfl; have y2 := x3.cell 2 _ rfl; have y3 := x3.cell 3 _ rfl; have y4 := x3.cell 4 _ rfl; have y5 := x3.cell 5 _ rfl; have y6 := x3.cell 6 _ rfl; have y7 := x3.cell 7 _ rfl; have y8 := x3.cell 8 _ rfl
  generalize htt : textOr c.k c.a c.b c.r c.d c.g c.q c.f c.o = t at HT HRd htl
  clear htt
  have L3 := hL.below B3
  go_upto_region 7 with (first
    | (go_at_call 8; refine Calls.mono (HT.out _ (L3.tab _ (Below.refl _ _))) ?_; rintro e V4 ⟨rfl, hb4⟩; have L4 := L3.below hb4)
    | (go_at_call 7; refine Calls.mono (HRd.out _ L4) ?_; rintro e V5 ⟨rfl, hb5⟩))
  generalize hrd : (if c.ok = true then some c else none) = rd at *
  have x5 := ((x3.below hb4).below hb5).alloc (.cells #[.int .i64 (rd.getD CQ.zero).k, .int .i64 (rd.getD CQ.zero).a, .int .i64 (rd.getD CQ.zero).b, .int .i64 (rd.getD CQ.zero).r, .int .i64 (rd.getD CQ.zero).d, .int .i64 (rd.getD CQ.zero).g, .int .i64 (rd.getD CQ.zero).q, .int .i64 (rd.getD CQ.zero).f, .bool (rd.getD CQ.zero).o] 24)
  have xu := ((u3.below hb4).below hb5).alloc (.cells #[.int .i64 (rd.getD CQ.zero).k, .int .i64 (rd.getD CQ.zero).a, .int .i64 (rd.getD CQ.zero).b, .int .i64 (rd.getD CQ.zero).r, .int .i64 (rd.getD CQ.zero).d, .int .i64 (rd.getD CQ.zero).g, .int .i64 (rd.getD CQ.zero).q, .int .i64 (rd.getD CQ.zero).f, .bool (rd.getD CQ.zero).o] 24)
  have xv := Bx.newAt V5 24 [.int .i64 (rd.getD CQ.zero).k, .int .i64 (rd.getD CQ.zero).a, .int .i64 (rd.getD CQ.zero).b, .int .i64 (rd.getD CQ.zero).r, .int .i64 (rd.getD CQ.zero).d, .int .i64 (rd.getD CQ.zero).g, .int .i64 (rd.getD CQ.zero).q, .int .i64 (rd.getD CQ.zero).f, .bool (rd.getD CQ.zero).o] rfl
  have B4 := B3.trans (hb4.mono B3.size)
  have B5 := (B4.trans (hb5.mono B4.size)).alloc (B4.trans (hb5.mono B4.size)).size (.cells #[.int .i64 (rd.getD CQ.zero).k, .int .i64 (rd.getD CQ.zero).a, .int .i64 (rd.getD CQ.zero).b, .int .i64 (rd.getD CQ.zero).r, .int .i64 (rd.getD CQ.zero).d, .int .i64 (rd.getD CQ.zero).g, .int .i64 (rd.getD CQ.zero).q, .int .i64 (rd.getD CQ.zero).f, .bool (rd.getD CQ.zero).o] 24)
  clear y0 y1 y2 y3 y4 y5 y6 y7 y8
  clear hb4 hb5 x3 u3 B3 B4 L3 L4 HT HRd
  generalize V5.alloc (.cells #[.int .i64 (rd.getD CQ.zero).k, .int .i64 (rd.getD CQ.zero).a, .int .i64 (rd.getD CQ.zero).b, .int .i64 (rd.getD CQ.zero).r, .int .i64 (rd.getD CQ.zero).d, .int .i64 (rd.getD CQ.zero).g, .int .i64 (rd.getD CQ.zero).q, .int .i64 (rd.getD CQ.zero).f, .bool (rd.getD CQ.zero).o] 24) = X5 at x5 xu xv B5 ⊢
  generalize V5.heap.size = M3 at xv ⊢
  have y0 := x5.cell 0 _ rfl; have y1 := x5.cell 1 _ rfl; have y2 := x5.cell 2 _ rfl; have y3 := x5.cell 3 _ rfl; have y4 := x5.cell 4 _ rfl; have y5 := x5.cell 5 _ rfl; have y6 := x5.cell 6 _ rfl; have y7 := x5.cell 7 _ rfl; have y8 := x5.cell 8 _ rfl
  have hok2 : okB c.k c.a c.b c.r c.d c.g c.q c.f c.o = c.ok := rfl
  rw [hok2] at HO
  have HRD : Hid _ := hrd
  clear hrd
  go_cut [73] (fun v W => v = .bool false ∧ Below w.heap.size w W)
  case first =>
    cases hok : c.ok
    · obtain ⟨e1, e2⟩ := pack_no hok
      have e3 : ou = false := by rw [← HU2.out, e1, e2]; exact cand_zero
      have e4 : rd = none := by rw [← HRD.out, hok]; rfl
      rw [hok] at HO
      clear HU1 HU2 HRD e1 e2 hok hok2
      subst e3 e4
      simp only [Option.isSome_none]
      go_wp2_with (go_at_call 9; refine Calls.mono (HO.out _) ?_; rintro e V6 ⟨rfl, hb6⟩)
      go_meet
      case rel => exact ⟨rfl, B5.trans (hb6.mono B5.size)⟩
    · have e3 : ou = true := by rw [← HU2.out]; exact (un_pack hok).2
      have e5 : u = c := by rw [← HU1.out]; exact (un_pack hok).1
      have e4 : rd = some c := by rw [← HRD.out, hok]; rfl
      rw [hok] at HO
      clear HU1 HU2 HRD hok hok2
      subst e3 e4
      rw [e5] at xu
      simp only [Option.isSome_some, Option.getD_some] at xv ⊢
      clear e5
      go_wp2_with (go_at_call 9; refine Calls.mono (HO.out _) ?_; rintro e V6 ⟨rfl, hb6⟩; have x6 := x5.below hb6; have xu6 := xu.below hb6; have xv6 := xv.below hb6; clear y0 y1 y2 y3 y4 y5 y6 y7 y8; have y0 := x6.cell 0 _ rfl; have y1 := x6.cell 1 _ rfl; have y2 := x6.cell 2 _ rfl; have y3 := x6.cell 3 _ rfl; have y4 := x6.cell 4 _ rfl; have y5 := x6.cell 5 _ rfl; have y6 := x6.cell 6 _ rfl; have y7 := x6.cell 7 _ rfl; have y8 := x6.cell 8 _ rfl; have u0 := xu6.cell 0 _ rfl; have u1 := xu6.cell 1 _ rfl; have u2 := xu6.cell 2 _ rfl; have u3 := xu6.cell 3 _ rfl; have u4 := xu6.cell 4 _ rfl; have u5 := xu6.cell 5 _ rfl; have u6 := xu6.cell 6 _ rfl; have u7 := xu6.cell 7 _ rfl; have u8 := xu6.cell 8 _ rfl; have v0 := xv6.cell 0 _ rfl; have v1 := xv6.cell 1 _ rfl; have v2 := xv6.cell 2 _ rfl; have v3 := xv6.cell 3 _ rfl; have v4 := xv6.cell 4 _ rfl; have v5 := xv6.cell 5 _ rfl; have v6 := xv6.cell 6 _ rfl; have v7 := xv6.cell 7 _ rfl; have v8 := xv6.cell 8 _ rfl)
      go_meet
      case rel => exact ⟨rfl, B5.trans (hb6.mono B5.size)⟩
  case rest =>
    obtain ⟨rfl, B⟩ := hcut
    clear x5 xu xv B5 HO HRD HU1 HU2 hok2 htl hxa hxb hr hr0 hr1 y0 y1 y2 y3 y4 y5 y6 y7 y8
    have hb0 := h1.low B
    go_upto_region 10 with (go_at_call 10; refine (drawUnpack_any a1 n1 l1 _ hb0 hn1).mono ?_; rintro e W1 ⟨x, y, rfl, hx, hy, hb⟩)
    have B1 := B.trans (hb.mono B.size)
    clear hb B hb0
    have HU0 := fun W => unpackI_any x y W hx hy
    have HS0 := fun W => unpackS_any x y W hx hy
    have hDr := un_r x y
    have hDk : (candU x y).ok = true → wA (unC x y) = x ∧ wB (unC x y) = y ∧ (unC x y).ok = true := fun h => ⟨(un_back hx.1 hy.1 h).1, (un_back hx.1 hy.1 h).2, un_ok h⟩
    generalize unC x y = D at HU0 HS0 hDr hDk
    generalize (candU x y).ok = od at HU0 HS0 hDk
    have HU : Hid _ := HU0
    have HS : Hid _ := HS0
    have HP0 := fun W => packImpl_any D.k D.a D.b D.r D.d D.g D.q D.f D.o W (by omega) (by omega)
    obtain ⟨pw, hpw⟩ : ∃ p, wordA D.k D.a D.b D.r D.d D.g D.q D.f D.o = p := ⟨_, rfl⟩
    obtain ⟨qw, hqw⟩ : ∃ p, wordB D.k D.a D.b D.r D.d D.g D.q D.f D.o = p := ⟨_, rfl⟩
    rw [hpw, hqw] at HP0
    have HP : Hid _ := HP0
    have HOk : Hid _ := fun W => okImpl_any D.k D.a D.b D.r D.d D.g D.q D.f D.o W (by omega) (by omega)
    have HDk : Hid (od = true → pw = x ∧ qw = y ∧ D.ok = true) := fun h => ⟨hpw.symm.trans (hDk h).1, hqw.symm.trans (hDk h).2.1, (hDk h).2.2⟩
    clear HU0 HS0 HP0 hDk hDr hpw hqw
    go_upto_region 11 with (go_at_call 6; refine Calls.mono (HU.out _) ?_; rintro e W2 ⟨rfl, hb⟩)
    have d2 := Bx.newAt W2 24 [.int .i64 D.k, .int .i64 D.a, .int .i64 D.b, .int .i64 D.r, .int .i64 D.d, .int .i64 D.g, .int .i64 D.q, .int .i64 D.f, .bool D.o] rfl
    have B2 := (B1.trans (hb.mono B1.size)).alloc (B1.trans (hb.mono B1.size)).size (.cells #[.int .i64 D.k, .int .i64 D.a, .int .i64 D.b, .int .i64 D.r, .int .i64 D.d, .int .i64 D.g, .int .i64 D.q, .int .i64 D.f, .bool D.o] 24)
    clear hb B1 HU
    generalize W2.alloc (.cells #[.int .i64 D.k, .int .i64 D.a, .int .i64 D.b, .int .i64 D.r, .int .i64 D.d, .int .i64 D.g, .int .i64 D.q, .int .i64 D.f, .bool D.o] 24) = X2 at d2 B2 ⊢
    generalize W2.heap.size = M4 at d2 ⊢
    go_upto_region 12 with (go_at_call 11; refine Calls.mono (HS.out _) ?_; rintro e W3 ⟨rfl, hb⟩)
    have d3 := (d2.below hb).alloc (.cells #[.int .i64 D.k, .int .i64 D.a, .int .i64 D.b, .int .i64 D.r, .int .i64 D.d, .int .i64 D.g, .int .i64 D.q, .int .i64 D.f, .bool D.o] 24)
    have B3 := (B2.trans (hb.mono B2.size)).alloc (B2.trans (hb.mono B2.size)).size (.cells #[.int .i64 D.k, .int .i64 D.a, .int .i64 D.b, .int .i64 D.r, .int .i64 D.d, .int .i64 D.g, .int .i64 D.q, .int .i64 D.f, .bool D.o] 24)
    clear hb B2 d2 HS
    generalize W3.alloc (.cells #[.int .i64 D.k, .int .i64 D.a, .int .i64 D.b, .int .i64 D.r, .int .i64 D.d, .int .i64 D.g, .int .i64 D.q, .int .i64 D.f, .bool D.o] 24) = X3 at d3 B3 ⊢
    have y0 := d3.cell 0 _ rfl; have y1 := d3.cell 1 _ rfl; have y2 := d3.cell 2 _ rfl; have y3 := d3.cell 3 _ rfl; have y4 := d3.cell 4 _ rfl; have y5 := d3.cell 5 _ rfl; have y6 := d3.cell 6 _ rfl; have y7 := d3.cell 7 _ rfl; have y8 := d3.cell 8 _ rfl
    go_upto_region 13 with (go_at_call 5; refine Calls.mono (HP.out _) ?_; rintro e W4 ⟨rfl, hb⟩)
    have d4 := d3.below hb
    have B4 := B3.trans (hb.mono B3.size)
    clear y0 y1 y2 y3 y4 y5 y6 y7 y8
    clear hb B3 d3 HP
    have hb0 := h1.low B4
    go_upto_region 14 with (go_at_call 12; refine (drawRead_any a1 n1 l1 _ hb0 hn1).mono ?_; rintro e W5 ⟨s, rfl, hs, hb⟩)
    have d5 := d4.below hb
    have B5 := B4.trans (hb.mono B4.size)
    clear hb B4 d4 hb0
    obtain ⟨rd, hrd⟩ : ∃ rd, readI s = rd := ⟨_, rfl⟩
    have HR : Hid _ := fun W hW => capReadI_c s rd W (by omega) hW hrd
    have HQ : Hid _ := fun W => capReadS_c s rd W (by omega) hrd
    have HRD : Hid _ := hrd
    clear hrd
    have L5 := hL.below B5
    go_upto_region 15 with (go_at_call 7; refine Calls.mono (HR.out _ L5) ?_; rintro e W6 ⟨rfl, hb⟩)
    have d6 := (d5.below hb).alloc (.cells #[.int .i64 (rd.getD CQ.zero).k, .int .i64 (rd.getD CQ.zero).a, .int .i64 (rd.getD CQ.zero).b, .int .i64 (rd.getD CQ.zero).r, .int .i64 (rd.getD CQ.zero).d, .int .i64 (rd.getD CQ.zero).g, .int .i64 (rd.getD CQ.zero).q, .int .i64 (rd.getD CQ.zero).f, .bool (rd.getD CQ.zero).o] 24)
    have e6 := Bx.newAt W6 24 [.int .i64 (rd.getD CQ.zero).k, .int .i64 (rd.getD CQ.zero).a, .int .i64 (rd.getD CQ.zero).b, .int .i64 (rd.getD CQ.zero).r, .int .i64 (rd.getD CQ.zero).d, .int .i64 (rd.getD CQ.zero).g, .int .i64 (rd.getD CQ.zero).q, .int .i64 (rd.getD CQ.zero).f, .bool (rd.getD CQ.zero).o] rfl
    have B6 := (B5.trans (hb.mono B5.size)).alloc (B5.trans (hb.mono B5.size)).size (.cells #[.int .i64 (rd.getD CQ.zero).k, .int .i64 (rd.getD CQ.zero).a, .int .i64 (rd.getD CQ.zero).b, .int .i64 (rd.getD CQ.zero).r, .int .i64 (rd.getD CQ.zero).d, .int .i64 (rd.getD CQ.zero).g, .int .i64 (rd.getD CQ.zero).q, .int .i64 (rd.getD CQ.zero).f, .bool (rd.getD CQ.zero).o] 24)
    clear hb B5 d5 HR L5
    generalize W6.alloc (.cells #[.int .i64 (rd.getD CQ.zero).k, .int .i64 (rd.getD CQ.zero).a, .int .i64 (rd.getD CQ.zero).b, .int .i64 (rd.getD CQ.zero).r, .int .i64 (rd.getD CQ.zero).d, .int .i64 (rd.getD CQ.zero).g, .int .i64 (rd.getD CQ.zero).q, .int .i64 (rd.getD CQ.zero).f, .bool (rd.getD CQ.zero).o] 24) = X6 at d6 e6 B6 ⊢
    generalize W6.heap.size = M6 at e6 ⊢
    go_upto_region 16 with (go_at_call 13; refine Calls.mono (HQ.out _) ?_; rintro e W7 ⟨rfl, hb⟩)
    have d7 := (d6.below hb).alloc (.cells #[.int .i64 (rd.getD CQ.zero).k, .int .i64 (rd.getD CQ.zero).a, .int .i64 (rd.getD CQ.zero).b, .int .i64 (rd.getD CQ.zero).r, .int .i64 (rd.getD CQ.zero).d, .int .i64 (rd.getD CQ.zero).g, .int .i64 (rd.getD CQ.zero).q, .int .i64 (rd.getD CQ.zero).f, .bool (rd.getD CQ.zero).o] 24)
    have e7 := (e6.below hb).alloc (.cells #[.int .i64 (rd.getD CQ.zero).k, .int .i64 (rd.getD CQ.zero).a, .int .i64 (rd.getD CQ.zero).b, .int .i64 (rd.getD CQ.zero).r, .int .i64 (rd.getD CQ.zero).d, .int .i64 (rd.getD CQ.zero).g, .int .i64 (rd.getD CQ.zero).q, .int .i64 (rd.getD CQ.zero).f, .bool (rd.getD CQ.zero).o] 24)
    have B7 := (B6.trans (hb.mono B6.size)).alloc (B6.trans (hb.mono B6.size)).size (.cells #[.int .i64 (rd.getD CQ.zero).k, .int .i64 (rd.getD CQ.zero).a, .int .i64 (rd.getD CQ.zero).b, .int .i64 (rd.getD CQ.zero).r, .int .i64 (rd.getD CQ.zero).d, .int .i64 (rd.getD CQ.zero).g, .int .i64 (rd.getD CQ.zero).q, .int .i64 (rd.getD CQ.zero).f, .bool (rd.getD CQ.zero).o] 24)
    clear hb B6 d6 e6 HQ
    generalize W7.alloc (.cells #[.int .i64 (rd.getD CQ.zero).k, .int .i64 (rd.getD CQ.zero).a, .int .i64 (rd.getD CQ.zero).b, .int .i64 (rd.getD CQ.zero).r, .int .i64 (rd.getD CQ.zero).d, .int .i64 (rd.getD CQ.zero).g, .int .i64 (rd.getD CQ.zero).q, .int .i64 (rd.getD CQ.zero).f, .bool (rd.getD CQ.zero).o] 24) = X7 at d7 e7 B7 ⊢
    have L7 := hL.below B7
    have hss : (s == s) = true := beq_self_eq_true s
    have y0 := d7.cell 0 _ rfl; have y1 := d7.cell 1 _ rfl; have y2 := d7.cell 2 _ rfl; have y3 := d7.cell 3 _ rfl; have y4 := d7.cell 4 _ rfl; have y5 := d7.cell 5 _ rfl; have y6 := d7.cell 6 _ rfl; have y7 := d7.cell 7 _ rfl; have y8 := d7.cell 8 _ rfl
    cases rd with
    | none =>
      simp only [Option.isSome_none]
      cases od
      · go_wp2_with fail
        go_ret
        exact ⟨rfl, B7⟩
      · obtain ⟨p1, p2, p3⟩ := HDk.out rfl
        subst p1 p2
        have HO2 := HOk.out
        rw [show okB D.k D.a D.b D.r D.d D.g D.q D.f D.o = true from p3] at HO2
        have HO3 : Hid _ := HO2
        clear HOk HO2 p3 HDk
        go_wp2_with (go_at_call 14; refine Calls.mono (HO3.out _) ?_; rintro e W8 ⟨rfl, hb⟩)
        go_ret
        exact ⟨rfl, B7.trans (hb.mono B7.size)⟩
    | some E =>
      obtain ⟨hEo, hEt⟩ := read_sound HRD.out
      have hEb := ok_bounds (show okB E.k E.a E.b E.r E.d E.g E.q E.f E.o = true from hEo)
      simp only [Option.isSome_some, Option.getD_some] at e7 ⊢
      have hEtx : textOr E.k E.a E.b E.r E.d E.g E.q E.f E.o = s := by unfold textOr; rw [if_pos (show okB E.k E.a E.b E.r E.d E.g E.q E.f E.o = true from hEo)]; exact hEt
      have HT0 := fun W => textImpl_any E.k E.a E.b E.r E.d E.g E.q E.f E.o W (by omega) (by omega)
      rw [hEtx] at HT0
      have HT : Hid _ := HT0
      have HE0 := fun W => okImpl_any E.k E.a E.b E.r E.d E.g E.q E.f E.o W (by omega) (by omega)
      rw [show okB E.k E.a E.b E.r E.d E.g E.q E.f E.o = true from hEo] at HE0
      have HE : Hid _ := HE0
      clear HT0 HE0 hEtx hEb hEo hEt HRD
      have z0 := e7.cell 0 _ rfl; have z1 := e7.cell 1 _ rfl; have z2 := e7.cell 2 _ rfl; have z3 := e7.cell 3 _ rfl; have z4 := e7.cell 4 _ rfl; have z5 := e7.cell 5 _ rfl; have z6 := e7.cell 6 _ rfl; have z7 := e7.cell 7 _ rfl; have z8 := e7.cell 8 _ rfl
      cases od
      · go_wp2_with (first
          | (go_at_call 8; refine Calls.mono (HT.out _ (L7.tab _ (Below.refl _ _))) ?_; rintro e W9 ⟨rfl, hb9⟩; have e9 := e7.below hb9; clear z0 z1 z2 z3 z4 z5 z6 z7 z8; have z0 := e9.cell 0 _ rfl; have z1 := e9.cell 1 _ rfl; have z2 := e9.cell 2 _ rfl; have z3 := e9.cell 3 _ rfl; have z4 := e9.cell 4 _ rfl; have z5 := e9.cell 5 _ rfl; have z6 := e9.cell 6 _ rfl; have z7 := e9.cell 7 _ rfl; have z8 := e9.cell 8 _ rfl)
          | (go_at_call 14; refine Calls.mono (HE.out _) ?_; rintro e W10 ⟨rfl, hb10⟩))
        go_ret
        exact ⟨rfl, (B7.trans (hb9.mono B7.size)).trans (hb10.mono (B7.trans (hb9.mono B7.size)).size)⟩
      · obtain ⟨p1, p2, p3⟩ := HDk.out rfl
        subst p1 p2
        have HO2 := HOk.out
        rw [show okB D.k D.a D.b D.r D.d D.g D.q D.f D.o = true from p3] at HO2
        have HO3 : Hid _ := HO2
        clear HOk HO2 p3 HDk
        go_wp2_with (first
          | (go_at_call 8; refine Calls.mono (HT.out _ (L8.tab _ (Below.refl _ _))) ?_; rintro e W9 ⟨rfl, hb9⟩; have e9 := e8.below hb9; clear z0 z1 z2 z3 z4 z5 z6 z7 z8; have z0 := e9.cell 0 _ rfl; have z1 := e9.cell 1 _ rfl; have z2 := e9.cell 2 _ rfl; have z3 := e9.cell 3 _ rfl; have z4 := e9.cell 4 _ rfl; have z5 := e9.cell 5 _ rfl; have z6 := e9.cell 6 _ rfl; have z7 := e9.cell 7 _ rfl; have z8 := e9.cell 8 _ rfl)
          | (go_at_call 14; have _q := hb9; refine Calls.mono (HE.out _) ?_; rintro e W10 ⟨rfl, hb10⟩)
          | (go_at_call 14; refine Calls.mono (HO3.out X7) ?_; rintro e W8 ⟨rfl, hb8⟩; have e8 := e7.below hb8; have L8 := L7.below hb8; clear z0 z1 z2 z3 z4 z5 z6 z7 z8; have z0 := e8.cell 0 _ rfl; have z1 := e8.cell 1 _ rfl; have z2 := e8.cell 2 _ rfl; have z3 := e8.cell 3 _ rfl; have z4 := e8.cell 4 _ rfl; have z5 := e8.cell 5 _ rfl; have z6 := e8.cell 6 _ rfl; have z7 := e8.cell 7 _ rfl; have z8 := e8.cell 8 _ rfl))
        go_ret
        have B8 := B7.trans (hb8.mono B7.size)
        have B9 := B8.trans (hb9.mono B8.size)
        exact ⟨rfl, B9.trans (hb10.mono B9.size)⟩

end Go.Proofs.YthmambhagheocaaGreatDoor
