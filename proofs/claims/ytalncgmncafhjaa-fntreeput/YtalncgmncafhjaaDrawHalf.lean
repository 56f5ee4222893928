/-
  What the drawing of a list of slots answers, one in eight no tree: a list of at most 301 slots in new memory; of what was there the reader's count alone turns. Condition: the reader can read.
-/
import Derived.Test.YtalncgmncafhjaaDrawTree
import Derived.Test.YtalncgmncafhjaaSpoilDrawn
import Derived.Test.YtalncgmncafhjaaPairDrawn
namespace Go.Proofs.Ytalncgmncafhjaa
open Go.ChangeShapes Go.WideShapes Go.ChangeAt Go.RowKit
set_option linter.unusedVariables false

/-- What is answered. -/
def halfOut (w : World) (p n k : Nat) (v : Value) (w' : World) : Prop :=
  ∃ (g cap : Nat) (L : List Sl), v = .slice (some ⟨g, 0, none⟩) L.length cap ∧ L.length ≤ 301 ∧ (∀ s ∈ L, s.Tame) ∧ L.length ≤ cap ∧ cap ≤ 9223372036854775807 ∧ Lies w' (some ⟨g, 0, none⟩) L ∧ p < g ∧ g < w'.heap.size ∧ (∃ j, j ≤ k + 800 ∧ Reads w' p n j) ∧ Fr p w w'

theorem lies_put {W W' : World} {B k : Nat} {L : List Sl} (h : Lies W (some ⟨B, 0, none⟩) L) (hk : k < L.length) (s' : Sl) (hW : ∀ o, (o < k * 11 ∨ k * 11 + 11 ≤ o) → W'.cell? ⟨B, o, none⟩ = W.cell? ⟨B, o, none⟩) (hs : At11 W' B (k * 11) s') : Lies W' (some ⟨B, 0, none⟩) (L.set k s') := by
  refine ⟨.inr ⟨B, 0, rfl⟩, fun B' O e i hi => ?_⟩
  cases e
  have hi' : i < L.length := by simpa using hi
  by_cases hik : i = k
  · subst hik
    rw [List.getElem_set_self, Nat.zero_add]; exact hs
  · rw [List.getElem_set_ne (by omega)]
    obtain ⟨c0, c1, c2, c3, c4, c5, c6, c7, c8, c9, c10⟩ := h.cells B 0 rfl i hi'
    rw [Nat.zero_add] at c0 c1 c2 c3 c4 c5 c6 c7 c8 c9 c10 ⊢
    exact ⟨(hW _ (by omega)).trans c0, (hW _ (by omega)).trans c1, (hW _ (by omega)).trans c2, (hW _ (by omega)).trans c3, (hW _ (by omega)).trans c4, (hW _ (by omega)).trans c5, (hW _ (by omega)).trans c6, (hW _ (by omega)).trans c7, (hW _ (by omega)).trans c8, (hW _ (by omega)).trans c9, (hW _ (by omega)).trans c10⟩

theorem tame_set {L : List Sl} {k : Nat} {s : Sl} (hL : ∀ x ∈ L, x.Tame) (hs : s.Tame) : ∀ x ∈ L.set k s, x.Tame := by
  intro x hx
  rcases List.mem_or_eq_of_mem_set hx with h | h
  · exact hL x h
  · subst h; exact hs

/-- Between two rounds of the loop that makes the list too long. -/
def growInv (w : World) (p n k C : Nat) (s : Sl) (v : Value) (w' : World) : Prop :=
  ∃ (g cap j : Nat) (L : List Sl) (a b : Int), v = .slice (some ⟨g, 0, none⟩) L.length cap ∧ L.length ≤ 301 ∧ (∀ s ∈ L, s.Tame) ∧ OwnL w' p g cap L ∧ w.heap.size ≤ g ∧ g ≠ C ∧ 1 ≤ L.length ∧ w'.cell? ⟨C, 11, none⟩ = none ∧ At11 w' C 0 { s with t := a, p := b } ∧ (∀ i, w'.frozen? ⟨C, i, none⟩ = false) ∧ Reads w' p n j ∧ j + (310 - L.length) ≤ k + 750 ∧ Fr p w w' ∧ C < w'.heap.size

theorem own_at {W : World} {base base' e n g cap : Nat} {xs : List Value} (h : W.ownsRow base e 11 (.slice (some ⟨g, 0, none⟩) n cap) n xs) (hb : base' ≤ g) : W.ownsRow base' e 11 (.slice (some ⟨g, 0, none⟩) n cap) n xs := by
  refine ⟨h.1, ?_⟩
  rcases h.2 with ⟨h2, _⟩ | ⟨g', cap', cur, h3, h4, h5⟩
  · cases h2
  · cases h3; exact .inr ⟨g, cap, cur, rfl, hb, h5⟩
theorem Fr.low {p : Nat} {w W w2 : World} (F : Fr p w W) (hb : Below w.heap.size W w2) (hp : p ≤ w.heap.size) : Fr p w w2 :=
  ⟨fun b o hl hn => (hb.cell (p := ⟨b, o, none⟩) hl).trans (F.cel b o hl hn), fun b o hl => (hb.frozen (p := ⟨b, o, none⟩) hl).trans (F.frz b o hl), Nat.le_trans F.siz hb.size, F.bel.trans (hb.mono hp), fun b hl hn => (hb.block b hl).trans (F.obj b hl hn)⟩
theorem Reads.low {B : Nat} {w w' : World} {p n k : Nat} (h : Reads w p n k) (hp : p < B) (hb : Below B w w') : Reads w' p n k := by
  obtain ⟨a, c, g0, g1, g2, g3, g4⟩ := id h
  exact h.later ((hb.cell (p := ⟨p, 1, none⟩) hp).trans g1) ((hb.frozen (p := ⟨p, 1, none⟩) hp).trans g2) (hb.cell (p := ⟨p, 0, none⟩) hp) (fun b o hlt => hb.cell (p := ⟨b, o, none⟩) (Nat.lt_trans hlt hp))

theorem reads_drew {w : World} {p n k : Nat} (h : Reads w p n k) : Reads w.drew p n k := h
theorem Fr.drew {w w' : World} {p : Nat} (h : Fr p w w') : Fr p w w'.drew := ⟨h.cel, h.frz, h.siz, h.bel.drew, h.obj⟩

set_option maxRecDepth 100000 in
set_option maxHeartbeats 4000000 in
theorem half3_any (p n k : Nat) (w : World) (h : Reads w p n k) (hk : k ≤ 100) (hp : p < w.heap.size) :
    Calls Try.prog 20 #[.pointer (some ⟨p, 0, none⟩)] w fun e w' => ∃ v, e = .returned v ∧ halfOut w p n k v w' := by
  go_enter Try.func20, Try.ntmps20
  go_wp2_with fail
  refine (tree_any p n k w h hk hp).mono ?_
  rintro e w1 ⟨v, rfl, g, cap, L, rfl, hlen, hta, hlow, own, hgw, ⟨j, hj, hr⟩, F⟩
  have hps := Nat.lt_of_lt_of_le hp F.siz
  have hcap := own.cap
  have hcm := own.cm
  clear h
  by_cases hL0 : L = []
  · subst hL0
    go_wp2_with fail
    go_ret
    exact ⟨_, rfl, g, cap, [], rfl, by simp, hta, hcap, hcm, own.lies, own.gt, own.lt, ⟨j, by omega, hr⟩, F⟩
  · have hpos : 0 < L.length := List.length_pos_iff.2 hL0
    have hne : ((L.length : Int) == 0) = false := by simp; omega
    clear hL0
    go_wp2_with fail
    refine (pick_fr p n j _ _ hr (by omega) (by omega) (by omega)).mono ?_
    rintro e w2 ⟨y, rfl, hy, hr2, F2⟩
    have own2 := own.fr F2
    have FF2 := F.trans F2
    have hps2 := Nat.lt_of_lt_of_le hps F2.siz
    clear own hr F F2 hps
    by_cases hy0 : 0 < y
    · go_wp2_with fail
      go_ret
      exact ⟨_, rfl, g, cap, L, rfl, by omega, hta, hcap, hcm, own2.lies, own2.gt, own2.lt, ⟨j + 1, by omega, hr2⟩, FF2⟩
    · go_wp2_with fail
      refine (pick_fr p n (j + 1) _ _ hr2 (by omega) (by omega) (by omega)).mono ?_
      rintro e w3 ⟨kk, rfl, hkk, hr3, F3⟩
      have own3 := own2.fr F3
      have FF3 := FF2.trans F3
      have hps3 := Nat.lt_of_lt_of_le hps2 F3.siz
      clear own2 hr2 FF2 F3 hps2
      obtain ⟨kk, rfl⟩ : ∃ m : Nat, kk = m := ⟨kk.toNat, by omega⟩
      have hkl : kk < L.length := by omega
      go_wp2_with fail
      refine (pick_fr p n (j + 1 + 1) _ _ hr3 (by omega) (by omega) (by omega)).mono ?_
      rintro e w4 ⟨m, rfl, hm, hr4, F4⟩
      have own4 := own3.fr F4
      have FF4 := FF3.trans F4
      have hps4 := Nat.lt_of_lt_of_le hps3 F4.siz
      clear own3 hr3 FF3 F4 hps3
      have hLi := own4.lies
      have hfz := fun i => own_frozen own4 i
      have hg1 := own4.gt
      have hg2 := own4.lt
      have hc := hLi.cells g 0 rfl kk hkl
      rw [Nat.zero_add] at hc
      have hct := hta L[kk] (List.getElem_mem hkl)
      have hcl := hlow L[kk] (List.getElem_mem hkl)
      obtain ⟨c0, c1, c2, c3, c4, c5, c6, c7, c8, c9, c10⟩ := id hc
      have hm4 : m = 0 ∨ m = 1 ∨ m = 2 ∨ m = 3 := by omega
      clear hm
      have z0 : w4.cell? ⟨g, 0, none⟩ = some (.int .i64 L[0].t) := by simpa using (hLi.cells g 0 rfl 0 hpos).c0
      have hzt := hta L[0] (List.getElem_mem hpos)
      rcases hm4 with e | e | e | e <;> subst e
      · go_upto_region 12 with fail
        go_region_with (go_at_call 40; refine (pick_fr p n _ _ _ (reads_drew hr4) (by omega) (by omega) (by omega)).mono ?_; rintro e w5 ⟨x, rfl, hx, hr5, F5⟩; have d10 := (F5.cel g (kk * 11 + 10) hg2 (by omega)).trans c10; have fz10 := (F5.frz g (kk * 11 + 10) hg2).trans (hfz _))
        all_goals
          go_wp2_with fail
          go_ret
          have hLi5 := (OwnL.fr (W := w4.drew) own4 F5).lies
          obtain ⟨e0, e1, e2, e3, e4, e5, e6, e7, e8, e9, e10⟩ := hLi5.cells g 0 rfl kk hkl
          rw [Nat.zero_add] at e0 e1 e2 e3 e4 e5 e6 e7 e8 e9 e10
          refine ⟨_, rfl, g, cap, L.set kk { L[kk] with p := L[kk].p + x - 1 }, by simp, by simp; omega, tame_set hta ⟨hct.t, hct.r, by dsimp only; omega⟩, by simpa using hcap, hcm, lies_put hLi5 hkl _ (fun o ho => ?_) ⟨?_, ?_, ?_, ?_, ?_, ?_, ?_, ?_, ?_, ?_, ?_⟩, hg1, ?_, ⟨j + 4, by omega, reads_put hr5 hg1 _ _⟩, ((FF4.drew).trans F5).set hgw (by omega) _ _⟩
          · have : o ≠ kk * 11 + 10 := by omega
            go_simp
          all_goals first | (go_simp; done) | (have : w4.heap.size ≤ w5.heap.size := F5.siz; simp; omega) | (go_simp; simp [IntKind.wrap, IntKind.bits, IntKind.signed]; omega)
      · go_wp2_with fail
        refine (num_fr p n _ _ _ _ (-1000000) (1000000) _ (reads_alloc hr4 hps4 _) (by omega) (by omega) (by omega) (by omega) (fun j hj => by have := made_cells w4 3 [0, 60, 66, 4096, L[0].t] (-1000000) (1000000) (by intro z hz; have := hzt.t; simp at hz; omega) j (by simpa using hj); simpa using this)).mono ?_
        rintro e w5 ⟨x, rfl, hx, hr5, F5⟩
        have F45 := (((Fr.refl p w4).alloc (by omega) _).trans F5)
        have hLi5 := (own4.fr F45).lies
        have hfz5 := fun i => own_frozen (own4.fr F45) i
        obtain ⟨e0, e1, e2, e3, e4, e5, e6, e7, e8, e9, e10⟩ := hLi5.cells g 0 rfl kk hkl
        rw [Nat.zero_add] at e0 e1 e2 e3 e4 e5 e6 e7 e8 e9 e10
        clear c0 c1 c2 c3 c4 c5 c6 c7 c8 c9 c10 z0
        go_wp2_with fail
        go_ret
        refine ⟨_, rfl, g, cap, L.set kk { L[kk] with t := x }, by simp, by simp; omega, tame_set hta ⟨by dsimp only; omega, hct.r, hct.p⟩, by simpa using hcap, hcm, lies_put hLi5 hkl _ (fun o ho => ?_) ⟨?_, ?_, ?_, ?_, ?_, ?_, ?_, ?_, ?_, ?_, ?_⟩, hg1, ?_, ⟨j + 4, by omega, reads_put hr5 hg1 _ _⟩, ((FF4.trans F45)).set hgw (by omega) _ _⟩
        · have : o ≠ kk * 11 := by omega
          go_simp
        all_goals first | (go_simp; done) | (have := F45.siz; simp at this ⊢; omega)
      · go_wp2_with fail
        refine (spoil_any p n _ w4 _ _ _ _ _ _ _ _ _ hr4 (by omega) hps4 (by have := hct.r; omega)).mono ?_
        rintro e w5 ⟨k', a, b, r, d, gg, q, f, o, rfl, hrr, ⟨j5, hj5, hr5⟩, F5⟩
        have hLi5 := (own4.fr F5).lies
        have hfz5 := fun i => own_frozen (own4.fr F5) i
        obtain ⟨e0, e1, e2, e3, e4, e5, e6, e7, e8, e9, e10⟩ := hLi5.cells g 0 rfl kk hkl
        rw [Nat.zero_add] at e0 e1 e2 e3 e4 e5 e6 e7 e8 e9 e10
        clear c0 c1 c2 c3 c4 c5 c6 c7 c8 c9 c10 z0
        go_wp2_with fail
        go_ret
        refine ⟨_, rfl, g, cap, L.set kk ⟨L[kk].t, k', a, b, r, d, gg, q, f, o, L[kk].p⟩, by simp, by simp; omega, tame_set hta ⟨hct.t, hrr, hct.p⟩, by simpa using hcap, hcm, lies_put hLi5 hkl _ (fun oo ho => ?_) ⟨?_, ?_, ?_, ?_, ?_, ?_, ?_, ?_, ?_, ?_, ?_⟩, hg1, ?_, ⟨j5, by omega, ?_⟩, ?_⟩
        · have o1 : oo ≠ kk * 11 + 1 := by omega
          have o2 : oo ≠ kk * 11 + 2 := by omega
          have o3 : oo ≠ kk * 11 + 3 := by omega
          have o4 : oo ≠ kk * 11 + 4 := by omega
          have o5 : oo ≠ kk * 11 + 5 := by omega
          have o6 : oo ≠ kk * 11 + 6 := by omega
          have o7 : oo ≠ kk * 11 + 7 := by omega
          have o8 : oo ≠ kk * 11 + 8 := by omega
          have o9 : oo ≠ kk * 11 + 9 := by omega
          go_simp
        rotate_right 2
        · repeat (refine reads_put ?_ hg1 _ _)
          exact hr5
        · repeat (refine Fr.set ?_ hgw (by omega) _ _)
          exact FF4.trans F5
        all_goals first | (go_simp; done) | (have := F5.siz; simp at this ⊢; omega)
      · go_wp2_with fail
        have hS0 := At11.alloc w4 L[kk] 27
        have F0 := FF4.alloc (by omega) (.cells #[.int .i64 L[kk].t, .int .i64 L[kk].k, .int .i64 L[kk].e, .int .i64 L[kk].b, .int .i64 L[kk].r, .int .i64 L[kk].d, .int .i64 L[kk].g, .int .i64 L[kk].q, .int .i64 L[kk].f, .bool L[kk].o, .int .i64 L[kk].p] 27)
        have hr0 := reads_alloc hr4 hps4 (.cells #[.int .i64 L[kk].t, .int .i64 L[kk].k, .int .i64 L[kk].e, .int .i64 L[kk].b, .int .i64 L[kk].r, .int .i64 L[kk].d, .int .i64 L[kk].g, .int .i64 L[kk].q, .int .i64 L[kk].f, .bool L[kk].o, .int .i64 L[kk].p] 27)
        have own0 : OwnL (w4.alloc (.cells #[.int .i64 L[kk].t, .int .i64 L[kk].k, .int .i64 L[kk].e, .int .i64 L[kk].b, .int .i64 L[kk].r, .int .i64 L[kk].d, .int .i64 L[kk].g, .int .i64 L[kk].q, .int .i64 L[kk].f, .bool L[kk].o, .int .i64 L[kk].p] 27)) p g cap L := World.ownsRow.alloc own4 _
        have hz0 : ∀ i, (w4.alloc (.cells #[.int .i64 L[kk].t, .int .i64 L[kk].k, .int .i64 L[kk].e, .int .i64 L[kk].b, .int .i64 L[kk].r, .int .i64 L[kk].d, .int .i64 L[kk].g, .int .i64 L[kk].q, .int .i64 L[kk].f, .bool L[kk].o, .int .i64 L[kk].p] 27)).frozen? ⟨w4.heap.size, i, none⟩ = false := fun i => by go_simp
        have hC0 : w.heap.size ≤ w4.heap.size := FF4.siz
        have hn0 : (w4.alloc (.cells #[.int .i64 L[kk].t, .int .i64 L[kk].k, .int .i64 L[kk].e, .int .i64 L[kk].b, .int .i64 L[kk].r, .int .i64 L[kk].d, .int .i64 L[kk].g, .int .i64 L[kk].q, .int .i64 L[kk].f, .bool L[kk].o, .int .i64 L[kk].p] 27)).cell? ⟨w4.heap.size, 11, none⟩ = none := by go_simp
        clear c0 c1 c2 c3 c4 c5 c6 c7 c8 c9 c10 z0 hc
        obtain ⟨s, hs⟩ : ∃ s, s = L[kk] := ⟨_, rfl⟩
        rw [← hs] at hct hS0 F0 hr0 own0 hz0 hn0 ⊢
        obtain ⟨C, hC⟩ : ∃ C, C = w4.heap.size := ⟨_, rfl⟩
        have hCs : C < (w4.alloc (.cells #[.int .i64 s.t, .int .i64 s.k, .int .i64 s.e, .int .i64 s.b, .int .i64 s.r, .int .i64 s.d, .int .i64 s.g, .int .i64 s.q, .int .i64 s.f, .bool s.o, .int .i64 s.p] 27)).heap.size := by simp; omega
        have hgC : g ≠ C := by omega
        rw [← hC] at hS0 hz0 hC0 hn0 ⊢
        generalize w4.alloc (.cells #[.int .i64 s.t, .int .i64 s.k, .int .i64 s.e, .int .i64 s.b, .int .i64 s.r, .int .i64 s.d, .int .i64 s.g, .int .i64 s.q, .int .i64 s.f, .bool s.o, .int .i64 s.p] 27) = W0 at hS0 F0 hr0 own0 hz0 hCs hn0 ⊢
        clear hs hC hg2 hfz hLi own4 FF4 hr4 hcl hzt
        go_loopw [3] (fun v w' => growInv w p n k C s v w') (fun v w' => 310 - lenV v)
        case atStart => exact ⟨g, cap, j + 3, L, s.t, s.p, rfl, by omega, hta, own0, hgw, hgC, hpos, hn0, hS0, hz0, hr0, by omega, F0, hCs⟩
        case round =>
          clear hS0 F0 hr0 own0 hz0 hCs hgC hgw hta hcap hcm hlow hpos hne hkk hkl hlen hj hn0
          obtain ⟨g, cap, j, L, a, b, rfl, hlen, hta, own, hgw, hgC, hpos, hn, hS, hz, hr, hj, F, hCs⟩ := hrel
          have hcap := own.cap
          have hps := Nat.lt_of_lt_of_le hp F.siz
          go_wp2_with fail
          refine (pick_fr p n j _ _ hr (by omega) (by omega) (by omega)).mono ?_
          rintro e w5 ⟨z, rfl, hz2, hr5, F5⟩
          have own5 := own.fr F5
          have hz5 : ∀ i, w5.frozen? ⟨C, i, none⟩ = false := fun i => (F5.frz _ _ hCs).trans (hz i)
          have hS5 : At11 w5 C 0 { s with t := a, p := b } := hS.of fun jj => F5.cel _ _ hCs (by omega)
          have FF5 := F.trans F5
          have hCs5 : C < w5.heap.size := Nat.lt_of_lt_of_le hCs F5.siz
          have hn5 : w5.cell? ⟨C, 11, none⟩ = none := (F5.cel _ _ hCs (by omega)).trans hn
          have hC1 : p < C := by omega
          clear own hr F F5 hz hS hn
          by_cases hlz : (L.length : Int) < 300 + z
          · obtain ⟨c0, c1, c2, c3, c4, c5, c6, c7, c8, c9, c10⟩ := id hS5
            simp only [Nat.zero_add] at c0 c1 c2 c3 c4 c5 c6 c7 c8 c9 c10
            go_upto_region 10 with fail
            have own6 : OwnL ((w5.setCell ⟨C, 0, none⟩ (.int .i64 (64 + 4 * (L.length : Int)))).setCell ⟨C, 10, none⟩ (.int .i64 0)) p g cap L := own_same own5 ((Below.heap_setCell _ ⟨C, 10, none⟩ _ g hgC).trans (Below.heap_setCell _ ⟨C, 0, none⟩ _ g hgC))
            have hS6 : At11 ((w5.setCell ⟨C, 0, none⟩ (.int .i64 (64 + 4 * (L.length : Int)))).setCell ⟨C, 10, none⟩ (.int .i64 0)) C 0 { s with t := 64 + 4 * (L.length : Int), p := 0 } := by
              constructor
              all_goals go_simp
            have hz6 : ∀ i, ((w5.setCell ⟨C, 0, none⟩ (.int .i64 (64 + 4 * (L.length : Int)))).setCell ⟨C, 10, none⟩ (.int .i64 0)).frozen? ⟨C, i, none⟩ = false := fun i => by rw [World.frozen?_setCell, World.frozen?_setCell]; exact hz5 i
            have hn6 : ((w5.setCell ⟨C, 0, none⟩ (.int .i64 (64 + 4 * (L.length : Int)))).setCell ⟨C, 10, none⟩ (.int .i64 0)).cell? ⟨C, 11, none⟩ = none := by go_simp
            have hr6 := reads_put (reads_put hr5 hC1 0 (.int .i64 (64 + 4 * (L.length : Int)))) hC1 10 (.int .i64 0)
            have F6 := (FF5.set hC0 (by omega) 0 (.int .i64 (64 + 4 * (L.length : Int)))).set hC0 (by omega) 10 (.int .i64 0)
            have hCs6 : C < ((w5.setCell ⟨C, 0, none⟩ (.int .i64 (64 + 4 * (L.length : Int)))).setCell ⟨C, 10, none⟩ (.int .i64 0)).heap.size := by simp; omega
            clear own5 hS5 hz5 hn5 hr5 FF5 hCs5 c0 c1 c2 c3 c4 c5 c6 c7 c8 c9 c10
            generalize (w5.setCell ⟨C, 0, none⟩ (.int .i64 (64 + 4 * (L.length : Int)))).setCell ⟨C, 10, none⟩ (.int .i64 0) = W6 at own6 hS6 hz6 hn6 hr6 F6 hCs6 ⊢
            obtain ⟨t', ht'⟩ : ∃ t' : Int, t' = 64 + 4 * (L.length : Int) := ⟨_, rfl⟩
            rw [← ht'] at hS6
            have hnew := At11.alloc W6 { s with t := t', p := 0 } 27
            have ownA : (W6.alloc (.cells #[.int .i64 t', .int .i64 s.k, .int .i64 s.e, .int .i64 s.b, .int .i64 s.r, .int .i64 s.d, .int .i64 s.g, .int .i64 s.q, .int .i64 s.f, .bool s.o, .int .i64 0] 27)).ownsRow w.heap.size 27 11 (.slice (some ⟨g, 0, none⟩) L.length cap) L.length (cellsAll L) := own_at (World.ownsRow.alloc own6 _) hgw
            obtain ⟨c0, c1, c2, c3, c4, c5, c6, c7, c8, c9, c10⟩ := id hS6
            simp only [Nat.zero_add] at c0 c1 c2 c3 c4 c5 c6 c7 c8 c9 c10
            have htt : -1000000 ≤ t' ∧ t' ≤ 1000000 := by omega
            have hsz6 : w.heap.size ≤ W6.heap.size := F6.siz
            clear ht'
            obtain ⟨i0, hi0, hzz⟩ := Option.map_eq_some_iff.1 slotInfo
            simp only [Prod.mk.injEq] at hzz
            obtain ⟨hy1, hs0, hy0⟩ := hzz
            go_wp2_with (at_builtin; refine wpList_append_own _ rfl _ _ 23 rfl w.heap.size 27 i0 (.agg #[.int .i64 0, .int .i64 0, .int .i64 0, .int .i64 0, .int .i64 0, .int .i64 0, .int .i64 0, .int .i64 0, .int .i64 0, .bool false, .int .i64 0]) 11 88 Try.underlying23 hi0 hy1 hs0 hy0 rfl (by decide) (.slice (some ⟨g, 0, none⟩) L.length cap) L.length (cellsAll L) rfl ownA ⟨W6.heap.size, 0, none⟩ 1 1 (cellsOf { s with t := t', p := 0 }) rfl rfl (at11_news hnew) (by rw [← cellsAll_one]; exact cellsAll_one' _) (by unfold maxLen; omega) (by omega) (by simp; omega) ?_; intro v2 w2 own2 gr2 _)
            obtain ⟨g2, cap2, rfl, hg2, hg2'⟩ := owns_slice own2 (by omega)
            have own3 : OwnL w2 p g2 cap2 (L ++ [{ s with t := t', p := 0 }]) := by
              refine OwnL.of (n := L.length + 1) ?_ hp
              rw [cellsAll_append, cellsAll_one]; exact own2
            have hb2 : Below w.heap.size (W6.alloc (.cells #[.int .i64 t', .int .i64 s.k, .int .i64 s.e, .int .i64 s.b, .int .i64 s.r, .int .i64 s.d, .int .i64 s.g, .int .i64 s.q, .int .i64 s.f, .bool s.o, .int .i64 0] 27)) w2 := (Below.refl _ _).grown gr2 (by simp; omega) (fun k e => by simp [Value.ownBlock] at e; omega)
            have hblk : w2.heap[C]? = W6.heap[C]? := (gr2.block C (by simp; omega) (by simp [Value.ownBlock]; omega)).trans (Below.heap_alloc W6 _ C hCs6)
            go_roundw
            case rel =>
              have hcell : ∀ i, w2.cell? ⟨C, i, none⟩ = W6.cell? ⟨C, i, none⟩ := fun i => by simp [World.cell?, hblk]
              refine ⟨g2, cap2, j + 1, L ++ [{ s with t := t', p := 0 }], t', 0, by simp, by simp; omega, ?_, own3, hg2, ?_, by simp, (hcell _).trans hn6, hS6.of (fun i => hcell _), fun i => ?_, ?_, by simp; omega, ?_, ?_⟩
              · intro x hx
                rcases List.mem_append.1 hx with h1 | h1
                · exact hta x h1
                · simp at h1; subst h1; exact ⟨htt, hct.r, by dsimp only; omega⟩
              · intro e
                have h1 := (own3.lies.cells g2 0 rfl 1 (by simp; omega)).c0
                rw [e, hcell, show 0 + 1 * 11 = 11 from rfl, hn6] at h1
                cases h1
              · have := hz6 i
                simp [World.frozen?, hblk] at this ⊢; exact this
              · exact (reads_alloc hr6 (by omega) _).low hp hb2
              · exact (F6.alloc (by omega) _).low hb2 (by omega)
              · exact (Array.getElem?_eq_some_iff.1 (show w2.heap[C]? = some _ from hblk.trans (Array.getElem?_eq_getElem hCs6))).1
            case measure => simp [lenV]; omega
          · go_wp2_with fail
            go_ret
            exact ⟨_, rfl, g, cap, L, rfl, by omega, hta, hcap, own5.cm, own5.lies, own5.gt, own5.lt, ⟨j + 1, by omega, hr5⟩, FF5⟩

end Go.Proofs.Ytalncgmncafhjaa
