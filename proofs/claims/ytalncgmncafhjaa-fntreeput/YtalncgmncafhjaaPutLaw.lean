/-
  The walk of the law FnTreePut: for every list, place and slot that were drawn it answers true. Condition: the bytes can be read, at most 1048576 of them.
-/
import Derived.Test.YtalncgmncafhjaaBundleB
import Derived.Test.YtalncgmncafhjaaBundleD
import Derived.Test.YtalncgmncafhjaaAboveImpl
import Derived.Test.YtalncgmncafhjaaLeafImpl
import Derived.Test.YtalncgmncafhjaaBundleA
import Derived.Test.YtalncgmncafhjaaCutImpl
import Derived.Test.YtalncgmncafhjaaFindImpl
import Derived.Test.YtalncgmncafhjaaQuietFast
namespace Go.Proofs.Ytalncgmncafhjaa
open Go.ChangeShapes Go.WideShapes Go.ChangeAt Go.RowKit
set_option linter.unusedVariables false

/-- Between two rounds of the law's loop. -/
def putInv (w : World) (g G : Nat) (L R : List Sl) (v : Value) (w' : World) : Prop :=
  ∃ k : Nat, k ≤ L.length ∧ v = .int .i64 (k : Int) ∧ Lies w' (some ⟨g, 0, none⟩) L ∧ Lies w' (some ⟨G, 0, none⟩) R ∧ Below w.heap.size w w'

theorem lies_drewN {W : World} {P : Option Addr} {L : List Sl} (h : Lies W P L) (n : Nat) : Lies (W.drewN n) P L := h.below (below_drewN (Below.refl _ _) n)

set_option maxRecDepth 100000 in
set_option maxHeartbeats 8000000 in
theorem put_law (a : Option Addr) (n c : Nat) (w : World) (h : Bytes w a n c) (hn : n ≤ 1048576) :
    Calls Try.prog 3 #[.slice a n c] w fun e w' => e = .returned (.bool true) ∧ Below w.heap.size w w' := by
  have hi0 : ¬ (1048576 : Int) < (n : Int) := by omega
  go_enter Try.func3, Try.ntmps3
  go_wp2_with fail
  refine (drawPut_any a n c w h hn).mono ?_
  rintro e w0 ⟨g, cap, L, i, s, rfl, hN, hi, hs, hB0⟩
  have hta := hN.tame
  have hfit : ∀ s ∈ L, s.Fit := fun s hs => (hN.tame s hs).fit
  have hl : L.length ≤ 1048576 := by have := hN.len; omega
  have hcap := hN.lcap
  have hcm := hN.cm
  have hlen := hN.len
  have hLi := hN.lies
  have hg0 := hN.lt
  clear hN h hi0
  have hB1 : Below w.heap.size w (w0.alloc (.cells #[.int .i64 s.t, .int .i64 s.k, .int .i64 s.e, .int .i64 s.b, .int .i64 s.r, .int .i64 s.d, .int .i64 s.g, .int .i64 s.q, .int .i64 s.f, .bool s.o, .int .i64 s.p] 27)) := hB0.alloc hB0.size _
  have hS1 : Holds11 (w0.alloc (.cells #[.int .i64 s.t, .int .i64 s.k, .int .i64 s.e, .int .i64 s.b, .int .i64 s.r, .int .i64 s.d, .int .i64 s.g, .int .i64 s.q, .int .i64 s.f, .bool s.o, .int .i64 s.p] 27)) w0.heap.size (.int .i64 s.t) (.int .i64 s.k) (.int .i64 s.e) (.int .i64 s.b) (.int .i64 s.r) (.int .i64 s.d) (.int .i64 s.g) (.int .i64 s.q) (.int .i64 s.f) (.bool s.o) (.int .i64 s.p) := Holds11.alloc w0 _ _ _ _ _ _ _ _ _ _ _ _
  have hL1 : Lies (w0.alloc (.cells #[.int .i64 s.t, .int .i64 s.k, .int .i64 s.e, .int .i64 s.b, .int .i64 s.r, .int .i64 s.d, .int .i64 s.g, .int .i64 s.q, .int .i64 s.f, .bool s.o, .int .i64 s.p] 27)) (some ⟨g, 0, none⟩) L := hLi.below ((Below.refl _ _).alloc (Nat.le_refl _) _)
  have hg1 : g < (w0.alloc (.cells #[.int .i64 s.t, .int .i64 s.k, .int .i64 s.e, .int .i64 s.b, .int .i64 s.r, .int .i64 s.d, .int .i64 s.g, .int .i64 s.q, .int .i64 s.f, .bool s.o, .int .i64 s.p] 27)).heap.size := by simp; omega
  have hC1 : w0.heap.size < (w0.alloc (.cells #[.int .i64 s.t, .int .i64 s.k, .int .i64 s.e, .int .i64 s.b, .int .i64 s.r, .int .i64 s.d, .int .i64 s.g, .int .i64 s.q, .int .i64 s.f, .bool s.o, .int .i64 s.p] 27)).heap.size := by simp
  go_upto_region 4 with fail
  generalize w0.alloc (.cells #[.int .i64 s.t, .int .i64 s.k, .int .i64 s.e, .int .i64 s.b, .int .i64 s.r, .int .i64 s.d, .int .i64 s.g, .int .i64 s.q, .int .i64 s.f, .bool s.o, .int .i64 s.p] 27) = w1 at hB1 hS1 hL1 hg1 hC1 ⊢
  obtain ⟨C, hC⟩ : ∃ C, C = w0.heap.size := ⟨_, rfl⟩
  rw [← hC] at hS1 hC1 ⊢
  clear hC hLi hg0 hB0
  obtain ⟨c0, c1, c2, c3, c4, c5, c6, c7, c8, c9, c10, cz⟩ := id hS1
  cases hok : okP L i s
  · as_aux_lemma =>
    go_wp2_with fail
    refine (implPut_no g cap i L s w1 hl hcap hcm hL1 hg1 hta hs hok).mono ?_
    rintro e w2 ⟨rfl, hb2⟩
    have hL2 := hL1.below hb2
    have hB2 := hB1.trans (hb2.mono hB1.size)
    have hS2 := hS1.below hb2 hC1
    obtain ⟨d0, d1, d2, d3, d4, d5, d6, d7, d8, d9, d10, dz⟩ := id hS2
    clear c0 c1 c2 c3 c4 c5 c6 c7 c8 c9 c10
    go_wp2_with fail
    refine (specPut_no g cap i L s w2 hl hcap hcm hL2 (Nat.lt_of_lt_of_le hg1 hb2.size) hok).mono ?_
    rintro e w3 ⟨rfl, hb3⟩
    have hB3 := hB2.trans (hb3.mono hB2.size)
    go_wp2_with fail
    refine (wtSame_same none none 0 0 [] w3 (by simp) ⟨.inl rfl, fun _ _ e => by cases e⟩ ⟨.inl rfl, fun _ _ e => by cases e⟩).mono ?_
    rintro e w4 ⟨rfl, hb4⟩
    have hB4 := hB3.trans (hb4.mono hB3.size)
    go_wp2_with fail
    go_ret
    exact ⟨rfl, hB4⟩
  · obtain ⟨R, hR⟩ : ∃ R, R = putR L i s := ⟨_, rfl⟩
    obtain ⟨J, hJ⟩ : ∃ J, J = putPl L i := ⟨_, rfl⟩
    have hok' := hok
    simp only [okP, Bool.and_eq_true] at hok'
    obtain ⟨hTL, hpl⟩ := (putB_iff L i).1 hok'.1
    have hTR : treeB R = true := by rw [hR]; exact hok'.2
    have hJL : J ≤ L.length := by rw [hJ]; exact putPl_le hpl
    have hRl : R.length = L.length + 1 := by rw [hR]; exact putR_len hpl
    have hJR : J < R.length := by omega
    have hRe : R = putJ L J (s.at (putDp L i)) := by rw [hR, hJ]; rfl
    have hnext : J < L.length → depN L J ≤ (s.at (putDp L i)).p := by rw [hJ]; exact putDp_next hTL hpl
    have hRJ : R[J] = s.at (putDp L i) := by
      have := putJ_at (x := s.at (putDp L i)) hJL
      rw [← hRe, List.getElem?_eq_getElem hJR] at this
      exact Option.some.inj this
    have hrun : runN R[J].p (R.drop (J + 1)) = 0 := by
      subst hRe; exact put_run hJL hnext hJR
    have hcut : R.take J ++ R.drop (J + 1) = L := by rw [hRe]; exact put_cut hJL
    have hupJ : headI (ups (depN R) (depN R J) J) = i := by rw [hR, hJ]; exact put_upJ hTL hpl
    have hfind : findT R s.t = (J : Int) := by
      have := find_tree hTR J hJR
      rw [hRJ] at this; exact this
    have hfindk : ∀ k (hk : k < L.length), findT R L[k].t = (shiftN J k : Int) ∧ shiftN J k < R.length := fun k hk => by
      have h1 : shiftN J k < R.length := by unfold shiftN; split <;> omega
      have h2 := find_tree hTR (shiftN J k) h1
      have h3 : R[shiftN J k] = L[k] := by
        have := shift_at (L := L) (J := J) (k := k) (x := s.at (putDp L i)) hJL
        rw [← hRe, List.getElem?_eq_getElem h1, List.getElem?_eq_getElem hk] at this
        exact Option.some.inj this
      rw [h3] at h2
      exact ⟨h2, h1⟩
    have hupk : ∀ k (hk : k < L.length), (headI (ups (depN L) (depN L k) k) < 0 ∧ headI (ups (depN R) (depN R (shiftN J k)) (shiftN J k)) < 0) ∨ ∃ u U : Nat, u < L.length ∧ (∃ hU : U < R.length, ∃ hu : u < L.length, R[U].t = L[u].t) ∧ headI (ups (depN L) (depN L k) k) = (u : Int) ∧ headI (ups (depN R) (depN R (shiftN J k)) (shiftN J k)) = (U : Int) := fun k hk => by
      have := put_up (L := L) (J := J) (k := k) (x := s.at (putDp L i)) hJL hnext hk
      rw [← hRe] at this
      rcases this with h1 | ⟨u, hu, h1, h2⟩
      · exact .inl h1
      · have hu' : u < L.length := by omega
        have hU : shiftN J u < R.length := (hfindk u hu').2
        have h3 : R[shiftN J u] = L[u] := by
          have := shift_at (L := L) (J := J) (k := u) (x := s.at (putDp L i)) hJL
          rw [← hRe, List.getElem?_eq_getElem hU, List.getElem?_eq_getElem hu'] at this
          exact Option.some.inj this
        exact .inr ⟨u, shiftN J u, hu', ⟨hU, hu', by rw [h3]⟩, h1, h2⟩
    have hfR : ∀ x ∈ R, x.Fit := by
      have hd := putDp_bd hTL hpl
      have : ∀ x ∈ R, x.Tame := tame_put hta hs (d := putDp L i) (fun x hx => by
        rw [hRe] at hx
        simp only [putJ, List.mem_append, List.mem_singleton] at hx
        rcases hx with h1 | h1 | h1
        · exact .inl (List.mem_of_mem_take h1)
        · exact .inr h1
        · exact .inl (List.mem_of_mem_drop h1)) (by omega)
      exact fun x hx => (this x hx).fit
    have hleaf : IsLeaf R J 0 := leaf_self hJR hrun
    have HIP := fun W (hW : Lies W (some ⟨g, 0, none⟩) L) (hgW : g < W.heap.size) => implPut_yes g cap i L R s W hl hcap hcm hW hgW hta hs hok hR
    have HSP := fun W (hW : Lies W (some ⟨g, 0, none⟩) L) (hgW : g < W.heap.size) => specPut_yes g cap i L R s W hl hcap hcm hW hgW hok hR
    have hl2 : R.length ≤ 1048576 := by omega
    have HW := fun (P Q : Option Addr) (c d : Nat) W => wtSame_same P Q c d R W hl2
    have HW2 := fun (P Q : Option Addr) (c d : Nat) W => wtSame_same P Q c d L W hl
    have HF := fun G W (hW : Lies W (some ⟨G, 0, none⟩) R) => treeFindImpl_any (some ⟨G, 0, none⟩) R.length R.length s.t R W rfl hl2 (Nat.le_refl _) (by omega) hW hfR
    have HFk := fun x G W (hW : Lies W (some ⟨G, 0, none⟩) R) => treeFindImpl_any (some ⟨G, 0, none⟩) R.length R.length x R W rfl hl2 (Nat.le_refl _) (by omega) hW hfR
    have HC := fun G W (hW : Lies W (some ⟨G, 0, none⟩) R) => treeCutImpl_leaf G 0 R.length J R W hl2 (Nat.le_refl _) (by omega) hW hfR hTR hJR hrun
    have HO := fun G W (hW : Lies W (some ⟨G, 0, none⟩) R) => treeOkImpl_any (some ⟨G, 0, none⟩) R.length R.length R W rfl hl2 (Nat.le_refl _) (by omega) hW hfR
    have HU := fun x (hx : x < R.length) G W (hW : Lies W (some ⟨G, 0, none⟩) R) => treeUpImpl_some (some ⟨G, 0, none⟩) R.length x R W hl2 (Nat.le_refl _) (by omega) hW hfR hTR hx
    have HUL := fun x (hx : x < L.length) W (hW : Lies W (some ⟨g, 0, none⟩) L) => treeUpImpl_some (some ⟨g, 0, none⟩) cap x L W hl hcap hcm hW hfit hTL hx
    have HE := fun G W (hW : Lies W (some ⟨G, 0, none⟩) R) => treeEndImpl_some (some ⟨G, 0, none⟩) R.length J R W hl2 (Nat.le_refl _) (by omega) hW hfR hTR hJR 0 hrun
    have HLf := fun G W (hW : Lies W (some ⟨G, 0, none⟩) R) => treeLeafImpl_some (some ⟨G, 0, none⟩) R.length J R W hl2 (Nat.le_refl _) (by omega) hW hfR hTR hJR 0 hleaf
    have HUJ := HU J hJR
    rw [hupJ] at HUJ
    rw [hfind] at HF
    rw [hTR] at HO
    simp only [hcut] at HC
    have eE : ((J + 0 + 1 : Nat) : Int) = (J : Int) + 1 := by omega
    have eL : ((J + 0 : Nat) : Int) = (J : Int) := by omega
    simp only [eE] at HE
    simp only [eL] at HLf
    have hR1 : R.length - 1 = L.length := by omega
    simp only [hR1] at HC
    have hJb : J ≤ 301 := by omega
    clear hok hok' hpl hRe hnext hRJ hrun hcut hupJ hfind hleaf hR hJ eE eL hR1 hTL hi
    obtain ⟨NR, hNR⟩ : ∃ m, R.length = m := ⟨_, rfl⟩
    have HNR : Hid _ := hNR
    have hNRb : NR ≤ 1048576 := by omega
    rw [hNR] at HIP HSP HW HF HFk HC HO HU HE HLf HUJ
    have HFF : Hid _ := hfindk
    have HUU : Hid _ := hupk
    clear hNR hfindk hupk hRl hJR hfR hTR
    have hJ0 : (0 : Int) ≤ (J : Int) := by omega
    go_wp2_with fail
    refine (HIP w1 hL1 hg1).mono ?_
    rintro e w2 ⟨G, rfl, hG, hG2, hR2, hb2⟩
    have hL2 := hL1.below hb2
    have hB2 := hB1.trans (hb2.mono hB1.size)
    have hS2 := hS1.below hb2 hC1
    have hg2 := Nat.lt_of_lt_of_le hg1 hb2.size
    have hC2 := Nat.lt_of_lt_of_le hC1 hb2.size
    clear c0 c1 c2 c3 c4 c5 c6 c7 c8 c9 c10 cz
    obtain ⟨c0, c1, c2, c3, c4, c5, c6, c7, c8, c9, c10, cz⟩ := id hS2
    go_wp2_with fail
    refine (HSP w2 hL2 hg2).mono ?_
    rintro e w3 ⟨G', C', rfl, hG', hR3', hb3⟩
    have hL3 := hL2.below hb3
    have hR3 := hR2.below hb3
    have hB3 := hB2.trans (hb3.mono hB2.size)
    have hS3 := hS2.below hb3 hC2
    have hC3 := Nat.lt_of_lt_of_le hC2 hb3.size
    clear c0 c1 c2 c3 c4 c5 c6 c7 c8 c9 c10 cz
    go_wp2_with fail
    refine (HW _ _ _ _ w3 hR3 hR3').mono ?_
    rintro e w4 ⟨rfl, hb4⟩
    have hL4 := hL3.below hb4
    have hR4 := hR3.below hb4
    have hB4 := hB3.trans (hb4.mono hB3.size)
    have hS4 := hS3.below hb4 hC3
    have hC4 := Nat.lt_of_lt_of_le hC3 hb4.size
    obtain ⟨c0, c1, c2, c3, c4, c5, c6, c7, c8, c9, c10, cz⟩ := id hS4
    clear hL1 hL2 hL3 hR2 hR3 hR3' hB1 hB2 hB3 hS1 hS2 hS3 hb2 hb3 hb4 HIP HSP HW
    go_wp2_with fail
    refine (HF G w4 hR4).mono ?_
    rintro e w5 ⟨rfl, hb5⟩
    have hL5 := hL4.below hb5
    have hR5 := hR4.below hb5
    have hB5 := hB4.trans (hb5.mono hB4.size)
    go_wp2_with fail
    refine (HC G w5 hR5).mono ?_
    rintro e w6 ⟨G2, rfl, hG2', _, hK6, hb6⟩
    have hL6 := hL5.below hb6
    have hR6 := hR5.below hb6
    have hB6 := hB5.trans (hb6.mono hB5.size)
    go_wp2_with fail
    refine (HO G w6 hR6).mono ?_
    rintro e w7 ⟨rfl, hb7⟩
    have hL7 := hL6.below hb7
    have hR7 := hR6.below hb7
    have hB7 := hB6.trans (hb7.mono hB6.size)
    have hK7 := hK6.below hb7
    go_wp2_with fail
    refine (HW2 _ _ _ _ w7 hK7 hL7).mono ?_
    rintro e w8 ⟨rfl, hb8⟩
    have hL8 := hL7.below hb8
    have hR8 := hR7.below hb8
    have hB8 := hB7.trans (hb8.mono hB7.size)
    go_wp2_with fail
    refine (HUJ G w8 hR8).mono ?_
    rintro e w9 ⟨rfl, hb9⟩
    have hL9 := hL8.below hb9
    have hR9 := hR8.below hb9
    have hB9 := hB8.trans (hb9.mono hB8.size)
    go_wp2_with fail
    refine (HE G w9 hR9).mono ?_
    rintro e w10 ⟨rfl, hb10⟩
    have hL10 := hL9.below hb10
    have hR10 := hR9.below hb10
    have hB10 := hB9.trans (hb10.mono hB9.size)
    go_wp2_with fail
    refine (HLf G w10 hR10).mono ?_
    rintro e w11 ⟨rfl, hb11⟩
    have hL11 := hL10.below hb11
    have hR11 := hR10.below hb11
    have hB11 := hB10.trans (hb11.mono hB10.size)
    go_wp2_with fail
    go_loopw [13, 14, 15] (fun v x y w' => putInv w g G L R v w') (fun v x y w' => L.length - (intOf v).toNat)
    case atStart => exact ⟨0, Nat.zero_le _, rfl, hL11, hR11, hB11⟩
    case round =>
      clear hL4 hL5 hL6 hL7 hL8 hL9 hL10 hL11 hR4 hR5 hR6 hR7 hR8 hR9 hR10 hR11 hB4 hB5 hB6 hB7 hB8 hB9 hB10 hB11 hb5 hb6 hb7 hb8 hb9 hb10 hb11 hK6 hK7 c0 c1 c2 c3 c4 c5 c6 c7 c8 c9 c10 cz hS4 HF HC HO HW2 HUJ HE HLf
      obtain ⟨k, hk, rfl, hLr, hRr, hBr⟩ := hrel
      by_cases hlt : k < L.length
      · have hkk : (k : Int) < (L.length : Int) := by omega
        have hkt := (hLr.cells g 0 rfl k hlt).c0
        rw [Nat.zero_add] at hkt
        obtain ⟨hf1, hf2⟩ := HFF.out k hlt
        have hux := HUU.out k hlt
        have HU1 := HUL k hlt
        have HF1 := HFk L[k].t G
        rw [hf1] at HF1
        have HU2 := HU (shiftN J k) (by rw [← HNR.out]; exact hf2) G
        generalize headI (ups (depN L) (depN L k) k) = up at HU1 hux
        generalize headI (ups (depN R) (depN R (shiftN J k)) (shiftN J k)) = now at HU2 hux
        generalize shiftN J k = kk at HF1 HU2
        have HX : Hid _ := hux
        clear hf1 hf2 hux
        go_wp2_with fail
        refine (HU1 _ hLr).mono ?_
        rintro e w1 ⟨rfl, hb1⟩
        have hL1 := hLr.below hb1
        have hR1 := hRr.below hb1
        have hB1 := hBr.trans (hb1.mono hBr.size)
        have hkt := (hL1.cells g 0 rfl k hlt).c0
        rw [Nat.zero_add] at hkt
        go_wp2_with fail
        refine (HF1 _ hR1).mono ?_
        rintro e w2 ⟨rfl, hb2⟩
        have hL2 := hL1.below hb2
        have hR2 := hR1.below hb2
        have hB2 := hB1.trans (hb2.mono hB1.size)
        go_wp2_with fail
        refine (HU2 _ hR2).mono ?_
        rintro e w3 ⟨rfl, hb3⟩
        have hL3 := hL2.below hb3
        have hR3 := hR2.below hb3
        have hB3 := hB2.trans (hb3.mono hB2.size)
        clear hLr hRr hBr hL1 hL2 hR1 hR2 hB1 hB2 hb1 hb2 hb3 HU1 HF1 HU2 HU HUL HFk HFF HUU hkt
        rcases HX.out with ⟨hu1, hu2⟩ | ⟨u, U, hu, ⟨hU, hu', htt⟩, rfl, rfl⟩
        · clear HX
          have e1 : decide (up < 0) = true := by simpa using hu1
          have e2 : decide (now < 0) = true := by simpa using hu2
          have e3 : decide ((0 : Int) ≤ now) = false := by simp; omega
          have e4 : decide ((0 : Int) ≤ up) = false := by simp; omega
          clear hu1 hu2
          go_upto_region 19 with fail
          refine wq_region (by kernel_rfl) (by kernel_rfl) ?_
          repeat (first | (refine wq_step (fun K hK => ?_); go_simp; first | (refine hK _ ?_; clear hK K) | (apply Exists.intro; refine ⟨fun _ => ?_, hK _ ?_⟩; fail; clear hK K)))
          refine wq_nil ?_
          intro _ hw'
          obtain ⟨⟨dq, osq⟩, hw''⟩ := hw'
          subst hw''
          go_wp2
          go_roundw
          case rel => exact ⟨k + 1, by omega, by go_num, hL3.below (below_regrown w3 dq osq), hR3.below (below_regrown w3 dq osq), hB3.trans ((below_regrown w3 dq osq).mono hB3.size)⟩
          case measure => simp [intOf]; omega
        · clear HX
          have a1 := (hL3.cells g 0 rfl u hu).c0
          have a2 := (hR3.cells G 0 rfl U hU).c0
          rw [Nat.zero_add] at a1 a2
          rw [htt] at a2
          have p1 := cell_regrown a1
          have p2 := cell_regrown a2
          have hUi : (U : Int) < (NR : Int) := by have := HNR.out; omega
          have hui : (u : Int) < (L.length : Int) := by omega
          have e1 : ¬ (u : Int) < 0 := by omega
          have e2 : ¬ (U : Int) < 0 := by omega
          have e3 : (0 : Int) ≤ (u : Int) := by omega
          have e4 : (0 : Int) ≤ (U : Int) := by omega
          go_upto_region 19 with fail
          clear e1 e2 e3 e4
          have e1 : decide ((u : Int) < 0) = false := by simp
          have e2 : decide ((U : Int) < 0) = false := by simp
          have e3 : decide ((0 : Int) ≤ (u : Int)) = true := by simp
          have e4 : decide ((0 : Int) ≤ (U : Int)) = true := by simp
          have e5 : ((u : Int) < 0) = False := by simp
          have e6 : ((U : Int) < 0) = False := by simp
          refine wq_region (by kernel_rfl) (by kernel_rfl) ?_
          repeat (first | (refine wq_step (fun K hK => ?_); go_simp; first | (refine hK _ ?_; clear hK K) | (apply Exists.intro; refine ⟨fun _ => ?_, hK _ ?_⟩; fail; clear hK K)))
          refine wq_nil ?_
          intro _ hw'
          obtain ⟨⟨dq, osq⟩, hw''⟩ := hw'
          subst hw''
          go_wp2
          go_roundw
          case rel => exact ⟨k + 1, by omega, by go_num, hL3.below (below_regrown w3 dq osq), hR3.below (below_regrown w3 dq osq), hB3.trans ((below_regrown w3 dq osq).mono hB3.size)⟩
          case measure => simp [intOf]; omega
      · go_wp2_with fail
        go_ret
        exact ⟨rfl, hBr⟩

end Go.Proofs.Ytalncgmncafhjaa
