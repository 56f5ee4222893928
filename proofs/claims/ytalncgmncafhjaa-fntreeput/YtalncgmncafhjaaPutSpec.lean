/-
  What l3Put and TreePut of the specification answer.
-/
import Derived.Test.YtalncgmncafhjaaRows3
import Derived.Test.YtalncgmncafhjaaHeld
import Derived.Test.YtalncgmncafhjaaTreeOkSpec
import Derived.OwnWalk
import Derived.Deep.DeepCutAuto
namespace Go.Proofs.Ytalncgmncafhjaa
open Go.ChangeShapes Go.WideShapes Go.ChangeAt Go.RowKit
set_option linter.unusedVariables false

theorem owns_slice {W : World} {base e n : Nat} {v : Value} {xs : List Value} (h : W.ownsRow base e 11 v n xs) (hn : 0 < n) : ∃ g cap, v = .slice (some ⟨g, 0, none⟩) n cap ∧ base ≤ g ∧ g < W.heap.size := by
  rcases h.2 with ⟨_, h0⟩ | ⟨g, cap, cur, h3, hb, hg, _⟩
  · omega
  · exact ⟨g, cap, h3, hb, (Array.getElem?_eq_some_iff.1 hg).1⟩
theorem at11_grown {W W' : World} {row : Option Nat} {B O : Nat} {s : Sl} (h : At11 W B O s) (hg : W.grownBy W' row) (hne : some B ≠ row) : At11 W' B O s :=
  h.of fun j => World.cell?_of_block (hg.block B h.lt hne)
theorem at11_news {W : World} {B : Nat} {s : Sl} (h : At11 W B 0 s) : ∀ j u, (cellsOf s)[j]? = some u → W.cell? ((⟨B, 0, none⟩ : Addr).add j) = some u := by
  intro j u hu
  have hj : j < 11 := (List.getElem?_eq_some_iff.1 hu).1
  have hc := h.get j hj
  rw [hu] at hc
  unfold Addr.add
  by_cases hz : j = 0
  · subst hz; simpa using hc
  · rw [if_neg hz]; exact hc

/-- A slot with another depth. -/
def Sl.at (s : Sl) (d : Int) : Sl := { s with p := d }

/-- A tree with one more slot behind a place. -/
def putAt (L : List Sl) (i : Nat) (s : Sl) (d : Int) : List Sl := L.take (i + 1) ++ ([s.at d] ++ L.drop (i + 1))

set_option maxRecDepth 100000 in
set_option maxHeartbeats 2000000 in
theorem putSpec_at_own (B O c i : Nat) (L : List Sl) (s : Sl) (d : Int) (w : World) (hl : L.length ≤ 1048576) (hcap : L.length ≤ c) (hcm : c ≤ 9223372036854775807) (h : Lies w (some ⟨B, O, none⟩) L) (hi : i < L.length) (hd : L[i].p = d) (hd0 : 0 ≤ d) (hd1 : d ≤ 100) :
    Calls Try.prog 24 #[.slice (some ⟨B, O, none⟩) L.length c, .int .i64 (i : Int), .agg #[.int .i64 s.t, .int .i64 s.k, .int .i64 s.e, .int .i64 s.b, .int .i64 s.r, .int .i64 s.d, .int .i64 s.g, .int .i64 s.q, .int .i64 s.f, .bool s.o, .int .i64 s.p]] w fun e w' => ∃ g cap, e = .returned (.slice (some ⟨g, 0, none⟩) (L.length + 1) cap) ∧ w.heap.size ≤ g ∧ g < w'.heap.size ∧ L.length + 1 ≤ cap ∧ cap ≤ 9223372036854775807 ∧ Lies w' (some ⟨g, 0, none⟩) (putAt L i s (d + 1)) ∧ Below w.heap.size w w' ∧ w'.ownsRow w.heap.size 27 11 (.slice (some ⟨g, 0, none⟩) (L.length + 1) cap) (L.length + 1) (cellsAll (putAt L i s (d + 1))) := by
  have ci := (h.cells B O rfl i hi).c10
  have hBlt : B < w.heap.size := (h.cells B O rfl i hi).lt
  rw [hd] at ci
  have hii : (i : Int) < (L.length : Int) := by omega
  have hii0 : (0 : Int) ≤ (i : Int) := by omega
  obtain ⟨J, hJ⟩ : ∃ J, i + 1 = J := ⟨_, rfl⟩
  have hJ1 : (i : Int) + 1 = (J : Int) := by omega
  have hJ2 : (J : Int) ≤ (L.length : Int) := by omega
  have hJ3 : J ≤ L.length := by omega
  have hJ4 : J ≤ c := by omega
  have HJ : Hid _ := hJ
  clear hJ
  obtain ⟨i0, hi0, hzz⟩ := Option.map_eq_some_iff.1 slotInfo
  simp only [Prod.mk.injEq] at hzz
  obtain ⟨hz0, hs0, hy0⟩ := hzz
  have hL0 : Lies ((w.alloc (.cells #[.int .i64 s.t, .int .i64 s.k, .int .i64 s.e, .int .i64 s.b, .int .i64 s.r, .int .i64 s.d, .int .i64 s.g, .int .i64 s.q, .int .i64 s.f, .bool s.o, .int .i64 (d + 1)] 27)).alloc (.cells #[] 27)) (some ⟨B, O, none⟩) L := h.below (((Below.refl _ _).alloc (Nat.le_refl _) _).alloc (by simp) _)
  have hS0 : At11 ((w.alloc (.cells #[.int .i64 s.t, .int .i64 s.k, .int .i64 s.e, .int .i64 s.b, .int .i64 s.r, .int .i64 s.d, .int .i64 s.g, .int .i64 s.q, .int .i64 s.f, .bool s.o, .int .i64 (d + 1)] 27)).alloc (.cells #[] 27)) w.heap.size 0 (s.at (d + 1)) :=
    (At11.alloc w (s.at (d + 1)) 27).of (fun j => (bcell ((Below.refl _ _).alloc (Nat.le_refl _) _)).1 _ _ (by simp))
  have own0 := World.ownsRow_made (base := w.heap.size) (e := 27) (size := 11) (w.alloc (.cells #[.int .i64 s.t, .int .i64 s.k, .int .i64 s.e, .int .i64 s.b, .int .i64 s.r, .int .i64 s.d, .int .i64 s.g, .int .i64 s.q, .int .i64 s.f, .bool s.o, .int .i64 (d + 1)] 27)) #[] 0 (by simp) (Nat.zero_le _) rfl
  rw [World.size_alloc] at own0
  have hB0 : Below w.heap.size w ((w.alloc (.cells #[.int .i64 s.t, .int .i64 s.k, .int .i64 s.e, .int .i64 s.b, .int .i64 s.r, .int .i64 s.d, .int .i64 s.g, .int .i64 s.q, .int .i64 s.f, .bool s.o, .int .i64 (d + 1)] 27)).alloc (.cells #[] 27)) := ((Below.refl _ _).alloc (Nat.le_refl _) _).alloc (by simp) _
  have hz1 : w.heap.size + 1 < ((w.alloc (.cells #[.int .i64 s.t, .int .i64 s.k, .int .i64 s.e, .int .i64 s.b, .int .i64 s.r, .int .i64 s.d, .int .i64 s.g, .int .i64 s.q, .int .i64 s.f, .bool s.o, .int .i64 (d + 1)] 27)).alloc (.cells #[] 27)).heap.size := by simp
  go_enter Try.func24, Try.ntmps24
  go_upto_region 6 with fail
  generalize hW0 : (w.alloc (.cells #[.int .i64 s.t, .int .i64 s.k, .int .i64 s.e, .int .i64 s.b, .int .i64 s.r, .int .i64 s.d, .int .i64 s.g, .int .i64 s.q, .int .i64 s.f, .bool s.o, .int .i64 (d + 1)] 27)).alloc (.cells #[] 27) = W0 at hL0 hS0 own0 hB0 hz1 ⊢
  clear hW0 h ci
  go_upto_region 7 with (at_builtin; refine wpList_append_own _ rfl _ _ 23 rfl w.heap.size 27 i0 (.agg #[.int .i64 0, .int .i64 0, .int .i64 0, .int .i64 0, .int .i64 0, .int .i64 0, .int .i64 0, .int .i64 0, .int .i64 0, .bool false, .int .i64 0]) 11 88 Try.underlying23 hi0 hz0 hs0 hy0 rfl (by decide) (.slice (some ⟨w.heap.size + 1, 0, none⟩) 0 0) 0 [] rfl own0 ⟨B, O, none⟩ J c (cellsAll (L.take J)) rfl (by rw [cellsAll_length, List.length_take]; omega) (lies_news (hL0.take J)) (cellsAll_one' _) (by unfold maxLen; omega) (by omega) (by omega) ?_; intro v1 w1 own1 gr1 _)
  rw [Nat.zero_add, List.nil_append] at own1
  have hJ0 : 0 < J := by have := HJ.out; omega
  obtain ⟨g1, cap1, rfl, hg1, hg1'⟩ := owns_slice own1 hJ0
  have hL1 := lies_grown hL0 gr1 (by simp [Value.ownBlock]; omega) (by omega)
  have hS1 := at11_grown hS0 gr1 (by simp [Value.ownBlock])
  have hB1 : Below w.heap.size w w1 := hB0.grown gr1 hB0.size (fun k e => by simp [Value.ownBlock] at e; omega)
  have hs1 : w.heap.size < w1.heap.size := hS1.lt
  clear own0 hL0 hS0 gr1 hB0 hz1
  obtain ⟨d0, d1, d2, d3, d4, d5, d6, d7, d8, d9, d10⟩ := hS1
  simp only [Nat.zero_add, Sl.at] at d0 d1 d2 d3 d4 d5 d6 d7 d8 d9 d10
  have own1' := own1.alloc (.cells #[.int .i64 s.t, .int .i64 s.k, .int .i64 s.e, .int .i64 s.b, .int .i64 s.r, .int .i64 s.d, .int .i64 s.g, .int .i64 s.q, .int .i64 s.f, .bool s.o, .int .i64 (d + 1)] 27)
  have hS1' := At11.alloc w1 (s.at (d + 1)) 27
  have hL1' : Lies (w1.alloc (.cells #[.int .i64 s.t, .int .i64 s.k, .int .i64 s.e, .int .i64 s.b, .int .i64 s.r, .int .i64 s.d, .int .i64 s.g, .int .i64 s.q, .int .i64 s.f, .bool s.o, .int .i64 (d + 1)] 27)) (some ⟨B, O, none⟩) L := hL1.below ((Below.refl _ _).alloc (Nat.le_refl _) _)
  have hB1' : Below w.heap.size w (w1.alloc (.cells #[.int .i64 s.t, .int .i64 s.k, .int .i64 s.e, .int .i64 s.b, .int .i64 s.r, .int .i64 s.d, .int .i64 s.g, .int .i64 s.q, .int .i64 s.f, .bool s.o, .int .i64 (d + 1)] 27)) := hB1.alloc hB1.size _
  go_upto_region 8 with (at_builtin; refine wpList_append_own _ rfl _ _ 23 rfl w.heap.size 27 i0 (.agg #[.int .i64 0, .int .i64 0, .int .i64 0, .int .i64 0, .int .i64 0, .int .i64 0, .int .i64 0, .int .i64 0, .int .i64 0, .bool false, .int .i64 0]) 11 88 Try.underlying23 hi0 hz0 hs0 hy0 rfl (by decide) (.slice (some ⟨g1, 0, none⟩) J cap1) J (cellsAll (L.take J)) rfl own1' ⟨w1.heap.size, 0, none⟩ 1 1 (cellsOf (s.at (d + 1))) rfl rfl (at11_news hS1') (by rw [← cellsAll_one]; exact cellsAll_one' _) (by unfold maxLen; omega) (by omega) (by have := hB1'.size; exact this) ?_; intro v2 w2 own2 gr2 _)
  obtain ⟨g2, cap2, rfl, hg2, hg2'⟩ := owns_slice own2 (by omega)
  have hL2 := lies_grown hL1' gr2 (by simp [Value.ownBlock]; omega) (by simp; omega)
  have hB2 : Below w.heap.size w w2 := hB1'.grown gr2 hB1'.size (fun k e => by simp [Value.ownBlock] at e; omega)
  clear own1 own1' hL1 hL1' hS1' gr2 hB1 hB1' d0 d1 d2 d3 d4 d5 d6 d7 d8 d9 d10
  by_cases hJc : c ≤ J
  · have hc0 : c - J = 0 := by omega
    have hc1 : (c : Int) - (J : Int) = 0 := by omega
    go_wp2_with (at_builtin; refine wpList_append_own _ rfl _ _ 23 rfl w.heap.size 27 i0 (.agg #[.int .i64 0, .int .i64 0, .int .i64 0, .int .i64 0, .int .i64 0, .int .i64 0, .int .i64 0, .int .i64 0, .int .i64 0, .bool false, .int .i64 0]) 11 88 Try.underlying23 hi0 hz0 hs0 hy0 rfl (by decide) (.slice (some ⟨g2, 0, none⟩) (J + 1) cap2) (J + 1) (cellsAll (L.take J) ++ cellsOf (s.at (d + 1))) rfl own2 _ (L.length - J) _ (cellsAll (L.drop J)) rfl (by rw [cellsAll_length, List.length_drop]) (fun j u hu => by rw [List.drop_eq_nil_of_le (by omega)] at hu; simp [cellsAll] at hu) (cellsAll_one' _) (by unfold maxLen; omega) (by omega) hB2.size ?_; intro v3 w3 own3 gr3 _)
    obtain ⟨g3, cap3, rfl, hg3, hg3'⟩ := owns_slice own3 (by omega)
    have hB3 : Below w.heap.size w w3 := hB2.grown gr3 hB2.size (fun k e => by simp [Value.ownBlock] at e; omega)
    go_ret
    have e1 : J + 1 + (L.length - J) = L.length + 1 := by omega
    rw [e1] at own3
    have e2 : cellsAll (L.take J) ++ cellsOf (s.at (d + 1)) ++ cellsAll (L.drop J) = cellsAll (putAt L i s (d + 1)) := by
      rw [putAt, HJ.out, cellsAll_append, cellsAll_append, cellsAll_one, List.append_assoc]
    rw [e2] at own3
    obtain ⟨hL3, _, _, hc3, _⟩ := owns_lies own3
    exact ⟨g3, cap3, by rw [← e1]; rfl, hg3, hg3', hc3, (owns_cap own3).2, hL3, hB3, own3⟩
  · have hc0 : ¬ c - J = 0 := by omega
    have hc1 : ¬ (c : Int) - (J : Int) = 0 := by omega
    have hc2 : ¬ c = J := by omega
    go_wp2_with (at_builtin; refine wpList_append_own _ rfl _ _ 23 rfl w.heap.size 27 i0 (.agg #[.int .i64 0, .int .i64 0, .int .i64 0, .int .i64 0, .int .i64 0, .int .i64 0, .int .i64 0, .int .i64 0, .int .i64 0, .bool false, .int .i64 0]) 11 88 Try.underlying23 hi0 hz0 hs0 hy0 rfl (by decide) (.slice (some ⟨g2, 0, none⟩) (J + 1) cap2) (J + 1) (cellsAll (L.take J) ++ cellsOf (s.at (d + 1))) rfl own2 ⟨B, O + J * 11, none⟩ (L.length - J) (c - J) (cellsAll (L.drop J)) rfl (by rw [cellsAll_length, List.length_drop]) (lies_news (lies_drop hL2 J)) (cellsAll_one' _) (by unfold maxLen; omega) (by omega) hB2.size ?_; intro v3 w3 own3 gr3 _)
    obtain ⟨g3, cap3, rfl, hg3, hg3'⟩ := owns_slice own3 (by omega)
    have hB3 : Below w.heap.size w w3 := hB2.grown gr3 hB2.size (fun k e => by simp [Value.ownBlock] at e; omega)
    go_ret
    have e1 : J + 1 + (L.length - J) = L.length + 1 := by omega
    rw [e1] at own3
    have e2 : cellsAll (L.take J) ++ cellsOf (s.at (d + 1)) ++ cellsAll (L.drop J) = cellsAll (putAt L i s (d + 1)) := by
      rw [putAt, HJ.out, cellsAll_append, cellsAll_append, cellsAll_one, List.append_assoc]
    rw [e2] at own3
    obtain ⟨hL3, _, _, hc3, _⟩ := owns_lies own3
    exact ⟨g3, cap3, by rw [← e1]; rfl, hg3, hg3', hc3, (owns_cap own3).2, hL3, hB3, own3⟩

theorem putSpec_at (B O c i : Nat) (L : List Sl) (s : Sl) (d : Int) (w : World) (hl : L.length ≤ 1048576) (hcap : L.length ≤ c) (hcm : c ≤ 9223372036854775807) (h : Lies w (some ⟨B, O, none⟩) L) (hi : i < L.length) (hd : L[i].p = d) (hd0 : 0 ≤ d) (hd1 : d ≤ 100) :
    Calls Try.prog 24 #[.slice (some ⟨B, O, none⟩) L.length c, .int .i64 (i : Int), .agg #[.int .i64 s.t, .int .i64 s.k, .int .i64 s.e, .int .i64 s.b, .int .i64 s.r, .int .i64 s.d, .int .i64 s.g, .int .i64 s.q, .int .i64 s.f, .bool s.o, .int .i64 s.p]] w fun e w' => ∃ g cap, e = .returned (.slice (some ⟨g, 0, none⟩) (L.length + 1) cap) ∧ w.heap.size ≤ g ∧ g < w'.heap.size ∧ L.length + 1 ≤ cap ∧ cap ≤ 9223372036854775807 ∧ Lies w' (some ⟨g, 0, none⟩) (putAt L i s (d + 1)) ∧ Below w.heap.size w w' :=
  (putSpec_at_own B O c i L s d w hl hcap hcm h hi hd hd0 hd1).mono fun e w' ⟨g, cap, h1, h2, h3, h4, h5, h6, h7, _⟩ => ⟨g, cap, h1, h2, h3, h4, h5, h6, h7⟩

end Go.Proofs.Ytalncgmncafhjaa
