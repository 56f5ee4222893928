/-
  The walk of the law FnTreeAbove: for every list that was drawn it answers true. Condition: the bytes can be read, at most 1048576 of them.
-/
import Derived.Test.YtalncgmncafhjaaBundleB
import Derived.Test.YtalncgmncafhjaaAboveImpl
import Derived.Test.YtalncgmncafhjaaLeafImpl
import Derived.Test.YtalncgmncafhjaaBundleA
import Derived.Test.YtalncgmncafhjaaCutImpl
namespace Go.Proofs.Ytalncgmncafhjaa
open Go.ChangeShapes Go.WideShapes Go.ChangeAt Go.RowKit
set_option linter.unusedVariables false

theorem bothB_iff (L : List Sl) (i k : Int) : bothB L i k = true ↔ treeB L = true ∧ (0 ≤ i ∧ i < L.length) ∧ (0 ≤ k ∧ k < L.length) := by
  simp only [bothB, placeB, Bool.and_eq_true, decide_eq_true_eq]
  constructor
  · rintro ⟨⟨h1, h2⟩, _, h3⟩; exact ⟨h1, h2, h3⟩
  · rintro ⟨h1, h2, h3⟩; exact ⟨⟨h1, h2⟩, h1, h3⟩

set_option maxRecDepth 100000 in
set_option maxHeartbeats 4000000 in
theorem above_law (a : Option Addr) (n c : Nat) (w : World) (h : Bytes w a n c) (hn : n ≤ 1048576) :
    Calls Try.prog 4 #[.slice a n c] w fun e w' => e = .returned (.bool true) ∧ Below w.heap.size w w' := by
  have hi0 : ¬ (1048576 : Int) < (n : Int) := by omega
  go_enter Try.func4, Try.ntmps4
  go_wp2_with fail
  refine (drawAbove_any a n c w h hn).mono ?_
  rintro e w1 ⟨g, cap, L, i, k, rfl, hN, hi, hk, hB1⟩
  have hL1 := hN.lies
  have hfit : ∀ s ∈ L, s.Fit := fun s hs => (hN.tame s hs).fit
  have hl : L.length ≤ 1048576 := by have := hN.len; omega
  have hcap := hN.lcap
  have hcm := hN.cm
  have hlen := hN.len
  clear hN h hi0
  cases hBo : bothB L i k
  · have HBo : Hid _ := hBo
    have HA := fun W (hW : Lies W (some ⟨g, 0, none⟩) L) => treeAboveImpl_none (some ⟨g, 0, none⟩) cap i k L W hl hcap hcm hW hfit hBo
    have HS := fun W (hW : Lies W (some ⟨g, 0, none⟩) L) => treeAboveSpec_none (some ⟨g, 0, none⟩) cap i k L W hl hcap hcm hW hBo
    clear hBo
    go_wp2_with fail
    refine (HA w1 hL1).mono ?_
    rintro e w2 ⟨rfl, hb2⟩
    have hL2 := hL1.below hb2
    have hB2 := hB1.trans (hb2.mono hB1.size)
    go_wp2_with fail
    refine (HS w2 hL2).mono ?_
    rintro e w3 ⟨rfl, hb3⟩
    have hL3 := hL2.below hb3
    have hB3 := hB2.trans (hb3.mono hB2.size)
    clear hL1 hL2 hB1 hB2 hb2 hb3 HA HS
    go_wp2_with fail
    refine (treeOkSpec_any (some ⟨g, 0, none⟩) L.length cap L w3 rfl hl hcap hcm hL3).mono ?_
    rintro e w4 ⟨rfl, hb4⟩
    have hB4 := hB3.trans (hb4.mono hB3.size)
    cases hT : treeB L
    · go_wp2_with fail
      go_ret
      exact ⟨rfl, hB4⟩
    · have hno : ¬ ((0 ≤ i ∧ i < (L.length : Int)) ∧ (0 ≤ k ∧ k < (L.length : Int))) := fun hc => by
        have := (bothB_iff L i k).2 ⟨hT, hc⟩
        have := HBo.out
        simp_all
      have HN : Hid _ := hno
      clear hno hB3 hL3 hb4 HBo
      by_cases h1 : i < 0
      · go_wp2_with fail
        go_ret
        exact ⟨rfl, hB4⟩
      · by_cases h2 : k < 0
        · go_wp2_with fail
          go_ret
          exact ⟨rfl, hB4⟩
        · by_cases h3 : (L.length : Int) ≤ i
          · go_wp2_with fail
            go_ret
            exact ⟨rfl, hB4⟩
          · have h4 : (L.length : Int) ≤ k := by
              rcases Int.lt_or_le k (L.length : Int) with h | h
              · exact absurd ⟨⟨by omega, by omega⟩, by omega, h⟩ HN.out
              · exact h
            go_wp2_with fail
            go_ret
            exact ⟨rfl, hB4⟩
  · obtain ⟨hT, hi', hk'⟩ := (bothB_iff L i k).1 hBo
    clear hBo hi hk
    obtain ⟨i, rfl⟩ : ∃ m : Nat, i = m := ⟨i.toNat, by omega⟩
    obtain ⟨k, rfl⟩ : ∃ m : Nat, k = m := ⟨k.toNat, by omega⟩
    have hi : i < L.length := by omega
    have hk : k < L.length := by omega
    have hTP : ∀ m, m < L.length → (treeB L && placeB L.length m) = true := fun m hm => by rw [hT]; simp [placeB]; omega
    obtain ⟨r, hr⟩ : ∃ r, runN L[i].p (L.drop (i + 1)) = r := ⟨_, rfl⟩
    obtain ⟨E, hE⟩ : ∃ E, i + r + 1 = E := ⟨_, rfl⟩
    obtain ⟨q, hq⟩ := isLeaf_ex L i hi
    obtain ⟨l, hql⟩ : ∃ l, i + q = l := ⟨_, rfl⟩
    have hyr := above_run hi hk hr
    have hly := leaf_above hq
    have hlr := leaf_run hq
    have hll := hq.inn
    simp only [hql] at hly hlr hll
    rw [hE] at hyr
    have HA := fun (x y : Nat) (hx : x < L.length) (hy : y < L.length) W (hW : Lies W (some ⟨g, 0, none⟩) L) => treeAboveImpl_some (some ⟨g, 0, none⟩) cap x y L W hl hcap hcm hW hfit hT hx hy
    have HS := fun W (hW : Lies W (some ⟨g, 0, none⟩) L) => treeAboveSpec_some (some ⟨g, 0, none⟩) cap i k L W hl hcap hcm hW hT hi hk
    have HO := fun W (hW : Lies W (some ⟨g, 0, none⟩) L) => treeOkSpec_any (some ⟨g, 0, none⟩) L.length cap L W rfl hl hcap hcm hW
    have HL := fun W (hW : Lies W (some ⟨g, 0, none⟩) L) => treeLeafImpl_some (some ⟨g, 0, none⟩) cap i L W hl hcap hcm hW hfit hT hi q hq
    have HU := fun W (hW : Lies W (some ⟨g, 0, none⟩) L) => treeUpImpl_some (some ⟨g, 0, none⟩) cap i L W hl hcap hcm hW hfit hT hi
    have HC := fun W (hW : Lies W (some ⟨g, 0, none⟩) L) => treeCutImpl_leaf g 0 cap l L W hl hcap hcm hW hfit hT hll hlr
    have HE := fun W (hW : Lies W (some ⟨g, 0, none⟩) L) => treeEndImpl_some (some ⟨g, 0, none⟩) cap i L W hl hcap hcm hW hfit hT hi r hr
    have HAi := HA i k hi hk
    have HAl := HA i l hi hll
    rw [hly] at HAl
    simp only [hql] at HL
    simp only [hE] at HE
    simp only [hT] at HO
    obtain ⟨y, hy⟩ : ∃ y, inUps L i k = y := ⟨_, rfl⟩
    rw [hy] at HAi HS hyr
    have hup := fun u => up_above (L := L) (i := i) (u := u)
    obtain ⟨U, hU⟩ : ∃ U, headI (ups (depN L) (depN L i) i) = U := ⟨_, rfl⟩
    have hUg : -1 ≤ U := by rw [← hU]; exact headI_ge _
    simp only [hU] at HU hup
    have HR : Hid _ := hyr
    have HUP : Hid _ := hup
    clear hyr hup hy hU hql hE hr hq hly hlr
    have g1 : ¬ (i : Int) < 0 := by omega
    have g2 : ¬ (k : Int) < 0 := by omega
    have g3 : ¬ (L.length : Int) ≤ (i : Int) := by omega
    have g4 : ¬ (L.length : Int) ≤ (k : Int) := by omega
    have hways : (y = true ∧ (i : Int) ≤ (k : Int) ∧ (k : Int) < (E : Int)) ∨ (y = false ∧ ¬ (i : Int) ≤ (k : Int)) ∨ (y = false ∧ (i : Int) ≤ (k : Int) ∧ ¬ (k : Int) < (E : Int)) := by
      have h1 := HR.out
      by_cases a1 : i ≤ k
      · by_cases a2 : k < E
        · exact .inl ⟨by rw [h1]; simp [a1, a2], by omega, by omega⟩
        · exact .inr (.inr ⟨by rw [h1]; simp [a2], by omega, by omega⟩)
      · exact .inr (.inl ⟨by rw [h1]; simp [a1], by omega⟩)
    have hUw : U = -1 ∨ ∃ u : Nat, U = (u : Int) := by
      by_cases e : U = -1
      · exact .inl e
      · exact .inr ⟨U.toNat, by omega⟩
    clear HR
    rcases hways with ⟨rfl, hik, hkE⟩ | ⟨rfl, hik⟩ | ⟨rfl, hik, hkE⟩
    · as_aux_lemma =>
      go_wp2_with fail
      refine (HAi w1 hL1).mono ?_
      rintro e w2 ⟨rfl, hb2⟩
      have hL2 := hL1.below hb2
      have hB2 := hB1.trans (hb2.mono hB1.size)
      go_wp2_with fail
      refine (HS w2 hL2).mono ?_
      rintro e w3 ⟨rfl, hb3⟩
      have hL3 := hL2.below hb3
      have hB3 := hB2.trans (hb3.mono hB2.size)
      go_wp2_with fail
      refine (HO w3 hL3).mono ?_
      rintro e w4 ⟨rfl, hb4⟩
      have hL4 := hL3.below hb4
      have hB4 := hB3.trans (hb4.mono hB3.size)
      go_wp2_with fail
      refine (HL w4 hL4).mono ?_
      rintro e w5 ⟨rfl, hb5⟩
      have hL5 := hL4.below hb5
      have hB5 := hB4.trans (hb5.mono hB4.size)
      go_wp2_with fail
      refine (HU w5 hL5).mono ?_
      rintro e w6 ⟨rfl, hb6⟩
      have hL6 := hL5.below hb6
      have hB6 := hB5.trans (hb6.mono hB5.size)
      go_wp2_with fail
      refine (HC w6 hL6).mono ?_
      rintro e w7 ⟨G, rfl, _, _, _, hb7⟩
      have hL7 := hL6.below hb7
      have hB7 := hB6.trans (hb7.mono hB6.size)
      go_wp2_with fail
      refine (HE w7 hL7).mono ?_
      rintro e w8 ⟨rfl, hb8⟩
      have hL8 := hL7.below hb8
      have hB8 := hB7.trans (hb8.mono hB7.size)
      go_wp2_with fail
      refine (HAl w8 hL8).mono ?_
      rintro e w9 ⟨rfl, hb9⟩
      have hL9 := hL8.below hb9
      have hB9 := hB8.trans (hb9.mono hB8.size)
      rcases hUw with rfl | ⟨u, rfl⟩
      · go_wp2_with fail
        go_ret
        exact ⟨by first | rfl | exact ret_bool (by simp; omega), hB9⟩
      · obtain ⟨hu, hu1, hu2⟩ := HUP.out u rfl
        have hul : u < L.length := by omega
        have HA1 := HA u i hul hi
        have HA2 := HA i u hi hul
        rw [hu1] at HA1
        rw [hu2] at HA2
        have g5 : ¬ (u : Int) < 0 := by omega
        clear hu1 hu2 HUP
        go_wp2_with fail
        refine (HA1 w9 hL9).mono ?_
        rintro e w10 ⟨rfl, hb10⟩
        have hL10 := hL9.below hb10
        have hB10 := hB9.trans (hb10.mono hB9.size)
        go_wp2_with fail
        refine (HA2 w10 hL10).mono ?_
        rintro e w11 ⟨rfl, hb11⟩
        have hL11 := hL10.below hb11
        have hB11 := hB10.trans (hb11.mono hB10.size)
        go_wp2_with fail
        go_ret
        exact ⟨by first | rfl | exact ret_bool (by simp; omega), hB11⟩
    · as_aux_lemma =>
      go_wp2_with fail
      refine (HAi w1 hL1).mono ?_
      rintro e w2 ⟨rfl, hb2⟩
      have hL2 := hL1.below hb2
      have hB2 := hB1.trans (hb2.mono hB1.size)
      go_wp2_with fail
      refine (HS w2 hL2).mono ?_
      rintro e w3 ⟨rfl, hb3⟩
      have hL3 := hL2.below hb3
      have hB3 := hB2.trans (hb3.mono hB2.size)
      go_wp2_with fail
      refine (HO w3 hL3).mono ?_
      rintro e w4 ⟨rfl, hb4⟩
      have hL4 := hL3.below hb4
      have hB4 := hB3.trans (hb4.mono hB3.size)
      go_wp2_with fail
      refine (HL w4 hL4).mono ?_
      rintro e w5 ⟨rfl, hb5⟩
      have hL5 := hL4.below hb5
      have hB5 := hB4.trans (hb5.mono hB4.size)
      go_wp2_with fail
      refine (HU w5 hL5).mono ?_
      rintro e w6 ⟨rfl, hb6⟩
      have hL6 := hL5.below hb6
      have hB6 := hB5.trans (hb6.mono hB5.size)
      go_wp2_with fail
      refine (HC w6 hL6).mono ?_
      rintro e w7 ⟨G, rfl, _, _, _, hb7⟩
      have hL7 := hL6.below hb7
      have hB7 := hB6.trans (hb7.mono hB6.size)
      go_wp2_with fail
      refine (HAl w7 hL7).mono ?_
      rintro e w8 ⟨rfl, hb8⟩
      have hL8 := hL7.below hb8
      have hB8 := hB7.trans (hb8.mono hB7.size)
      rcases hUw with rfl | ⟨u, rfl⟩
      · go_wp2_with fail
        go_ret
        exact ⟨by first | rfl | exact ret_bool (by simp; omega), hB8⟩
      · obtain ⟨hu, hu1, hu2⟩ := HUP.out u rfl
        have hul : u < L.length := by omega
        have HA1 := HA u i hul hi
        have HA2 := HA i u hi hul
        rw [hu1] at HA1
        rw [hu2] at HA2
        have g5 : ¬ (u : Int) < 0 := by omega
        clear hu1 hu2 HUP
        go_wp2_with fail
        refine (HA1 w8 hL8).mono ?_
        rintro e w9 ⟨rfl, hb9⟩
        have hL9 := hL8.below hb9
        have hB9 := hB8.trans (hb9.mono hB8.size)
        go_wp2_with fail
        refine (HA2 w9 hL9).mono ?_
        rintro e w10 ⟨rfl, hb10⟩
        have hL10 := hL9.below hb10
        have hB10 := hB9.trans (hb10.mono hB9.size)
        go_wp2_with fail
        go_ret
        exact ⟨by first | rfl | exact ret_bool (by simp; omega), hB10⟩
    · as_aux_lemma =>
      go_wp2_with fail
      refine (HAi w1 hL1).mono ?_
      rintro e w2 ⟨rfl, hb2⟩
      have hL2 := hL1.below hb2
      have hB2 := hB1.trans (hb2.mono hB1.size)
      go_wp2_with fail
      refine (HS w2 hL2).mono ?_
      rintro e w3 ⟨rfl, hb3⟩
      have hL3 := hL2.below hb3
      have hB3 := hB2.trans (hb3.mono hB2.size)
      go_wp2_with fail
      refine (HO w3 hL3).mono ?_
      rintro e w4 ⟨rfl, hb4⟩
      have hL4 := hL3.below hb4
      have hB4 := hB3.trans (hb4.mono hB3.size)
      go_wp2_with fail
      refine (HL w4 hL4).mono ?_
      rintro e w5 ⟨rfl, hb5⟩
      have hL5 := hL4.below hb5
      have hB5 := hB4.trans (hb5.mono hB4.size)
      go_wp2_with fail
      refine (HU w5 hL5).mono ?_
      rintro e w6 ⟨rfl, hb6⟩
      have hL6 := hL5.below hb6
      have hB6 := hB5.trans (hb6.mono hB5.size)
      go_wp2_with fail
      refine (HC w6 hL6).mono ?_
      rintro e w7 ⟨G, rfl, _, _, _, hb7⟩
      have hL7 := hL6.below hb7
      have hB7 := hB6.trans (hb7.mono hB6.size)
      go_wp2_with fail
      refine (HE w7 hL7).mono ?_
      rintro e w8 ⟨rfl, hb8⟩
      have hL8 := hL7.below hb8
      have hB8 := hB7.trans (hb8.mono hB7.size)
      go_wp2_with fail
      refine (HAl w8 hL8).mono ?_
      rintro e w9 ⟨rfl, hb9⟩
      have hL9 := hL8.below hb9
      have hB9 := hB8.trans (hb9.mono hB8.size)
      rcases hUw with rfl | ⟨u, rfl⟩
      · go_wp2_with fail
        go_ret
        exact ⟨by first | rfl | exact ret_bool (by simp; omega), hB9⟩
      · obtain ⟨hu, hu1, hu2⟩ := HUP.out u rfl
        have hul : u < L.length := by omega
        have HA1 := HA u i hul hi
        have HA2 := HA i u hi hul
        rw [hu1] at HA1
        rw [hu2] at HA2
        have g5 : ¬ (u : Int) < 0 := by omega
        clear hu1 hu2 HUP
        go_wp2_with fail
        refine (HA1 w9 hL9).mono ?_
        rintro e w10 ⟨rfl, hb10⟩
        have hL10 := hL9.below hb10
        have hB10 := hB9.trans (hb10.mono hB9.size)
        go_wp2_with fail
        refine (HA2 w10 hL10).mono ?_
        rintro e w11 ⟨rfl, hb11⟩
        have hL11 := hL10.below hb11
        have hB11 := hB10.trans (hb11.mono hB10.size)
        go_wp2_with fail
        go_ret
        exact ⟨by first | rfl | exact ret_bool (by simp; omega), hB11⟩

end Go.Proofs.Ytalncgmncafhjaa
