/-
  What the drawing of a tree answers: a list of at most fourteen slots in new memory; of what was there the reader's count alone turns. Condition: the reader can read.
-/
import Derived.Test.YtalncgmncafhjaaDrawPut
namespace Go.Proofs.Ytalncgmncafhjaa
open Go.ChangeShapes Go.WideShapes Go.ChangeAt Go.RowKit
set_option linter.unusedVariables false

def lenV : Value → Nat
  | .slice _ n _ => n
  | _ => 0

/-- Between two rounds of the first loop. -/
def treeInv (w : World) (p n k : Nat) (v i : Value) (w' : World) : Prop :=
  ∃ (g cap t j : Nat) (L : List Sl), v = .slice (some ⟨g, 0, none⟩) L.length cap ∧ i = .int .i64 (t : Int) ∧ L.length + t ≤ 13 ∧ treeB L = true ∧ (∀ s ∈ L, s.Tame) ∧ OwnL w' p g cap L ∧ w.heap.size ≤ g ∧ Reads w' p n j ∧ j + 12 * t ≤ k + 170 ∧ Fr p w w'

/-- Between two rounds of the second loop. -/
def deepInv (w : World) (p n k : Nat) (v : Value) (w' : World) : Prop :=
  ∃ (g cap j : Nat) (L : List Sl), v = .slice (some ⟨g, 0, none⟩) L.length cap ∧ L.length ≤ 13 ∧ lowB L ((L.length : Int) + 12) ∧ (∀ s ∈ L, s.Tame) ∧ OwnL w' p g cap L ∧ w.heap.size ≤ g ∧ Reads w' p n j ∧ j + 10 * (14 - L.length) ≤ k + 330 ∧ Fr p w w'

/-- What is answered. -/
def treeOut (w : World) (p n k : Nat) (v : Value) (w' : World) : Prop :=
  ∃ (g cap : Nat) (L : List Sl), v = .slice (some ⟨g, 0, none⟩) L.length cap ∧ L.length ≤ 13 ∧ (∀ s ∈ L, s.Tame) ∧ lowB L 100 ∧ OwnL w' p g cap L ∧ w.heap.size ≤ g ∧ (∃ j, j ≤ k + 400 ∧ Reads w' p n j) ∧ Fr p w w'

theorem tree_low {L : List Sl} (hT : treeB L = true) : lowB L ((L.length : Int) + 12) := by
  intro x hx
  obtain ⟨i, hi, rfl⟩ := List.mem_iff_getElem.1 hx
  have := treeB_depth hT hi
  omega

set_option maxRecDepth 100000 in
set_option maxHeartbeats 4000000 in
theorem tree_any (p n k : Nat) (w : World) (h : Reads w p n k) (hk : k ≤ 100) (hp : p < w.heap.size) :
    Calls Try.prog 39 #[.pointer (some ⟨p, 0, none⟩)] w fun e w' => ∃ v, e = .returned v ∧ treeOut w p n k v w' := by
  have own0 := World.ownsRow_made (base := p + 1) (e := 27) (size := 11) w #[] 0 (by omega) (Nat.zero_le _) rfl
  have F0 := (Fr.refl p w).alloc (by omega) (.cells #[] 27)
  have hr0 := reads_alloc h hp (.cells #[] 27)
  go_enter Try.func39, Try.ntmps39
  go_wp2_with fail
  refine (pick_fr p n k _ _ hr0 (by omega) (by omega) (by omega)).mono ?_
  rintro e w1 ⟨x, rfl, hx, hr1, F1⟩
  obtain ⟨x, rfl⟩ : ∃ y : Nat, x = y := ⟨x.toNat, by omega⟩
  have ownL : OwnL w1 p w.heap.size 0 [] := OwnL.fr (W := w.alloc (.cells #[] 27)) own0 F1
  have FF := F0.trans F1
  clear own0 F0 hr0 F1
  go_wp2_with fail
  go_loopw [3, 4, 5, 6, 7] (fun v i a b c w' => treeInv w p n k v i w') (fun v i a b c w' => (intOf i).toNat)
  case atStart => exact ⟨w.heap.size, 0, x, k + 1, [], rfl, rfl, by simp; omega, rfl, by simp, ownL, Nat.le_refl _, hr1, by omega, FF⟩
  case round =>
    clear hr1 ownL FF
    obtain ⟨g, cap, t, j, L, rfl, rfl, hlt, hT, hta, own, hgw, hr, hj, F⟩ := hrel
    have hps : p < wr.heap.size := Nat.lt_of_lt_of_le hp F.siz
    cases t with
    | zero =>
      go_wp2_with fail
      refine (pick_fr p n j _ _ hr (by omega) (by omega) (by omega)).mono ?_
      rintro e w1 ⟨y, rfl, hy, hr1, F1⟩
      have own1 := own.fr F1
      have FF := F.trans F1
      clear own hr F F1
      cases hq : (y == 0)
      · go_wp2_with fail
        go_ret
        exact ⟨_, rfl, g, cap, L, rfl, by omega, hta, fun x hx => by have := tree_low hT x hx; omega, own1, hgw, ⟨j + 1, by omega, hr1⟩, FF⟩
      · go_wp2_with fail
        go_loopw [3] (fun v w' => deepInv w p n k v w') (fun v w' => 20 - lenV v)
        case atStart => exact ⟨g, cap, j + 1, L, rfl, by omega, tree_low hT, hta, own1, hgw, hr1, by omega, FF⟩
        case round =>
          clear hr1 own1 FF hq hT hta hlt hj hps hgw
          obtain ⟨g, cap, j, L, rfl, hlt, hlow, hta, own, hgw, hr, hj, F⟩ := hrel
          have hps := Nat.lt_of_lt_of_le hp F.siz
          have hcap := own.cap
          go_wp2_with fail
          refine (pick_fr p n j _ _ hr (by omega) (by omega) (by omega)).mono ?_
          rintro e w1 ⟨z, rfl, hz, hr1, F1⟩
          have own1 := own.fr F1
          have FF := F.trans F1
          have hps1 : p < w1.heap.size := Nat.lt_of_lt_of_le hps F1.siz
          clear own hr F F1
          by_cases hlz : (L.length : Int) < 12 + z
          · go_wp2_with fail
            refine (cap_any p n (j + 1) _ hr1 (by omega) hps1).mono ?_
            rintro e w2 ⟨k', a, b, r, d, g1, q, f, o, rfl, hrr, ⟨j2, hj2, hr2⟩, F2⟩
            have own2 := own1.fr F2
            have FF2 := FF.trans F2
            have hps2 : p < w2.heap.size := Nat.lt_of_lt_of_le hps1 F2.siz
            clear own1 hr1 FF F2
            go_wp2_with fail
            refine (put2_any p g cap L _ ⟨_, _, _, _, _, _, _, _, _, _, _⟩ w2 own2 hlow hlt rfl hta ⟨by dsimp only; omega, by dsimp only; omega, by dsimp only; omega⟩).mono ?_
            rintro e w3 ⟨g', cap', R, rfl, hRl, hRlow, hRta, own3, hgn, hb⟩
            go_wp2_with fail
            go_roundw
            case rel => exact ⟨g', cap', j2, R, by rw [hRl], by omega, hRlow, hRta, own3, Nat.le_trans FF2.siz hgn, hr2.below hps2 hb, by omega, FF2.trans (Fr.of_low hb (by omega))⟩
            case measure => simp [lenV]; omega
          · go_wp2_with fail
            go_ret
            exact ⟨_, rfl, g, cap, L, rfl, hlt, hta, fun x hx => by have := hlow x hx; omega, own1, hgw, ⟨j + 1, by omega, hr1⟩, FF⟩
    | succ t =>
      have hcap := own.cap
      go_wp2_with fail
      refine (pick_fr p n j _ _ hr (by omega) (by omega) (by omega)).mono ?_
      rintro e w1 ⟨x1, rfl, hx1, hr1, F1⟩
      have own1 := own.fr F1
      have FF1 := F.trans F1
      have hps1 : p < w1.heap.size := Nat.lt_of_lt_of_le hps F1.siz
      clear own hr F F1
      go_wp2_with fail
      refine (pick_fr p n (j + 1) _ _ hr1 (by omega) (by omega) (by omega)).mono ?_
      rintro e w2 ⟨y, rfl, hy, hr2, F2⟩
      have own2 := own1.fr F2
      have FF2 := FF1.trans F2
      have hps2 : p < w2.heap.size := Nat.lt_of_lt_of_le hps1 F2.siz
      clear own1 hr1 FF1 F2
      cases hq : (y == 0)
      all_goals
        go_wp2_with fail
        refine (slot_any p n (j + 1 + 1) _ hr2 (by omega) hps2).mono ?_
        rintro e w3 ⟨s, rfl, hs, hs4, ⟨j3, hj3, hr3⟩, F3⟩
        have own3 := own2.fr F3
        have FF3 := FF2.trans F3
        have hps3 : p < w3.heap.size := Nat.lt_of_lt_of_le hps2 F3.siz
        clear own2 hr2 FF2 F3
        go_wp2_with fail
        refine (put_any p g cap L _ s w3 own3 hT (by omega) (by omega) (by omega) hta hs).mono ?_
        rintro e w4 (⟨rfl, hb⟩ | ⟨g', cap', R, rfl, hRl, hRT, hRta, own4, hgn, hb⟩)
        · go_wp2_with fail
          go_roundw
          case rel => exact ⟨g, cap, t, j3, L, rfl, by go_num, by omega, hT, hta, own3.below hb, hgw, hr3.below hps3 hb, by omega, FF3.trans (Fr.of_low hb (by omega))⟩
          case measure => first | (simp [intOf]; done) | (simp [intOf]; omega)
        · go_wp2_with fail
          go_roundw
          case rel => exact ⟨g', cap', t, j3, R, by rw [hRl], by go_num, by omega, hRT, hRta, own4, Nat.le_trans FF3.siz hgn, hr3.below hps3 hb, by omega, FF3.trans (Fr.of_low hb (by omega))⟩
          case measure => first | (simp [intOf]; done) | (simp [intOf]; omega)

end Go.Proofs.Ytalncgmncafhjaa
