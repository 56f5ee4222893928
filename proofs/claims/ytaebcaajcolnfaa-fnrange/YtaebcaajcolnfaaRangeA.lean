/-
  The law FnRange returns true, whatever bytes it is given: the walk.
-/
import Derived.Test.YtaebcaajcolnfaaNest
import Derived.Test.YtaebcaajcolnfaaWithin
import Derived.Test.YtaebcaajcolnfaaDrawn
import Derived.Deep.DeepCutAuto
namespace Go.Proofs.Ytaebcaajcolnfaa
open Go.ChangeShapes Go.WideShapes Go.ChangeAt Go.RowKit
set_option linter.unusedVariables false

theorem calls_on {f : Nat} {args : Array Value} {w W : World} {v : Ending} (h : Calls Try.prog f args w fun e w' => e = v ∧ Below w.heap.size w w') (hB : Below W.heap.size W w) :
    Calls Try.prog f args w fun e w' => e = v ∧ Below W.heap.size W w' := h.mono fun e w' ⟨he, hb⟩ => ⟨he, hB.trans (hb.mono hB.size)⟩

set_option maxRecDepth 100000 in
set_option maxHeartbeats 1000000 in
theorem range_any (x : Option Addr) (n c : Nat) (w : World) (h : Bytes w x n c) (hn : n ≤ maxLen) :
    Calls Try.prog 3 #[.slice x n c] w fun e w' => e = .returned (.bool true) ∧ Below w.heap.size w w' := by
  unfold maxLen at hn
  by_cases hbig : n ≤ 1048576
  · have hbig' : (n : Int) ≤ 1048576 := by omega
    go_enter Try.func3, Try.ntmps3
    go_upto_region 4 with (first | (go_at_call 8; refine (draw_any x n c _ h hbig).mono ?_; rintro e w1 ⟨a, s, b, t, rfl, b1⟩))
    go_upto_region 5 with (first | (go_at_call 9; refine (calls_on (meetImpl_any _ _ _ _ _) (W := w) (by assumption)).mono ?_; rintro e w2 ⟨rfl, b2⟩) | (go_at_call 10; refine (meetSpec_any _ _ _ _ _).mono ?_; rintro e w' ⟨rfl, rfl⟩) | (go_at_call 11; refine (calls_on (inImpl_any _ _ _ _ _) (W := w) (by assumption)).mono ?_; rintro e w2 ⟨rfl, b2⟩) | (go_at_call 12; refine (calls_on (upImpl_any _ _ _) (W := w) (by assumption)).mono ?_; rintro e w2 ⟨rfl, b2⟩) | (go_at_call 13; refine (alignSpec_any _ _ _).mono ?_; rintro e w' ⟨rfl, rfl⟩) | (go_at_call 14; refine (calls_on (alignImpl_any _ _ _) (W := w) (by assumption)).mono ?_; rintro e w2 ⟨rfl, b2⟩) | (go_at_call 15; refine (sizeImpl_any _ _).mono ?_; rintro e w' ⟨rfl, rfl⟩))
    generalize hM : meetB a s b t = M
    have hN : meetB b t a s = M := by rw [meet_sym, hM]
    have HM : Hid (meetB a s b t = M) := hM
    go_cut [53] (fun v wx => v = .bool false ∧ Below w.heap.size w wx)
    case first =>
      cases M
      · have hI := in_meet a s b t hM
        go_wp2_with (first | (go_at_call 9; refine (calls_on (meetImpl_any _ _ _ _ _) (W := w) (by assumption)).mono ?_; rintro e w2 ⟨rfl, b2⟩) | (go_at_call 10; refine (meetSpec_any _ _ _ _ _).mono ?_; rintro e w' ⟨rfl, rfl⟩) | (go_at_call 11; refine (calls_on (inImpl_any _ _ _ _ _) (W := w) (by assumption)).mono ?_; rintro e w2 ⟨rfl, b2⟩) | (go_at_call 12; refine (calls_on (upImpl_any _ _ _) (W := w) (by assumption)).mono ?_; rintro e w2 ⟨rfl, b2⟩) | (go_at_call 13; refine (alignSpec_any _ _ _).mono ?_; rintro e w' ⟨rfl, rfl⟩) | (go_at_call 14; refine (calls_on (alignImpl_any _ _ _) (W := w) (by assumption)).mono ?_; rintro e w2 ⟨rfl, b2⟩) | (go_at_call 15; refine (sizeImpl_any _ _).mono ?_; rintro e w' ⟨rfl, rfl⟩))
        go_meet
        case rel => exact ⟨rfl, by assumption⟩
      · by_cases hI : inB a s b t = true
        · go_wp2_with (first | (go_at_call 9; refine (calls_on (meetImpl_any _ _ _ _ _) (W := w) (by assumption)).mono ?_; rintro e w2 ⟨rfl, b2⟩) | (go_at_call 10; refine (meetSpec_any _ _ _ _ _).mono ?_; rintro e w' ⟨rfl, rfl⟩) | (go_at_call 11; refine (calls_on (inImpl_any _ _ _ _ _) (W := w) (by assumption)).mono ?_; rintro e w2 ⟨rfl, b2⟩) | (go_at_call 12; refine (calls_on (upImpl_any _ _ _) (W := w) (by assumption)).mono ?_; rintro e w2 ⟨rfl, b2⟩) | (go_at_call 13; refine (alignSpec_any _ _ _).mono ?_; rintro e w' ⟨rfl, rfl⟩) | (go_at_call 14; refine (calls_on (alignImpl_any _ _ _) (W := w) (by assumption)).mono ?_; rintro e w2 ⟨rfl, b2⟩) | (go_at_call 15; refine (sizeImpl_any _ _).mono ?_; rintro e w' ⟨rfl, rfl⟩))
          go_meet
          case rel => exact ⟨rfl, by assumption⟩
        · have hI' : inB a s b t = false := by simpa using hI
          clear hI
          go_wp2_with (first | (go_at_call 9; refine (calls_on (meetImpl_any _ _ _ _ _) (W := w) (by assumption)).mono ?_; rintro e w2 ⟨rfl, b2⟩) | (go_at_call 10; refine (meetSpec_any _ _ _ _ _).mono ?_; rintro e w' ⟨rfl, rfl⟩) | (go_at_call 11; refine (calls_on (inImpl_any _ _ _ _ _) (W := w) (by assumption)).mono ?_; rintro e w2 ⟨rfl, b2⟩) | (go_at_call 12; refine (calls_on (upImpl_any _ _ _) (W := w) (by assumption)).mono ?_; rintro e w2 ⟨rfl, b2⟩) | (go_at_call 13; refine (alignSpec_any _ _ _).mono ?_; rintro e w' ⟨rfl, rfl⟩) | (go_at_call 14; refine (calls_on (alignImpl_any _ _ _) (W := w) (by assumption)).mono ?_; rintro e w2 ⟨rfl, b2⟩) | (go_at_call 15; refine (sizeImpl_any _ _).mono ?_; rintro e w' ⟨rfl, rfl⟩))
          go_meet
          case rel => exact ⟨rfl, by assumption⟩
    case rest =>
      obtain ⟨rfl, b3⟩ := hcut
      clear hM hN
      go_upto_region 8 with (first | (go_at_call 9; refine (calls_on (meetImpl_any _ _ _ _ _) (W := w) (by assumption)).mono ?_; rintro e w2 ⟨rfl, b2⟩) | (go_at_call 10; refine (meetSpec_any _ _ _ _ _).mono ?_; rintro e w' ⟨rfl, rfl⟩) | (go_at_call 11; refine (calls_on (inImpl_any _ _ _ _ _) (W := w) (by assumption)).mono ?_; rintro e w2 ⟨rfl, b2⟩) | (go_at_call 12; refine (calls_on (upImpl_any _ _ _) (W := w) (by assumption)).mono ?_; rintro e w2 ⟨rfl, b2⟩) | (go_at_call 13; refine (alignSpec_any _ _ _).mono ?_; rintro e w' ⟨rfl, rfl⟩) | (go_at_call 14; refine (calls_on (alignImpl_any _ _ _) (W := w) (by assumption)).mono ?_; rintro e w2 ⟨rfl, b2⟩) | (go_at_call 15; refine (sizeImpl_any _ _).mono ?_; rintro e w' ⟨rfl, rfl⟩))
      generalize hU : upI a s = u
      have HU : Hid (upI a s = u) := hU
      clear hU
      go_cut [84] (fun v wx => v = .bool false ∧ Below w.heap.size w wx)
      case first =>
        by_cases hJ : alignB 0 s = true
        · by_cases a0 : 0 ≤ a
          · by_cases a1 : a ≤ 4096
            · have hu := up_facts a s hJ a0 a1
              rw [HU.out] at hu
              obtain ⟨u1, u2, u3, u4, u5⟩ := hu
              have u2' : ¬ s ≤ u - a := by omega
              have u3' : (u % s != 0) = false := by simp [u3]
              clear u3
              go_wp2_with (first | (go_at_call 9; refine (calls_on (meetImpl_any _ _ _ _ _) (W := w) (by assumption)).mono ?_; rintro e w2 ⟨rfl, b2⟩) | (go_at_call 10; refine (meetSpec_any _ _ _ _ _).mono ?_; rintro e w' ⟨rfl, rfl⟩) | (go_at_call 11; refine (calls_on (inImpl_any _ _ _ _ _) (W := w) (by assumption)).mono ?_; rintro e w2 ⟨rfl, b2⟩) | (go_at_call 12; refine (calls_on (upImpl_any _ _ _) (W := w) (by assumption)).mono ?_; rintro e w2 ⟨rfl, b2⟩) | (go_at_call 13; refine (alignSpec_any _ _ _).mono ?_; rintro e w' ⟨rfl, rfl⟩) | (go_at_call 14; refine (calls_on (alignImpl_any _ _ _) (W := w) (by assumption)).mono ?_; rintro e w2 ⟨rfl, b2⟩) | (go_at_call 15; refine (sizeImpl_any _ _).mono ?_; rintro e w' ⟨rfl, rfl⟩))
              go_meet
              case rel => exact ⟨congrArg Value.bool (by simp; omega), by assumption⟩
            · go_wp2_with (first | (go_at_call 9; refine (calls_on (meetImpl_any _ _ _ _ _) (W := w) (by assumption)).mono ?_; rintro e w2 ⟨rfl, b2⟩) | (go_at_call 10; refine (meetSpec_any _ _ _ _ _).mono ?_; rintro e w' ⟨rfl, rfl⟩) | (go_at_call 11; refine (calls_on (inImpl_any _ _ _ _ _) (W := w) (by assumption)).mono ?_; rintro e w2 ⟨rfl, b2⟩) | (go_at_call 12; refine (calls_on (upImpl_any _ _ _) (W := w) (by assumption)).mono ?_; rintro e w2 ⟨rfl, b2⟩) | (go_at_call 13; refine (alignSpec_any _ _ _).mono ?_; rintro e w' ⟨rfl, rfl⟩) | (go_at_call 14; refine (calls_on (alignImpl_any _ _ _) (W := w) (by assumption)).mono ?_; rintro e w2 ⟨rfl, b2⟩) | (go_at_call 15; refine (sizeImpl_any _ _).mono ?_; rintro e w' ⟨rfl, rfl⟩))
              go_meet
              case rel => exact ⟨rfl, by assumption⟩
          · go_wp2_with (first | (go_at_call 9; refine (calls_on (meetImpl_any _ _ _ _ _) (W := w) (by assumption)).mono ?_; rintro e w2 ⟨rfl, b2⟩) | (go_at_call 10; refine (meetSpec_any _ _ _ _ _).mono ?_; rintro e w' ⟨rfl, rfl⟩) | (go_at_call 11; refine (calls_on (inImpl_any _ _ _ _ _) (W := w) (by assumption)).mono ?_; rintro e w2 ⟨rfl, b2⟩) | (go_at_call 12; refine (calls_on (upImpl_any _ _ _) (W := w) (by assumption)).mono ?_; rintro e w2 ⟨rfl, b2⟩) | (go_at_call 13; refine (alignSpec_any _ _ _).mono ?_; rintro e w' ⟨rfl, rfl⟩) | (go_at_call 14; refine (calls_on (alignImpl_any _ _ _) (W := w) (by assumption)).mono ?_; rintro e w2 ⟨rfl, b2⟩) | (go_at_call 15; refine (sizeImpl_any _ _).mono ?_; rintro e w' ⟨rfl, rfl⟩))
            go_meet
            case rel => exact ⟨rfl, by assumption⟩
        · have hJ' : alignB 0 s = false := by simpa using hJ
          clear hJ
          go_wp2_with (first | (go_at_call 9; refine (calls_on (meetImpl_any _ _ _ _ _) (W := w) (by assumption)).mono ?_; rintro e w2 ⟨rfl, b2⟩) | (go_at_call 10; refine (meetSpec_any _ _ _ _ _).mono ?_; rintro e w' ⟨rfl, rfl⟩) | (go_at_call 11; refine (calls_on (inImpl_any _ _ _ _ _) (W := w) (by assumption)).mono ?_; rintro e w2 ⟨rfl, b2⟩) | (go_at_call 12; refine (calls_on (upImpl_any _ _ _) (W := w) (by assumption)).mono ?_; rintro e w2 ⟨rfl, b2⟩) | (go_at_call 13; refine (alignSpec_any _ _ _).mono ?_; rintro e w' ⟨rfl, rfl⟩) | (go_at_call 14; refine (calls_on (alignImpl_any _ _ _) (W := w) (by assumption)).mono ?_; rintro e w2 ⟨rfl, b2⟩) | (go_at_call 15; refine (sizeImpl_any _ _).mono ?_; rintro e w' ⟨rfl, rfl⟩))
          go_meet
          case rel => exact ⟨rfl, by assumption⟩
      case rest =>
        obtain ⟨rfl, b4⟩ := hcut
        go_upto_region 10 with (first | (go_at_call 9; refine (calls_on (meetImpl_any _ _ _ _ _) (W := w) (by assumption)).mono ?_; rintro e w2 ⟨rfl, b2⟩) | (go_at_call 10; refine (meetSpec_any _ _ _ _ _).mono ?_; rintro e w' ⟨rfl, rfl⟩) | (go_at_call 11; refine (calls_on (inImpl_any _ _ _ _ _) (W := w) (by assumption)).mono ?_; rintro e w2 ⟨rfl, b2⟩) | (go_at_call 12; refine (calls_on (upImpl_any _ _ _) (W := w) (by assumption)).mono ?_; rintro e w2 ⟨rfl, b2⟩) | (go_at_call 13; refine (alignSpec_any _ _ _).mono ?_; rintro e w' ⟨rfl, rfl⟩) | (go_at_call 14; refine (calls_on (alignImpl_any _ _ _) (W := w) (by assumption)).mono ?_; rintro e w2 ⟨rfl, b2⟩) | (go_at_call 15; refine (sizeImpl_any _ _).mono ?_; rintro e w' ⟨rfl, rfl⟩))
        go_cut [106] (fun v wx => v = .bool (!(alignB a s && alignB b t)) ∧ Below w.heap.size w wx)
        case first =>
          by_cases hA : alignB a s = true
          · by_cases hB : alignB b t = true
            · go_wp2_with (first | (go_at_call 9; refine (calls_on (meetImpl_any _ _ _ _ _) (W := w) (by assumption)).mono ?_; rintro e w2 ⟨rfl, b2⟩) | (go_at_call 10; refine (meetSpec_any _ _ _ _ _).mono ?_; rintro e w' ⟨rfl, rfl⟩) | (go_at_call 11; refine (calls_on (inImpl_any _ _ _ _ _) (W := w) (by assumption)).mono ?_; rintro e w2 ⟨rfl, b2⟩) | (go_at_call 12; refine (calls_on (upImpl_any _ _ _) (W := w) (by assumption)).mono ?_; rintro e w2 ⟨rfl, b2⟩) | (go_at_call 13; refine (alignSpec_any _ _ _).mono ?_; rintro e w' ⟨rfl, rfl⟩) | (go_at_call 14; refine (calls_on (alignImpl_any _ _ _) (W := w) (by assumption)).mono ?_; rintro e w2 ⟨rfl, b2⟩) | (go_at_call 15; refine (sizeImpl_any _ _).mono ?_; rintro e w' ⟨rfl, rfl⟩))
              go_meet
              case rel => exact ⟨by simp [hA, hB], by assumption⟩
            · have hB' : alignB b t = false := by simpa using hB
              clear hB
              go_wp2_with (first | (go_at_call 9; refine (calls_on (meetImpl_any _ _ _ _ _) (W := w) (by assumption)).mono ?_; rintro e w2 ⟨rfl, b2⟩) | (go_at_call 10; refine (meetSpec_any _ _ _ _ _).mono ?_; rintro e w' ⟨rfl, rfl⟩) | (go_at_call 11; refine (calls_on (inImpl_any _ _ _ _ _) (W := w) (by assumption)).mono ?_; rintro e w2 ⟨rfl, b2⟩) | (go_at_call 12; refine (calls_on (upImpl_any _ _ _) (W := w) (by assumption)).mono ?_; rintro e w2 ⟨rfl, b2⟩) | (go_at_call 13; refine (alignSpec_any _ _ _).mono ?_; rintro e w' ⟨rfl, rfl⟩) | (go_at_call 14; refine (calls_on (alignImpl_any _ _ _) (W := w) (by assumption)).mono ?_; rintro e w2 ⟨rfl, b2⟩) | (go_at_call 15; refine (sizeImpl_any _ _).mono ?_; rintro e w' ⟨rfl, rfl⟩))
              go_meet
              case rel => exact ⟨by simp [hA, hB'], by assumption⟩
          · have hA' : alignB a s = false := by simpa using hA
            clear hA
            go_wp2_with (first | (go_at_call 9; refine (calls_on (meetImpl_any _ _ _ _ _) (W := w) (by assumption)).mono ?_; rintro e w2 ⟨rfl, b2⟩) | (go_at_call 10; refine (meetSpec_any _ _ _ _ _).mono ?_; rintro e w' ⟨rfl, rfl⟩) | (go_at_call 11; refine (calls_on (inImpl_any _ _ _ _ _) (W := w) (by assumption)).mono ?_; rintro e w2 ⟨rfl, b2⟩) | (go_at_call 12; refine (calls_on (upImpl_any _ _ _) (W := w) (by assumption)).mono ?_; rintro e w2 ⟨rfl, b2⟩) | (go_at_call 13; refine (alignSpec_any _ _ _).mono ?_; rintro e w' ⟨rfl, rfl⟩) | (go_at_call 14; refine (calls_on (alignImpl_any _ _ _) (W := w) (by assumption)).mono ?_; rintro e w2 ⟨rfl, b2⟩) | (go_at_call 15; refine (sizeImpl_any _ _).mono ?_; rintro e w' ⟨rfl, rfl⟩))
            go_meet
            case rel => exact ⟨by simp [hA'], by assumption⟩
        case rest =>
          obtain ⟨rfl, b5⟩ := hcut
          by_cases hAB : (alignB a s && alignB b t) = true
          · have hAB' : (!(alignB a s && alignB b t)) = false := by rw [hAB]; rfl
            have HAB : Hid (alignB a s = true ∧ alignB b t = true) := by show _ ∧ _; simpa using hAB
            rw [hAB']
            clear hAB hAB'
            go_wp2_with fail
            go_loop [9, 10] (fun two i => ∃ (v : Bool) (k : Nat), k ≤ 13 ∧ two = .bool v ∧ i = .int .i64 k ∧ Hid (v = true → Twos s t)) (fun _ i => 13 - (intOf i).toNat)
            case atStart => exact ⟨false, 0, by omega, rfl, rfl, fun e => by cases e⟩
            case round =>
              obtain ⟨v, k, hk, rfl, rfl, hv⟩ := hrel
              by_cases hlt : k < 13
              · go_wp2_with fail
                go_loop [9, 11] (fun two i => ∃ (v : Bool) (j : Nat), j ≤ 13 ∧ two = .bool v ∧ i = .int .i64 j ∧ Hid (v = true → Twos s t)) (fun _ i => 13 - (intOf i).toNat)
                case atStart => exact ⟨v, 0, by omega, rfl, rfl, hv⟩
                case round =>
                  obtain ⟨v2, j, hj, rfl, rfl, hv2⟩ := hrel
                  by_cases hjlt : j < 13
                  · cases v2
                    · by_cases e1 : (sizeI k == s) = true
                      · by_cases e2 : (sizeI j == t) = true
                        · have hT : Hid (Twos s t) := ⟨k, j, by omega, by omega, by simpa using e1, by simpa using e2⟩
                          go_wp2_with (first | (go_at_call 15; refine (sizeImpl_any _ _).mono ?_; rintro e w' ⟨rfl, rfl⟩))
                          go_round
                          case rel => exact ⟨true, j + 1, by omega, rfl, by go_num, fun _ => hT.out⟩
                          case measure => simp [intOf]; omega
                        · have e2' : (sizeI j == t) = false := by simpa using e2
                          clear e2
                          go_wp2_with (first | (go_at_call 15; refine (sizeImpl_any _ _).mono ?_; rintro e w' ⟨rfl, rfl⟩))
                          go_round
                          case rel => exact ⟨false, j + 1, by omega, rfl, by go_num, fun e => by cases e⟩
                          case measure => simp [intOf]; omega
                      · have e1' : (sizeI k == s) = false := by simpa using e1
                        clear e1
                        go_wp2_with (first | (go_at_call 15; refine (sizeImpl_any _ _).mono ?_; rintro e w' ⟨rfl, rfl⟩))
                        go_round
                        case rel => exact ⟨false, j + 1, by omega, rfl, by go_num, fun e => by cases e⟩
                        case measure => simp [intOf]; omega
                    · go_wp2_with (first | (go_at_call 15; refine (sizeImpl_any _ _).mono ?_; rintro e w' ⟨rfl, rfl⟩))
                      go_round
                      case rel => exact ⟨true, j + 1, by omega, rfl, by go_num, hv2⟩
                      case measure => simp [intOf]; omega
                  · go_wp2_with fail
                    go_round
                    case rel => exact ⟨v2, k + 1, by omega, rfl, by go_num, hv2⟩
                    case measure => simp [intOf]; omega
              · have hm := HM.out
                cases v
                · go_wp2_with (first | (go_at_call 9; refine (calls_on (meetImpl_any _ _ _ _ _) (W := w) (by assumption)).mono ?_; rintro e w2 ⟨rfl, b2⟩) | (go_at_call 10; refine (meetSpec_any _ _ _ _ _).mono ?_; rintro e w' ⟨rfl, rfl⟩) | (go_at_call 11; refine (calls_on (inImpl_any _ _ _ _ _) (W := w) (by assumption)).mono ?_; rintro e w2 ⟨rfl, b2⟩) | (go_at_call 12; refine (calls_on (upImpl_any _ _ _) (W := w) (by assumption)).mono ?_; rintro e w2 ⟨rfl, b2⟩) | (go_at_call 13; refine (alignSpec_any _ _ _).mono ?_; rintro e w' ⟨rfl, rfl⟩) | (go_at_call 14; refine (calls_on (alignImpl_any _ _ _) (W := w) (by assumption)).mono ?_; rintro e w2 ⟨rfl, b2⟩) | (go_at_call 15; refine (sizeImpl_any _ _).mono ?_; rintro e w' ⟨rfl, rfl⟩))
                  go_ret
                  exact ⟨rfl, by assumption⟩
                · cases M
                  · go_wp2_with (first | (go_at_call 9; refine (calls_on (meetImpl_any _ _ _ _ _) (W := w) (by assumption)).mono ?_; rintro e w2 ⟨rfl, b2⟩) | (go_at_call 10; refine (meetSpec_any _ _ _ _ _).mono ?_; rintro e w' ⟨rfl, rfl⟩) | (go_at_call 11; refine (calls_on (inImpl_any _ _ _ _ _) (W := w) (by assumption)).mono ?_; rintro e w2 ⟨rfl, b2⟩) | (go_at_call 12; refine (calls_on (upImpl_any _ _ _) (W := w) (by assumption)).mono ?_; rintro e w2 ⟨rfl, b2⟩) | (go_at_call 13; refine (alignSpec_any _ _ _).mono ?_; rintro e w' ⟨rfl, rfl⟩) | (go_at_call 14; refine (calls_on (alignImpl_any _ _ _) (W := w) (by assumption)).mono ?_; rintro e w2 ⟨rfl, b2⟩) | (go_at_call 15; refine (sizeImpl_any _ _).mono ?_; rintro e w' ⟨rfl, rfl⟩))
                    go_ret
                    exact ⟨rfl, by assumption⟩
                  · by_cases hI : inB a s b t = true
                    · go_wp2_with (first | (go_at_call 9; refine (calls_on (meetImpl_any _ _ _ _ _) (W := w) (by assumption)).mono ?_; rintro e w2 ⟨rfl, b2⟩) | (go_at_call 10; refine (meetSpec_any _ _ _ _ _).mono ?_; rintro e w' ⟨rfl, rfl⟩) | (go_at_call 11; refine (calls_on (inImpl_any _ _ _ _ _) (W := w) (by assumption)).mono ?_; rintro e w2 ⟨rfl, b2⟩) | (go_at_call 12; refine (calls_on (upImpl_any _ _ _) (W := w) (by assumption)).mono ?_; rintro e w2 ⟨rfl, b2⟩) | (go_at_call 13; refine (alignSpec_any _ _ _).mono ?_; rintro e w' ⟨rfl, rfl⟩) | (go_at_call 14; refine (calls_on (alignImpl_any _ _ _) (W := w) (by assumption)).mono ?_; rintro e w2 ⟨rfl, b2⟩) | (go_at_call 15; refine (sizeImpl_any _ _).mono ?_; rintro e w' ⟨rfl, rfl⟩))
                      go_ret
                      exact ⟨rfl, by assumption⟩
                    · have hI' : inB a s b t = false := by simpa using hI
                      have hI2 : inB b t a s = true := nested a s b t (hv.out rfl) HAB.out.1 HAB.out.2 hm hI'
                      clear hI
                      go_wp2_with (first | (go_at_call 9; refine (calls_on (meetImpl_any _ _ _ _ _) (W := w) (by assumption)).mono ?_; rintro e w2 ⟨rfl, b2⟩) | (go_at_call 10; refine (meetSpec_any _ _ _ _ _).mono ?_; rintro e w' ⟨rfl, rfl⟩) | (go_at_call 11; refine (calls_on (inImpl_any _ _ _ _ _) (W := w) (by assumption)).mono ?_; rintro e w2 ⟨rfl, b2⟩) | (go_at_call 12; refine (calls_on (upImpl_any _ _ _) (W := w) (by assumption)).mono ?_; rintro e w2 ⟨rfl, b2⟩) | (go_at_call 13; refine (alignSpec_any _ _ _).mono ?_; rintro e w' ⟨rfl, rfl⟩) | (go_at_call 14; refine (calls_on (alignImpl_any _ _ _) (W := w) (by assumption)).mono ?_; rintro e w2 ⟨rfl, b2⟩) | (go_at_call 15; refine (sizeImpl_any _ _).mono ?_; rintro e w' ⟨rfl, rfl⟩))
                      go_ret
                      exact ⟨rfl, by assumption⟩
          · have hAB' : (!(alignB a s && alignB b t)) = true := by rw [Bool.not_eq_true] at hAB; rw [hAB]; rfl
            rw [hAB']
            clear hAB hAB'
            go_wp2_with fail
            go_ret
            exact ⟨rfl, by assumption⟩
  · have hbig' : (1048576 : Int) < (n : Int) := by omega
    go_enter Try.func3, Try.ntmps3
    go_wp2
    go_ret
    exact ⟨rfl, Below.refl _ _⟩

end Go.Proofs.Ytaebcaajcolnfaa
