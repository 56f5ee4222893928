/-
  A number as the specification reads it.
-/
import Derived.Test.YthmambhagheocaaGreatDoorReadSpecB
namespace Go.Proofs.YthmambhagheocaaGreatDoor
open Go.ChangeShapes Go.WideShapes Go.ChangeAt Go.RowKit
set_option linter.unusedVariables false

theorem dec_none {l : List UInt8} {k : Nat} {b : UInt8} (hg : l[k]? = some b) (hd : Lib.digitVal b = none) : Lib.decFrom 0 l = none := by
  cases h : Lib.decFrom 0 l with
  | none => rfl
  | some n =>
    obtain ⟨d, e⟩ := Lib.digit_of_decFrom l 0 n h k b hg
    rw [hd] at e; cases e

/-- What is answered: the number, and whether there is one. -/
def numV (r : Option Int) : Value := .tuple #[.int .i64 (r.getD 0), .bool r.isSome]

set_option maxRecDepth 100000 in
set_option maxHeartbeats 4000000 in
theorem num_pos (x : UInt8) (t : List UInt8) (w : World) (hx : x ≠ 45) (hl : (x :: t).length ≤ 17) (h0 : ¬ (x = 48 ∧ 1 < (x :: t).length)) (r : Option Int) (hr : (Lib.decFrom 0 (x :: t)).map (fun m : Nat => (m : Int)) = r) :
    Calls Tryz.prog 60 #[.string ⟨(x :: t).toArray⟩] w fun e w' => e = .returned (numV r) ∧ w' = w := by
  have HR : Hid _ := hr
  clear hr
  have hks0 : 0 < (⟨(x :: t).toArray⟩ : ByteArray).size := by simp [ByteArray.size]
  have hb0 : (⟨(x :: t).toArray⟩ : ByteArray)[0] = x := rfl
  have hx1 : ((x.toNat : Int) == 45) = false := by rw [beq_eq_false_iff_ne]; intro h; apply hx; apply UInt8.toNat_inj.1; show x.toNat = 45; omega
  have hsz : (⟨(x :: t).toArray⟩ : ByteArray).size = t.length + 1 := by simp [ByteArray.size]
  have hlT := hl
  simp only [List.length_cons] at hl h0
  have hl1 : ¬ ((t.length : Int) + 1 > 17) := by omega
  by_cases hz : x = 48
  · have ht : t = [] := List.eq_nil_of_length_eq_zero (Nat.eq_zero_of_not_pos (fun hp => h0 ⟨hz, by omega⟩))
    subst ht
    subst hz
    clear hsz
    have hz1 : (((48 : UInt8).toNat : Int) == 48) = true := rfl
    go_enter Tryz.func60, Tryz.ntmps60
    go_upto_region 6 with fail
    generalize hT : [(48 : UInt8)] = T at HR hlT ⊢
    clear hT hks0 hb0 hx1 hl hl1 h0 hz1 hx
    go_wp2
    go_loopw [5, 6] (fun n i w' => ∃ k m : Nat, k ≤ T.length ∧ i = .int .i64 k ∧ n = .int .i64 m ∧ Lib.decFrom 0 (T.take k) = some m ∧ w' = w) (fun n i w' => T.length - (intOf i).toNat)
    case atStart => exact ⟨0, 0, Nat.zero_le _, rfl, rfl, by simp [Lib.decFrom], rfl⟩
    case round =>
      obtain ⟨k, m, hk, rfl, rfl, hm, rfl⟩ := hrel
      have hlt17 := Lib.decFrom_take_lt hm (by omega)
      by_cases hlt : k < T.length
      · have hks : k < (⟨T.toArray⟩ : ByteArray).size := by simp [ByteArray.size]; exact hlt
        have hbyte : (⟨T.toArray⟩ : ByteArray)[k] = T[k] := by show T.toArray[k] = T[k]; simp
        have hg : T[k]? = some T[k] := List.getElem?_eq_getElem hlt
        have hk1 : (k : Int) < (T.length : Int) := by omega
        have HN : Hid (Lib.digitVal T[k] = none → Lib.decFrom 0 T = none) := fun hd => dec_none hg hd
        have HS : Hid (∀ d, Lib.digitVal T[k] = some d → Lib.decFrom 0 (T.take (k + 1)) = some (m * 10 + d)) := fun d hd => Lib.decFrom_take T k 0 m _ d hm hg hd
        clear hg
        generalize T[k] = b at hbyte HN HS
        have hbb : b.toNat < 256 := b.toNat_lt
        by_cases g1 : b.toNat < 48
        · have hn := HN.out (by rw [Lib.digitVal, if_neg (by omega)])
          have g1' : ((b.toNat : Int) < 48) := by omega
          have HR2 : Hid (none = r) := by unfold Hid; rw [← HR.out, hn]; rfl
          clear HR HN HS
          obtain rfl := HR2.out
          go_wp2
          go_ret2
          exact ⟨rfl, rfl⟩
        · by_cases g2 : 57 < b.toNat
          · have hn := HN.out (by rw [Lib.digitVal, if_neg (by omega)])
            have g1' : ¬ ((b.toNat : Int) < 48) := by omega
            have g2' : ((b.toNat : Int) > 57) := by omega
            have HR2 : Hid (none = r) := by unfold Hid; rw [← HR.out, hn]; rfl
            clear HR HN HS
            obtain rfl := HR2.out
            go_wp2
            go_ret2
            exact ⟨rfl, rfl⟩
          · have hs := HS.out (b.toNat - 48) (by rw [Lib.digitVal, if_pos (by omega)])
            have g1' : ¬ ((b.toNat : Int) < 48) := by omega
            have g2' : ¬ ((b.toNat : Int) > 57) := by omega
            clear HN HS
            go_wp2
            go_roundw
            case rel => exact ⟨k + 1, m * 10 + (b.toNat - 48), by omega, by go_num, by congr 1; omega, hs, by first | rfl | trivial⟩
            case measure => first | (simp [intOf]; omega) | simp [intOf]
      · obtain rfl : k = T.length := by omega
        rw [List.take_length] at hm
        have HR2 : Hid (some ((m : Int)) = r) := by unfold Hid; rw [← HR.out, hm]; rfl
        clear HR
        obtain rfl := HR2.out
        go_wp2
        go_ret2
        exact ⟨rfl, rfl⟩
  · have hz1 : ((x.toNat : Int) == 48) = false := by rw [beq_eq_false_iff_ne]; intro h; apply hz; apply UInt8.toNat_inj.1; show x.toNat = 48; omega
    go_enter Tryz.func60, Tryz.ntmps60
    go_upto_region 6 with fail
    generalize hT : x :: t = T at HR hlT ⊢
    clear hT hks0 hb0 hx1 hl hl1 h0 hz1 hx hsz
    go_wp2
    go_loopw [5, 6] (fun n i w' => ∃ k m : Nat, k ≤ T.length ∧ i = .int .i64 k ∧ n = .int .i64 m ∧ Lib.decFrom 0 (T.take k) = some m ∧ w' = w) (fun n i w' => T.length - (intOf i).toNat)
    case atStart => exact ⟨0, 0, Nat.zero_le _, rfl, rfl, by simp [Lib.decFrom], rfl⟩
    case round =>
      obtain ⟨k, m, hk, rfl, rfl, hm, rfl⟩ := hrel
      have hlt17 := Lib.decFrom_take_lt hm (by omega)
      by_cases hlt : k < T.length
      · have hks : k < (⟨T.toArray⟩ : ByteArray).size := by simp [ByteArray.size]; exact hlt
        have hbyte : (⟨T.toArray⟩ : ByteArray)[k] = T[k] := by show T.toArray[k] = T[k]; simp
        have hg : T[k]? = some T[k] := List.getElem?_eq_getElem hlt
        have hk1 : (k : Int) < (T.length : Int) := by omega
        have HN : Hid (Lib.digitVal T[k] = none → Lib.decFrom 0 T = none) := fun hd => dec_none hg hd
        have HS : Hid (∀ d, Lib.digitVal T[k] = some d → Lib.decFrom 0 (T.take (k + 1)) = some (m * 10 + d)) := fun d hd => Lib.decFrom_take T k 0 m _ d hm hg hd
        clear hg
        generalize T[k] = b at hbyte HN HS
        have hbb : b.toNat < 256 := b.toNat_lt
        by_cases g1 : b.toNat < 48
        · have hn := HN.out (by rw [Lib.digitVal, if_neg (by omega)])
          have g1' : ((b.toNat : Int) < 48) := by omega
          have HR2 : Hid (none = r) := by unfold Hid; rw [← HR.out, hn]; rfl
          clear HR HN HS
          obtain rfl := HR2.out
          go_wp2
          go_ret2
          exact ⟨rfl, rfl⟩
        · by_cases g2 : 57 < b.toNat
          · have hn := HN.out (by rw [Lib.digitVal, if_neg (by omega)])
            have g1' : ¬ ((b.toNat : Int) < 48) := by omega
            have g2' : ((b.toNat : Int) > 57) := by omega
            have HR2 : Hid (none = r) := by unfold Hid; rw [← HR.out, hn]; rfl
            clear HR HN HS
            obtain rfl := HR2.out
            go_wp2
            go_ret2
            exact ⟨rfl, rfl⟩
          · have hs := HS.out (b.toNat - 48) (by rw [Lib.digitVal, if_pos (by omega)])
            have g1' : ¬ ((b.toNat : Int) < 48) := by omega
            have g2' : ¬ ((b.toNat : Int) > 57) := by omega
            clear HN HS
            go_wp2
            go_roundw
            case rel => exact ⟨k + 1, m * 10 + (b.toNat - 48), by omega, by go_num, by congr 1; omega, hs, by first | rfl | trivial⟩
            case measure => first | (simp [intOf]; omega) | simp [intOf]
      · obtain rfl : k = T.length := by omega
        rw [List.take_length] at hm
        have HR2 : Hid (some ((m : Int)) = r) := by unfold Hid; rw [← HR.out, hm]; rfl
        clear HR
        obtain rfl := HR2.out
        go_wp2
        go_ret2
        exact ⟨rfl, rfl⟩

set_option maxRecDepth 100000 in
set_option maxHeartbeats 4000000 in
theorem num_neg (y : UInt8) (t : List UInt8) (w : World) (hy : y ≠ 48) (hl : (y :: t).length ≤ 17) (r : Option Int) (hr : (Lib.decFrom 0 (y :: t)).map (fun m : Nat => -(m : Int)) = r) :
    Calls Tryz.prog 60 #[.string ⟨(45 :: y :: t).toArray⟩] w fun e w' => e = .returned (numV r) ∧ w' = w := by
  have HR : Hid _ := hr
  clear hr
  have hks0 : 0 < (⟨(45 :: y :: t).toArray⟩ : ByteArray).size := by simp [ByteArray.size]
  have hb0 : (⟨(45 :: y :: t).toArray⟩ : ByteArray)[0] = 45 := rfl
  have hsz : (⟨(45 :: y :: t).toArray⟩ : ByteArray).size = t.length + 2 := by simp [ByteArray.size]
  have HE : (⟨(45 :: y :: t).toArray⟩ : ByteArray).extract 1 (t.length + 2) = ⟨(y :: t).toArray⟩ := by rw [extract_list]; simp
  have HE2 : (⟨(45 :: y :: t).toArray⟩ : ByteArray).extract 1 (t.length + 1 + 1) = ⟨(y :: t).toArray⟩ := by rw [extract_list]; simp
  have hks1 : 0 < (⟨(y :: t).toArray⟩ : ByteArray).size := by simp [ByteArray.size]
  have hb1 : (⟨(y :: t).toArray⟩ : ByteArray)[0] = y := rfl
  have hsz1 : (⟨(y :: t).toArray⟩ : ByteArray).size = t.length + 1 := by simp [ByteArray.size]
  have hlT := hl
  simp only [List.length_cons] at hl
  have hl1 : ¬ ((t.length : Int) + 1 > 17) := by omega
  have hz1 : ((y.toNat : Int) == 48) = false := by rw [beq_eq_false_iff_ne]; intro h; apply hy; apply UInt8.toNat_inj.1; show y.toNat = 48; omega
  go_enter Tryz.func60, Tryz.ntmps60
  go_upto_region 6 with fail
  generalize hT : y :: t = T at HR hlT ⊢
  clear hT hks0 hb0 hl hl1 hz1 hy hsz HE HE2 hks1 hb1 hsz1
  go_wp2
  go_loopw [5, 6] (fun n i w' => ∃ k m : Nat, k ≤ T.length ∧ i = .int .i64 k ∧ n = .int .i64 m ∧ Lib.decFrom 0 (T.take k) = some m ∧ w' = w) (fun n i w' => T.length - (intOf i).toNat)
  case atStart => exact ⟨0, 0, Nat.zero_le _, rfl, rfl, by simp [Lib.decFrom], rfl⟩
  case round =>
    obtain ⟨k, m, hk, rfl, rfl, hm, rfl⟩ := hrel
    have hlt17 := Lib.decFrom_take_lt hm (by omega)
    by_cases hlt : k < T.length
    · have hks : k < (⟨T.toArray⟩ : ByteArray).size := by simp [ByteArray.size]; exact hlt
      have hbyte : (⟨T.toArray⟩ : ByteArray)[k] = T[k] := by show T.toArray[k] = T[k]; simp
      have hg : T[k]? = some T[k] := List.getElem?_eq_getElem hlt
      have hk1 : (k : Int) < (T.length : Int) := by omega
      have HN : Hid (Lib.digitVal T[k] = none → Lib.decFrom 0 T = none) := fun hd => dec_none hg hd
      have HS : Hid (∀ d, Lib.digitVal T[k] = some d → Lib.decFrom 0 (T.take (k + 1)) = some (m * 10 + d)) := fun d hd => Lib.decFrom_take T k 0 m _ d hm hg hd
      clear hg
      generalize T[k] = b at hbyte HN HS
      have hbb : b.toNat < 256 := b.toNat_lt
      by_cases g1 : b.toNat < 48
      · have hn := HN.out (by rw [Lib.digitVal, if_neg (by omega)])
        have g1' : ((b.toNat : Int) < 48) := by omega
        have HR2 : Hid (none = r) := by unfold Hid; rw [← HR.out, hn]; rfl
        clear HR HN HS
        obtain rfl := HR2.out
        go_wp2
        go_ret2
        exact ⟨rfl, rfl⟩
      · by_cases g2 : 57 < b.toNat
        · have hn := HN.out (by rw [Lib.digitVal, if_neg (by omega)])
          have g1' : ¬ ((b.toNat : Int) < 48) := by omega
          have g2' : ((b.toNat : Int) > 57) := by omega
          have HR2 : Hid (none = r) := by unfold Hid; rw [← HR.out, hn]; rfl
          clear HR HN HS
          obtain rfl := HR2.out
          go_wp2
          go_ret2
          exact ⟨rfl, rfl⟩
        · have hs := HS.out (b.toNat - 48) (by rw [Lib.digitVal, if_pos (by omega)])
          have g1' : ¬ ((b.toNat : Int) < 48) := by omega
          have g2' : ¬ ((b.toNat : Int) > 57) := by omega
          clear HN HS
          go_wp2
          go_roundw
          case rel => exact ⟨k + 1, m * 10 + (b.toNat - 48), by omega, by go_num, by congr 1; omega, hs, by first | rfl | trivial⟩
          case measure => first | (simp [intOf]; omega) | simp [intOf]
    · obtain rfl : k = T.length := by omega
      rw [List.take_length] at hm
      have HR2 : Hid (some (-(m : Int)) = r) := by unfold Hid; rw [← HR.out, hm]; rfl
      clear HR
      obtain rfl := HR2.out
      go_wp2
      go_ret2
      exact ⟨rfl, rfl⟩

end Go.Proofs.YthmambhagheocaaGreatDoor
