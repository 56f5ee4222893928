/-
  Texts of the proof, put together: ViewL, ViewM, ViewP.
-/
import Derived.Test.YtigpbjcmmgdiaaaGreatRl
import Derived.Test.YtigpbjcmmgdiaaaGreatRh
import Derived.Test.YtigpbjcmmgdiaaaGreatRi
import Derived.Test.YtigpbjcmmgdiaaaGreatRf
import Derived.Test.YtigpbjcmmgdiaaaGreatRp
import Derived.Test.YtigpbjcmmgdiaaaGreatBb
import Derived.StillTailTactics
import Derived.Test.YtigpbjcmmgdiaaaGreatRm
/-
 Whether a row of objects has just the keys of a map, in their order, by the program. Conditions: the row lies in memory, the map reads as a function.
-/
namespace Go.Proofs.YtigpbjcmmgdiaaaGreat
open Go.ChangeShapes Go.WideShapes Go.ChangeAt Go.RowKit Go.Maps
set_option linter.unusedVariables false

/-- A map of as many keys as a list that are the keys. -/
theorem MapI.list {W : World} {b n : Nat} {f : Int → Option Int} (h : MapI W b n f) : ∃ (D : DataW Unit) (m : Nat), W.ownsMap Tryz.prog 3 (plainElem Tryz.prog 3) b n D ∧ ReadsI D f ∧ m = Maps.size D := by
 obtain ⟨D, h1, h2⟩ := h; exact ⟨D, _, h1, h2, rfl⟩
theorem intKeys_len {D : DataW Unit} (h : IsMap D) : (intKeys D).length = Maps.size D := by
 obtain ⟨es, rfl⟩ := h
 simp [intKeys, Maps.size]
/-- Two ascending lists with the same members. -/
theorem asc_same : ∀ {A B : List Int}, A.Pairwise (· < ·) → B.Pairwise (· < ·) → (∀ x, x ∈ A ↔ x ∈ B) → A = B
 | [], [], _, _, _ => rfl
 | [], b :: B, _, _, h => by have := (h b).2 (List.mem_cons_self ..); cases this
 | a :: A, [], _, _, h => by have := (h a).1 (List.mem_cons_self ..); cases this
 | a :: A, b :: B, hA, hB, h => by
  rw [List.pairwise_cons] at hA hB
  have e : a = b := by
   have h1 := (h a).1 (List.mem_cons_self ..)
   have h2 := (h b).2 (List.mem_cons_self ..)
   rcases List.mem_cons.1 h1 with e | h1
   ·exact e
   ·rcases List.mem_cons.1 h2 with e | h2
    ·exact e.symm
    ·have := hA.1 b h2; have := hB.1 a h1; omega
  subst e
  congr 1
  refine asc_same hA.2 hB.2 fun x => ⟨fun hx => ?_, fun hx => ?_⟩
  ·have := (h x).1 (List.mem_cons_of_mem _ hx)
   rcases List.mem_cons.1 this with e | h1
   ·subst e; have := hA.1 x hx; omega
   ·exact h1
  ·have := (h x).2 (List.mem_cons_of_mem _ hx)
   rcases List.mem_cons.1 this with e | h1
   ·subst e; have := hB.1 x hx; omega
   ·exact h1
def lsInv {α : Type} (w : World) (L : List α) (f : α → Int) (A : List Int) (v : Value) (W : World) : Prop :=
 ∃ k : Nat, k ≤ A.length ∧ v = .int .i64 (k : Int) ∧ (∀ i (h1 : i < L.length) (h2 : i < A.length), i < k → f L[i] = A[i]) ∧ Below w.heap.size w W
theorem list_eq {α : Type} {L : List α} {f : α → Int} {A : List Int} (hl : A.length = L.length) (h : ∀ i (h1 : i < L.length) (h2 : i < A.length), f L[i] = A[i]) : L.map f = A := by
 refine List.ext_getElem (by simp [hl]) fun i h1 h2 => ?_
 rw [List.getElem_map]; exact h i (by simpa using h1) h2

set_option maxRecDepth 100000 in
set_option maxHeartbeats 16000000 in
theorem listed1_any (L : List QT) (P : Option Addr) (c mB n : Nat) (g : Int → Option Int) (w : World) (b : Bool) (hL : LiesG fT w P L) (hlen : L.length ≤ 1048576) (hm : MapI w mB n g) (hsm : n ≤ 1048576) (hb : ∀ A, AtsP g A → (b = true ↔ L.map QT.a0 = A)) :
  Calls Tryz.prog 116 #[.map (some mB), .slice P L.length c, .func (.func 117) #[] #[]] w fun e w' => e = .returned (.bool b) ∧ Below w.heap.size w w' := by
 obtain ⟨D, hown, hr⟩ := hm
 have HB : Hid (∀ A, AtsP g A → (b = true ↔ L.map QT.a0 = A)) := hb
 have hkl := intKeys_len hown.isMap
 have hsz := hown.size_le
 have hmax : Maps.size D ≤ maxLen := by unfold maxLen; omega
 have hby : Maps.size D * 8 ≤ 140737488355328 := by omega
 have HA0 : Hid (∀ ss : List Int, ss.Perm (intKeys D) → AtsP g (ss.mergeSort leI) ∧ (ss.mergeSort leI).length = Maps.size D) := fun ss hp => ⟨sorted_keys hown hr hp, by rw [List.length_mergeSort, hp.length_eq, hkl]⟩
 have HEx : Hid (∃ A, AtsP g A ∧ A.length = Maps.size D) := ⟨_, sorted_keys hown hr (List.Perm.refl _), by rw [List.length_mergeSort, hkl]⟩
 have HK := fun W => Tryz.keysOf (some mB) W
 have HSt0 := Tryz.sortedOf (H := Unit) mB _ D _ w hown hmax hby
 have HSt : Hid _ := HSt0
 obtain ⟨m, hmm⟩ : ∃ m, Maps.size D = m := ⟨_, rfl⟩
 have HMm : Hid (Maps.size D = m) := hmm
 have hml : m ≤ 1048576 := by omega
 have HLl : Hid (LiesG fT w P L) := hL
 have HHn : Hid (L.length ≤ 1048576) := hlen
 have HBl : Hid (Below w.heap.size w w) := Below.refl _ _
 clear HSt0 hmax hby hkl hsz hb hL hr
 cases hne : ((m : Int) == (L.length : Int))
 ·have HX : Hid (b = false) := by
   unfold Hid
   cases hbb : b with
   | false => rfl
   | true =>
    obtain ⟨A, hA, hl⟩ := HEx.out
    have := (HB.out A hA).1 hbb
    have h2 := congrArg List.length this
    rw [List.length_map, hl, HMm.out] at h2
    simp at hne; omega
  have hne2 : ((m : Int) != (L.length : Int)) = true := by rw [bne, hne]; rfl
  rw [← hmm] at hne hne2
  clear hmm
  go_enter Tryz.func116, Tryz.ntmps116
  go_wp2_with (at_len; refine wpList_len_own _ rfl _ 88 rfl 3 3 Tryz.underlying88 _ mB _ D rfl hown ?_)
  go_ret
  exact ⟨ret_bool HX.out.symm, HBl.out⟩
 ·have hne2 : ((m : Int) != (L.length : Int)) = false := by rw [bne, hne]; rfl
  have hmL : m = L.length := by simp at hne; omega
  rw [← hmm] at hne hne2
  have HML : Hid (m = L.length) := hmL
  clear hmm hmL
  go_enter Tryz.func116, Tryz.ntmps116
  go_wp2_with (first
   | (at_len; refine wpList_len_own _ rfl _ 88 rfl 3 3 Tryz.underlying88 _ mB _ D rfl hown ?_)
   | (go_at_call 103; refine Calls.mono (HK _) ?_; rintro e w8 ⟨rfl, hw8⟩; subst hw8)
   | (go_at_call 102; refine Calls.mono HSt.out ?_; rintro e w9 ⟨av, ss, rfl, hp, hrow, hnil, hb9⟩; have ho : OwnG fI 3 w9 (w.heap.size + 1) av (ss.mergeSort leI) := (by unfold OwnG; rw [← cells_encZ, List.length_mergeSort]; exact hrow); have hA2 := HA0.out ss hp; obtain ⟨A, hA⟩ : ∃ A, ss.mergeSort leI = A := ⟨_, rfl⟩; rw [hA] at ho hA2; obtain ⟨P9, cap9, rfl, hli, _, _, hform, _, hob⟩ := ho.form; have HAt : Hid (AtsP g A) := hA2.1; have hAl : A.length = L.length := (by rw [hA2.2, HMm.out, HML.out]); have HAl : Hid _ := hAl; have HHb : Hid (Below w.heap.size w w9) := ((Below.refl _ _).alloc (Nat.le_refl _) (.cells #[.map (some mB)] 88)).trans (hb9.mono (Nat.le_succ _)); have HLi : Hid (LiesG fI w9 P9 A) := hli; clear hrow hnil hli ho hA hA2 hform hob hb9 hp hAl))
  go_loopw [18] (fun v W => lsInv w9 L QT.a0 A v W) (fun v W => A.length - (intOf v).toNat)
  case atStart => exact ⟨0, Nat.zero_le _, rfl, fun i _ _ h => absurd h (Nat.not_lt_zero _), Below.refl _ _⟩
  case round =>
   obtain ⟨k, hk, rfl, hno, hbl⟩ := hrel
   have HN : Hid _ := hno
   clear hno
   by_cases hlt : k < A.length
   ·have hk1 : (k : Int) < (A.length : Int) := by omega
    have hll := HAl.out
    have hlt2 : k < L.length := by omega
    have hrowA := HLi.out.below hbl
    obtain ⟨B9, O9, hP9⟩ := hrowA.has hlt
    rw [hP9] at hrowA
    have a0 := atI hrowA hlt
    have hix9 : ∀ W, (Instr.indexAt 27 (.slice P9 A.length cap9) (.int .i64 (k : Int))).run Tryz.prog W = .ok (.pointer (some ⟨B9, O9 + k, none⟩)) W := fun W => by rw [hP9]; go_simp
    have hrow := (HLl.out.below HHb.out).below hbl
    obtain ⟨B, O, hP⟩ := hrow.has hlt2
    rw [hP] at hrow
    obtain ⟨t, ht⟩ : ∃ t, L[k] = t := ⟨_, rfl⟩
    have HT : Hid (L[k] = t) := ht
    have c0 := hrow.at hlt2 0 _ rfl; have c1 := hrow.at hlt2 1 _ rfl; have c2 := hrow.at hlt2 2 _ rfl; have c3 := hrow.at hlt2 3 _ rfl; have c4 := hrow.at hlt2 4 _ rfl; have c5 := hrow.at hlt2 5 _ rfl; have c6 := hrow.at hlt2 6 _ rfl; have c7 := hrow.at hlt2 7 _ rfl; have c8 := hrow.at hlt2 8 _ rfl; have c9 := hrow.at hlt2 9 _ rfl; have c10 := hrow.at hlt2 10 _ rfl; have c11 := hrow.at hlt2 11 _ rfl; have c12 := hrow.at hlt2 12 _ rfl; have c13 := hrow.at hlt2 13 _ rfl; have c14 := hrow.at hlt2 14 _ rfl
    simp only [fT, Nat.add_zero, ht] at c0 c1 c2 c3 c4 c5 c6 c7 c8 c9 c10 c11 c12 c13 c14
    have hk2 : (k : Int) < (L.length : Int) := by omega
    have hix : ∀ W, (Instr.indexAt 37 (.slice P L.length c) (.int .i64 (k : Int))).run Tryz.prog W = .ok (.pointer (some ⟨B, O + k * 15, none⟩)) W := fun W => by rw [hP]; go_simp
    obtain ⟨a, ha⟩ : ∃ a, A[k] = a := ⟨_, rfl⟩
    have HAk : Hid (A[k] = a) := ha
    rw [ha] at a0
    have HO := fun W => objAt1_any t W
    clear hP9 hrowA hP hrow ht ha hll
    cases hee : (t.a0 == a)
    ·have hee2 : (t.a0 != a) = true := by rw [bne, hee]; rfl
     have HX : Hid (b = false) := by
      unfold Hid
      cases hbb : b with
      | false => rfl
      | true =>
       have := (HB.out A HAt.out).1 hbb
       have h2 : (L.map QT.a0)[k]? = A[k]? := by rw [this]
       rw [List.getElem?_map, List.getElem?_eq_getElem hlt2, List.getElem?_eq_getElem hlt, HT.out, HAk.out] at h2
       simp at h2 hee; exact absurd h2 hee
     go_wp2_with (go_at_call 117; refine (HO _).mono ?_; rintro e w5 ⟨rfl, hb5⟩)
     go_ret
     exact ⟨ret_bool HX.out.symm, HHb.out.trans ((hbl.trans (hb5.mono hbl.size)).mono HHb.out.size)⟩
    ·have hee2 : (t.a0 != a) = false := by rw [bne, hee]; rfl
     have HX : Hid (t.a0 = a) := (show t.a0 = a by simpa using hee)
     go_wp2_with (go_at_call 117; refine (HO _).mono ?_; rintro e w5 ⟨rfl, hb5⟩)
     go_roundw
     case rel => exact ⟨k + 1, by omega, by go_num, fun i h1 h2 hi => by by_cases e : i = k; subst e; rw [HT.out, HAk.out]; exact HX.out; exact HN.out i h1 h2 (by omega), hbl.trans (hb5.mono hbl.size)⟩
     case measure => simp [intOf]; omega
   ·have hk1 : ¬ (k : Int) < (A.length : Int) := by omega
    have HX : Hid (b = true) := (HB.out A HAt.out).2 (list_eq HAl.out (fun i h1 h2 => HN.out i h1 h2 (by omega)))
    go_wp2
    go_ret
    exact ⟨ret_bool HX.out.symm, HHb.out.trans (hbl.mono HHb.out.size)⟩

set_option maxRecDepth 100000 in
set_option maxHeartbeats 16000000 in
theorem listed2_any (L : List QE) (P : Option Addr) (c mB n : Nat) (g : Int → Option Int) (w : World) (b : Bool) (hL : LiesG fE w P L) (hlen : L.length ≤ 1048576) (hm : MapI w mB n g) (hsm : n ≤ 1048576) (hb : ∀ A, AtsP g A → (b = true ↔ L.map QE.ad = A)) :
  Calls Tryz.prog 118 #[.map (some mB), .slice P L.length c, .func (.func 119) #[] #[]] w fun e w' => e = .returned (.bool b) ∧ Below w.heap.size w w' := by
 obtain ⟨D, hown, hr⟩ := hm
 have HB : Hid (∀ A, AtsP g A → (b = true ↔ L.map QE.ad = A)) := hb
 have hkl := intKeys_len hown.isMap
 have hsz := hown.size_le
 have hmax : Maps.size D ≤ maxLen := by unfold maxLen; omega
 have hby : Maps.size D * 8 ≤ 140737488355328 := by omega
 have HA0 : Hid (∀ ss : List Int, ss.Perm (intKeys D) → AtsP g (ss.mergeSort leI) ∧ (ss.mergeSort leI).length = Maps.size D) := fun ss hp => ⟨sorted_keys hown hr hp, by rw [List.length_mergeSort, hp.length_eq, hkl]⟩
 have HEx : Hid (∃ A, AtsP g A ∧ A.length = Maps.size D) := ⟨_, sorted_keys hown hr (List.Perm.refl _), by rw [List.length_mergeSort, hkl]⟩
 have HK := fun W => Tryz.keysOf (some mB) W
 have HSt0 := Tryz.sortedOf (H := Unit) mB _ D _ w hown hmax hby
 have HSt : Hid _ := HSt0
 obtain ⟨m, hmm⟩ : ∃ m, Maps.size D = m := ⟨_, rfl⟩
 have HMm : Hid (Maps.size D = m) := hmm
 have hml : m ≤ 1048576 := by omega
 have HLl : Hid (LiesG fE w P L) := hL
 have HHn : Hid (L.length ≤ 1048576) := hlen
 have HBl : Hid (Below w.heap.size w w) := Below.refl _ _
 clear HSt0 hmax hby hkl hsz hb hL hr
 cases hne : ((m : Int) == (L.length : Int))
 ·have HX : Hid (b = false) := by
   unfold Hid
   cases hbb : b with
   | false => rfl
   | true =>
    obtain ⟨A, hA, hl⟩ := HEx.out
    have := (HB.out A hA).1 hbb
    have h2 := congrArg List.length this
    rw [List.length_map, hl, HMm.out] at h2
    simp at hne; omega
  have hne2 : ((m : Int) != (L.length : Int)) = true := by rw [bne, hne]; rfl
  rw [← hmm] at hne hne2
  clear hmm
  go_enter Tryz.func118, Tryz.ntmps118
  go_wp2_with (at_len; refine wpList_len_own _ rfl _ 88 rfl 3 3 Tryz.underlying88 _ mB _ D rfl hown ?_)
  go_ret
  exact ⟨ret_bool HX.out.symm, HBl.out⟩
 ·have hne2 : ((m : Int) != (L.length : Int)) = false := by rw [bne, hne]; rfl
  have hmL : m = L.length := by simp at hne; omega
  rw [← hmm] at hne hne2
  have HML : Hid (m = L.length) := hmL
  clear hmm hmL
  go_enter Tryz.func118, Tryz.ntmps118
  go_wp2_with (first
   | (at_len; refine wpList_len_own _ rfl _ 88 rfl 3 3 Tryz.underlying88 _ mB _ D rfl hown ?_)
   | (go_at_call 103; refine Calls.mono (HK _) ?_; rintro e w8 ⟨rfl, hw8⟩; subst hw8)
   | (go_at_call 102; refine Calls.mono HSt.out ?_; rintro e w9 ⟨av, ss, rfl, hp, hrow, hnil, hb9⟩; have ho : OwnG fI 3 w9 (w.heap.size + 1) av (ss.mergeSort leI) := (by unfold OwnG; rw [← cells_encZ, List.length_mergeSort]; exact hrow); have hA2 := HA0.out ss hp; obtain ⟨A, hA⟩ : ∃ A, ss.mergeSort leI = A := ⟨_, rfl⟩; rw [hA] at ho hA2; obtain ⟨P9, cap9, rfl, hli, _, _, hform, _, hob⟩ := ho.form; have HAt : Hid (AtsP g A) := hA2.1; have hAl : A.length = L.length := (by rw [hA2.2, HMm.out, HML.out]); have HAl : Hid _ := hAl; have HHb : Hid (Below w.heap.size w w9) := ((Below.refl _ _).alloc (Nat.le_refl _) (.cells #[.map (some mB)] 88)).trans (hb9.mono (Nat.le_succ _)); have HLi : Hid (LiesG fI w9 P9 A) := hli; clear hrow hnil hli ho hA hA2 hform hob hb9 hp hAl))
  go_loopw [18] (fun v W => lsInv w9 L QE.ad A v W) (fun v W => A.length - (intOf v).toNat)
  case atStart => exact ⟨0, Nat.zero_le _, rfl, fun i _ _ h => absurd h (Nat.not_lt_zero _), Below.refl _ _⟩
  case round =>
   obtain ⟨k, hk, rfl, hno, hbl⟩ := hrel
   have HN : Hid _ := hno
   clear hno
   by_cases hlt : k < A.length
   ·have hk1 : (k : Int) < (A.length : Int) := by omega
    have hll := HAl.out
    have hlt2 : k < L.length := by omega
    have hrowA := HLi.out.below hbl
    obtain ⟨B9, O9, hP9⟩ := hrowA.has hlt
    rw [hP9] at hrowA
    have a0 := atI hrowA hlt
    have hix9 : ∀ W, (Instr.indexAt 27 (.slice P9 A.length cap9) (.int .i64 (k : Int))).run Tryz.prog W = .ok (.pointer (some ⟨B9, O9 + k, none⟩)) W := fun W => by rw [hP9]; go_simp
    have hrow := (HLl.out.below HHb.out).below hbl
    obtain ⟨B, O, hP⟩ := hrow.has hlt2
    rw [hP] at hrow
    obtain ⟨t, ht⟩ : ∃ t, L[k] = t := ⟨_, rfl⟩
    have HT : Hid (L[k] = t) := ht
    have c0 := hrow.at hlt2 0 _ rfl; have c1 := hrow.at hlt2 1 _ rfl; have c2 := hrow.at hlt2 2 _ rfl
    simp only [fE, Nat.add_zero, ht] at c0 c1 c2
    have hk2 : (k : Int) < (L.length : Int) := by omega
    have hix : ∀ W, (Instr.indexAt 38 (.slice P L.length c) (.int .i64 (k : Int))).run Tryz.prog W = .ok (.pointer (some ⟨B, O + k * 3, none⟩)) W := fun W => by rw [hP]; go_simp
    obtain ⟨a, ha⟩ : ∃ a, A[k] = a := ⟨_, rfl⟩
    have HAk : Hid (A[k] = a) := ha
    rw [ha] at a0
    have HO := fun W => objAt2_any t.ad t.kd t.P t.l.length t.c W
    clear hP9 hrowA hP hrow ht ha hll
    cases hee : (t.ad == a)
    ·have hee2 : (t.ad != a) = true := by rw [bne, hee]; rfl
     have HX : Hid (b = false) := by
      unfold Hid
      cases hbb : b with
      | false => rfl
      | true =>
       have := (HB.out A HAt.out).1 hbb
       have h2 : (L.map QE.ad)[k]? = A[k]? := by rw [this]
       rw [List.getElem?_map, List.getElem?_eq_getElem hlt2, List.getElem?_eq_getElem hlt, HT.out, HAk.out] at h2
       simp at h2 hee; exact absurd h2 hee
     go_wp2_with (go_at_call 119; refine (HO _).mono ?_; rintro e w5 ⟨rfl, hb5⟩)
     go_ret
     exact ⟨ret_bool HX.out.symm, HHb.out.trans ((hbl.trans (hb5.mono hbl.size)).mono HHb.out.size)⟩
    ·have hee2 : (t.ad != a) = false := by rw [bne, hee]; rfl
     have HX : Hid (t.ad = a) := (show t.ad = a by simpa using hee)
     go_wp2_with (go_at_call 119; refine (HO _).mono ?_; rintro e w5 ⟨rfl, hb5⟩)
     go_roundw
     case rel => exact ⟨k + 1, by omega, by go_num, fun i h1 h2 hi => by by_cases e : i = k; subst e; rw [HT.out, HAk.out]; exact HX.out; exact HN.out i h1 h2 (by omega), hbl.trans (hb5.mono hbl.size)⟩
     case measure => simp [intOf]; omega
   ·have hk1 : ¬ (k : Int) < (A.length : Int) := by omega
    have HX : Hid (b = true) := (HB.out A HAt.out).2 (list_eq HAl.out (fun i h1 h2 => HN.out i h1 h2 (by omega)))
    go_wp2
    go_ret
    exact ⟨ret_bool HX.out.symm, HHb.out.trans (hbl.mono HHb.out.size)⟩

set_option maxRecDepth 100000 in
set_option maxHeartbeats 16000000 in
theorem listed3_any (L : List QN) (P : Option Addr) (c mB n : Nat) (g : Int → Option Int) (w : World) (b : Bool) (hL : LiesG fN w P L) (hlen : L.length ≤ 1048576) (hm : MapI w mB n g) (hsm : n ≤ 1048576) (hb : ∀ A, AtsP g A → (b = true ↔ L.map QN.ad = A)) :
  Calls Tryz.prog 120 #[.map (some mB), .slice P L.length c, .func (.func 121) #[] #[]] w fun e w' => e = .returned (.bool b) ∧ Below w.heap.size w w' := by
 obtain ⟨D, hown, hr⟩ := hm
 have HB : Hid (∀ A, AtsP g A → (b = true ↔ L.map QN.ad = A)) := hb
 have hkl := intKeys_len hown.isMap
 have hsz := hown.size_le
 have hmax : Maps.size D ≤ maxLen := by unfold maxLen; omega
 have hby : Maps.size D * 8 ≤ 140737488355328 := by omega
 have HA0 : Hid (∀ ss : List Int, ss.Perm (intKeys D) → AtsP g (ss.mergeSort leI) ∧ (ss.mergeSort leI).length = Maps.size D) := fun ss hp => ⟨sorted_keys hown hr hp, by rw [List.length_mergeSort, hp.length_eq, hkl]⟩
 have HEx : Hid (∃ A, AtsP g A ∧ A.length = Maps.size D) := ⟨_, sorted_keys hown hr (List.Perm.refl _), by rw [List.length_mergeSort, hkl]⟩
 have HK := fun W => Tryz.keysOf (some mB) W
 have HSt0 := Tryz.sortedOf (H := Unit) mB _ D _ w hown hmax hby
 have HSt : Hid _ := HSt0
 obtain ⟨m, hmm⟩ : ∃ m, Maps.size D = m := ⟨_, rfl⟩
 have HMm : Hid (Maps.size D = m) := hmm
 have hml : m ≤ 1048576 := by omega
 have HLl : Hid (LiesG fN w P L) := hL
 have HHn : Hid (L.length ≤ 1048576) := hlen
 have HBl : Hid (Below w.heap.size w w) := Below.refl _ _
 clear HSt0 hmax hby hkl hsz hb hL hr
 cases hne : ((m : Int) == (L.length : Int))
 ·have HX : Hid (b = false) := by
   unfold Hid
   cases hbb : b with
   | false => rfl
   | true =>
    obtain ⟨A, hA, hl⟩ := HEx.out
    have := (HB.out A hA).1 hbb
    have h2 := congrArg List.length this
    rw [List.length_map, hl, HMm.out] at h2
    simp at hne; omega
  have hne2 : ((m : Int) != (L.length : Int)) = true := by rw [bne, hne]; rfl
  rw [← hmm] at hne hne2
  clear hmm
  go_enter Tryz.func120, Tryz.ntmps120
  go_wp2_with (at_len; refine wpList_len_own _ rfl _ 88 rfl 3 3 Tryz.underlying88 _ mB _ D rfl hown ?_)
  go_ret
  exact ⟨ret_bool HX.out.symm, HBl.out⟩
 ·have hne2 : ((m : Int) != (L.length : Int)) = false := by rw [bne, hne]; rfl
  have hmL : m = L.length := by simp at hne; omega
  rw [← hmm] at hne hne2
  have HML : Hid (m = L.length) := hmL
  clear hmm hmL
  go_enter Tryz.func120, Tryz.ntmps120
  go_wp2_with (first
   | (at_len; refine wpList_len_own _ rfl _ 88 rfl 3 3 Tryz.underlying88 _ mB _ D rfl hown ?_)
   | (go_at_call 103; refine Calls.mono (HK _) ?_; rintro e w8 ⟨rfl, hw8⟩; subst hw8)
   | (go_at_call 102; refine Calls.mono HSt.out ?_; rintro e w9 ⟨av, ss, rfl, hp, hrow, hnil, hb9⟩; have ho : OwnG fI 3 w9 (w.heap.size + 1) av (ss.mergeSort leI) := (by unfold OwnG; rw [← cells_encZ, List.length_mergeSort]; exact hrow); have hA2 := HA0.out ss hp; obtain ⟨A, hA⟩ : ∃ A, ss.mergeSort leI = A := ⟨_, rfl⟩; rw [hA] at ho hA2; obtain ⟨P9, cap9, rfl, hli, _, _, hform, _, hob⟩ := ho.form; have HAt : Hid (AtsP g A) := hA2.1; have hAl : A.length = L.length := (by rw [hA2.2, HMm.out, HML.out]); have HAl : Hid _ := hAl; have HHb : Hid (Below w.heap.size w w9) := ((Below.refl _ _).alloc (Nat.le_refl _) (.cells #[.map (some mB)] 88)).trans (hb9.mono (Nat.le_succ _)); have HLi : Hid (LiesG fI w9 P9 A) := hli; clear hrow hnil hli ho hA hA2 hform hob hb9 hp hAl))
  go_loopw [18] (fun v W => lsInv w9 L QN.ad A v W) (fun v W => A.length - (intOf v).toNat)
  case atStart => exact ⟨0, Nat.zero_le _, rfl, fun i _ _ h => absurd h (Nat.not_lt_zero _), Below.refl _ _⟩
  case round =>
   obtain ⟨k, hk, rfl, hno, hbl⟩ := hrel
   have HN : Hid _ := hno
   clear hno
   by_cases hlt : k < A.length
   ·have hk1 : (k : Int) < (A.length : Int) := by omega
    have hll := HAl.out
    have hlt2 : k < L.length := by omega
    have hrowA := HLi.out.below hbl
    obtain ⟨B9, O9, hP9⟩ := hrowA.has hlt
    rw [hP9] at hrowA
    have a0 := atI hrowA hlt
    have hix9 : ∀ W, (Instr.indexAt 27 (.slice P9 A.length cap9) (.int .i64 (k : Int))).run Tryz.prog W = .ok (.pointer (some ⟨B9, O9 + k, none⟩)) W := fun W => by rw [hP9]; go_simp
    have hrow := (HLl.out.below HHb.out).below hbl
    obtain ⟨B, O, hP⟩ := hrow.has hlt2
    rw [hP] at hrow
    obtain ⟨t, ht⟩ : ∃ t, L[k] = t := ⟨_, rfl⟩
    have HT : Hid (L[k] = t) := ht
    have c0 := hrow.at hlt2 0 _ rfl; have c1 := hrow.at hlt2 1 _ rfl; have c2 := hrow.at hlt2 2 _ rfl; have c3 := hrow.at hlt2 3 _ rfl
    simp only [fN, Nat.add_zero, ht] at c0 c1 c2 c3
    have hk2 : (k : Int) < (L.length : Int) := by omega
    have hix : ∀ W, (Instr.indexAt 39 (.slice P L.length c) (.int .i64 (k : Int))).run Tryz.prog W = .ok (.pointer (some ⟨B, O + k * 4, none⟩)) W := fun W => by rw [hP]; go_simp
    obtain ⟨a, ha⟩ : ∃ a, A[k] = a := ⟨_, rfl⟩
    have HAk : Hid (A[k] = a) := ha
    rw [ha] at a0
    have HO := fun W => objAt3_any t.ad t.wd t.ac t.P t.l.length t.c W
    clear hP9 hrowA hP hrow ht ha hll
    cases hee : (t.ad == a)
    ·have hee2 : (t.ad != a) = true := by rw [bne, hee]; rfl
     have HX : Hid (b = false) := by
      unfold Hid
      cases hbb : b with
      | false => rfl
      | true =>
       have := (HB.out A HAt.out).1 hbb
       have h2 : (L.map QN.ad)[k]? = A[k]? := by rw [this]
       rw [List.getElem?_map, List.getElem?_eq_getElem hlt2, List.getElem?_eq_getElem hlt, HT.out, HAk.out] at h2
       simp at h2 hee; exact absurd h2 hee
     go_wp2_with (go_at_call 121; refine (HO _).mono ?_; rintro e w5 ⟨rfl, hb5⟩)
     go_ret
     exact ⟨ret_bool HX.out.symm, HHb.out.trans ((hbl.trans (hb5.mono hbl.size)).mono HHb.out.size)⟩
    ·have hee2 : (t.ad != a) = false := by rw [bne, hee]; rfl
     have HX : Hid (t.ad = a) := (show t.ad = a by simpa using hee)
     go_wp2_with (go_at_call 121; refine (HO _).mono ?_; rintro e w5 ⟨rfl, hb5⟩)
     go_roundw
     case rel => exact ⟨k + 1, by omega, by go_num, fun i h1 h2 hi => by by_cases e : i = k; subst e; rw [HT.out, HAk.out]; exact HX.out; exact HN.out i h1 h2 (by omega), hbl.trans (hb5.mono hbl.size)⟩
     case measure => simp [intOf]; omega
   ·have hk1 : ¬ (k : Int) < (A.length : Int) := by omega
    have HX : Hid (b = true) := (HB.out A HAt.out).2 (list_eq HAl.out (fun i h1 h2 => HN.out i h1 h2 (by omega)))
    go_wp2
    go_ret
    exact ⟨ret_bool HX.out.symm, HHb.out.trans (hbl.mono HHb.out.size)⟩

set_option maxRecDepth 100000 in
set_option maxHeartbeats 16000000 in
theorem listed4_any (L : List QF) (P : Option Addr) (c mB n : Nat) (g : Int → Option Int) (w : World) (b : Bool) (hL : LiesG fF w P L) (hlen : L.length ≤ 1048576) (hm : MapI w mB n g) (hsm : n ≤ 1048576) (hb : ∀ A, AtsP g A → (b = true ↔ L.map QF.ad = A)) :
  Calls Tryz.prog 122 #[.map (some mB), .slice P L.length c, .func (.func 123) #[] #[]] w fun e w' => e = .returned (.bool b) ∧ Below w.heap.size w w' := by
 obtain ⟨D, hown, hr⟩ := hm
 have HB : Hid (∀ A, AtsP g A → (b = true ↔ L.map QF.ad = A)) := hb
 have hkl := intKeys_len hown.isMap
 have hsz := hown.size_le
 have hmax : Maps.size D ≤ maxLen := by unfold maxLen; omega
 have hby : Maps.size D * 8 ≤ 140737488355328 := by omega
 have HA0 : Hid (∀ ss : List Int, ss.Perm (intKeys D) → AtsP g (ss.mergeSort leI) ∧ (ss.mergeSort leI).length = Maps.size D) := fun ss hp => ⟨sorted_keys hown hr hp, by rw [List.length_mergeSort, hp.length_eq, hkl]⟩
 have HEx : Hid (∃ A, AtsP g A ∧ A.length = Maps.size D) := ⟨_, sorted_keys hown hr (List.Perm.refl _), by rw [List.length_mergeSort, hkl]⟩
 have HK := fun W => Tryz.keysOf (some mB) W
 have HSt0 := Tryz.sortedOf (H := Unit) mB _ D _ w hown hmax hby
 have HSt : Hid _ := HSt0
 obtain ⟨m, hmm⟩ : ∃ m, Maps.size D = m := ⟨_, rfl⟩
 have HMm : Hid (Maps.size D = m) := hmm
 have hml : m ≤ 1048576 := by omega
 have HLl : Hid (LiesG fF w P L) := hL
 have HHn : Hid (L.length ≤ 1048576) := hlen
 have HBl : Hid (Below w.heap.size w w) := Below.refl _ _
 clear HSt0 hmax hby hkl hsz hb hL hr
 cases hne : ((m : Int) == (L.length : Int))
 ·have HX : Hid (b = false) := by
   unfold Hid
   cases hbb : b with
   | false => rfl
   | true =>
    obtain ⟨A, hA, hl⟩ := HEx.out
    have := (HB.out A hA).1 hbb
    have h2 := congrArg List.length this
    rw [List.length_map, hl, HMm.out] at h2
    simp at hne; omega
  have hne2 : ((m : Int) != (L.length : Int)) = true := by rw [bne, hne]; rfl
  rw [← hmm] at hne hne2
  clear hmm
  go_enter Tryz.func122, Tryz.ntmps122
  go_wp2_with (at_len; refine wpList_len_own _ rfl _ 88 rfl 3 3 Tryz.underlying88 _ mB _ D rfl hown ?_)
  go_ret
  exact ⟨ret_bool HX.out.symm, HBl.out⟩
 ·have hne2 : ((m : Int) != (L.length : Int)) = false := by rw [bne, hne]; rfl
  have hmL : m = L.length := by simp at hne; omega
  rw [← hmm] at hne hne2
  have HML : Hid (m = L.length) := hmL
  clear hmm hmL
  go_enter Tryz.func122, Tryz.ntmps122
  go_wp2_with (first
   | (at_len; refine wpList_len_own _ rfl _ 88 rfl 3 3 Tryz.underlying88 _ mB _ D rfl hown ?_)
   | (go_at_call 103; refine Calls.mono (HK _) ?_; rintro e w8 ⟨rfl, hw8⟩; subst hw8)
   | (go_at_call 102; refine Calls.mono HSt.out ?_; rintro e w9 ⟨av, ss, rfl, hp, hrow, hnil, hb9⟩; have ho : OwnG fI 3 w9 (w.heap.size + 1) av (ss.mergeSort leI) := (by unfold OwnG; rw [← cells_encZ, List.length_mergeSort]; exact hrow); have hA2 := HA0.out ss hp; obtain ⟨A, hA⟩ : ∃ A, ss.mergeSort leI = A := ⟨_, rfl⟩; rw [hA] at ho hA2; obtain ⟨P9, cap9, rfl, hli, _, _, hform, _, hob⟩ := ho.form; have HAt : Hid (AtsP g A) := hA2.1; have hAl : A.length = L.length := (by rw [hA2.2, HMm.out, HML.out]); have HAl : Hid _ := hAl; have HHb : Hid (Below w.heap.size w w9) := ((Below.refl _ _).alloc (Nat.le_refl _) (.cells #[.map (some mB)] 88)).trans (hb9.mono (Nat.le_succ _)); have HLi : Hid (LiesG fI w9 P9 A) := hli; clear hrow hnil hli ho hA hA2 hform hob hb9 hp hAl))
  go_loopw [18] (fun v W => lsInv w9 L QF.ad A v W) (fun v W => A.length - (intOf v).toNat)
  case atStart => exact ⟨0, Nat.zero_le _, rfl, fun i _ _ h => absurd h (Nat.not_lt_zero _), Below.refl _ _⟩
  case round =>
   obtain ⟨k, hk, rfl, hno, hbl⟩ := hrel
   have HN : Hid _ := hno
   clear hno
   by_cases hlt : k < A.length
   ·have hk1 : (k : Int) < (A.length : Int) := by omega
    have hll := HAl.out
    have hlt2 : k < L.length := by omega
    have hrowA := HLi.out.below hbl
    obtain ⟨B9, O9, hP9⟩ := hrowA.has hlt
    rw [hP9] at hrowA
    have a0 := atI hrowA hlt
    have hix9 : ∀ W, (Instr.indexAt 27 (.slice P9 A.length cap9) (.int .i64 (k : Int))).run Tryz.prog W = .ok (.pointer (some ⟨B9, O9 + k, none⟩)) W := fun W => by rw [hP9]; go_simp
    have hrow := (HLl.out.below HHb.out).below hbl
    obtain ⟨B, O, hP⟩ := hrow.has hlt2
    rw [hP] at hrow
    obtain ⟨t, ht⟩ : ∃ t, L[k] = t := ⟨_, rfl⟩
    have HT : Hid (L[k] = t) := ht
    have c0 := hrow.at hlt2 0 _ rfl; have c1 := hrow.at hlt2 1 _ rfl
    simp only [fF, Nat.add_zero, ht] at c0 c1
    have hk2 : (k : Int) < (L.length : Int) := by omega
    have hix : ∀ W, (Instr.indexAt 40 (.slice P L.length c) (.int .i64 (k : Int))).run Tryz.prog W = .ok (.pointer (some ⟨B, O + k * 2, none⟩)) W := fun W => by rw [hP]; go_simp
    obtain ⟨a, ha⟩ : ∃ a, A[k] = a := ⟨_, rfl⟩
    have HAk : Hid (A[k] = a) := ha
    rw [ha] at a0
    have HO := fun W => objAt4_any t.ad t.P t.l.length t.c W
    clear hP9 hrowA hP hrow ht ha hll
    cases hee : (t.ad == a)
    ·have hee2 : (t.ad != a) = true := by rw [bne, hee]; rfl
     have HX : Hid (b = false) := by
      unfold Hid
      cases hbb : b with
      | false => rfl
      | true =>
       have := (HB.out A HAt.out).1 hbb
       have h2 : (L.map QF.ad)[k]? = A[k]? := by rw [this]
       rw [List.getElem?_map, List.getElem?_eq_getElem hlt2, List.getElem?_eq_getElem hlt, HT.out, HAk.out] at h2
       simp at h2 hee; exact absurd h2 hee
     go_wp2_with (go_at_call 123; refine (HO _).mono ?_; rintro e w5 ⟨rfl, hb5⟩)
     go_ret
     exact ⟨ret_bool HX.out.symm, HHb.out.trans ((hbl.trans (hb5.mono hbl.size)).mono HHb.out.size)⟩
    ·have hee2 : (t.ad != a) = false := by rw [bne, hee]; rfl
     have HX : Hid (t.ad = a) := (show t.ad = a by simpa using hee)
     go_wp2_with (go_at_call 123; refine (HO _).mono ?_; rintro e w5 ⟨rfl, hb5⟩)
     go_roundw
     case rel => exact ⟨k + 1, by omega, by go_num, fun i h1 h2 hi => by by_cases e : i = k; subst e; rw [HT.out, HAk.out]; exact HX.out; exact HN.out i h1 h2 (by omega), hbl.trans (hb5.mono hbl.size)⟩
     case measure => simp [intOf]; omega
   ·have hk1 : ¬ (k : Int) < (A.length : Int) := by omega
    have HX : Hid (b = true) := (HB.out A HAt.out).2 (list_eq HAl.out (fun i h1 h2 => HN.out i h1 h2 (by omega)))
    go_wp2
    go_ret
    exact ⟨ret_bool HX.out.symm, HHb.out.trans (hbl.mono HHb.out.size)⟩

end Go.Proofs.YtigpbjcmmgdiaaaGreat
/-
 Whether the rows of objects are just those of the originals, by the program; the maps of originals by their addresses. Conditions: the view lies in memory, its slots are a tree.
-/
namespace Go.Proofs.YtigpbjcmmgdiaaaGreat
open Go.ChangeShapes Go.WideShapes Go.ChangeAt Go.RowKit
set_option linter.unusedVariables false

/-- The place of the last of the first k slots that holds an original of a kind that lies there. -/
def objR (L : List Sl) (kd : Int) : Nat → Int → Option Int
 | 0, _ => none
 | k + 1, x => if (match L[k]? with | none => false | some s => isObj kd x s) = true then some (k : Int) else objR L kd k x
theorem objR_next {L : List Sl} {kd : Int} {k : Nat} (hk : k < L.length) (x : Int) : objR L kd (k + 1) x = if isObj kd x L[k] = true then some (k : Int) else objR L kd k x := by
 rw [objR, List.getElem?_eq_getElem hk]
theorem objR_no {L : List Sl} {kd : Int} {k : Nat} (hk : k < L.length) (h : ¬ (L[k].o = true ∧ L[k].k = kd)) : objR L kd (k + 1) = objR L kd k := by
 funext x
 rw [objR_next hk, if_neg]
 intro hx
 obtain ⟨h1, h2, _⟩ := isObj_iff.1 hx
 exact h ⟨h1, h2⟩
theorem objR_put {L : List Sl} {k : Nat} (hk : k < L.length) (h : L[k].o = true) : putF (objR L L[k].k k) L[k].e (k : Int) = objR L L[k].k (k + 1) := by
 funext x
 unfold putF
 rw [objR_next hk]
 by_cases e : x = L[k].e
 ·rw [if_pos e, if_pos (isObj_iff.2 ⟨h, rfl, e.symm⟩)]
 ·rw [if_neg e, if_neg (fun hx => e (isObj_iff.1 hx).2.2.symm)]
theorem objR_some {L : List Sl} {kd x : Int} : ∀ {k : Nat}, k ≤ L.length → ((objR L kd k x).isSome = true ↔ ∃ (j : Nat) (hj : j < L.length), j < k ∧ isObj kd x L[j] = true)
 | 0, _ => by
  constructor
  ·intro h; cases h
  ·rintro ⟨j, hj, h, _⟩; omega
 | k + 1, h => by
  have hk : k < L.length := by omega
  have ih := objR_some (L := L) (kd := kd) (x := x) (k := k) (by omega)
  rw [objR_next hk]
  by_cases e : isObj kd x L[k] = true
  ·rw [if_pos e]
   exact ⟨fun _ => ⟨k, hk, by omega, e⟩, fun _ => rfl⟩
  ·rw [if_neg e, ih]
   constructor
   ·rintro ⟨j, hj, h1, h2⟩; exact ⟨j, hj, by omega, h2⟩
   ·rintro ⟨j, hj, h1, h2⟩
    by_cases ej : j = k
    ·subst ej; exact absurd h2 e
    ·exact ⟨j, hj, by omega, h2⟩
/-- A row is what the map says just if it is what the slots say. -/
theorem list_objR {L : List Sl} (hT : treeB L = true) {kd : Int} {ats A : List Int} (hA : AtsP (objR L kd L.length) A) : ats = A ↔ ListP L kd ats := by
 have hm : ∀ x, x ∈ A ↔ ∃ s ∈ L, s.o = true ∧ s.k = kd ∧ s.e = x := by
  intro x
  rw [hA.mem, objR_some (Nat.le_refl _)]
  constructor
  ·rintro ⟨_, j, hj, _, h⟩
   obtain ⟨h1, h2, h3⟩ := isObj_iff.1 h
   exact ⟨L[j], List.getElem_mem hj, h1, h2, h3⟩
  ·rintro ⟨s, hs, h1, h2, h3⟩
   obtain ⟨j, hj, rfl⟩ := List.mem_iff_getElem.1 hs
   have p := ok_parts (tree_ok hT j hj).2.2.2
   exact ⟨⟨by omega, by omega⟩, j, hj, hj, isObj_iff.2 ⟨h1, h2, h3⟩⟩
 constructor
 ·rintro rfl; exact ⟨hA.up, hm⟩
 ·rintro ⟨h1, h2⟩
  exact asc_same h1 hA.up (fun x => by rw [h2, hm])
/-- The seven maps, one behind the other; block oB i is that of kind i. -/
structure ObjV (L : List Sl) (oB : Nat → Nat) (k : Nat) (W : World) : Prop where
 m : ∀ i : Nat, i < 7 → i ≠ 1 → MapI W (oB i) k (objR L (i : Int) k)
 m1 : ∃ f, MapI W (oB 1) k f
 ne : ∀ i j : Nat, i < 7 → j < 7 → i ≠ j → oB i ≠ oB j

def fsO (fs : List Value) (m0 : Nat) : Nat → List Value
 | 0 => fs
 | j + 1 => (fsO fs m0 j).set (5 + j) (.map (some (m0 + j)))
theorem fsO_get {fs : List Value} {m0 : Nat} : ∀ {j : Nat} {i : Nat}, i < 5 ∨ 5 + j ≤ i → (fsO fs m0 j)[i]? = fs[i]?
 | 0, i, _ => rfl
 | j + 1, i, h => by
  rw [fsO, List.getElem?_set_ne (by omega)]
  exact fsO_get (by omega)
theorem fsO_len {fs : List Value} {m0 : Nat} : ∀ {j : Nat}, (fsO fs m0 j).length = fs.length
 | 0 => rfl
 | j + 1 => by rw [fsO, List.length_set, fsO_len]
theorem fsO_at {fs : List Value} {m0 : Nat} (hl : fs.length = 13) : ∀ {j : Nat} {i : Nat}, i < j → j ≤ 7 → (fsO fs m0 j)[5 + i]? = some (.map (some (m0 + i)))
 | j + 1, i, h, hj => by
  by_cases e : i = j
  ·subst e
   rw [fsO, List.getElem?_set_self (by rw [fsO_len, hl]; omega)]
  ·rw [fsO, List.getElem?_set_ne (by omega)]
   exact fsO_at hl (by omega) (by omega)
structure ObjW (w0 : World) (K : QK) (vB m0 : Nat) (fs : List Value) (j : Nat) (w W : World) : Prop where
 v : View w0 K vB (fsO fs m0 j) W
 sz : W.heap.size = m0 + j
 m : ∀ i : Nat, i < j → MapI W (m0 + i) 0 (fun _ => none)
 b : But vB w W
def oInv1 (w0 : World) (K : QK) (vB m0 : Nat) (fs : List Value) (w : World) (v : Value) (W : World) : Prop :=
 ∃ j : Nat, j ≤ 7 ∧ v = .int .i64 (j : Int) ∧ ObjW w0 K vB m0 fs j w W
/-- Behind k slots. -/
structure ObjX (w0 : World) (K : QK) (vB m0 : Nat) (fs : List Value) (k : Nat) (w W : World) : Prop where
 v : View w0 K vB (fsO fs m0 7) W
 m : ∀ i : Nat, 2 ≤ i → i ≤ 6 → MapI W (m0 + i) k (objR K.sl (i : Int) k)
 b : But vB w W
 lo : w.heap.size ≤ m0
def oInv2 (w0 : World) (K : QK) (vB m0 : Nat) (fs : List Value) (w : World) (v : Value) (W : World) : Prop :=
 ∃ k : Nat, k ≤ K.sl.length ∧ v = .int .i64 (k : Int) ∧ ObjX w0 K vB m0 fs k w W
theorem butNew {g b : Nat} {a W W' : World} (h : But g a W) (hg : W.grownBy W' (some b)) (hb : a.heap.size ≤ b) : But g a W' :=
 ⟨hg.os.trans h.os, hg.tape.trans h.tape, hg.output.trans h.output, Nat.le_trans h.size hg.size, fun k hk hn => (hg.block k (Nat.lt_of_lt_of_le hk h.size) (fun e => by injection e with e; omega)).trans (h.block k hk hn)⟩
theorem MapI.le {W : World} {b n m : Nat} {f : Int → Option Int} (h : MapI W b n f) (hm : n ≤ m) : MapI W b m f := by
 obtain ⟨D, h1, h2⟩ := h; exact ⟨D, h1.mono hm, h2⟩
set_option maxRecDepth 100000 in
set_option maxHeartbeats 16000000 in
theorem objectsOk_any (w0 : World) (K : QK) (vB : Nat) (fs : List Value) (w : World) (hs : K.Short) (hT : treeB K.sl = true) (h : View w0 K vB fs w) (hfl : fs.length = 13) (hf : ∀ j, j < 7 → fs[5 + j]? = some (.map none)) (b : Bool) (hb : b = true ↔ (ListP K.sl 3 (K.tl.map QT.a0) ∧ ListP K.sl 4 (K.el.map QE.ad) ∧ ListP K.sl 5 (K.nl.map QN.ad) ∧ ListP K.sl 6 (K.fl.map QF.ad))) :
  Calls Tryz.prog 67 #[.pointer (some ⟨vB, 0, none⟩)] w fun e w' => e = .returned (.bool b) ∧ ObjX w0 K vB w.heap.size fs K.sl.length w w' := by
 have hlen := hs.s
 have HS : Hid (K.Short) := hs
 have HT : Hid (treeB K.sl = true) := hT
 have HBb : Hid (b = true ↔ (ListP K.sl 3 (K.tl.map QT.a0) ∧ ListP K.sl 4 (K.el.map QE.ad) ∧ ListP K.sl 5 (K.nl.map QN.ad) ∧ ListP K.sl 6 (K.fl.map QF.ad))) := hb
 have HF : Hid (∀ j, j < 7 → fs[5 + j]? = some (.map none)) := hf
 have HFl : Hid (fs.length = 13) := hfl
 have HVl : Hid (vB < w.heap.size) := h.lt
 have HW0 : Hid (w0.heap.size ≤ w.heap.size) := h.bw.size
 have S0 : ObjW w0 K vB w.heap.size fs 0 w w := ⟨h, rfl, fun i hi => absurd hi (Nat.not_lt_zero _), But.of vB (Below.refl _ _)⟩
 have hmm := @run_makeMap Tryz.prog 88
 clear hs hT hb hf hfl h
 go_enter Tryz.func67, Tryz.ntmps67
 obtain ⟨m0, hm0⟩ : ∃ m0, w.heap.size = m0 := ⟨_, rfl⟩
 rw [hm0] at S0 ⊢
 have HM0 : Hid (w.heap.size = m0) := hm0
 clear hm0
 go_wp2
 go_loopw [6] (fun v W => oInv1 w0 K vB m0 fs w v W) (fun v W => 7 - (intOf v).toNat)
 case atStart => exact ⟨0, by omega, rfl, S0⟩
 case round =>
  clear S0
  obtain ⟨j, hj, rfl, S⟩ := hrel
  by_cases hlt : j < 7
  ·have hk1 : (j : Int) < 7 := by omega
   have hk0 : decide ((0 : Int) ≤ (j : Int)) = true := by simp
   have hf1 := S.v.snd (5 + j) _ ((fsO_get (by omega)).trans (HF.out j hlt))
   have e20 : 15 + (5 + j) = 20 + j := by omega
   rw [e20] at hf1
   have hz := S.v.frozen (20 + j)
   have b1 := (Below.refl wr.heap.size wr).alloc (Nat.le_refl _) (.map #[] 0)
   have hf2 := (S.v.below b1).snd (5 + j) _ ((fsO_get (by omega)).trans (HF.out j hlt))
   rw [e20] at hf2
   have hz2 := (S.v.below b1).frozen (20 + j)
   have hvl := S.v.lt
   have ne1 : ¬ vB = wr.heap.size := by omega
   have ne2 : ¬ wr.heap.size = vB := by omega
   clear e20
   go_wp2
   go_roundw
   case rel =>
    have v6 := S.v.set (5 + j) (.map (some wr.heap.size))
    have e20 : 15 + (5 + j) = 20 + j := by omega
    rw [e20] at v6
    have esz : (wr.setCell ⟨vB, 20 + j, none⟩ (.map (some wr.heap.size))).heap.size = wr.heap.size := by simp
    have m7 := MapI.new (wr.setCell ⟨vB, 20 + j, none⟩ (.map (some wr.heap.size)))
    rw [esz] at m7
    have b7 := (Below.refl (wr.setCell ⟨vB, 20 + j, none⟩ (.map (some wr.heap.size))).heap.size (wr.setCell ⟨vB, 20 + j, none⟩ (.map (some wr.heap.size)))).alloc (Nat.le_refl _) (.map #[] 0)
    have hsz := S.sz
    have hvl2 := HVl.out
    have hm0 := HM0.out
    refine ⟨j + 1, by omega, by go_num, ?_, ?_, ?_, ?_⟩
    ·have := v6.below b7
     rw [hsz] at this ⊢
     exact this
    ·simp [hsz]; omega
    ·intro i hi
     by_cases e : i = j
     ·subst e; rw [← hsz]; exact m7
     ·exact ((S.m i (by omega)).setCell (a := ⟨vB, 20 + j, none⟩) (by simp; omega) _).below b7
    ·exact (S.b.set (20 + j) _).trans (But.of vB b7)
   case measure => simp [intOf]; omega
  ·have hk1 : ¬ (j : Int) < 7 := by omega
   have hje : j = 7 := by omega
   have X0 : ObjX w0 K vB m0 fs 0 w wr := ⟨by have := S.v; rw [hje] at this; exact this, fun i h1 h2 => by have := S.m i (by omega); exact this, S.b, by have := HM0.out; omega⟩
   clear S hj hmm hje
   have g2 := X0.v.cs
   go_wp2
   go_loopw [22] (fun v W => oInv2 w0 K vB m0 fs w v W) (fun v W => K.sl.length - (intOf v).toNat)
   case atStart => exact ⟨0, Nat.zero_le _, rfl, X0⟩
   case round =>
    clear X0 g2
    obtain ⟨k, hk, rfl, S⟩ := hrel
    by_cases hlt : k < K.sl.length
    ·have hk1 : (k : Int) < (K.sl.length : Int) := by omega
     have hrow := S.v.b.s
     obtain ⟨B, O, hP⟩ := hrow.some hlt
     rw [hP] at hrow
     have hcc := hrow.cells B O rfl k hlt
     obtain ⟨s, hsl⟩ : ∃ s, K.sl[k] = s := ⟨_, rfl⟩
     rw [hsl] at hcc
     have HSl : Hid (K.sl[k] = s) := hsl
     have hos := tree_okm HT.out s (by rw [← hsl]; exact List.getElem_mem hlt)
     have p := ok_parts hos
     have g2 := S.v.cs
     rw [hP] at g2
     obtain ⟨c0, c1, c2, c3, c4, c5, c6, c7, c8, c9, c10⟩ := hcc
     clear hsl hP hos
     go_upto_region 10 with fail
     clear g2 c0 c1 c2 c3 c4 c5 c6 c7 c8 c9 c10 hrow
     have b1 := (Below.refl wr.heap.size wr).alloc (Nat.le_refl _) (.cells #[.int .i64 s.k, .int .i64 s.e, .int .i64 s.b, .int .i64 s.r, .int .i64 s.d, .int .i64 s.g, .int .i64 s.q, .int .i64 s.f, .bool s.o] 33)
     have hv1 := S.v.below b1
     have hm1 : ∀ i : Nat, 2 ≤ i → i ≤ 6 → MapI (wr.alloc (.cells #[.int .i64 s.k, .int .i64 s.e, .int .i64 s.b, .int .i64 s.r, .int .i64 s.d, .int .i64 s.g, .int .i64 s.q, .int .i64 s.f, .bool s.o] 33)) (m0 + i) k (objR K.sl (i : Int) k) := fun i h1 h2 => (S.m i h1 h2).below b1
     have hb1 := S.b.trans (But.of vB b1)
     have hlo := S.lo
     have cx := Bx.newAt wr 33 [.int .i64 s.k, .int .i64 s.e, .int .i64 s.b, .int .i64 s.r, .int .i64 s.d, .int .i64 s.g, .int .i64 s.q, .int .i64 s.f, .bool s.o] (c := wr.heap.size) rfl
     clear S b1
     generalize wr.alloc (.cells #[.int .i64 s.k, .int .i64 s.e, .int .i64 s.b, .int .i64 s.r, .int .i64 s.d, .int .i64 s.g, .int .i64 s.q, .int .i64 s.f, .bool s.o] 33) = W1 at hv1 hm1 hb1 cx ⊢
     generalize wr.heap.size = cB at cx ⊢
     have y0 := cx.cell 0 _ rfl
     have y1 := cx.cell 1 _ rfl
     have y8 := cx.cell 8 _ rfl
     have HLo : Hid (w.heap.size ≤ m0) := hlo
     have HNx : Hid (¬ (s.o = true ∧ 2 ≤ s.k) → ObjX w0 K vB m0 fs (k + 1) w W1) := fun hn => ⟨hv1, fun i h1 h2 => by
      rw [objR_no hlt (by rw [HSl.out]; rintro ⟨q1, q2⟩; exact hn ⟨q1, by omega⟩)]
      exact (hm1 i h1 h2).le (Nat.le_succ _), hb1, hlo⟩
     clear hlo
     cases hoo : s.o
     ·rw [hoo] at y8
      have HX : Hid (ObjX w0 K vB m0 fs (k + 1) w W1) := HNx.out (by rw [hoo]; rintro ⟨q, _⟩; cases q)
      clear hm1 p
      go_wp2
      go_roundw
      case rel => exact ⟨k + 1, by omega, by go_num, HX.out⟩
      case measure => simp [intOf]; omega
     ·rw [hoo] at y8
      by_cases hk1e : s.k = 1
      ·have HX : Hid (ObjX w0 K vB m0 fs (k + 1) w W1) := HNx.out (by rintro ⟨_, q⟩; omega)
       have hbk : (s.k == 1) = true := by simpa using hk1e
       have hbk2 : (s.k != 1) = false := by rw [bne, hbk]; rfl
       clear hk1e hm1 p
       go_wp2
       go_roundw
       case rel => exact ⟨k + 1, by omega, by go_num, HX.out⟩
       case measure => simp [intOf]; omega
      ·have hbk : (s.k == 1) = false := by simpa using hk1e
       have hbk2 : (s.k != 1) = true := by rw [bne, hbk]; rfl
       have hk7 : s.k ≠ 7 := fun e => by have := p.2.2.2.2.2.2.2.2.2.2.1 e; rw [hoo] at this; cases this
       obtain ⟨kk, hkk⟩ : ∃ kk : Nat, s.k = (kk : Int) := ⟨s.k.toNat, by omega⟩
       have hkb : 2 ≤ kk ∧ kk ≤ 6 := by omega
       have hfe : FitI s.e := ⟨by omega, by omega⟩
       have hc20 := hv1.snd (5 + kk) _ (fsO_at HFl.out (by omega) (Nat.le_refl _))
       have e20 : 15 + (5 + kk) = 20 + kk := by omega
       rw [e20] at hc20
       obtain ⟨W', hrun, hm, hg⟩ := ((hm1 kk hkb.1 hkb.2).below (Below.refl _ _).drew).put (by unfold maxLen; omega) (x := s.e) (y := (k : Int)) hfe ⟨by omega, by omega⟩
       have HM : Hid (MapI W' (m0 + kk) (k + 1) (objR K.sl (kk : Int) (k + 1))) := by
        unfold Hid
        have := objR_put hlt (by rw [HSl.out]; exact hoo)
        rw [HSl.out, hkk] at this
        rw [← this]; exact hm
       have HG : Hid _ := hg
       have HO : Hid (∀ i : Nat, 2 ≤ i → i ≤ 6 → i ≠ kk → MapI W' (m0 + i) (k + 1) (objR K.sl (i : Int) (k + 1))) := fun i h1 h2 h3 => by
        rw [objR_no hlt (by rw [HSl.out]; rintro ⟨_, q2⟩; omega)]
        exact (((hm1 i h1 h2).below (Below.refl _ _).drew).grown hg (by intro e; injection e with e; omega)).le (Nat.le_succ _)
       have HVd : Hid (View w0 K vB (fsO fs m0 7) W1) := hv1
       have HBd : Hid (But vB w W1) := hb1
       rw [hkk] at y0 hbk hbk2
       have hkl1 : (kk : Int) < 7 := by omega
       have hkl0 : decide ((0 : Int) ≤ (kk : Int)) = true := by simp
       have HKb : Hid (2 ≤ kk ∧ kk ≤ 6) := hkb
       clear hk1e hm1 p hk7 hm hg hkk hkb e20 hfe hb1 HNx
       have hmx : Tryz.prog.follows .mixedOrders = true := by kernel_rfl
       go_upto_region 11 with fail
       go_still_tail 10, hmx
       go_wp2
       go_roundw
       case rel =>
        have hw0 := HW0.out
        have hlo := HLo.out
        have hvl := HVl.out
        refine ⟨k + 1, by omega, by go_num, HVd.out.drew.but HG.out (by omega) (by omega), fun i h1 h2 => ?_, butNew (HBd.out.trans (But.of vB (Below.refl _ _).drew)) HG.out (by omega), hlo⟩
        by_cases e : i = kk
        ·subst e; exact HM.out
        ·exact HO.out i h1 h2 e
       case measure => simp [intOf]; omega
    ·have hk1 : ¬ (k : Int) < (K.sl.length : Int) := by omega
     have hke : k = K.sl.length := by omega
     rw [hke] at S
     clear hke hk
     obtain ⟨hv, hm, hbu, hlo⟩ := S
     have hm3 := hm 3 (by omega) (by omega)
     have hm4 := hm 4 (by omega) (by omega)
     have hm5 := hm 5 (by omega) (by omega)
     have hm6 := hm 6 (by omega) (by omega)
     have HS9 : Hid (ObjX w0 K vB m0 fs K.sl.length w wr) := ⟨hv, hm, hbu, hlo⟩
     have hnx : K.sl.length ≤ 1048576 := hlen
     obtain ⟨b3, hb3⟩ := boolOf (ListP K.sl 3 (K.tl.map QT.a0))
     obtain ⟨b4, hb4⟩ := boolOf (ListP K.sl 4 (K.el.map QE.ad))
     obtain ⟨b5, hb5⟩ := boolOf (ListP K.sl 5 (K.nl.map QN.ad))
     obtain ⟨b6, hb6⟩ := boolOf (ListP K.sl 6 (K.fl.map QF.ad))
     have HB : Hid (b = (b3 && b4 && b5 && b6)) := by
      unfold Hid
      rw [Bool.eq_iff_iff, HBb.out, ← hb3, ← hb4, ← hb5, ← hb6]
      simp only [Bool.and_eq_true, and_assoc]
     have A3 : Hid (∀ W, Below wr.heap.size wr W → Calls Tryz.prog 116 #[.map (some (m0 + 3)), .slice K.tP K.tl.length K.tc, .func (.func 117) #[] #[]] W fun e w' => e = .returned (.bool b3) ∧ Below W.heap.size W w') := fun W hW => listed1_any K.tl K.tP K.tc (m0 + 3) _ _ W b3 (hv.b.t.below hW) HS.out.t (hm3.below hW) hnx (fun A hA => by rw [hb3]; exact (list_objR HT.out hA).symm)
     have A4 : Hid (∀ W, Below wr.heap.size wr W → Calls Tryz.prog 118 #[.map (some (m0 + 4)), .slice K.eP K.el.length K.ec, .func (.func 119) #[] #[]] W fun e w' => e = .returned (.bool b4) ∧ Below W.heap.size W w') := fun W hW => listed2_any K.el K.eP K.ec (m0 + 4) _ _ W b4 (hv.b.e.below hW) HS.out.e (hm4.below hW) hnx (fun A hA => by rw [hb4]; exact (list_objR HT.out hA).symm)
     have A5 : Hid (∀ W, Below wr.heap.size wr W → Calls Tryz.prog 120 #[.map (some (m0 + 5)), .slice K.nP K.nl.length K.nc, .func (.func 121) #[] #[]] W fun e w' => e = .returned (.bool b5) ∧ Below W.heap.size W w') := fun W hW => listed3_any K.nl K.nP K.nc (m0 + 5) _ _ W b5 (hv.b.n.below hW) HS.out.n (hm5.below hW) hnx (fun A hA => by rw [hb5]; exact (list_objR HT.out hA).symm)
     have A6 : Hid (∀ W, Below wr.heap.size wr W → Calls Tryz.prog 122 #[.map (some (m0 + 6)), .slice K.fP K.fl.length K.fc, .func (.func 123) #[] #[]] W fun e w' => e = .returned (.bool b6) ∧ Below W.heap.size W w') := fun W hW => listed4_any K.fl K.fP K.fc (m0 + 6) _ _ W b6 (hv.b.f.below hW) HS.out.f (hm6.below hW) hnx (fun A hA => by rw [hb6]; exact (list_objR HT.out hA).symm)
     have q3 := cell_regrown hv.ct
     have q4 := cell_regrown hv.ce
     have q5 := cell_regrown hv.cn
     have q6 := cell_regrown hv.cf
     have o3 := cell_regrown (hv.snd 8 _ (fsO_at HFl.out (i := 3) (by omega) (Nat.le_refl _)))
     have o4 := cell_regrown (hv.snd 9 _ (fsO_at HFl.out (i := 4) (by omega) (Nat.le_refl _)))
     have o5 := cell_regrown (hv.snd 10 _ (fsO_at HFl.out (i := 5) (by omega) (Nat.le_refl _)))
     have o6 := cell_regrown (hv.snd 11 _ (fsO_at HFl.out (i := 6) (by omega) (Nat.le_refl _)))
     clear hv hm hbu hlo hm3 hm4 hm5 hm6 hb3 hb4 hb5 hb6 hnx
     cases b3
     ·have HX : Hid (b = false) := by unfold Hid; rw [HB.out]; rfl
      go_upto_region 13 with fail
      refine wq_region (by kernel_rfl) (by kernel_rfl) ?_
      repeat (first | (refine wq_step (fun K hK => ?_); go_simp; first | (refine hK _ ?_; clear hK K) | (apply Exists.intro; refine ⟨fun _ => ?_, hK _ ?_⟩; (first | (go_at_call 116; exact Calls.regrown_of (A3.out _ (below_regrown _ _ _))) | (go_at_call 118; exact Calls.regrown_of (A4.out _ (below_regrown _ _ _))) | (go_at_call 120; exact Calls.regrown_of (A5.out _ (below_regrown _ _ _))) | (go_at_call 122; exact Calls.regrown_of (A6.out _ (below_regrown _ _ _)))); clear hK K)))
      refine wq_nil ?_
      intro _ hw'
      obtain ⟨⟨dq, osq⟩, hw''⟩ := hw'
      subst hw''
      have S9 := HS9.out
      have b9 := below_regrown wr dq osq
      go_wp2
      go_ret
      exact ⟨ret_bool HX.out.symm, S9.v.below b9, fun i h1 h2 => (S9.m i h1 h2).below b9, S9.b.trans (But.of vB b9), S9.lo⟩
     ·cases b4
      ·have HX : Hid (b = false) := by unfold Hid; rw [HB.out]; rfl
       go_upto_region 13 with fail
       refine wq_region (by kernel_rfl) (by kernel_rfl) ?_
       repeat (first | (refine wq_step (fun K hK => ?_); go_simp; first | (refine hK _ ?_; clear hK K) | (apply Exists.intro; refine ⟨fun _ => ?_, hK _ ?_⟩; (first | (go_at_call 116; exact Calls.regrown_of (A3.out _ (below_regrown _ _ _))) | (go_at_call 118; exact Calls.regrown_of (A4.out _ (below_regrown _ _ _))) | (go_at_call 120; exact Calls.regrown_of (A5.out _ (below_regrown _ _ _))) | (go_at_call 122; exact Calls.regrown_of (A6.out _ (below_regrown _ _ _)))); clear hK K)))
       refine wq_nil ?_
       intro _ hw'
       obtain ⟨⟨dq, osq⟩, hw''⟩ := hw'
       subst hw''
       have S9 := HS9.out
       have b9 := below_regrown wr dq osq
       go_wp2
       go_ret
       exact ⟨ret_bool HX.out.symm, S9.v.below b9, fun i h1 h2 => (S9.m i h1 h2).below b9, S9.b.trans (But.of vB b9), S9.lo⟩
      ·cases b5
       ·have HX : Hid (b = false) := by unfold Hid; rw [HB.out]; rfl
        go_upto_region 13 with fail
        refine wq_region (by kernel_rfl) (by kernel_rfl) ?_
        repeat (first | (refine wq_step (fun K hK => ?_); go_simp; first | (refine hK _ ?_; clear hK K) | (apply Exists.intro; refine ⟨fun _ => ?_, hK _ ?_⟩; (first | (go_at_call 116; exact Calls.regrown_of (A3.out _ (below_regrown _ _ _))) | (go_at_call 118; exact Calls.regrown_of (A4.out _ (below_regrown _ _ _))) | (go_at_call 120; exact Calls.regrown_of (A5.out _ (below_regrown _ _ _))) | (go_at_call 122; exact Calls.regrown_of (A6.out _ (below_regrown _ _ _)))); clear hK K)))
        refine wq_nil ?_
        intro _ hw'
        obtain ⟨⟨dq, osq⟩, hw''⟩ := hw'
        subst hw''
        have S9 := HS9.out
        have b9 := below_regrown wr dq osq
        go_wp2
        go_ret
        exact ⟨ret_bool HX.out.symm, S9.v.below b9, fun i h1 h2 => (S9.m i h1 h2).below b9, S9.b.trans (But.of vB b9), S9.lo⟩
       ·cases b6
        ·have HX : Hid (b = false) := by unfold Hid; rw [HB.out]; rfl
         go_upto_region 13 with fail
         refine wq_region (by kernel_rfl) (by kernel_rfl) ?_
         repeat (first | (refine wq_step (fun K hK => ?_); go_simp; first | (refine hK _ ?_; clear hK K) | (apply Exists.intro; refine ⟨fun _ => ?_, hK _ ?_⟩; (first | (go_at_call 116; exact Calls.regrown_of (A3.out _ (below_regrown _ _ _))) | (go_at_call 118; exact Calls.regrown_of (A4.out _ (below_regrown _ _ _))) | (go_at_call 120; exact Calls.regrown_of (A5.out _ (below_regrown _ _ _))) | (go_at_call 122; exact Calls.regrown_of (A6.out _ (below_regrown _ _ _)))); clear hK K)))
         refine wq_nil ?_
         intro _ hw'
         obtain ⟨⟨dq, osq⟩, hw''⟩ := hw'
         subst hw''
         have S9 := HS9.out
         have b9 := below_regrown wr dq osq
         go_wp2
         go_ret
         exact ⟨ret_bool HX.out.symm, S9.v.below b9, fun i h1 h2 => (S9.m i h1 h2).below b9, S9.b.trans (But.of vB b9), S9.lo⟩
        ·have HX : Hid (b = true) := by unfold Hid; rw [HB.out]; rfl
         go_upto_region 13 with fail
         refine wq_region (by kernel_rfl) (by kernel_rfl) ?_
         repeat (first | (refine wq_step (fun K hK => ?_); go_simp; first | (refine hK _ ?_; clear hK K) | (apply Exists.intro; refine ⟨fun _ => ?_, hK _ ?_⟩; (first | (go_at_call 116; exact Calls.regrown_of (A3.out _ (below_regrown _ _ _))) | (go_at_call 118; exact Calls.regrown_of (A4.out _ (below_regrown _ _ _))) | (go_at_call 120; exact Calls.regrown_of (A5.out _ (below_regrown _ _ _))) | (go_at_call 122; exact Calls.regrown_of (A6.out _ (below_regrown _ _ _)))); clear hK K)))
         refine wq_nil ?_
         intro _ hw'
         obtain ⟨⟨dq, osq⟩, hw''⟩ := hw'
         subst hw''
         have S9 := HS9.out
         have b9 := below_regrown wr dq osq
         go_wp2
         go_ret
         exact ⟨ret_bool HX.out.symm, S9.v.below b9, fun i h1 h2 => (S9.m i h1 h2).below b9, S9.b.trans (But.of vB b9), S9.lo⟩

end Go.Proofs.YtigpbjcmmgdiaaaGreat
/-
 Whether each frame has as many words as its original says, by the program. Conditions: the view lies in memory, with the map of the originals of frames.
-/
namespace Go.Proofs.YtigpbjcmmgdiaaaGreat
open Go.ChangeShapes Go.WideShapes Go.ChangeAt Go.RowKit
set_option linter.unusedVariables false

theorem frame_objR {bits : Int} {L : List Sl} (S : Sound bits L) {f : QF} (hm : ∃ s ∈ L, s.o = true ∧ s.k = 6 ∧ s.e = f.ad) : ∃ (y : Nat) (hy : y < L.length), objR L 6 L.length f.ad = some (y : Int) ∧ frameOkB L f = (((f.l.length : Nat) : Int) == szI 6 L[y].b) := by
 have h1 := (objR_some (L := L) (kd := 6) (x := f.ad) (k := L.length) (Nat.le_refl _)).2 (by
  obtain ⟨s, hs, a1, a2, a3⟩ := hm
  obtain ⟨j, hj, rfl⟩ := List.mem_iff_getElem.1 hs
  exact ⟨j, hj, hj, isObj_iff.2 ⟨a1, a2, a3⟩⟩)
 have key : ∀ k, k ≤ L.length → (objR L 6 k f.ad).isSome = true → ∃ (y : Nat) (hy : y < L.length), objR L 6 k f.ad = some (y : Int) ∧ isObj 6 f.ad L[y] = true := by
  intro k
  induction k with
  | zero => intro _ h; cases h
  | succ k ih =>
   intro hk h
   have hkl : k < L.length := by omega
   rw [objR_next hkl] at h ⊢
   by_cases e : isObj 6 f.ad L[k] = true
   ·rw [if_pos e]; exact ⟨k, hkl, rfl, e⟩
   ·rw [if_neg e] at h ⊢; exact ih (by omega) h
 obtain ⟨y, hy, e, hi⟩ := key _ (Nat.le_refl _) h1
 refine ⟨y, hy, e, ?_⟩
 unfold frameOkB
 cases hf : L.find? (isObj 6 f.ad) with
 | none => rw [List.find?_eq_none] at hf; exact absurd hi (hf _ (List.getElem_mem hy))
 | some s =>
  have hs := List.mem_of_find?_eq_some hf
  have hp := List.find?_some hf
  obtain ⟨j, hj, rfl⟩ := List.mem_iff_getElem.1 hs
  obtain ⟨a1, a2, a3⟩ := isObj_iff.1 hi
  obtain ⟨c1, c2, c3⟩ := isObj_iff.1 hp
  have := objs_one S hj hy c1 a1 (by omega) (by omega) (by omega)
  subst this; rfl
def frInv (w0 : World) (K : QK) (vB oB n : Nat) (fs : List Value) (w : World) (v : Value) (W : World) : Prop :=
 ∃ k : Nat, k ≤ K.fl.length ∧ v = .int .i64 (k : Int) ∧ (∀ i (hi : i < K.fl.length), i < k → frameOkB K.sl K.fl[i] = true) ∧ View w0 K vB fs W ∧ MapI W oB n (objR K.sl 6 K.sl.length) ∧ Below w.heap.size w W
set_option maxRecDepth 100000 in
set_option maxHeartbeats 16000000 in
theorem framesOk_any (w0 : World) (K : QK) (vB oB n : Nat) (fs : List Value) (w : World) (hs : K.Short) {bits : Int} (S : Sound bits K.sl) (hL : ListP K.sl 6 (K.fl.map QF.ad)) (h : View w0 K vB fs w) (hf : fs[11]? = some (.map (some oB))) (hm : MapI w oB n (objR K.sl 6 K.sl.length)) :
  Calls Tryz.prog 68 #[.pointer (some ⟨vB, 0, none⟩)] w fun e w' => e = .returned (.bool (K.fl.all (frameOkB K.sl))) ∧ Below w.heap.size w w' := by
 have hlenf := hs.f
 have hlens := hs.s
 have HFi : Hid (∀ x ∈ K.fl, x.l.length ≤ 1048576) := hs.fi
 have hbel := Below.refl w.heap.size w
 have HS : Hid (Sound bits K.sl) := S
 have HF : Hid (fs[11]? = some (.map (some oB))) := hf
 have HFr : Hid (∀ (k : Nat) (hk : k < K.fl.length), ∃ (y : Nat) (hy : y < K.sl.length), objR K.sl 6 K.sl.length K.fl[k].ad = some (y : Int) ∧ frameOkB K.sl K.fl[k] = (((K.fl[k].l.length : Nat) : Int) == szI 6 K.sl[y].b)) := fun k hk => frame_objR S ((hL.2 _).1 (List.mem_map_of_mem (List.getElem_mem hk)))
 have HNo : Hid (∀ (k : Nat) (hk : k < K.fl.length), frameOkB K.sl K.fl[k] = false → K.fl.all (frameOkB K.sl) = false) := fun k hk hx => by rw [List.all_eq_false]; exact ⟨_, List.getElem_mem hk, by simp [hx]⟩
 have HYes : Hid ((∀ i (hi : i < K.fl.length), frameOkB K.sl K.fl[i] = true) → K.fl.all (frameOkB K.sl) = true) := fun hx => by
  rw [List.all_eq_true]; intro s hs2
  obtain ⟨i, hi, rfl⟩ := List.mem_iff_getElem.1 hs2
  exact hx i hi
 have g6 := h.cf
 clear S hf hL hs
 go_enter Tryz.func68, Tryz.ntmps68
 go_wp2
 go_loopw [12] (fun v W => frInv w0 K vB oB n fs w v W) (fun v W => K.fl.length - (intOf v).toNat)
 case atStart => exact ⟨0, Nat.zero_le _, rfl, fun i hi h => absurd h (Nat.not_lt_zero _), h, hm, hbel⟩
 case round =>
  clear h hm hbel g6
  obtain ⟨k, hk, rfl, hno, hv, hm, hbl⟩ := hrel
  have HN : Hid _ := hno
  clear hno
  by_cases hlt : k < K.fl.length
  ·have hk1 : (k : Int) < (K.fl.length : Int) := by omega
   obtain ⟨y, hy, hob, hfr⟩ := HFr.out k hlt
   obtain ⟨f, hfl⟩ : ∃ f, K.fl[k] = f := ⟨_, rfl⟩
   obtain ⟨s, hsl⟩ : ∃ s, K.sl[y] = s := ⟨_, rfl⟩
   have HSlT := tree_ok HS.out.tree y hy
   rw [hsl] at HSlT
   have p := ok_parts HSlT.2.2.2
   have hfi := HFi.out f (by rw [← hfl]; exact List.getElem_mem hlt)
   rw [hfl] at hob hfr
   have HFR : Hid (frameOkB K.sl K.fl[k] = (((f.l.length : Nat) : Int) == szI 6 s.b)) := by unfold Hid; rw [hfl, hfr, hsl]
   have hrf := hv.b.f
   obtain ⟨Bf, Of, hPf⟩ := hrf.has hlt
   rw [hPf] at hrf
   have d0 := hrf.at hlt 0 _ rfl
   have d1 := hrf.at hlt 1 _ rfl
   simp only [fF, Nat.add_zero, hfl] at d0 d1
   have hixf : ∀ W, (Instr.indexAt 40 (.slice K.fP K.fl.length K.fc) (.int .i64 (k : Int))).run Tryz.prog W = .ok (.pointer (some ⟨Bf, Of + k * 2, none⟩)) W := fun W => by rw [hPf]; go_simp
   clear hPf hrf hfr
   have hfa : FitI f.ad := by
    obtain ⟨z1, z2⟩ : FitI f.ad := by
     have hz := (objR_some (L := K.sl) (kd := 6) (x := f.ad) (k := K.sl.length) (Nat.le_refl _)).1 (by rw [hob]; rfl)
     obtain ⟨j, hj, _, hij⟩ := hz
     obtain ⟨_, _, a3⟩ := isObj_iff.1 hij
     have pj := ok_parts (tree_ok HS.out.tree j hj).2.2.2
     exact ⟨by omega, by omega⟩
    exact ⟨z1, z2⟩
   go_upto_region 4 with fail
   clear d0 d1 hixf
   have b1 := (Below.refl wr.heap.size wr).alloc (Nat.le_refl _) (.cells #[.int .i64 f.ad, .slice f.P f.l.length f.c] 118)
   have v1 := hv.below b1
   have m1 := hm.below b1
   have l1 := hbl.trans (b1.mono hbl.size)
   have cx := Bx.newAt wr 118 [.int .i64 f.ad, .slice f.P f.l.length f.c] (c := wr.heap.size) rfl
   clear hv hm hbl b1
   generalize wr.alloc (.cells #[.int .i64 f.ad, .slice f.P f.l.length f.c] 118) = W1 at v1 m1 l1 cx ⊢
   generalize wr.heap.size = cB at cx ⊢
   have hrow := v1.b.s
   obtain ⟨B, O, hP⟩ := hrow.some hy
   rw [hP] at hrow
   have hcc := hrow.cells B O rfl y hy
   rw [hsl] at hcc
   have g2 := v1.cs
   rw [hP] at g2
   obtain ⟨c0, c1, c2, c3, c4, c5, c6, c7, c8, c9, c10⟩ := hcc
   have f11 := v1.snd 11 _ HF.out
   have y0 := cx.cell 0 _ rfl
   have hy1 : (y : Int) < (K.sl.length : Int) := by omega
   have hlk := (m1.below (Below.refl _ _).drew).look hfa
   rw [hob] at hlk
   have bZ := (Below.refl W1.heap.size W1).alloc (Nat.le_refl _) (.cells #[.int .i64 0, .int .i64 0, .int .i64 0, .int .i64 0, .int .i64 0, .int .i64 0, .int .i64 0, .int .i64 0, .bool false] 33)
   have hlkA := ((m1.below bZ).below (Below.refl _ _).drew).look hfa
   rw [hob] at hlkA
   have g2A := cellB g2 (.cells #[.int .i64 0, .int .i64 0, .int .i64 0, .int .i64 0, .int .i64 0, .int .i64 0, .int .i64 0, .int .i64 0, .bool false] 33); have f11A := cellB f11 (.cells #[.int .i64 0, .int .i64 0, .int .i64 0, .int .i64 0, .int .i64 0, .int .i64 0, .int .i64 0, .int .i64 0, .bool false] 33); have y0A := cellB y0 (.cells #[.int .i64 0, .int .i64 0, .int .i64 0, .int .i64 0, .int .i64 0, .int .i64 0, .int .i64 0, .int .i64 0, .bool false] 33); have c1A := cellB c1 (.cells #[.int .i64 0, .int .i64 0, .int .i64 0, .int .i64 0, .int .i64 0, .int .i64 0, .int .i64 0, .int .i64 0, .bool false] 33); have c2A := cellB c2 (.cells #[.int .i64 0, .int .i64 0, .int .i64 0, .int .i64 0, .int .i64 0, .int .i64 0, .int .i64 0, .int .i64 0, .bool false] 33); have c3A := cellB c3 (.cells #[.int .i64 0, .int .i64 0, .int .i64 0, .int .i64 0, .int .i64 0, .int .i64 0, .int .i64 0, .int .i64 0, .bool false] 33); have c4A := cellB c4 (.cells #[.int .i64 0, .int .i64 0, .int .i64 0, .int .i64 0, .int .i64 0, .int .i64 0, .int .i64 0, .int .i64 0, .bool false] 33); have c5A := cellB c5 (.cells #[.int .i64 0, .int .i64 0, .int .i64 0, .int .i64 0, .int .i64 0, .int .i64 0, .int .i64 0, .int .i64 0, .bool false] 33); have c6A := cellB c6 (.cells #[.int .i64 0, .int .i64 0, .int .i64 0, .int .i64 0, .int .i64 0, .int .i64 0, .int .i64 0, .int .i64 0, .bool false] 33); have c7A := cellB c7 (.cells #[.int .i64 0, .int .i64 0, .int .i64 0, .int .i64 0, .int .i64 0, .int .i64 0, .int .i64 0, .int .i64 0, .bool false] 33); have c8A := cellB c8 (.cells #[.int .i64 0, .int .i64 0, .int .i64 0, .int .i64 0, .int .i64 0, .int .i64 0, .int .i64 0, .int .i64 0, .bool false] 33); have c9A := cellB c9 (.cells #[.int .i64 0, .int .i64 0, .int .i64 0, .int .i64 0, .int .i64 0, .int .i64 0, .int .i64 0, .int .i64 0, .bool false] 33)
   clear hP hrow hsl hfl bZ hob
   go_region
   all_goals go_upto_region 5 with fail
   all_goals (
    have bA := (Below.refl W1.heap.size W1).alloc (Nat.le_refl _) (.cells #[.int .i64 s.k, .int .i64 s.e, .int .i64 s.b, .int .i64 s.r, .int .i64 s.d, .int .i64 s.g, .int .i64 s.q, .int .i64 s.f, .bool s.o] 33)
    have v2 := (v1.below bA).drew
    have m2 := (m1.below bA).below (Below.refl _ _).drew
    have l2 := (l1.trans (bA.mono l1.size)).drew
    have cx2 := (cx.alloc (.cells #[.int .i64 s.k, .int .i64 s.e, .int .i64 s.b, .int .i64 s.r, .int .i64 s.d, .int .i64 s.g, .int .i64 s.q, .int .i64 s.f, .bool s.o] 33)).drew
    have ck2 := (Bx.newAt W1 33 [.int .i64 s.k, .int .i64 s.e, .int .i64 s.b, .int .i64 s.r, .int .i64 s.d, .int .i64 s.g, .int .i64 s.q, .int .i64 s.f, .bool s.o] (c := W1.heap.size) rfl).drew
    clear v1 m1 l1 cx bA g2 f11 y0 c0 c1 c2 c3 c4 c5 c6 c7 c8 c9 c10 hlk hlkA g2A f11A y0A c1A c2A c3A c4A c5A c6A c7A c8A c9A
    generalize (W1.alloc (.cells #[.int .i64 s.k, .int .i64 s.e, .int .i64 s.b, .int .i64 s.r, .int .i64 s.d, .int .i64 s.g, .int .i64 s.q, .int .i64 s.f, .bool s.o] 33)).drew = W2 at v2 m2 l2 cx2 ck2 ⊢
    have y1 := cell_regrown (cx2.cell 1 _ rfl)
    have k2 := cell_regrown (ck2.cell 2 _ rfl)
    have HSz0 := fun W => sizeKind_any 6 s.b W
    obtain ⟨sz, hsz⟩ : ∃ sz, szI 6 s.b = sz := ⟨_, rfl⟩
    rw [hsz] at HSz0 HFR
    have HSz : Hid _ := HSz0
    clear HSz0 hsz cx2 ck2
    cases hee : (((f.l.length : Nat) : Int) == sz)
    ·have hee2 : (((f.l.length : Nat) : Int) != sz) = true := by rw [bne, hee]; rfl
     have HX : Hid (frameOkB K.sl K.fl[k] = false) := by unfold Hid; rw [HFR.out, hee]
     refine wq_region (by kernel_rfl) (by kernel_rfl) ?_
     repeat (first | (refine wq_step (fun K9 hK => ?_); go_simp; first | (refine hK _ ?_; clear hK K9) | (apply Exists.intro; refine ⟨fun _ => ?_, hK _ ?_⟩; (first | (go_at_call 124; exact Calls.regrown_of (HSz.out _))); clear hK K9)))
     refine wq_nil ?_
     intro _ hw'
     obtain ⟨⟨dq, osq⟩, hw''⟩ := hw'
     subst hw''
     have b9 := below_regrown W2 dq osq
     go_wp2
     go_ret
     exact ⟨ret_bool (HNo.out k hlt HX.out).symm, l2.trans (b9.mono l2.size)⟩
    ·have hee2 : (((f.l.length : Nat) : Int) != sz) = false := by rw [bne, hee]; rfl
     have HX : Hid (frameOkB K.sl K.fl[k] = true) := by unfold Hid; rw [HFR.out, hee]
     refine wq_region (by kernel_rfl) (by kernel_rfl) ?_
     repeat (first | (refine wq_step (fun K9 hK => ?_); go_simp; first | (refine hK _ ?_; clear hK K9) | (apply Exists.intro; refine ⟨fun _ => ?_, hK _ ?_⟩; (first | (go_at_call 124; exact Calls.regrown_of (HSz.out _))); clear hK K9)))
     refine wq_nil ?_
     intro _ hw'
     obtain ⟨⟨dq, osq⟩, hw''⟩ := hw'
     subst hw''
     have b9 := below_regrown W2 dq osq
     go_wp2
     go_roundw
     case rel => exact ⟨k + 1, by omega, by go_num, fun i hi h => by by_cases e : i = k; subst e; exact HX.out; exact HN.out i hi (by omega), v2.below b9, m2.below b9, l2.trans (b9.mono l2.size)⟩
     case measure => simp [intOf]; omega)
  ·have hk1 : ¬ (k : Int) < (K.fl.length : Int) := by omega
   go_wp2
   go_ret
   exact ⟨ret_bool (HYes.out (fun i hi => HN.out i hi (by omega))).symm, hbl⟩

end Go.Proofs.YtigpbjcmmgdiaaaGreat
