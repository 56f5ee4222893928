/-
  A text cut at its spaces, as the specification does it.
-/
import Derived.Test.YthmambhagheocaaGreatDoorReadImpP
import Derived.Test.YthmambhagheocaaGreatDoorOwnG
import Derived.Test.YthmambhagheocaaGreatDoorBx
import Derived.WalkSmall
import Derived.Handy
import Derived.Laws.IdiomStrings
import Derived.Lib.Split
import Derived.Deep.AppendLies
namespace Go.Proofs.YthmambhagheocaaGreatDoor
open Go.ChangeShapes Go.WideShapes Go.ChangeAt Go.RowKit
set_option linter.unusedVariables false

/-- A text in a cell. -/
def fS : Form (List UInt8) := ⟨1, fun l => [.string ⟨l.toArray⟩], fun _ => rfl, by decide⟩
theorem atFS {W : World} {B O : Nat} {L : List (List UInt8)} (h : LiesG fS W (some ⟨B, O, none⟩) L) {k : Nat} (hk : k < L.length) : W.cell? ⟨B, O + k, none⟩ = some (.string ⟨L[k].toArray⟩) := by
  have := h.at hk 0 _ rfl; simpa [fS] using this
theorem infoS : (Tryz.prog.info? 9).map (fun i => (i.zero, i.size, i.bytes)) = some (some (.string ⟨#[]⟩), 1, 16) := by kernel_rfl

/-- What is left of a text from a place on has been looked at so far. -/
def CutI (s : List UInt8) (P : List (List UInt8)) (fr k : Nat) : Prop :=
  if k ≤ s.length then fr ≤ k ∧ cutL s = P ++ cutL (s.drop fr) ∧ ∀ x ∈ (s.drop fr).take (k - fr), x ≠ 32 else P = cutL s
theorem CutI.start (s : List UInt8) : CutI s [] 0 0 := by
  unfold CutI; rw [if_pos (Nat.zero_le _)]; exact ⟨Nat.le_refl _, by simp, by simp⟩
theorem CutI.miss {s : List UInt8} {P : List (List UInt8)} {fr k : Nat} (h : CutI s P fr k) (hk : k < s.length) (hx : s[k] ≠ 32) : CutI s P fr (k + 1) := by
  unfold CutI at *
  rw [if_pos (by omega)] at h ⊢
  refine ⟨by omega, h.2.1, ?_⟩
  intro x hm
  have e : k + 1 - fr = (k - fr) + 1 := by omega
  rw [e, List.take_succ_eq_append_getElem (by simp; omega)] at hm
  rcases List.mem_append.1 hm with hm | hm
  · exact h.2.2 x hm
  · rw [List.mem_singleton.1 hm, List.getElem_drop]
    have : fr + (k - fr) = k := by omega
    simp only [this]; exact hx
theorem CutI.hit {s : List UInt8} {P : List (List UInt8)} {fr k : Nat} (h : CutI s P fr k) (hk : k < s.length) (hx : s[k] = 32) : CutI s (P ++ [(s.drop fr).take (k - fr)]) (k + 1) (k + 1) := by
  unfold CutI at *
  rw [if_pos (by omega)] at h ⊢
  obtain ⟨h1, h2, h3⟩ := h
  refine ⟨Nat.le_refl _, ?_, by simp⟩
  have e : s.drop fr = (s.drop fr).take (k - fr) ++ 32 :: s.drop (k + 1) := by
    have a1 : (s.drop fr).drop (k - fr) = s.drop k := by rw [List.drop_drop]; congr 1; omega
    have a2 : s.drop k = s[k] :: s.drop (k + 1) := List.drop_eq_getElem_cons hk
    rw [hx] at a2
    rw [← a2, ← a1, List.take_append_drop]
  rw [h2, List.append_assoc]
  congr 1
  conv => lhs; rw [e]
  rw [cutL_first _ _ h3]
  rfl
theorem CutI.last {s : List UInt8} {P : List (List UInt8)} {fr : Nat} (h : CutI s P fr s.length) : P ++ [(s.drop fr).take (s.length - fr)] = cutL s := by
  unfold CutI at h
  rw [if_pos (Nat.le_refl _)] at h
  obtain ⟨h1, h2, h3⟩ := h
  have e : (s.drop fr).take (s.length - fr) = s.drop fr := List.take_of_length_le (by simp)
  rw [e] at h3 ⊢
  rw [h2, cutL_last _ h3]

theorem extract_list (s : List UInt8) (a b : Nat) : (⟨s.toArray⟩ : ByteArray).extract a b = ⟨((s.drop a).take (b - a)).toArray⟩ := by
  apply ByteArray.ext
  rw [ByteArray.data_extract]
  apply Array.ext'
  simp

structure CutW (w : World) (s : List UInt8) (out from_ i : Value) (w' : World) (fr k : Nat) (P : List (List UInt8)) : Prop where
  h1 : from_ = .int .i64 fr
  h2 : i = .int .i64 k
  kl : k ≤ s.length + 1
  fl : fr ≤ s.length + 1
  own : OwnG fS 9 w' w.heap.size out P
  bw : Below w.heap.size w w'
  pl : P.length ≤ k
  inv : CutI s P fr k

set_option maxRecDepth 100000 in
set_option maxHeartbeats 4000000 in
theorem cutS_any (s : List UInt8) (w : World) (hl : s.length ≤ 100) :
    Calls Tryz.prog 59 #[.string ⟨s.toArray⟩, .int .u8 32] w fun e w' => ∃ v, e = .returned v ∧ OwnG fS 9 w' w.heap.size v (cutL s) ∧ Below w.heap.size w w' := by
  obtain ⟨i0, hi0, hzz⟩ := Option.map_eq_some_iff.1 infoS
  simp only [Prod.mk.injEq] at hzz
  obtain ⟨hy1, hs0, hy0⟩ := hzz
  have hsz : (⟨s.toArray⟩ : ByteArray).size = s.length := by simp [ByteArray.size]
  go_enter Tryz.func59, Tryz.ntmps59
  go_wp2
  go_loopw [5, 6, 7] (fun out from_ i w' => ∃ fr k P, CutW w s out from_ i w' fr k P) (fun out from_ i w' => s.length + 1 - (intOf i).toNat)
  case atStart =>
    exact ⟨0, 0, [], rfl, rfl, by omega, by omega, OwnG.made fS 9 w w.heap.size #[] 0 (Nat.le_refl _) (Nat.zero_le _) rfl, (Below.refl _ _).alloc (Nat.le_refl _) _, Nat.le_refl _, CutI.start s⟩
  case round =>
    obtain ⟨fr, k, P, rfl, rfl, kl, fl, own, bw, pl, inv⟩ := hrel
    by_cases hlt : k < s.length
    · have hks : k < (⟨s.toArray⟩ : ByteArray).size := by rw [hsz]; exact hlt
      have hbyte : (⟨s.toArray⟩ : ByteArray)[k] = s[k] := by show s.toArray[k] = s[k]; simp
      have hkl : ((k : Int) == (s.length : Int)) = false := by simp; omega
      by_cases hx : s[k] = 32
      · have h32 : (((⟨s.toArray⟩ : ByteArray)[k].toNat : Int) == 32) = true := by rw [hbyte, hx]; rfl
        have hf1 : fr ≤ k := by unfold CutI at inv; rw [if_pos (by omega)] at inv; exact inv.1
        have inv2 := inv.hit hlt hx
        have HE := extract_list s
        obtain ⟨Q, cap, rfl, _⟩ := own.form
        go_upto_region 7 with fail
        have hown : (wr.alloc (.cells #[.string ⟨((s.drop fr).take (k - fr)).toArray⟩] 9)).ownsRow w.heap.size 9 1 (.slice Q P.length cap) P.length (cellsG fS P) := own.below ((Below.refl _ wr).alloc (Nat.le_refl _) _)
        have hbs := bw.size
        go_wp2_with ((at_builtin; go_loud (refine wpList_append_own _ rfl _ _ 46 rfl w.heap.size 9 i0 (.string ⟨#[]⟩) 1 16 Tryz.underlying46 hi0 hy1 hs0 hy0 rfl (by decide) (.slice Q P.length cap) P.length (cellsG fS P) rfl hown ⟨wr.heap.size, 0, none⟩ 1 1 (fS.cel ((s.drop fr).take (k - fr))) rfl rfl (newsG (F := fS) _ 9) (by simp [fS, Value.oneCell']) (by unfold maxLen; omega) (by omega) (by simp; omega) ?_; intro v2 w5 own2 gr2 _; obtain ⟨g3, cap3, rfl⟩ := own_some own2 (by omega))))
        have bA : Below w.heap.size w (wr.alloc (.cells #[.string ⟨((s.drop fr).take (k - fr)).toArray⟩] 9)) := bw.alloc bw.size _
        go_roundw
        case rel => exact ⟨k + 1, k + 1, P ++ [(s.drop fr).take (k - fr)], by go_num, by go_num, by omega, by omega, OwnG.snoc (F := fS) _ rfl own2, bA.trans ((Below.refl _ _).grown gr2 (by simp; omega) (fun k e => (World.ownsRow.lt hown k e).1)), by simp; omega, inv2⟩
        case measure => first | (simp [intOf]; omega) | simp [intOf]
      · have h32 : (((⟨s.toArray⟩ : ByteArray)[k].toNat : Int) == 32) = false := by
          rw [hbyte, beq_eq_false_iff_ne]; intro h; apply hx; apply UInt8.toNat_inj.1; show s[k].toNat = 32; omega
        clear hbyte
        go_wp2
        go_roundw
        case rel => exact ⟨fr, k + 1, P, rfl, by go_num, by omega, fl, own, bw, by omega, inv.miss hlt hx⟩
        case measure => first | (simp [intOf]; omega) | simp [intOf]
    · by_cases he : k = s.length
      · subst he
        have hf1 : fr ≤ s.length := by unfold CutI at inv; rw [if_pos (by omega)] at inv; exact inv.1
        have inv2 := inv.last
        have HE := extract_list s
        obtain ⟨Q, cap, rfl, _⟩ := own.form
        go_upto_region 7 with fail
        have hown : (wr.alloc (.cells #[.string ⟨((s.drop fr).take (s.length - fr)).toArray⟩] 9)).ownsRow w.heap.size 9 1 (.slice Q P.length cap) P.length (cellsG fS P) := own.below ((Below.refl _ wr).alloc (Nat.le_refl _) _)
        have hbs := bw.size
        go_wp2_with ((at_builtin; go_loud (refine wpList_append_own _ rfl _ _ 46 rfl w.heap.size 9 i0 (.string ⟨#[]⟩) 1 16 Tryz.underlying46 hi0 hy1 hs0 hy0 rfl (by decide) (.slice Q P.length cap) P.length (cellsG fS P) rfl hown ⟨wr.heap.size, 0, none⟩ 1 1 (fS.cel ((s.drop fr).take (s.length - fr))) rfl rfl (newsG (F := fS) _ 9) (by simp [fS, Value.oneCell']) (by unfold maxLen; omega) (by omega) (by simp; omega) ?_; intro v2 w5 own2 gr2 _; obtain ⟨g3, cap3, rfl⟩ := own_some own2 (by omega))))
        have bA : Below w.heap.size w (wr.alloc (.cells #[.string ⟨((s.drop fr).take (s.length - fr)).toArray⟩] 9)) := bw.alloc bw.size _
        go_roundw
        case rel => exact ⟨s.length + 1, s.length + 1, P ++ [(s.drop fr).take (s.length - fr)], by go_num, by go_num, by omega, by omega, OwnG.snoc (F := fS) _ rfl own2, bA.trans ((Below.refl _ _).grown gr2 (by simp; omega) (fun k e => (World.ownsRow.lt hown k e).1)), by simp; omega, by unfold CutI; rw [if_neg (by omega)]; exact inv2⟩
        case measure => first | (simp [intOf]; omega) | simp [intOf]
      · have e1 : P = cutL s := by unfold CutI at inv; rw [if_neg (by omega)] at inv; exact inv
        subst e1
        obtain ⟨Q, cap, rfl, _⟩ := own.form
        have hk1 : ¬ (k : Int) ≤ (s.length : Int) := by omega
        go_wp2
        go_ret
        exact ⟨_, rfl, own, bw⟩

end Go.Proofs.YthmambhagheocaaGreatDoor
