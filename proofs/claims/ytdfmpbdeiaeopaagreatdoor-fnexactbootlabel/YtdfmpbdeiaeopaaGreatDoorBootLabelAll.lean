/-
  Texts of the proof, put together: BootLabP, BootLabR, BigCells, OpIn, BootLabI, BootLabB, BootLabF, BootLabS, BootLabG, OpenPlan, BootLawOk, BootLawLab.
-/
import Derived.Test.YtdfmpbdeiaeopaaGreatDoorBootPlanB
import Derived.Test.YtdfmpbdeiaeopaaGreatDoorBootLay
import Derived.Test.YtdfmpbdeiaeopaaGreatDoorOkImpl
import Derived.Test.YtdfmpbdeiaeopaaGreatDoorBx
import Derived.Laws.Cells
import Derived.Test.YtdfmpbdeiaeopaaGreatDoorCore
import Derived.RangeFuncNested
import Derived.RangeFuncBound
import Derived.RangeFuncCalls
import Derived.RangeFuncLeaves
import Derived.RangeFuncFrom
import Derived.Shelf.Abstract
import Derived.Shelf.RegionOpen
import Derived.WalkKit
import Derived.OwnWalkIn
import Derived.TacticsInMore
import Derived.LoopNIn
import Derived.LoopIn
import Derived.Sort.QuietTacIn
import Derived.Sort.CutIn
import Derived.BigFrameIn
import Derived.Test.YtdfmpbdeiaeopaaGreatDoorBootOkBoth
import Derived.Test.YtdfmpbdeiaeopaaGreatDoorQuietFast
import Derived.Test.YtdfmpbdeiaeopaaGreatDoorBootPlan
import Derived.Test.YtdfmpbdeiaeopaaGreatDoorCapIn
import Derived.OpenShut
/-
  Whose a word is: the parts with their labels, as the specification lists them and as the program tells them one behind the other.
-/
namespace Go.Proofs.YtdfmpbdeiaeopaaGreatDoor
open Go.ChangeShapes Go.WideShapes Go.ChangeAt Go.RowKit
set_option linter.unusedVariables false

/-- The label of a word, by parts. -/
def labelA (a : Int) : List QA → Int
  | [] => 0
  | x :: A => if x.ad ≤ a ∧ a < x.ad + x.sz then x.lb else labelA a A

def hitA (a : Int) (x : QA) : Bool := decide (x.ad ≤ a ∧ a < x.ad + x.sz)
theorem labelA_hit {a : Int} {A : List QA} {k : Nat} (hk : k < A.length) (h : hitA a A[k] = true) : labelA a (A.drop k) = A[k].lb := by
  rw [List.drop_eq_getElem_cons hk, labelA, if_pos (by simpa [hitA] using h)]
theorem labelA_miss {a : Int} {A : List QA} {k : Nat} (hk : k < A.length) (h : hitA a A[k] = false) : labelA a (A.drop k) = labelA a (A.drop (k + 1)) := by
  rw [List.drop_eq_getElem_cons hk, labelA, if_neg (by simpa [hitA] using h)]

/-- The originals of all parts, with their labels. -/
def labsH (i : Nat) : List QH → List (Nat × QC)
  | [] => []
  | h :: H => (i + 1, ⟨2, h.n, 3⟩) :: (i + 1, ⟨3, h.t, 0⟩) :: (i + 1, ⟨1, h.r, h.b⟩) :: labsH (i + 1) H
def labsC (i : Nat) : List QC → List (Nat × QC)
  | [] => []
  | c :: C => (i + 1, c) :: labsC (i + 1) C
def labsOf (H : List QH) (C : List QC) : List (Nat × QC) := labsH 0 H ++ labsC H.length C
def pairA (x : Nat × QC) : QA := ⟨x.2.a, szI x.2.k x.2.b, (x.1 : Int)⟩

theorem labsH_append : ∀ (H E : List QH) (i : Nat), labsH i (H ++ E) = labsH i H ++ labsH (i + H.length) E
  | [], _, i => by simp [labsH]
  | h :: H, E, i => by simp only [List.cons_append, labsH, labsH_append H E, List.length_cons]; rw [show i + 1 + H.length = i + (H.length + 1) by omega]
theorem labsC_append : ∀ (H E : List QC) (i : Nat), labsC i (H ++ E) = labsC i H ++ labsC (i + H.length) E
  | [], _, i => by simp [labsC]
  | h :: H, E, i => by simp only [List.cons_append, labsC, labsC_append H E, List.length_cons]; rw [show i + 1 + H.length = i + (H.length + 1) by omega]
theorem labsH_length : ∀ (H : List QH) (i : Nat), (labsH i H).length = 3 * H.length
  | [], _ => rfl
  | h :: H, i => by simp only [labsH, List.length_cons, labsH_length H]; omega
theorem labsC_length : ∀ (H : List QC) (i : Nat), (labsC i H).length = H.length
  | [], _ => rfl
  | h :: H, i => by simp only [labsC, List.length_cons, labsC_length H]

theorem layP_H : ∀ (D : List QD) (i : Nat) (A : List QA), D.all domB = true → layP A (sizesS i D) = A ++ (labsH i (homesOf (lastE A) D)).map pairA
  | [], _, A, _ => by simp [sizesS, layP, homesOf, labsH]
  | d :: D, i, A, h => by
    simp only [List.all_cons, Bool.and_eq_true] at h
    have hb : withinB d.bt 5 8 = true := by have := h.1; simp only [domB, Bool.and_eq_true] at this; exact this.1
    have e23 : szI 2 3 = 32 := by decide
    have e30 : szI 3 0 = 32 := by decide
    simp only [sizesS, layP, layP_H D _ _ h.2, homesOf, labsH, List.map_cons, lastE_snoc, homeOf, pairA, szI_1 hb, nextD, layE, e23, e30]
    simp only [List.append_assoc, List.cons_append, List.nil_append]
theorem layP_K : ∀ (L : List LP) (i : Nat) (A : List QA), layP A (sizesK i L) = A ++ (labsC i (sharedOf (lastE A) L)).map pairA
  | [], _, A => by simp [sizesK, layP, sharedOf, labsC]
  | x :: L, i, A => by
    simp only [sizesK, layP, layP_K L, sharedOf, labsC, List.map_cons, lastE_snoc, pairA, layE]
    simp only [List.append_assoc, List.cons_append, List.nil_append]

theorem parts_labs (D : List QD) (L : List LP) (h : D.all domB = true) : partsS D L = (labsOf (homesOf 128 D) (sharedOf (endD 128 D) L)).map pairA := by
  unfold partsS labsOf
  rw [layP_K, lastE_lay, foldD D _ _ h, lastE_nil, layP_H D 0 [] h, lastE_nil, homesOf_length, List.map_append, List.nil_append]

/-- A label that is told, if there is one. -/
def labelL (a : Int) (X : List (Nat × QC)) : Int := labelA a (X.map pairA)
def hitL (a : Int) (x : Nat × QC) : Bool := hitA a (pairA x)
theorem labelL_miss (a : Int) : ∀ (X : List (Nat × QC)), (∀ x ∈ X, hitL a x = false) → labelL a X = 0
  | [], _ => rfl
  | x :: X, h => by
    have h1 := h x (List.mem_cons_self ..)
    have h2 := labelL_miss a X fun y hy => h y (List.mem_cons_of_mem _ hy)
    unfold labelL at *
    rw [List.map_cons, labelA, if_neg (by simpa [hitL, hitA] using h1)]
    exact h2
theorem labelL_hit (a : Int) : ∀ (X : List (Nat × QC)) (x : Nat × QC) (Y : List (Nat × QC)), (∀ y ∈ X, hitL a y = false) → hitL a x = true → labelL a (X ++ x :: Y) = (x.1 : Int)
  | [], x, Y, _, h => by
    unfold labelL
    rw [List.nil_append, List.map_cons, labelA, if_pos (by simpa [hitL, hitA] using h)]
    rfl
  | z :: X, x, Y, hm, h => by
    have h1 := hm z (List.mem_cons_self ..)
    have h2 := labelL_hit a X x Y (fun y hy => hm y (List.mem_cons_of_mem _ hy)) h
    unfold labelL at *
    rw [List.cons_append, List.map_cons, labelA, if_neg (by simpa [hitL, hitA] using h1)]
    exact h2

/-! ### Where the parts of a plan lie. -/
theorem up_fit (a s : Int) (ha : 0 ≤ a) (ha2 : a ≤ 4096) (hs : 0 < s) (hs2 : s ≤ 4096) : a ≤ upI a s ∧ upI a s ≤ a + s - 1 := by
  have h1 := Int.emod_nonneg a (show s ≠ 0 by omega)
  have h2 := Int.emod_lt_of_pos a hs
  unfold upI
  rw [if_pos (fineB_mk ⟨ha, hs, ha2, hs2⟩)]
  split <;> omega
theorem lay_step (a s : Int) (ha : 0 ≤ a) (ha2 : a ≤ 4096) (hs : 0 < s) (hs2 : s ≤ 4096) : a ≤ upI a s ∧ layE a s = upI a s + s ∧ layE a s ≤ a + 2 * s - 1 := by
  have := up_fit a s ha ha2 hs hs2
  unfold layE
  omega
theorem sizeI_8 {b : Int} (h : withinB b 5 8 = true) : 0 < sizeI b ∧ sizeI b ≤ 256 := by
  have hb : b = 5 ∨ b = 6 ∨ b = 7 ∨ b = 8 := by simp [withinB] at h; omega
  rcases hb with h | h | h | h <;> subst h <;> decide
theorem szI_kind {x : LP} (h : kindB x = true) : 4 ≤ x.1 ∧ x.1 ≤ 6 ∧ 0 < szI x.1 x.2.1 ∧ szI x.1 x.2.1 ≤ 64 := by
  simp only [kindB, Bool.and_eq_true, Bool.not_eq_true', beq_eq_false_iff_ne, ne_eq] at h
  obtain ⟨h1, h2⟩ := h
  have hk : 4 ≤ x.1 ∧ x.1 ≤ 6 := by simpa [withinB] using h1
  refine ⟨hk.1, hk.2, ?_, ?_⟩
  · have := szI_bound x.1 x.2.1; omega
  · have hk3 : x.1 = 4 ∨ x.1 = 5 ∨ x.1 = 6 := by omega
    rcases hk3 with e | e | e
    · rw [e]; simp [szI]; split <;> omega
    · rw [e]; simp [szI]; split <;> omega
    · rw [e]
      simp only [szI]
      simp
      split
      · next hb =>
        have hb7 : x.2.1 = 0 ∨ x.2.1 = 1 ∨ x.2.1 = 2 ∨ x.2.1 = 3 ∨ x.2.1 = 4 ∨ x.2.1 = 5 ∨ x.2.1 = 6 := by omega
        rcases hb7 with e | e | e | e | e | e | e <;> rw [e] <;> decide
      · omega
/-- A part lies in memory. -/
def LiesIn (x : QC) : Prop := 1 ≤ x.k ∧ x.k ≤ 6 ∧ 0 ≤ x.a ∧ 0 < szI x.k x.b ∧ x.a + szI x.k x.b ≤ 4096
theorem homes_in : ∀ (D : List QD) (a : Int) (i : Nat), D.all domB = true → 0 ≤ a → a + 637 * (D.length : Int) ≤ 4096 → (∀ x ∈ labsH i (homesOf a D), LiesIn x.2) ∧ a ≤ endD a D ∧ endD a D ≤ a + 637 * (D.length : Int)
  | [], a, i, _, h0, h1 => ⟨fun x hx => by simp [homesOf, labsH] at hx, Int.le_refl _, by simp [endD]⟩
  | d :: D, a, i, h, h0, h1 => by
    simp only [List.all_cons, Bool.and_eq_true] at h
    have hb : withinB d.bt 5 8 = true := by have := h.1; simp only [domB, Bool.and_eq_true] at this; exact this.1
    have hs := sizeI_8 hb
    have e1 := szI_1 hb
    rw [← e1] at hs
    simp only [List.length_cons, Int.natCast_add, Int.natCast_one] at h1
    have hd : 0 ≤ (D.length : Int) := Int.natCast_nonneg _
    have s1 := lay_step a 32 h0 (by omega) (by omega) (by omega)
    have s2 := lay_step (layE a 32) 32 (by omega) (by omega) (by omega) (by omega)
    have s3 := lay_step (layE (layE a 32) 32) (szI 1 d.bt) (by omega) (by omega) hs.1 (by omega)
    have ih := homes_in D (nextD a d) (i + 1) h.2 (by unfold nextD; omega) (by unfold nextD; omega)
    have e23 : szI 2 3 = 32 := by decide
    have e30 : szI 3 0 = 32 := by decide
    have he : endD a (d :: D) = endD (nextD a d) D := rfl
    refine ⟨?_, ?_, ?_⟩
    · intro x hx
      simp only [homesOf, labsH, List.mem_cons] at hx
      rcases hx with rfl | rfl | rfl | hx
      · exact ⟨by simp, by simp, by simp only [homeOf]; omega, by simp only [e23]; omega, by simp only [homeOf, e23]; omega⟩
      · exact ⟨by simp, by simp, by simp only [homeOf]; omega, by simp only [e30]; omega, by simp only [homeOf, e30]; omega⟩
      · exact ⟨by simp, by simp, by simp only [homeOf]; omega, by simp only [homeOf]; omega, by simp only [homeOf]; omega⟩
      · exact ih.1 x hx
    · rw [he]; have := ih.2.1; unfold nextD at this ⊢; omega
    · rw [he]; have := ih.2.2; unfold nextD at this ⊢; simp only [List.length_cons, Int.natCast_add, Int.natCast_one]; omega
theorem shared_in : ∀ (L : List LP) (a : Int) (i : Nat), L.all kindB = true → 0 ≤ a → a + 127 * (L.length : Int) ≤ 4096 → ∀ x ∈ labsC i (sharedOf a L), LiesIn x.2
  | [], a, i, _, h0, h1 => fun x hx => by simp [sharedOf, labsC] at hx
  | y :: L, a, i, h, h0, h1 => by
    simp only [List.all_cons, Bool.and_eq_true] at h
    have hs := szI_kind h.1
    simp only [List.length_cons, Int.natCast_add, Int.natCast_one] at h1
    have hd : 0 ≤ (L.length : Int) := Int.natCast_nonneg _
    have s1 := lay_step a (szI y.1 y.2.1) h0 (by omega) hs.2.2.1 (by omega)
    have ih := shared_in L (layE a (szI y.1 y.2.1)) (i + 1) h.2 (by omega) (by omega)
    intro x hx
    simp only [sharedOf, labsC, List.mem_cons] at hx
    rcases hx with rfl | hx
    · exact ⟨by simp only; omega, by simp only; omega, by simp only; omega, hs.2.2.1, by simp only; omega⟩
    · exact ih x hx
theorem all_kind {n : Int} {L : List LP} (h : L.all (linkB n) = true) : L.all kindB = true := by
  rw [List.all_eq_true] at h ⊢
  intro x hx
  have := h x hx
  simp only [linkB, Bool.and_eq_true] at this
  exact this.1
theorem plan_facts {p : Int × List QD × List LP} (h : planB p = true) : p.2.1.length ≤ 3 ∧ p.2.2.length ≤ 6 ∧ p.2.1.all domB = true ∧ p.2.2.all kindB = true := by
  have h2 := h
  unfold planB countB at h2
  simp only [Bool.and_eq_true, decide_eq_true_eq] at h2
  obtain ⟨⟨⟨⟨h1, h2⟩, h3⟩, ⟨⟨h4, h5, h6⟩, h7⟩⟩, h8⟩ := h2
  simp [withinB] at h1
  exact ⟨by omega, by omega, h5, all_kind h7⟩

end Go.Proofs.YtdfmpbdeiaeopaaGreatDoor
/-
  The words that a capability names, as a range; whether a word is one of them.
-/
namespace Go.Proofs.YtdfmpbdeiaeopaaGreatDoor
open Go.ChangeShapes Go.WideShapes Go.ChangeAt Go.RowKit
set_option linter.unusedVariables false

theorem rangeOf_b (a s : Int) (w : World) (h : fineB a s = true) :
    Calls Tryz.prog 51 #[.int .i64 a, .int .i64 s] w fun e w' => e = .returned (.agg #[.int .u32 a, .int .u32 s]) ∧ Below w.heap.size w w' :=
  (rangeOf_fine a s w h).mono fun e w' ⟨h1, h2⟩ => ⟨h1, by rw [h2]; exact (Below.refl _ _).alloc (Nat.le_refl _) _⟩

set_option maxRecDepth 100000 in
set_option maxHeartbeats 4000000 in
theorem capRange_any (k a b r d g q f : Int) (o : Bool) (w : World) (hk1 : 1 ≤ k) (hk7 : k ≤ 7) (hf : fineB a (spanI k b) = true) :
    Calls Tryz.prog 54 #[.agg #[.int .i64 k, .int .i64 a, .int .i64 b, .int .i64 r, .int .i64 d, .int .i64 g, .int .i64 q, .int .i64 f, .bool o]] w fun e w' => e = .returned (.agg #[.int .u32 a, .int .u32 (spanI k b)]) ∧ Below w.heap.size w w' := by
  obtain ⟨T, m, HK⟩ := isKind hk1 hk7
  have HS : Hid _ := fun W => span_is HK hk1 hk7 b W
  have hv := HK.val
  clear HK
  have HR : Hid _ := fun W => rangeOf_b a (spanI k b) W hf
  generalize spanI k b = s at *
  have x0 := (Bx.new w 75 [.int .i64 k, .int .i64 a, .int .i64 b, .int .i64 r, .int .i64 d, .int .i64 g, .int .i64 q, .int .i64 f, .bool o]).alloc (.cells #[.int .u32 0, .int .u32 0] 98)
  have y0 := Bx.newAt (w.alloc (.cells #[.int .i64 k, .int .i64 a, .int .i64 b, .int .i64 r, .int .i64 d, .int .i64 g, .int .i64 q, .int .i64 f, .bool o] 75)) 98 [.int .u32 0, .int .u32 0] (c := w.heap.size + 1) (by simp)
  have bw : Below w.heap.size w ((w.alloc (.cells #[.int .i64 k, .int .i64 a, .int .i64 b, .int .i64 r, .int .i64 d, .int .i64 g, .int .i64 q, .int .i64 f, .bool o] 75)).alloc (.cells #[.int .u32 0, .int .u32 0] 98)) := ((Below.refl _ _).alloc (Nat.le_refl _) _).alloc (by simp) _
  go_enter Tryz.func54, Tryz.ntmps54
  go_upto_region 1 with fail
  generalize hW0 : (w.alloc (.cells #[.int .i64 k, .int .i64 a, .int .i64 b, .int .i64 r, .int .i64 d, .int .i64 g, .int .i64 q, .int .i64 f, .bool o] 75)).alloc (.cells #[.int .u32 0, .int .u32 0] 98) = w0 at *
  clear hW0
  have s0 : (w0.cell? ⟨w.heap.size, 0, none⟩ = some (.int .i64 k) ∧ w0.cell? ⟨w.heap.size, 1, none⟩ = some (.int .i64 a) ∧ w0.cell? ⟨w.heap.size, 2, none⟩ = some (.int .i64 b)) := ⟨x0.cell 0 _ rfl, x0.cell 1 _ rfl, x0.cell 2 _ rfl⟩
  have s0d : (w0.drew.cell? ⟨w.heap.size, 0, none⟩ = some (.int .i64 k) ∧ w0.drew.cell? ⟨w.heap.size, 1, none⟩ = some (.int .i64 a) ∧ w0.drew.cell? ⟨w.heap.size, 2, none⟩ = some (.int .i64 b)) := ⟨x0.cell 0 _ rfl, x0.cell 1 _ rfl, x0.cell 2 _ rfl⟩
  go_region_held3 (fun w' => (w'.cell? ⟨w.heap.size, 0, none⟩ = some (.int .i64 k) ∧ w'.cell? ⟨w.heap.size, 1, none⟩ = some (.int .i64 a) ∧ w'.cell? ⟨w.heap.size, 2, none⟩ = some (.int .i64 b))) (first | exact s0 | exact s0d | exact s1 | exact s2 | (refine ⟨?_, ?_, ?_⟩ <;> (rw [World.cell?_setCell_far _ _ _ _ (by simp), World.cell?_setCell_far _ _ _ _ (by simp)]; first | exact s2.1 | exact s2.2.1 | exact s2.2.2)))
    (first
      | (go_at_call 95; refine Calls.mono (kindOf_any _ _) ?_; rw [hv]; rintro e w9 ⟨rfl, hw⟩; have hw := hw.symm; subst hw)
      | (go_at_call 94; refine Calls.mono (HS.out _) ?_; rintro e w1 ⟨rfl, hb1⟩; have x1 := x0.drew.below hb1; have y1 := y0.drew.below hb1; have s1 : (w1.cell? ⟨w.heap.size, 0, none⟩ = some (.int .i64 k) ∧ w1.cell? ⟨w.heap.size, 1, none⟩ = some (.int .i64 a) ∧ w1.cell? ⟨w.heap.size, 2, none⟩ = some (.int .i64 b)) := ⟨x1.cell 0 _ rfl, x1.cell 1 _ rfl, x1.cell 2 _ rfl⟩)
      | (go_at_call 51; refine Calls.mono (HR.out _) ?_; rintro e w2 ⟨rfl, hb2⟩; (first | (have x2 := x1.below hb2; have y2 := y1.below hb2) | (have x2 := x1.drew.below hb2; have y2 := y1.drew.below hb2)); have q0 := y2.cell 0 _ rfl; have q1 := y2.cell 1 _ rfl; have qz := y2.frozen; have s2 : (w2.cell? ⟨w.heap.size, 0, none⟩ = some (.int .i64 k) ∧ w2.cell? ⟨w.heap.size, 1, none⟩ = some (.int .i64 a) ∧ w2.cell? ⟨w.heap.size, 2, none⟩ = some (.int .i64 b)) := ⟨x2.cell 0 _ rfl, x2.cell 1 _ rfl, x2.cell 2 _ rfl⟩))
  all_goals go_wp2
  all_goals refine bodyPost_ret (v := .agg #[.int .u32 a, .int .u32 s]) (by simp [results, Tryz.results54, go_sem, q0, q1]) rfl ⟨rfl, ?_⟩
  all_goals have e1 : Below w.heap.size w w1 := (bw.trans ((Below.refl _ w0).drew.mono bw.size)).trans (hb1.mono bw.size)
  all_goals have e2 : Below w.heap.size w w2 := e1.trans (hb2.mono e1.size)
  all_goals exact (e2.setCell (p := ⟨w.heap.size + 1, 0, none⟩) (by simp) _).setCell (p := ⟨w.heap.size + 1, 1, none⟩) (by simp) _

end Go.Proofs.YtdfmpbdeiaeopaaGreatDoor
/-
  A home of 27 cells is read and laid at once.
-/
namespace Go.Proofs.YtdfmpbdeiaeopaaGreatDoor
open Go.ChangeShapes Go.WideShapes Go.ChangeAt Go.RowKit
set_option linter.unusedVariables false

theorem add_none (b o j : Nat) : Addr.add ⟨b, o, none⟩ j = ⟨b, o + j, none⟩ := by
  by_cases h : j = 0 <;> simp [Addr.add, h]

theorem storeCells_new (P : Program) (w : World) (T : TypeId) : ∀ (vs pre rest : List Value), rest.length = vs.length → (∀ v ∈ vs, v.oneCell' = true) →
    (storeCells ⟨w.heap.size, 0, none⟩ vs pre.length).run P (w.alloc (.cells (pre ++ rest).toArray T)) = .ok () (w.alloc (.cells (pre ++ vs).toArray T))
  | [], pre, rest, h, _ => by
    have : rest = [] := List.eq_nil_of_length_eq_zero h
    subst this
    simp [storeCells]
  | v :: vs, pre, [], h, _ => by simp at h
  | v :: vs, pre, r :: rest, h, hv => by
    have ih := storeCells_new P w T vs (pre ++ [v]) rest (by simpa using h) (fun x hx => hv x (List.mem_cons_of_mem _ hx))
    have hb := Bx.new w T (pre ++ r :: rest)
    have hc := hb.cell pre.length r (by simp)
    have hf := hb.frozen pre.length
    have hs : (w.alloc (.cells (pre ++ r :: rest).toArray T)).setCell ⟨w.heap.size, pre.length, none⟩ v = w.alloc (.cells ((pre ++ [v]) ++ rest).toArray T) := by
      rw [World.setCell_alloc_new]
      simp
    have ha : Addr.add ⟨w.heap.size, 0, none⟩ pre.length = ⟨w.heap.size, pre.length, none⟩ := by rw [add_none, Nat.zero_add]
    have h1 : (store (Addr.add ⟨w.heap.size, 0, none⟩ pre.length) v).run P (w.alloc (.cells (pre ++ r :: rest).toArray T)) = .ok () (w.alloc (.cells ((pre ++ [v]) ++ rest).toArray T)) := by
      rw [run_store _ _ _ _ _ (hv v (List.mem_cons_self ..)), ha, hc, hf, ← hs]
      rfl
    rw [List.length_append] at ih
    simp only [storeCells, Sem.run_bind, h1, Result.andThen]
    simpa using ih

def homeC (n t r b : Int) : List Value := [.int .i64 2, .int .i64 n, .int .i64 3, .int .i64 (maxI 2), .int .i64 0, .int .i64 0, .int .i64 0, .int .i64 0, .bool true, .int .i64 3, .int .i64 t, .int .i64 0, .int .i64 (maxI 3), .int .i64 0, .int .i64 0, .int .i64 0, .int .i64 0, .bool true, .int .i64 1, .int .i64 r, .int .i64 b, .int .i64 (maxI 1), .int .i64 0, .int .i64 0, .int .i64 0, .int .i64 0, .bool true]
theorem homeC_len (n t r b : Int) : (homeC n t r b).length = 27 := rfl
theorem isAgg_H (w : World) : (isAgg 77).run Tryz.prog w = .ok true w := by kernel_rfl
theorem sizeOf_H (w : World) : (sizeOf 77).run Tryz.prog w = .ok 27 w := by kernel_rfl

theorem homeLoad (n t r b : Int) (B o : Nat) (w : World) (h : ∀ j v, (homeC n t r b)[j]? = some v → w.cell? ⟨B, o + j, none⟩ = some v) :
    (Instr.loadAt 77 (.pointer (some ⟨B, o, none⟩))).run Tryz.prog w = .ok (.agg #[.int .i64 2, .int .i64 n, .int .i64 3, .int .i64 (maxI 2), .int .i64 0, .int .i64 0, .int .i64 0, .int .i64 0, .bool true, .int .i64 3, .int .i64 t, .int .i64 0, .int .i64 (maxI 3), .int .i64 0, .int .i64 0, .int .i64 0, .int .i64 0, .bool true, .int .i64 1, .int .i64 r, .int .i64 b, .int .i64 (maxI 1), .int .i64 0, .int .i64 0, .int .i64 0, .int .i64 0, .bool true]) w := by
  have h1 : (loadCells ⟨B, o, none⟩ 27).run Tryz.prog w = .ok (homeC n t r b).toArray w := by
    have := run_loadCells_list (P := Tryz.prog) w ⟨B, o, none⟩ (homeC n t r b) (fun j v hj => by rw [add_none]; exact h j v hj)
    rw [homeC_len] at this
    exact this
  simp only [Instr.loadAt, Instr.sureAddr, Sem.run_bind, Sem.run_pure, Result.andThen, loadVar, isAgg_H, sizeOf_H, h1, if_true]
  rfl

theorem homeStore (n t r b : Int) (w : World) :
    (Instr.storeAt 77 (.pointer (some ⟨w.heap.size, 0, none⟩)) (.agg #[.int .i64 2, .int .i64 n, .int .i64 3, .int .i64 (maxI 2), .int .i64 0, .int .i64 0, .int .i64 0, .int .i64 0, .bool true, .int .i64 3, .int .i64 t, .int .i64 0, .int .i64 (maxI 3), .int .i64 0, .int .i64 0, .int .i64 0, .int .i64 0, .bool true, .int .i64 1, .int .i64 r, .int .i64 b, .int .i64 (maxI 1), .int .i64 0, .int .i64 0, .int .i64 0, .int .i64 0, .bool true])).run Tryz.prog (w.alloc (.cells #[.int .i64 0, .int .i64 0, .int .i64 0, .int .i64 0, .int .i64 0, .int .i64 0, .int .i64 0, .int .i64 0, .bool false, .int .i64 0, .int .i64 0, .int .i64 0, .int .i64 0, .int .i64 0, .int .i64 0, .int .i64 0, .int .i64 0, .bool false, .int .i64 0, .int .i64 0, .int .i64 0, .int .i64 0, .int .i64 0, .int .i64 0, .int .i64 0, .int .i64 0, .bool false] 77)) = .ok () (w.alloc (.cells #[.int .i64 2, .int .i64 n, .int .i64 3, .int .i64 (maxI 2), .int .i64 0, .int .i64 0, .int .i64 0, .int .i64 0, .bool true, .int .i64 3, .int .i64 t, .int .i64 0, .int .i64 (maxI 3), .int .i64 0, .int .i64 0, .int .i64 0, .int .i64 0, .bool true, .int .i64 1, .int .i64 r, .int .i64 b, .int .i64 (maxI 1), .int .i64 0, .int .i64 0, .int .i64 0, .int .i64 0, .bool true] 77)) := by
  have h1 := storeCells_new Tryz.prog w 77 (homeC n t r b) [] [.int .i64 0, .int .i64 0, .int .i64 0, .int .i64 0, .int .i64 0, .int .i64 0, .int .i64 0, .int .i64 0, .bool false, .int .i64 0, .int .i64 0, .int .i64 0, .int .i64 0, .int .i64 0, .int .i64 0, .int .i64 0, .int .i64 0, .bool false, .int .i64 0, .int .i64 0, .int .i64 0, .int .i64 0, .int .i64 0, .int .i64 0, .int .i64 0, .int .i64 0, .bool false] rfl (by intro v hv; simp only [homeC, List.mem_cons, List.not_mem_nil, or_false] at hv; rcases hv with rfl | rfl | rfl | rfl | rfl | rfl | rfl | rfl | rfl | rfl | rfl | rfl | rfl | rfl | rfl | rfl | rfl | rfl | rfl | rfl | rfl | rfl | rfl | rfl | rfl | rfl | rfl <;> rfl)
  simp only [Instr.storeAt, Instr.sureAddr, Sem.run_bind, Sem.run_pure, Result.andThen, storeVar, sizeOf_H]
  exact h1

end Go.Proofs.YtdfmpbdeiaeopaaGreatDoor
/-
  A load and a store of many cells at once, inside a fence: one step each.
-/
namespace Go.Proofs.YtdfmpbdeiaeopaaGreatDoor
open Go.RowKit Go.Shelf
set_option linter.unusedVariables false

theorem load_in {F : Fence} {n : Nat} {P : Program} {T i ty : Nat} {dst : Option Tmp} {pos : String} {after : Array Edge} {a : Act} {w : World} {next : Act → World → Prop} {Q : Exit → Act → World → Prop} {ptr v : Value}
    (he : a.eval (.tmp i) = ptr) (h : (Instr.loadAt T ptr).run P w = .ok v w) (hk : next (a.put dst v) w) :
    ({ dst := dst, op := Op.load T (.tmp i), type := ty, pos := pos, after := after, guard := none } : Oper).wpIn F n P a w next Q := by
  refine ⟨fun f hf => by simp [Oper.about] at hf, ?_⟩
  rw [Oper.semAt_eq _ _ _ (by intro c; simp)]
  have e : (execOp a.eval { dst := dst, op := Op.load T (.tmp i), type := ty, pos := pos, after := after, guard := none }).run P w = .ok (.value v) w := by
    simp only [execOp, he, Sem.run_bind, Sem.run_pure, h, Result.andThen]
  rw [e]
  exact hk

theorem store_in {F : Fence} {n : Nat} {P : Program} {T i j ty : Nat} {dst : Option Tmp} {pos : String} {after : Array Edge} {a : Act} {w w' : World} {next : Act → World → Prop} {Q : Exit → Act → World → Prop} {ptr v : Value}
    (he : a.eval (.tmp i) = ptr) (hv : a.eval (.tmp j) = v) (h : (Instr.storeAt T ptr v).run P w = .ok () w') (hk : next (a.put dst undef) w') :
    ({ dst := dst, op := Op.store T (.tmp i) (.tmp j), type := ty, pos := pos, after := after, guard := none } : Oper).wpIn F n P a w next Q := by
  refine ⟨fun f hf => by simp [Oper.about] at hf, ?_⟩
  rw [Oper.semAt_eq _ _ _ (by intro c; simp)]
  have e : (execOp a.eval { dst := dst, op := Op.store T (.tmp i) (.tmp j), type := ty, pos := pos, after := after, guard := none }).run P w = .ok .skip w' := by
    simp only [execOp, he, hv, Sem.run_bind, Sem.run_pure, h, Result.andThen]
  rw [e]
  exact hk

end Go.Proofs.YtdfmpbdeiaeopaaGreatDoor
/-
  The parts with their labels, told one behind the other.
-/
namespace Go.Proofs.YtdfmpbdeiaeopaaGreatDoor
open Go.RowKit Go.Shelf
set_option linter.unusedVariables false

attribute [local go_sem] Oper.semAt_some

theorem atC {W : World} {B O : Nat} {L : List QC} (h : LiesG fC W (some ⟨B, O, none⟩) L) {k : Nat} (hk : k < L.length) : W.cell? ⟨B, O + k * 9, none⟩ = some (.int .i64 L[k].k) ∧ W.cell? ⟨B, O + k * 9 + 1, none⟩ = some (.int .i64 L[k].a) ∧ W.cell? ⟨B, O + k * 9 + 2, none⟩ = some (.int .i64 L[k].b) ∧ W.cell? ⟨B, O + k * 9 + 3, none⟩ = some (.int .i64 (maxI L[k].k)) ∧ W.cell? ⟨B, O + k * 9 + 4, none⟩ = some (.int .i64 0) ∧ W.cell? ⟨B, O + k * 9 + 5, none⟩ = some (.int .i64 0) ∧ W.cell? ⟨B, O + k * 9 + 6, none⟩ = some (.int .i64 0) ∧ W.cell? ⟨B, O + k * 9 + 7, none⟩ = some (.int .i64 0) ∧ W.cell? ⟨B, O + k * 9 + 8, none⟩ = some (.bool true) :=
  ⟨by have := h.at hk 0 _ rfl; simpa [fC, capL] using this, by have := h.at hk 1 _ rfl; simpa [fC, capL] using this, by have := h.at hk 2 _ rfl; simpa [fC, capL] using this, by have := h.at hk 3 _ rfl; simpa [fC, capL] using this, by have := h.at hk 4 _ rfl; simpa [fC, capL] using this, by have := h.at hk 5 _ rfl; simpa [fC, capL] using this, by have := h.at hk 6 _ rfl; simpa [fC, capL] using this, by have := h.at hk 7 _ rfl; simpa [fC, capL] using this, by have := h.at hk 8 _ rfl; simpa [fC, capL] using this⟩

/-- What was in a cell is there. -/
def Kc (A B : World) : Prop := ∀ p v, A.cell? p = some v → B.cell? p = some v
theorem Kc.trans {A B C : World} (h : Kc A B) (k : Kc B C) : Kc A C := fun p v e => k p v (h p v e)
theorem Kc.of {A B : World} (h : Below A.heap.size A B) : Kc A B := fun p v e => (h.cell (block_lt_of_cell e)).trans e
theorem Kc.put {n₀ : Nat} (W : World) (l : Nat) (o o' : Obj) (hl : n₀ ≤ l) (h : W.heap[l]? = some o) (h1 : o.isCells = false) (h2 : o.isWalk = false) : Kc W (W.putObj l o') :=
  fun p v e => cell_kept e (grownBy_putObj' W l o') (fun r e => by cases e; exact ⟨_, h, h1⟩)
theorem LiesG.kc {α : Type} {F : Form α} {W W' : World} {P : Option Addr} {L : List α} (h : LiesG F W P L) (k : Kc W W') : LiesG F W' P L :=
  ⟨h.place, fun B O e i hi j hj => by
    have h1 := h.cells B O e i hi j hj
    have h2 : j < (F.cel L[i]).length := by rw [F.len]; exact hj
    rw [List.getElem?_eq_getElem h2] at h1 ⊢
    exact k _ _ h1⟩

/-- The parts lie there. -/
structure LabK (W : World) (Bn : Nat) (vP uP : Option Addr) (vc uc : Nat) (H : List QH) (C : List QC) : Prop where
  b0 : W.cell? ⟨Bn, 0, none⟩ = some (.slice vP H.length vc)
  b1 : W.cell? ⟨Bn, 1, none⟩ = some (.slice uP C.length uc)
  h : LiesG fH W vP H
  c : LiesG fC W uP C
theorem LabK.kc {W W' : World} {Bn : Nat} {vP uP : Option Addr} {vc uc : Nat} {H : List QH} {C : List QC} (h : LabK W Bn vP uP vc uc H C) (k : Kc W W') : LabK W' Bn vP uP vc uc H C :=
  ⟨k _ _ h.b0, k _ _ h.b1, h.h.kc k, h.c.kc k⟩

/-- What is told of a part. -/
def tellV (x : Nat × QC) : Array Value := #[.int .i64 (x.1 : Int), .agg #[.int .i64 x.2.k, .int .i64 x.2.a, .int .i64 x.2.b, .int .i64 (maxI x.2.k), .int .i64 0, .int .i64 0, .int .i64 0, .int .i64 0, .bool true]]

theorem labs_cutH (H : List QH) (C : List QC) {k : Nat} (hk : k < H.length) : ∃ rest, labsOf H C = labsH 0 (H.take k) ++ (k + 1, ⟨2, H[k].n, 3⟩) :: (k + 1, ⟨3, H[k].t, 0⟩) :: (k + 1, ⟨1, H[k].r, H[k].b⟩) :: rest := by
  refine ⟨labsH (k + 1) (H.drop (k + 1)) ++ labsC H.length C, ?_⟩
  have e : H = H.take k ++ H[k] :: H.drop (k + 1) := by rw [← List.drop_eq_getElem_cons hk, List.take_append_drop]
  have ht : (H.take k).length = k := by simp; omega
  have : labsH 0 H = labsH 0 (H.take k) ++ labsH k (H[k] :: H.drop (k + 1)) := by
    conv => lhs; rw [e]
    rw [labsH_append, ht, Nat.zero_add]
  rw [labsOf, this, labsH]
  simp
theorem labs_takeH (H : List QH) {k : Nat} (hk : k < H.length) : labsH 0 (H.take (k + 1)) = labsH 0 (H.take k) ++ [(k + 1, ⟨2, H[k].n, 3⟩), (k + 1, ⟨3, H[k].t, 0⟩), (k + 1, ⟨1, H[k].r, H[k].b⟩)] := by
  have ht : (H.take k).length = k := by simp; omega
  rw [List.take_succ_eq_append_getElem hk, labsH_append, ht, Nat.zero_add]
  rfl
theorem labs_cutC (H : List QH) (C : List QC) {k : Nat} (hk : k < C.length) : ∃ rest, labsOf H C = labsH 0 H ++ labsC H.length (C.take k) ++ (H.length + k + 1, C[k]) :: rest := by
  refine ⟨labsC (H.length + k + 1) (C.drop (k + 1)), ?_⟩
  have e : C = C.take k ++ C[k] :: C.drop (k + 1) := by rw [← List.drop_eq_getElem_cons hk, List.take_append_drop]
  have ht : (C.take k).length = k := by simp; omega
  have : labsC H.length C = labsC H.length (C.take k) ++ labsC (H.length + k) (C[k] :: C.drop (k + 1)) := by
    conv => lhs; rw [e]
    rw [labsC_append, ht]
  rw [labsOf, this, labsC, List.append_assoc]
theorem labs_takeC (C : List QC) (i : Nat) {k : Nat} (hk : k < C.length) : labsC i (C.take (k + 1)) = labsC i (C.take k) ++ [(i + k + 1, C[k])] := by
  have ht : (C.take k).length = k := by simp; omega
  rw [List.take_succ_eq_append_getElem hk, labsC_append, ht]
  rfl

def labInv1 (Bn : Nat) (vP uP : Option Addr) (vc uc : Nat) (H : List QH) (C : List QC) (J : List (Nat × QC) → World → Prop) (lab i : Value) (wr : World) : Prop :=
  ∃ k : Nat, k ≤ H.length ∧ i = .int .i64 k ∧ lab = .int .i64 k ∧ LabK wr Bn vP uP vc uc H C ∧ J (labsH 0 (H.take k)) wr
def labInv2 (Bn : Nat) (vP uP : Option Addr) (vc uc : Nat) (H : List QH) (C : List QC) (J : List (Nat × QC) → World → Prop) (lab i : Value) (wr : World) : Prop :=
  ∃ k : Nat, k ≤ C.length ∧ i = .int .i64 k ∧ lab = .int .i64 ((H.length + k : Nat) : Int) ∧ LabK wr Bn vP uP vc uc H C ∧ J (labsH 0 H ++ labsC H.length (C.take k)) wr

theorem pre_of {α : Type} {X P R : List α} (h : X = P ++ R) : P <+: X := ⟨R, h.symm⟩

set_option maxRecDepth 100000 in
set_option maxHeartbeats 4000000 in
theorem labelled1_in (n : Nat) (hn : 1 ≤ n) (l Bn B0 : Nat) (vP uP : Option Addr) (vc uc : Nat) (H : List QH) (C : List QC) (hlH : H.length ≤ 1000) (hlC : C.length ≤ 1000) (J Jx : List (Nat × QC) → World → Prop) (hab : AbidesFrom B0 J)
    (hY : ∀ pre x W, J pre W → pre.length < (labsOf H C).length → x ∈ labsOf H C → YieldAt Fence.wide (n - 1) Tryz.prog l (tellV x) W fun e W' =>
      (e = .returned (.bool true) ∧ J (pre ++ [x]) W' ∧ Kc W W') ∨ (e = .returned (.bool false) ∧ Jx (pre ++ [x]) W'))
    (W : World) (hK : LabK W Bn vP uP vc uc H C) (h0 : J [] W) :
    CallsIn Fence.wide n Tryz.prog 91 #[.func (.yield l) #[] #[], .pointer (some ⟨Bn, 0, none⟩)] W fun e W' => (∃ v, e = .returned v) ∧
      ((∃ ys, ys = labsOf H C ∧ J ys W') ∨ (∃ pre, pre <+: labsOf H C ∧ Jx pre W')) := by
  have b0 := hK.b0
  refine callsIn_of_wp Tryz.func91 rfl trivial ?_ rfl
  simp only [Tryz.ntmps91, List.size_toArray, List.length_cons, List.length_nil, Nat.reduceAdd, Nat.reduceSub, Array.replicate_succ, Array.replicate_zero, List.push_toArray, List.append_toArray, List.nil_append, List.cons_append]
  gi_wp2
  gi_loopw [3, 11] (fun lab i wr => labInv1 Bn vP uP vc uc H C J lab i wr) (fun lab i wr => H.length - (intOf i).toNat)
  case atStart => exact ⟨0, Nat.zero_le _, rfl, rfl, hK, h0⟩
  case round =>
    clear b0 hK h0
    obtain ⟨k, hk, rfl, rfl, hK, hJ⟩ := hrel
    by_cases hlt : k < H.length
    · obtain ⟨B, O, rfl⟩ := hK.h.has hlt
      have HT : Hid _ := labs_takeH H hlt
      obtain ⟨rest, hcut⟩ := labs_cutH H C hlt
      have HC : Hid _ := hcut
      clear hcut
      have hload := homeLoad H[k].n H[k].t H[k].r H[k].b B (O + k * 27) wr (fun j v hj => hK.h.at hlt j v hj)
      generalize H[k] = h at hload HT HC
      obtain ⟨hn0, ht0, hr0, hb0⟩ := h
      simp only at hload
      have hstore := homeStore hn0 ht0 hr0 hb0 wr
      have hk1 : (k : Int) < (H.length : Int) := by omega
      gi_upto_region 3 with fail
      iterate 8 (first | refine load_in rfl hload ?_ | gi_step)
      gi_step
      refine store_in rfl rfl hstore ?_
      clear hload hstore
      have bx := Bx.new wr 77 [.int .i64 2, .int .i64 hn0, .int .i64 3, .int .i64 (maxI 2), .int .i64 0, .int .i64 0, .int .i64 0, .int .i64 0, .bool true, .int .i64 3, .int .i64 ht0, .int .i64 0, .int .i64 (maxI 3), .int .i64 0, .int .i64 0, .int .i64 0, .int .i64 0, .bool true, .int .i64 1, .int .i64 hr0, .int .i64 hb0, .int .i64 (maxI 1), .int .i64 0, .int .i64 0, .int .i64 0, .int .i64 0, .bool true]
      have hJ1 : J (labsH 0 (H.take k)) (wr.alloc (.cells #[.int .i64 2, .int .i64 hn0, .int .i64 3, .int .i64 (maxI 2), .int .i64 0, .int .i64 0, .int .i64 0, .int .i64 0, .bool true, .int .i64 3, .int .i64 ht0, .int .i64 0, .int .i64 (maxI 3), .int .i64 0, .int .i64 0, .int .i64 0, .int .i64 0, .bool true, .int .i64 1, .int .i64 hr0, .int .i64 hb0, .int .i64 (maxI 1), .int .i64 0, .int .i64 0, .int .i64 0, .int .i64 0, .bool true] 77)) := hab _ _ _ none hJ (World.grownBy_alloc _ _ none) (fun r e => by cases e)
      have kc1 : Kc wr (wr.alloc (.cells #[.int .i64 2, .int .i64 hn0, .int .i64 3, .int .i64 (maxI 2), .int .i64 0, .int .i64 0, .int .i64 0, .int .i64 0, .bool true, .int .i64 3, .int .i64 ht0, .int .i64 0, .int .i64 (maxI 3), .int .i64 0, .int .i64 0, .int .i64 0, .int .i64 0, .bool true, .int .i64 1, .int .i64 hr0, .int .i64 hb0, .int .i64 (maxI 1), .int .i64 0, .int .i64 0, .int .i64 0, .int .i64 0, .bool true] 77)) := Kc.of ((Below.refl _ _).alloc (Nat.le_refl _) _)
      generalize hW1 : wr.alloc (.cells #[.int .i64 2, .int .i64 hn0, .int .i64 3, .int .i64 (maxI 2), .int .i64 0, .int .i64 0, .int .i64 0, .int .i64 0, .bool true, .int .i64 3, .int .i64 ht0, .int .i64 0, .int .i64 (maxI 3), .int .i64 0, .int .i64 0, .int .i64 0, .int .i64 0, .bool true, .int .i64 1, .int .i64 hr0, .int .i64 hb0, .int .i64 (maxI 1), .int .i64 0, .int .i64 0, .int .i64 0, .int .i64 0, .bool true] 77) = W1 at hJ1 kc1 ⊢
      have bx1 : Bx W1 wr.heap.size 77 [.int .i64 2, .int .i64 hn0, .int .i64 3, .int .i64 (maxI 2), .int .i64 0, .int .i64 0, .int .i64 0, .int .i64 0, .bool true, .int .i64 3, .int .i64 ht0, .int .i64 0, .int .i64 (maxI 3), .int .i64 0, .int .i64 0, .int .i64 0, .int .i64 0, .bool true, .int .i64 1, .int .i64 hr0, .int .i64 hb0, .int .i64 (maxI 1), .int .i64 0, .int .i64 0, .int .i64 0, .int .i64 0, .bool true] := by rw [← hW1]; exact bx
      clear hW1 bx hJ
      have hK1 := hK.kc kc1
      clear hK kc1
      have ekk : ((k + 1 : Nat) : Int) = (k : Int) + 1 := by omega
      have g0 := bx1.cell 0 _ rfl; have g1 := bx1.cell 1 _ rfl; have g2 := bx1.cell 2 _ rfl; have g3 := bx1.cell 3 _ rfl; have g4 := bx1.cell 4 _ rfl; have g5 := bx1.cell 5 _ rfl; have g6 := bx1.cell 6 _ rfl; have g7 := bx1.cell 7 _ rfl; have g8 := bx1.cell 8 _ rfl
      obtain ⟨fn1, tmps1, assign1, body1, hy1, hR1⟩ := hY _ (k + 1, ⟨2, hn0, 3⟩) W1 hJ1 (by have := congrArg List.length HC.out; simp at this ⊢; omega) (by rw [HC.out]; simp)
      simp only [tellV, ekk] at hy1
      gi_wp2
      refine hR1.mono ?_
      rintro e W2 (⟨rfl, hJ2, kc2⟩ | ⟨rfl, hJx⟩)
      · clear g0 g1 g2 g3 g4 g5 g6 g7 g8 hy1
        have hK2 := hK1.kc kc2
        have g9 := kc2 _ _ (bx1.cell 9 _ rfl); have g10 := kc2 _ _ (bx1.cell 10 _ rfl); have g11 := kc2 _ _ (bx1.cell 11 _ rfl); have g12 := kc2 _ _ (bx1.cell 12 _ rfl); have g13 := kc2 _ _ (bx1.cell 13 _ rfl); have g14 := kc2 _ _ (bx1.cell 14 _ rfl); have g15 := kc2 _ _ (bx1.cell 15 _ rfl); have g16 := kc2 _ _ (bx1.cell 16 _ rfl); have g17 := kc2 _ _ (bx1.cell 17 _ rfl)
        obtain ⟨fn2, tmps2, assign2, body2, hy2, hR2⟩ := hY _ (k + 1, ⟨3, ht0, 0⟩) W2 hJ2 (by have := congrArg List.length HC.out; simp at this ⊢; omega) (by rw [HC.out]; simp)
        simp only [tellV, ekk] at hy2
        gi_wp2
        refine hR2.mono ?_
        rintro e W3 (⟨rfl, hJ3, kc3⟩ | ⟨rfl, hJx⟩)
        · clear g9 g10 g11 g12 g13 g14 g15 g16 g17 hy2
          have hK3 := hK2.kc kc3
          have g18 := kc3 _ _ (kc2 _ _ (bx1.cell 18 _ rfl)); have g19 := kc3 _ _ (kc2 _ _ (bx1.cell 19 _ rfl)); have g20 := kc3 _ _ (kc2 _ _ (bx1.cell 20 _ rfl)); have g21 := kc3 _ _ (kc2 _ _ (bx1.cell 21 _ rfl)); have g22 := kc3 _ _ (kc2 _ _ (bx1.cell 22 _ rfl)); have g23 := kc3 _ _ (kc2 _ _ (bx1.cell 23 _ rfl)); have g24 := kc3 _ _ (kc2 _ _ (bx1.cell 24 _ rfl)); have g25 := kc3 _ _ (kc2 _ _ (bx1.cell 25 _ rfl)); have g26 := kc3 _ _ (kc2 _ _ (bx1.cell 26 _ rfl))
          obtain ⟨fn3, tmps3, assign3, body3, hy3, hR3⟩ := hY _ (k + 1, ⟨1, hr0, hb0⟩) W3 hJ3 (by have := congrArg List.length HC.out; simp at this ⊢; omega) (by rw [HC.out]; simp)
          simp only [tellV, ekk] at hy3
          gi_wp2
          refine hR3.mono ?_
          rintro e W4 (⟨rfl, hJ4, kc4⟩ | ⟨rfl, hJx⟩)
          · clear g18 g19 g20 g21 g22 g23 g24 g25 g26 hy3
            have hK4 := hK3.kc kc4
            gi_wp2
            go_roundw
            case rel => exact ⟨k + 1, by omega, by go_num, by go_num, hK4, by rw [HT.out]; simpa using hJ4⟩
            case measure => simp [intOf]; omega
          · gi_wp2
            refine bodyPost_ret (results_none rfl _ _ _) rfl ?_
            exact ⟨⟨_, rfl⟩, .inr ⟨_, pre_of (R := rest) (by rw [HC.out]; simp), hJx⟩⟩
        · gi_wp2
          repeat (refine ⟨fun _ h => (by cases h), ?_⟩; gi_wp2)
          refine bodyPost_ret (results_none rfl _ _ _) rfl ?_
          exact ⟨⟨_, rfl⟩, .inr ⟨_, pre_of (R := (k + 1, ⟨1, hr0, hb0⟩) :: rest) (by rw [HC.out]; simp), hJx⟩⟩
      · gi_wp2
        repeat (refine ⟨fun _ h => (by cases h), ?_⟩; gi_wp2)
        refine bodyPost_ret (results_none rfl _ _ _) rfl ?_
        exact ⟨⟨_, rfl⟩, .inr ⟨_, pre_of (R := (k + 1, ⟨3, ht0, 0⟩) :: (k + 1, ⟨1, hr0, hb0⟩) :: rest) (by rw [HC.out]; simp), hJx⟩⟩
    · obtain rfl : k = H.length := by omega
      rw [List.take_length] at hJ
      have b1 := hK.b1
      have hJ0 : J (labsH 0 H ++ labsC H.length (C.take 0)) wr := by simpa [labsC] using hJ
      clear hJ
      gi_wp2
      gi_loopw [3, 43] (fun lab i wr => labInv2 Bn vP uP vc uc H C J lab i wr) (fun lab i wr => C.length - (intOf i).toNat)
      case atStart => exact ⟨0, Nat.zero_le _, rfl, rfl, hK, hJ0⟩
      case round =>
        clear b1 hK hJ0
        obtain ⟨m, hm, rfl, rfl, hK, hJ⟩ := hrel
        by_cases hlt2 : m < C.length
        · obtain ⟨B, O, rfl⟩ := hK.c.has hlt2
          have cc := atC hK.c hlt2
          have HT : Hid _ := labs_takeC C H.length hlt2
          obtain ⟨rest, hcut⟩ := labs_cutC H C hlt2
          have HC : Hid _ := hcut
          clear hcut
          generalize C[m] = c at cc HT HC
          obtain ⟨ck, ca, cb⟩ := c
          simp only at cc
          obtain ⟨c0, c1, c2, c3, c4, c5, c6, c7, c8⟩ := cc
          have hk1 : (m : Int) < (C.length : Int) := by omega
          gi_upto_region 11 with fail
          have bx := Bx.new wr 75 [.int .i64 ck, .int .i64 ca, .int .i64 cb, .int .i64 (maxI ck), .int .i64 0, .int .i64 0, .int .i64 0, .int .i64 0, .bool true]
          have hJ1 : J (labsH 0 H ++ labsC H.length (C.take m)) (wr.alloc (.cells #[.int .i64 ck, .int .i64 ca, .int .i64 cb, .int .i64 (maxI ck), .int .i64 0, .int .i64 0, .int .i64 0, .int .i64 0, .bool true] 75)) := hab _ _ _ none hJ (World.grownBy_alloc _ _ none) (fun r e => by cases e)
          have kc1 : Kc wr (wr.alloc (.cells #[.int .i64 ck, .int .i64 ca, .int .i64 cb, .int .i64 (maxI ck), .int .i64 0, .int .i64 0, .int .i64 0, .int .i64 0, .bool true] 75)) := Kc.of ((Below.refl _ _).alloc (Nat.le_refl _) _)
          generalize hW1 : wr.alloc (.cells #[.int .i64 ck, .int .i64 ca, .int .i64 cb, .int .i64 (maxI ck), .int .i64 0, .int .i64 0, .int .i64 0, .int .i64 0, .bool true] 75) = W1 at hJ1 kc1 ⊢
          have bx1 : Bx W1 wr.heap.size 75 [.int .i64 ck, .int .i64 ca, .int .i64 cb, .int .i64 (maxI ck), .int .i64 0, .int .i64 0, .int .i64 0, .int .i64 0, .bool true] := by rw [← hW1]; exact bx
          clear hW1 bx hJ c0 c1 c2 c3 c4 c5 c6 c7 c8
          have hK1 := hK.kc kc1
          clear hK kc1
          have ekk : ((H.length + m + 1 : Nat) : Int) = (H.length : Int) + (m : Int) + 1 := by omega
          have g0 := bx1.cell 0 _ rfl; have g1 := bx1.cell 1 _ rfl; have g2 := bx1.cell 2 _ rfl; have g3 := bx1.cell 3 _ rfl; have g4 := bx1.cell 4 _ rfl; have g5 := bx1.cell 5 _ rfl; have g6 := bx1.cell 6 _ rfl; have g7 := bx1.cell 7 _ rfl; have g8 := bx1.cell 8 _ rfl
          obtain ⟨fn1, tmps1, assign1, body1, hy1, hR1⟩ := hY _ (H.length + m + 1, ⟨ck, ca, cb⟩) W1 hJ1 (by have := congrArg List.length HC.out; simp at this ⊢; omega) (by rw [HC.out]; simp)
          simp only [tellV, ekk] at hy1
          gi_wp2
          refine hR1.mono ?_
          rintro e W2 (⟨rfl, hJ2, kc2⟩ | ⟨rfl, hJx⟩)
          · clear g0 g1 g2 g3 g4 g5 g6 g7 g8 hy1
            have hK2 := hK1.kc kc2
            gi_wp2
            go_roundw
            case rel => exact ⟨m + 1, by omega, by go_num, by go_num, hK2, by rw [HT.out]; simpa using hJ2⟩
            case measure => simp [intOf]; omega
          · gi_wp2
            refine bodyPost_ret (results_none rfl _ _ _) rfl ?_
            exact ⟨⟨_, rfl⟩, .inr ⟨_, pre_of (R := rest) (by rw [HC.out]; simp), hJx⟩⟩
        · obtain rfl : m = C.length := by omega
          rw [List.take_length] at hJ
          gi_wp2
          go_end0
          exact ⟨⟨_, rfl⟩, .inl ⟨_, rfl, hJ⟩⟩

end Go.Proofs.YtdfmpbdeiaeopaaGreatDoor
/-
  The label of a word, as the program finds it.
-/
namespace Go.Proofs.YtdfmpbdeiaeopaaGreatDoor
open Go.RowKit Go.Shelf
set_option linter.unusedVariables false

attribute [local go_sem] Oper.semAt_some

/-- One of the parts that are told. -/
abbrev Told (H : List QH) (C : List QC) := { x : Nat × QC // x ∈ labsOf H C }

theorem labelled_stops (n : Nat) (hn : 1 ≤ n) (Bn : Nat) (vP uP : Option Addr) (vc uc : Nat) (H : List QH) (C : List QC) (hlH : H.length ≤ 1000) (hlC : C.length ≤ 1000) (w : World) (hK : LabK w Bn vP uP vc uc H C) :
    SeqStopsK Fence.wide n Tryz.prog 91 #[.pointer (some ⟨Bn, 0, none⟩)] (fun x : Told H C => tellV x.1) Kc (fun ys => ys.map (·.1) = labsOf H C) (fun pre => pre.map (·.1) <+: labsOf H C) (labsOf H C).length w := by
  intro l J Jx W hW hab _ hY h0
  refine (labelled1_in n hn l Bn W.heap.size vP uP vc uc H C hlH hlC (fun pre W => ∃ pre' : List (Told H C), pre'.map (·.1) = pre ∧ J pre' W) (fun pre W => ∃ pre' : List (Told H C), pre'.map (·.1) = pre ∧ Jx pre' W)
    (fun s A B row hs hg hr => by obtain ⟨p', e, hj⟩ := hs; exact ⟨p', e, hab _ _ _ _ hj hg hr⟩) ?_ W (hK.kc (Kc.of hW)) ⟨[], rfl, h0⟩).mono ?_
  · rintro pre x W1 ⟨p', e, hj⟩ hlen hx
    refine (hY p' ⟨x, hx⟩ W1 hj (by rw [← e] at hlen; simpa using hlen)).mono ?_
    rintro e1 W2 (⟨h1, h2, h3⟩ | ⟨h1, h2⟩)
    · exact .inl ⟨h1, ⟨p' ++ [⟨x, hx⟩], by rw [List.map_append, e]; rfl, h2⟩, h3⟩
    · exact .inr ⟨h1, ⟨p' ++ [⟨x, hx⟩], by rw [List.map_append, e]; rfl, h2⟩⟩
  · rintro e1 W2 ⟨hv, (⟨ys, rfl, p', e, hj⟩ | ⟨pre, hp, p', e, hj⟩)⟩
    · exact ⟨hv, .inl ⟨p', e, hj⟩⟩
    · exact ⟨hv, .inr ⟨p', by show p'.map (·.1) <+: labsOf H C; rw [e]; exact hp, hj⟩⟩

set_option maxRecDepth 100000 in
set_option maxHeartbeats 1000000 in
theorem labelled_in (n : Nat) (vP uP : Option Addr) (vn vc un uc : Nat) (e0 : Int) (w : World) :
    CallsIn Fence.wide n Tryz.prog 52 #[.agg #[.slice vP vn vc, .slice uP un uc, .int .i64 e0]] w fun e w' => e = .returned (.func (.func 91) #[] #[.pointer (some ⟨w.heap.size, 0, none⟩)]) ∧ w' = w.alloc (.cells #[.slice vP vn vc, .slice uP un uc, .int .i64 e0] 68) := by
  refine callsIn_of_wp Tryz.func52 rfl trivial ?_ rfl
  simp only [Tryz.ntmps52, List.size_toArray, List.length_cons, List.length_nil, Nat.reduceAdd, Nat.reduceSub, Array.replicate_succ, Array.replicate_zero, List.push_toArray, List.append_toArray, List.nil_append, List.cons_append]
  gi_wp2
  go_ret
  exact ⟨rfl, rfl⟩

/-- A word as a range: none, if it is no word. -/
def wA (a : Int) : Int := if fineB a 1 = true then a else 0
def wS (a : Int) : Int := if fineB a 1 = true then 1 else 0

theorem rangeOf_word (a : Int) (w : World) :
    Calls Tryz.prog 51 #[.int .i64 a, .int .i64 1] w fun e w' => e = .returned (.agg #[.int .u32 (wA a), .int .u32 (wS a)]) ∧ Below w.heap.size w w' := by
  by_cases h : fineB a 1 = true
  · have := rangeOf_b a 1 w h
    simpa [wA, wS, h] using this
  · have h2 : fineB a 1 = false := by simpa using h
    refine (rangeOf_no a 1 w h2).mono fun e w' ⟨h1, h3⟩ => ⟨by rw [h1]; simp [wA, wS, h2], by rw [h3]; exact (Below.refl _ _).alloc (Nat.le_refl _) _⟩

theorem within_word (a : Int) (x : Nat × QC) (hx : LiesIn x.2) (w : World) :
    Calls Tryz.prog 53 #[.agg #[.int .u32 (wA a), .int .u32 (wS a)], .agg #[.int .u32 x.2.a, .int .u32 (szI x.2.k x.2.b)]] w fun e w' => e = .returned (.bool (hitL a x)) ∧ Below w.heap.size w w' := by
  obtain ⟨h1, h2, h3, h4, h5⟩ := hx
  by_cases h : fineB a 1 = true
  · have hf := fineB_true h
    have := withinM_any a 1 x.2.a (szI x.2.k x.2.b) w hf.1 (by omega) hf.2.2.1 (by omega) h3 (by omega) (by omega) (by omega)
    have e : hitL a x = decide (x.2.a ≤ a ∧ a + 1 ≤ x.2.a + szI x.2.k x.2.b) := by
      simp only [hitL, hitA, pairA]
      refine decide_eq_decide.2 ⟨?_, ?_⟩ <;> (rintro ⟨h6, h7⟩; constructor <;> omega)
    simp only [wA, wS, h, if_true]
    rw [e]
    exact this
  · have h6 : fineB a 1 = false := by simpa using h
    have hn : ¬ (0 ≤ a ∧ 0 < (1 : Int) ∧ a ≤ 4096 ∧ (1 : Int) ≤ 4096) := fun hh => h (fineB_mk hh)
    have e : hitL a x = false := by
      simp only [hitL, hitA, pairA]
      refine decide_eq_false ?_
      rintro ⟨h7, h8⟩
      exact hn ⟨by omega, by omega, by omega, by omega⟩
    rw [e]
    simp only [wA, wS, h6, Bool.false_eq_true, if_false]
    exact withinM_no _ _ w

theorem capRange_part (x : QC) (hx : LiesIn x) (w : World) :
    Calls Tryz.prog 54 #[.agg #[.int .i64 x.k, .int .i64 x.a, .int .i64 x.b, .int .i64 (maxI x.k), .int .i64 0, .int .i64 0, .int .i64 0, .int .i64 0, .bool true]] w fun e w' => e = .returned (.agg #[.int .u32 x.a, .int .u32 (szI x.k x.b)]) ∧ Below w.heap.size w w' := by
  obtain ⟨h1, h2, h3, h4, h5⟩ := hx
  have e : spanI x.k x.b = szI x.k x.b := by unfold spanI; rw [if_neg (by omega)]
  have := capRange_any x.k x.a x.b (maxI x.k) 0 0 0 0 true w h1 (by omega) (by rw [e]; exact fineB_mk ⟨h3, h4, by omega, by omega⟩)
  rw [e] at this
  exact this

end Go.Proofs.YtdfmpbdeiaeopaaGreatDoor
/-
  BootLabel of the program.
-/
namespace Go.Proofs.YtdfmpbdeiaeopaaGreatDoor
open Go.RowKit Go.Shelf
set_option linter.unusedVariables false

attribute [local go_sem] Oper.semAt_some

set_option maxRecDepth 100000 in
set_option maxHeartbeats 2000000 in
theorem labelI_no (bits : Int) (dP : Option Addr) (dc : Nat) (dl : List QD) (lP : Option Addr) (lc : Nat) (ll : List QL) (a : Int) (w : World) (e0 e1 e2 e3 e4 : Addr) (hS : Sents w e0 e1 e2 e3 e4) (hd0 : LiesG fD w dP dl) (hl0 : LiesG fL w lP ll) (hI : InL w ll) (hd : dl.length ≤ 1048576) (hl : ll.length ≤ 1048576) (hle : ∀ x ∈ ll, x.l.length ≤ 1048576) (hf : ∀ x ∈ ll, ∀ t ∈ x.l, -9223372036854775808 ≤ t.rt ∧ t.rt ≤ 9223372036854775807) (hpb : planB (bits, dl, ll.map QL.pl) = false) :
    Calls Tryz.prog 15 #[.agg #[.int .i64 bits, .slice dP dl.length dc, .slice lP ll.length lc], .int .i64 a] w fun e w' => e = .returned (.int .i64 0) ∧ Below w.heap.size w w' := by
  have b0 : Below w.heap.size w ((w.alloc (.cells #[.int .i64 bits, .slice dP dl.length dc, .slice lP ll.length lc] 41)).alloc (.cells #[.int .i64 0] 3)) := ((Below.refl _ _).alloc (Nat.le_refl _) _).alloc (by simp) _
  have r0 := Bx.newAt (w.alloc (.cells #[.int .i64 bits, .slice dP dl.length dc, .slice lP ll.length lc] 41)) 3 [.int .i64 0] (c := w.heap.size + 1) (by simp)
  have HB := bootOkI_any bits dP dc dl lP lc ll ((w.alloc (.cells #[.int .i64 bits, .slice dP dl.length dc, .slice lP ll.length lc] 41)).alloc (.cells #[.int .i64 0] 3)) e0 e1 e2 e3 e4 (hS.below b0) (hd0.below b0) (hl0.below b0) (hI.below b0) hd hl hle hf
  rw [hpb] at HB
  have HB2 : Hid _ := HB
  clear HB
  refine (callsIn_wide (n := 5)).1 ?_
  refine callsIn_of_wp_marks Tryz.func15 rfl trivial ?_ rfl
  simp only [Tryz.ntmps15, List.size_toArray, List.length_cons, List.length_nil, Nat.reduceAdd, Nat.reduceSub, Array.replicate_succ, Array.replicate_zero, List.push_toArray, List.append_toArray, List.nil_append, List.cons_append]
  gi_wp2_with ((refine ⟨trivial, ?_⟩; gi_at_call 24; refine (callsIn_wide.2 HB2.out).mono ?_; rintro e w1 ⟨rfl, hb1⟩; have r1 := r0.below hb1; have c1 := r1.cell 0 _ rfl; have f1 := r1.frozen 0))
  have e1 : Below w.heap.size w w1 := b0.trans (hb1.mono b0.size)
  refine ⟨.int .i64 0, ?_, rfl, e1.setCell (p := ⟨w.heap.size + 1, 0, none⟩) (by simp) _⟩
  have c2 := World.cell?_setCell_same' w1 ⟨w.heap.size + 1, 0, none⟩ (.int .i64 0) (by rw [c1]; rfl)
  simp [results, Tryz.f15, go_sem, c2]

theorem keeps_of {W W' : World} (h : Below W.heap.size W W') : KeepsOthers W W' := ⟨h.size, fun k o hk _ => (h.block k (Array.getElem?_eq_some_iff.1 hk).1).trans hk⟩

/-- The nine cells of a part's original. -/
structure Cells9 (W : World) (b : Nat) (x : QC) : Prop where
  c0 : W.cell? ⟨b, 0, none⟩ = some (.int .i64 x.k)
  c1 : W.cell? ⟨b, 1, none⟩ = some (.int .i64 x.a)
  c2 : W.cell? ⟨b, 2, none⟩ = some (.int .i64 x.b)
  c3 : W.cell? ⟨b, 3, none⟩ = some (.int .i64 (maxI x.k))
  c4 : W.cell? ⟨b, 4, none⟩ = some (.int .i64 0)
  c5 : W.cell? ⟨b, 5, none⟩ = some (.int .i64 0)
  c6 : W.cell? ⟨b, 6, none⟩ = some (.int .i64 0)
  c7 : W.cell? ⟨b, 7, none⟩ = some (.int .i64 0)
  c8 : W.cell? ⟨b, 8, none⟩ = some (.bool true)
theorem Cells9.kc {W W' : World} {b : Nat} {x : QC} (h : Cells9 W b x) (k : Kc W W') : Cells9 W' b x :=
  ⟨k _ _ h.c0, k _ _ h.c1, k _ _ h.c2, k _ _ h.c3, k _ _ h.c4, k _ _ h.c5, k _ _ h.c6, k _ _ h.c7, k _ _ h.c8⟩

set_option maxRecDepth 100000 in
set_option maxHeartbeats 4000000 in
theorem labelI_yes (bits : Int) (dP : Option Addr) (dc : Nat) (dl : List QD) (lP : Option Addr) (lc : Nat) (ll : List QL) (a : Int) (w : World) (e0 e1 e2 e3 e4 : Addr) (hS : Sents w e0 e1 e2 e3 e4) (hd0 : LiesG fD w dP dl) (hl0 : LiesG fL w lP ll) (hI : InL w ll) (hd : dl.length ≤ 1048576) (hl : ll.length ≤ 1048576) (hle : ∀ x ∈ ll, x.l.length ≤ 1048576) (hf : ∀ x ∈ ll, ∀ t ∈ x.l, -9223372036854775808 ≤ t.rt ∧ t.rt ≤ 9223372036854775807) (hpb : planB (bits, dl, ll.map QL.pl) = true) :
    Calls Tryz.prog 15 #[.agg #[.int .i64 bits, .slice dP dl.length dc, .slice lP ll.length lc], .int .i64 a] w fun e w' => e = .returned (.int .i64 (labelL a (labsOf (homesOf 128 dl) (sharedOf (endD 128 dl) (ll.map QL.pl))))) ∧ Below w.heap.size w w' := by
  obtain ⟨n3, n6, hall, hkind⟩ := plan_facts hpb
  simp only [List.length_map] at n3 n6 hall hkind
  have hin1 := homes_in dl 128 0 hall (by omega) (by omega)
  have hin2 := shared_in (ll.map QL.pl) (endD 128 dl) (homesOf 128 dl).length hkind (by omega) (by simp; omega)
  have hin : ∀ x ∈ labsOf (homesOf 128 dl) (sharedOf (endD 128 dl) (ll.map QL.pl)), LiesIn x.2 := by
    intro x hx
    rcases List.mem_append.1 hx with hx | hx
    · exact hin1.1 x hx
    · exact hin2 x hx
  clear hin1 hin2 hall hkind
  have b0 : Below w.heap.size w ((w.alloc (.cells #[.int .i64 bits, .slice dP dl.length dc, .slice lP ll.length lc] 41)).alloc (.cells #[.int .i64 0] 3)) := ((Below.refl _ _).alloc (Nat.le_refl _) _).alloc (by simp) _
  have p0 := (Bx.new w 41 [.int .i64 bits, .slice dP dl.length dc, .slice lP ll.length lc]).alloc (.cells #[.int .i64 0] 3)
  have r0 := Bx.newAt (w.alloc (.cells #[.int .i64 bits, .slice dP dl.length dc, .slice lP ll.length lc] 41)) 3 [.int .i64 0] (c := w.heap.size + 1) (by simp)
  have HB := bootOkI_any bits dP dc dl lP lc ll ((w.alloc (.cells #[.int .i64 bits, .slice dP dl.length dc, .slice lP ll.length lc] 41)).alloc (.cells #[.int .i64 0] 3)) e0 e1 e2 e3 e4 (hS.below b0) (hd0.below b0) (hl0.below b0) (hI.below b0) hd hl hle hf
  rw [hpb] at HB
  have HB2 : Hid _ := HB
  clear HB
  have HL : Hid _ := fun (W : World) (hW : Below w.heap.size w W) => lay_any bits dP dc dl lP lc ll W (hd0.below hW) (hl0.below hW) (by omega) (by omega)
  have hHl : (homesOf 128 dl).length ≤ 1000 := by rw [homesOf_length]; omega
  have hCl : (sharedOf (endD 128 dl) (ll.map QL.pl)).length ≤ 1000 := by rw [sharedOf_length]; simp; omega
  generalize homesOf 128 dl = H at *
  generalize sharedOf (endD 128 dl) (ll.map QL.pl) = C at *
  generalize endI dl (ll.map QL.pl) = ee at *
  clear hpb
  refine (callsIn_wide (n := 5)).1 ?_
  refine callsIn_of_wp_marks Tryz.func15 rfl trivial ?_ rfl
  simp only [Tryz.ntmps15, List.size_toArray, List.length_cons, List.length_nil, Nat.reduceAdd, Nat.reduceSub, Array.replicate_succ, Array.replicate_zero, List.push_toArray, List.append_toArray, List.nil_append, List.cons_append]
  gi_wp2_with (first
    | (refine ⟨trivial, ?_⟩; gi_at_call 24; refine (callsIn_wide.2 HB2.out).mono ?_; rintro e w1 ⟨rfl, hb1⟩; have r1 := r0.below hb1; have p1 := p0.below hb1; have bw1 : Below w.heap.size w w1 := b0.trans (hb1.mono b0.size))
    | (refine ⟨trivial, ?_⟩; gi_at_call 51; refine (callsIn_wide.2 (rangeOf_word a _)).mono ?_; rintro e w2 ⟨rfl, hb2⟩; have r2 := r1.below hb2; have p2 := p1.below hb2; have bw2 := bw1.trans (hb2.mono bw1.size); have b3 : Below w2.heap.size w2 (w2.alloc (.cells #[.int .u32 (wA a), .int .u32 (wS a)] 98)) := (Below.refl _ _).alloc (Nat.le_refl _) _; have bw3 := bw2.trans (b3.mono bw2.size); have p3 := p2.below b3; have r3 := r2.below b3; have q3 := Bx.new w2 98 [.int .u32 (wA a), .int .u32 (wS a)]; have d0 := p3.cell 0 _ rfl; have d1 := p3.cell 1 _ rfl; have d2 := p3.cell 2 _ rfl)
    | (refine ⟨trivial, ?_⟩; gi_at_call 25; refine (callsIn_wide.2 (HL.out _ bw3)).mono ?_; rintro e w4 ⟨v, u, rfl, oH, oC, hb4⟩; obtain ⟨vP, vc, rfl, lH, _⟩ := oH.form; obtain ⟨uP, uc, rfl, lC, _⟩ := oC.form)
    | (refine ⟨trivial, ?_⟩; gi_at_call 52; refine (labelled_in _ _ _ _ _ _ _ _ _).mono ?_; rintro e w5 ⟨rfl, rfl⟩))
  have b5 : Below w4.heap.size w4 (w4.alloc (.cells #[.slice vP H.length vc, .slice uP C.length uc, .int .i64 ee] 68)) := (Below.refl _ _).alloc (Nat.le_refl _) _
  have bw4 := bw3.trans (hb4.mono bw3.size)
  have bw5 := bw4.trans (b5.mono bw4.size)
  have r5 := (r3.below hb4).below b5
  have q5 := (q3.below hb4).below b5
  have hK5 : LabK (w4.alloc (.cells #[.slice vP H.length vc, .slice uP C.length uc, .int .i64 ee] 68)) w4.heap.size vP uP vc uc H C :=
    ⟨(Bx.new w4 68 [.slice vP H.length vc, .slice uP C.length uc, .int .i64 ee]).cell 0 _ rfl, (Bx.new w4 68 [.slice vP H.length vc, .slice uP C.length uc, .int .i64 ee]).cell 1 _ rfl, lH.below b5, lC.below b5⟩
  clear d0 d1 d2 oH oC lH lC HL HB2 p0 p1 p2 p3 r0 r1 r2 r3 q3 b0 bw1 bw2 bw3 bw4
  refine wpIn_rangeFunc_ownH rfl (by omega) (gf := 91) (lb := #[.pointer (some ⟨w4.heap.size, 0, none⟩)]) rfl trivial (enters_of Tryz.func91 (by kernel_rfl) rfl)
    (labelled_stops 4 (by omega) w4.heap.size vP uP vc uc H C hHl hCl _ hK5)
    (fun h k => Kc.trans h k) (fun W l o o' hl h h1 h2 => Kc.put (n₀ := w.heap.size) W l o o' (Nat.le_trans bw5.size hl) h h1 h2) (Below.refl _ _) (fun _ => rfl)
    (fun pre W => ((∀ y ∈ pre, hitL a y.1 = false) ∧ W.cell? ⟨w.heap.size + 1, 0, none⟩ = some (.int .i64 0) ∧ W.frozen? ⟨w.heap.size + 1, 0, none⟩ = false ∧ W.cell? ⟨w2.heap.size, 0, none⟩ = some (.int .u32 (wA a)) ∧ W.cell? ⟨w2.heap.size, 1, none⟩ = some (.int .u32 (wS a))) ∧ Below w.heap.size w W)
    (fun c pre W => (c = .ret ∧ ∃ (ps : List (Told H C)) (x : Told H C), pre = ps ++ [x] ∧ (∀ y ∈ ps, hitL a y.1 = false) ∧ hitL a x.1 = true ∧ W.cell? ⟨w.heap.size + 1, 0, none⟩ = some (.int .i64 (x.1.1 : Int))) ∧ Below w.heap.size w W)
    (OwnFrom.and (Own.from (fun s A B row hs hg hr => ⟨hs.1, cell_kept hs.2.1 hg hr, (frozen_kept hs.2.1 hg hr).trans hs.2.2.1, cell_kept hs.2.2.2.1 hg hr, cell_kept hs.2.2.2.2 hg hr⟩) _) (ownFrom_below (Nat.le_refl _) bw5.size))
    (fun c => OwnFrom.and (Own.from (fun s A B row hs hg hr => ⟨hs.1, by obtain ⟨ps, x, e1, e2, e3, e4⟩ := hs.2; exact ⟨ps, x, e1, e2, e3, cell_kept e4 hg hr⟩⟩) _) (ownFrom_below (Nat.le_refl _) bw5.size))
    ⟨⟨fun y hy => by simp at hy, r5.cell 0 _ rfl, r5.frozen 0, q5.cell 0 _ rfl, q5.cell 1 _ rfl⟩, bw5⟩
    (fun x a' W => ∃ b : Nat, a' = { tmps := #[.agg #[.int .i64 bits, .slice dP dl.length dc, .slice lP ll.length lc], .int .i64 a, .pointer (some ⟨w.heap.size, 0, none⟩), undef, .pointer (some ⟨w.heap.size + 1, 0, none⟩), .pointer (some ⟨w2.heap.size, 0, none⟩), .int .i64 (x.1.1 : Int), .pointer (some ⟨b, 0, none⟩), .agg #[.int .i64 bits, .slice dP dl.length dc, .slice lP ll.length lc], .bool true, .bool false, .int .i64 a, .agg #[.int .u32 (wA a), .int .u32 (wS a)], .agg #[.int .i64 bits, .slice dP dl.length dc, .slice lP ll.length lc], .agg #[.slice vP H.length vc, .slice uP C.length uc, .int .i64 ee], .func (.func 91) #[] #[.pointer (some ⟨w4.heap.size, 0, none⟩)], .int .i64 (x.1.1 : Int), .agg #[.int .i64 x.1.2.k, .int .i64 x.1.2.a, .int .i64 x.1.2.b, .int .i64 (maxI x.1.2.k), .int .i64 0, .int .i64 0, .int .i64 0, .int .i64 0, .bool true], undef, undef, undef, undef, undef], defers := [] } ∧ Cells9 W b x.1.2)
    (fun x a' s A B row hs hg hr => by obtain ⟨b, e, h9⟩ := hs; exact ⟨b, e, h9.kc (fun p v hp => cell_kept hp hg (fun r e => (hr r e).2))⟩)
    ?assign ?body ?done ?stop
  case assign =>
    rintro l pre x W K hI hK
    simp only [tellV]
    gi_wp2
    have hb : Below W.heap.size W (W.alloc (.cells #[.int .i64 x.1.2.k, .int .i64 x.1.2.a, .int .i64 x.1.2.b, .int .i64 (maxI x.1.2.k), .int .i64 0, .int .i64 0, .int .i64 0, .int .i64 0, .bool true] 75)) := (Below.refl _ _).alloc (Nat.le_refl _) _
    have bx := Bx.new W 75 [.int .i64 x.1.2.k, .int .i64 x.1.2.a, .int .i64 x.1.2.b, .int .i64 (maxI x.1.2.k), .int .i64 0, .int .i64 0, .int .i64 0, .int .i64 0, .bool true]
    obtain ⟨⟨hmiss, hc, hf, hq0, hq1⟩, hB⟩ := hI
    exact hK _ _ ((keeps_of hb).from _) (Kc.of hb) ⟨⟨hmiss, Kc.of hb _ _ hc, (hb.frozen (p := ⟨w.heap.size + 1, 0, none⟩) (block_lt_of_cell hc)).trans hf, Kc.of hb _ _ hq0, Kc.of hb _ _ hq1⟩, hB.trans (hb.mono hB.size)⟩ ⟨W.heap.size, rfl, ⟨bx.cell 0 _ rfl, bx.cell 1 _ rfl, bx.cell 2 _ rfl, bx.cell 3 _ rfl, bx.cell 4 _ rfl, bx.cell 5 _ rfl, bx.cell 6 _ rfl, bx.cell 7 _ rfl, bx.cell 8 _ rfl⟩⟩
  case body =>
    rintro l pre x a' W _ _ ⟨⟨hmiss, hc, hf, hq0, hq1⟩, hB⟩ ⟨b, rfl, h9⟩ hlen
    have hx : LiesIn x.1.2 := hin x.1 x.2
    obtain ⟨g0, g1, g2, g3, g4, g5, g6, g7, g8⟩ := h9
    have hmx : Tryz.prog.follows .mixedOrders = true := by kernel_rfl
    cases hh : hitL a x.1
    · gi_wp2
      gi_region_with_o (first
        | (refine ⟨trivial, ?_⟩; gi_at_call 54; refine (CallsIn.inRound l (callsIn_wide.2 (capRange_part x.1.2 hx _))).mono ?_; rintro e w6 ⟨rfl, hb6⟩; have z0 := Kc.of hb6 _ _ hq0; have z1 := Kc.of hb6 _ _ hq1; have b6 : Below W.heap.size W w6 := (Below.refl _ W).drew.trans hb6)
        | (refine ⟨trivial, ?_⟩; gi_at_call 53; refine (CallsIn.inRound l (callsIn_wide.2 (within_word a x.1 hx _))).mono ?_; rw [hh]; rintro e w7 ⟨rfl, hb7⟩; have b7 : Below W.heap.size W w7 := b6.trans (hb7.mono b6.size); have zr := Kc.of b7 _ _ hc; have zf := (b7.frozen (p := ⟨w.heap.size + 1, 0, none⟩) (block_lt_of_cell hc)).trans hf))
      all_goals gi_wp2
      all_goals exact ⟨(keeps_of b7).from _, Kc.of b7, ⟨fun y hy => (List.mem_append.1 hy).elim (hmiss y) (fun e => by rw [List.mem_singleton.1 e]; exact hh), zr, zf, Kc.of b7 _ _ hq0, Kc.of b7 _ _ hq1⟩, hB.trans (b7.mono hB.size)⟩
    · gi_wp2
      gi_region_with_o (first
        | (refine ⟨trivial, ?_⟩; gi_at_call 54; refine (CallsIn.inRound l (callsIn_wide.2 (capRange_part x.1.2 hx _))).mono ?_; rintro e w6 ⟨rfl, hb6⟩; have z0 := Kc.of hb6 _ _ hq0; have z1 := Kc.of hb6 _ _ hq1; have b6 : Below W.heap.size W w6 := (Below.refl _ W).drew.trans hb6)
        | (refine ⟨trivial, ?_⟩; gi_at_call 53; refine (CallsIn.inRound l (callsIn_wide.2 (within_word a x.1 hx _))).mono ?_; rw [hh]; rintro e w7 ⟨rfl, hb7⟩; have b7 : Below W.heap.size W w7 := b6.trans (hb7.mono b6.size); have zr := Kc.of b7 _ _ hc; have zf := (b7.frozen (p := ⟨w.heap.size + 1, 0, none⟩) (block_lt_of_cell hc)).trans hf))
      all_goals gi_wp2
      all_goals exact ⟨((keeps_of b7).trans (KeepsOthers.setCell _ _ _)).from _, ⟨rfl, pre, x, rfl, hmiss, hh, World.cell?_setCell_same' _ _ _ (by rw [zr]; rfl)⟩, (hB.trans (b7.mono hB.size)).setCell (p := ⟨w.heap.size + 1, 0, none⟩) (by simp) _⟩
  case done =>
    rintro D ys W hD hys ⟨⟨hmiss, hc, hf, _, _⟩, hB⟩ hK2
    have HY : Hid (labelL a (labsOf H C) = 0) := by
      refine labelL_miss a _ fun x hx => ?_
      rw [← hys] at hx
      obtain ⟨y, hy, rfl⟩ := List.mem_map.1 hx
      exact hmiss y hy
    clear hys
    gi_wp2
    have hK' := (KeepsOthers.setCell W ⟨w.heap.size + 1, 0, none⟩ (.int .i64 0)).same D _ hK2 rfl
    refine ⟨by simp, .inl ⟨_, _, rfl, run_takeDeferred hK', ?_⟩⟩
    have hc5 := cell_kept (World.cell?_setCell_same' W ⟨w.heap.size + 1, 0, none⟩ (.int .i64 0) (by rw [hc]; rfl)) (grownBy_putObj' _ D (.deferred none)) (fun r e => by cases e; exact ⟨_, hK', rfl⟩)
    refine ⟨.int .i64 0, ?_, by rw [HY.out], (hB.setCell (p := ⟨w.heap.size + 1, 0, none⟩) (by simp) _).trans (belowK_b (w := w) (Nat.le_refl _) _ D _ _ (Nat.le_trans bw5.size hD) hK' rfl rfl)⟩
    simp [results, Tryz.f15, go_sem, hc5]
  case stop =>
    rintro D c' pre W hD hpre ⟨⟨rfl, ps, x, rfl, hmiss, hh, hc⟩, hB⟩ hK2
    obtain ⟨rest, hrest⟩ := hpre
    have HY : Hid (labelL a (labsOf H C) = (x.1.1 : Int)) := by
      have e : labsOf H C = ps.map (·.1) ++ x.1 :: rest := hrest.symm.trans (by rw [List.map_append]; simp)
      refine (congrArg (labelL a) e).trans (labelL_hit a _ _ _ (fun y hy => ?_) hh)
      obtain ⟨z, hz, rfl⟩ := List.mem_map.1 hy
      exact hmiss z hz
    clear hrest
    gi_wp2
    refine ⟨by simp, .inl ⟨_, _, rfl, run_takeDeferred hK2, ?_⟩⟩
    have hc5 := cell_kept hc (grownBy_putObj' _ D (.deferred none)) (fun r e => by cases e; exact ⟨_, hK2, rfl⟩)
    refine ⟨.int .i64 (x.1.1 : Int), ?_, by rw [HY.out], hB.trans (belowK_b (w := w) (Nat.le_refl _) W D _ _ (Nat.le_trans bw5.size hD) hK2 rfl rfl)⟩
    simp [results, Tryz.f15, go_sem, hc5]

end Go.Proofs.YtdfmpbdeiaeopaaGreatDoor
/-
  The label of a word, as the specification finds it.
-/
namespace Go.Proofs.YtdfmpbdeiaeopaaGreatDoor
open Go.ChangeShapes Go.WideShapes Go.ChangeAt Go.RowKit
set_option linter.unusedVariables false

set_option maxRecDepth 100000 in
set_option maxHeartbeats 4000000 in
theorem labelS_any (P : Option Addr) (c : Nat) (A : List QA) (a : Int) (w : World) (h : LiesG fA w P A) (hl : A.length ≤ 1000) (hT : Tight A) :
    Calls Tryz.prog 50 #[.slice P A.length c, .int .i64 a] w fun e w' => e = .returned (.int .i64 (labelA a A)) ∧ Below w.heap.size w w' := by
  have HR : Hid (labelA a A = labelA a A) := rfl
  generalize hr : labelA a A = r at HR ⊢
  clear HR
  have HV : Hid _ := hr
  clear hr
  go_enter Tryz.func50, Tryz.ntmps50
  go_wp2
  go_loopw [5] (fun i w' => ∃ k : Nat, k ≤ A.length ∧ i = .int .i64 k ∧ Hid (labelA a (A.drop k) = r) ∧ Below w.heap.size w w') (fun i w' => A.length - (intOf i).toNat)
  case atStart => exact ⟨0, Nat.zero_le _, rfl, HV.out, Below.refl _ _⟩
  case round =>
    clear HV
    obtain ⟨k, hk, rfl, HK, hB⟩ := hrel
    have h1 := h.below hB
    by_cases hlt : k < A.length
    · obtain ⟨B, O, rfl⟩ := h1.has hlt
      have cc := atA h1 hlt
      have hb := hT A[k] (List.getElem_mem hlt)
      have HH : Hid (hitA a A[k] = true → A[k].lb = r) := fun hh => (labelA_hit hlt hh).symm.trans HK.out
      have HM : Hid (hitA a A[k] = false → labelA a (A.drop (k + 1)) = r) := fun hh => (labelA_miss hlt hh).symm.trans HK.out
      clear HK
      generalize A[k] = x at cc hb HH HM
      obtain ⟨xa, xs, xl⟩ := x
      simp only at cc hb
      obtain ⟨c0, c1, c2⟩ := cc
      have hk1 : (k : Int) < (A.length : Int) := by omega
      by_cases g1 : xa ≤ a
      · by_cases g2 : a < xa + xs
        · have he : xl = r := HH.out (by simp [hitA, g1, g2])
          subst he
          clear HH HM
          go_upto_region 4 with fail
          go_quiet (fail)
          go_wp2
          go_ret
          exact ⟨rfl, below_drewN hB _⟩
        · have he := HM.out (by simp [hitA, g1]; omega)
          clear HH HM
          go_upto_region 4 with fail
          go_quiet (fail)
          go_wp2
          go_roundw
          case rel => exact ⟨k + 1, by omega, by go_num, he, below_drewN hB _⟩
          case measure => simp [intOf]; omega
      · have he := HM.out (by simp [hitA, g1])
        clear HH HM
        go_upto_region 4 with fail
        go_quiet (fail)
        go_wp2
        go_roundw
        case rel => exact ⟨k + 1, by omega, by go_num, he, below_drewN hB _⟩
        case measure => simp [intOf]; omega
    · have e0 : A.drop k = [] := List.drop_eq_nil_of_le (by omega)
      have he : (0 : Int) = r := by have := HK.out; rw [e0] at this; exact this
      clear HK
      subst he
      go_wp2
      go_ret
      exact ⟨rfl, hB⟩

end Go.Proofs.YtdfmpbdeiaeopaaGreatDoor
/-
  BootLabel of the program and of the specification: both the same.
-/
namespace Go.Proofs.YtdfmpbdeiaeopaaGreatDoor
open Go.ChangeShapes Go.WideShapes Go.ChangeAt Go.RowKit
set_option linter.unusedVariables false

/-- Whose a word is. -/
def labI (a : Int) (p : Int × List QD × List LP) : Int := if planB p = true then labelA a (partsS p.2.1 p.2.2) else 0
theorem labI_no {a : Int} {p : Int × List QD × List LP} (h : planB p = false) : labI a p = 0 := by simp [labI, h]
theorem labI_yes {a : Int} {p : Int × List QD × List LP} (h : planB p = true) : labI a p = labelA a (partsS p.2.1 p.2.2) := by simp [labI, h]

theorem labelI_any (bits : Int) (dP : Option Addr) (dc : Nat) (dl : List QD) (lP : Option Addr) (lc : Nat) (ll : List QL) (a : Int) (w : World) (e0 e1 e2 e3 e4 : Addr) (hS : Sents w e0 e1 e2 e3 e4) (hd0 : LiesG fD w dP dl) (hl0 : LiesG fL w lP ll) (hI : InL w ll) (hd : dl.length ≤ 1048576) (hl : ll.length ≤ 1048576) (hle : ∀ x ∈ ll, x.l.length ≤ 1048576) (hf : ∀ x ∈ ll, ∀ t ∈ x.l, -9223372036854775808 ≤ t.rt ∧ t.rt ≤ 9223372036854775807) :
    Calls Tryz.prog 15 #[.agg #[.int .i64 bits, .slice dP dl.length dc, .slice lP ll.length lc], .int .i64 a] w fun e w' => e = .returned (.int .i64 (labI a (bits, dl, ll.map QL.pl))) ∧ Below w.heap.size w w' := by
  cases h : planB (bits, dl, ll.map QL.pl)
  · rw [labI_no h]
    exact labelI_no bits dP dc dl lP lc ll a w e0 e1 e2 e3 e4 hS hd0 hl0 hI hd hl hle hf h
  · have := labelI_yes bits dP dc dl lP lc ll a w e0 e1 e2 e3 e4 hS hd0 hl0 hI hd hl hle hf h
    rw [labI_yes h]
    simp only
    rw [parts_labs dl (ll.map QL.pl) (plan_facts h).2.2.1]
    exact this

set_option maxRecDepth 100000 in
set_option maxHeartbeats 2000000 in
theorem labelSp_any (bits : Int) (dP : Option Addr) (dc : Nat) (dl : List QD) (lP : Option Addr) (lc : Nat) (ll : List QL) (a : Int) (w : World) (hd0 : LiesG fD w dP dl) (hl0 : LiesG fL w lP ll) (hI : InL w ll) (hd : dl.length ≤ 1048576) (hl : ll.length ≤ 1048576) (hle : ∀ x ∈ ll, x.l.length ≤ 1048576) :
    Calls Tryz.prog 14 #[.agg #[.int .i64 bits, .slice dP dl.length dc, .slice lP ll.length lc], .int .i64 a] w fun e w' => e = .returned (.int .i64 (labI a (bits, dl, ll.map QL.pl))) ∧ Below w.heap.size w w' := by
  have bw : Below w.heap.size w (w.alloc (.cells #[.int .i64 bits, .slice dP dl.length dc, .slice lP ll.length lc] 41)) := (Below.refl _ _).alloc (Nat.le_refl _) _
  have x := Bx.new w 41 [.int .i64 bits, .slice dP dl.length dc, .slice lP ll.length lc]
  have HB := bootOkS2_any bits dP dc dl lP lc ll _ (hd0.below bw) (hl0.below bw) (hI.below bw) hd hl hle
  cases h : planB (bits, dl, ll.map QL.pl)
  · rw [labI_no h]
    rw [h] at HB
    have HF : Hid _ := HB
    clear HB
    go_enter Tryz.func14, Tryz.ntmps14
    go_wp2_with ((go_at_call 18; refine Calls.mono HF.out ?_; rintro e w1 ⟨rfl, hb⟩))
    go_ret
    exact ⟨rfl, bw.trans (hb.mono bw.size)⟩
  · rw [labI_yes h]
    rw [h] at HB
    have HF : Hid _ := HB
    clear HB
    obtain ⟨n3, n6, _, _⟩ := plan_facts h
    simp only [List.length_map] at n3 n6
    have HP : Hid _ := fun (W : World) (hW : Below w.heap.size w W) => parts_any bits dP dc dl lP lc ll W (hd0.below hW) (hl0.below hW) (by omega) (by omega)
    have hpl : (partsS dl (ll.map QL.pl)).length ≤ 1000 := by
      unfold partsS; rw [layP_length, layP_length, sizesS_length, sizesK_length]; simp; omega
    simp only
    generalize partsS dl (ll.map QL.pl) = A at *
    clear h
    go_enter Tryz.func14, Tryz.ntmps14
    go_wp2_with (first
      | (go_at_call 18; refine Calls.mono HF.out ?_; rintro e w1 ⟨rfl, hb⟩; have x1 := x.below hb; have a0 := x1.cell 0 _ rfl; have a1 := x1.cell 1 _ rfl; have a2 := x1.cell 2 _ rfl; have bw1 := bw.trans (hb.mono bw.size))
      | (go_at_call 19; refine Calls.mono (HP.out _ bw1) ?_; rintro e w2 ⟨v, rfl, own, hT, hb2⟩; obtain ⟨Q, cap, rfl, hlies, _⟩ := own.form)
      | (go_at_call 50; refine Calls.mono (labelS_any Q cap A a _ hlies hpl hT) ?_; rintro e w3 ⟨rfl, hb3⟩))
    go_ret
    have bw2 := bw1.trans (hb2.mono bw1.size)
    exact ⟨rfl, bw2.trans (hb3.mono bw2.size)⟩

end Go.Proofs.YtdfmpbdeiaeopaaGreatDoor
/-
  Plans that came in, opened.
-/
namespace Go.Proofs.YtdfmpbdeiaeopaaGreatDoor
open Go.ChangeShapes Go.WideShapes Go.ChangeAt Go.RowKit
set_option linter.unusedVariables false

/-- A row of any elements, opened. -/
theorem open_rowP {α : Type} (F : Form α) (Good : α → Prop) {H : Type} {enc : TypeId × Value → H} {W : World} {base fuel : Nat} {spare : Nat → Bool} {held : Bool} {cs : List Value} {x : DataW H × List MemPlace} {T E : TypeId} (hu : Tryz.prog.underlying T = some (.slice E)) (hc : Tryz.prog.cellsOf E = F.n)
    (one : ∀ (n : Nat) (cs : List Value) (x : DataW H × List MemPlace), DataW.trod enc Tryz.prog W base spare held n E cs = some x → ∃ a, cs = F.cel a ∧ Good a)
    (h : DataW.trod enc Tryz.prog W base spare held fuel T cs = some x) :
    ∃ (P : Option Addr) (cap : Nat) (L : List α), cs = [.slice P L.length cap] ∧ L.length ≤ 9223372036854775807 ∧ LiesG F W P L ∧ ∀ a ∈ L, Good a := by
  rcases Deep.open_slice hu h with ⟨hcs, _⟩ | ⟨a, len, cap, m, n, D, Pl, hcs, hb, hl, hm, hmm, _, hx⟩
  · exact ⟨none, 0, [], hcs, Nat.zero_le _, LiesG.nil _ _ _, fun a ha => absurd ha (by simp)⟩
  · have hlm : len ≤ m := by rw [hmm]; split <;> omega
    rw [hc] at hx
    have each : ∀ i, i < len → ∃ s : α, (∀ j, j < F.n → W.cell? (a.add (i * F.n + j)) = (F.cel s)[j]?) ∧ Good s := by
      intro i hi
      obtain ⟨cs', h1, h2⟩ := hx i (by omega)
      obtain ⟨s, rfl, hs⟩ := one _ _ _ h2
      obtain ⟨_, _, hcc⟩ := World.cells?_some h1
      exact ⟨s, fun j hj => by have := hcc j hj; rwa [Deep.add_add] at this, hs⟩
    have hlist : ∃ L : List α, L.length = len ∧ ∀ i (hi : i < L.length), (∀ j, j < F.n → W.cell? (a.add (i * F.n + j)) = (F.cel L[i])[j]?) ∧ Good L[i] := by
      by_cases h0 : len = 0
      · exact ⟨[], h0.symm, fun i hi => absurd hi (by simp)⟩
      · obtain ⟨s0, _⟩ := each 0 (by omega)
        have : Inhabited α := ⟨s0⟩
        obtain ⟨G, hG⟩ := Deep.choose_lt each
        exact ⟨(List.range len).map G, by simp, fun i hi => by simp at hi; simpa using hG i hi⟩
    obtain ⟨L, hlen, hL⟩ := hlist
    have hmx : len ≤ 9223372036854775807 := Nat.le_trans hl hm
    refine ⟨some a, cap, L, by rw [hlen]; exact hcs, by omega, ⟨?_, ?_⟩, fun y hy => ?_⟩
    · by_cases h0 : len = 0
      · left; exact List.length_eq_zero_iff.1 (by omega)
      · right
        have h1 := (hL 0 (by omega)).1 0 F.pos
        have hsp : a.spot = none := by
          have h2 : 0 < (F.cel L[0]).length := by rw [F.len]; exact F.pos
          rw [List.getElem?_eq_getElem h2] at h1
          simp [Addr.add] at h1
          cases e : a.spot with
          | none => rfl
          | some x => simp [World.cell?, e] at h1; split at h1 <;> simp at h1
        exact ⟨a.block, a.off, by cases a; simp at hsp; simp [hsp]⟩
    · intro B O e i hi j hj
      obtain rfl : a = ⟨B, O, none⟩ := by simpa using e
      have := (hL i hi).1 j hj
      unfold Addr.add at this
      by_cases hz : i * F.n + j = 0
      · rw [if_pos hz] at this
        have e1 : O + i * F.n + j = O := by omega
        rw [e1]; exact this
      · rw [if_neg hz] at this
        rw [Nat.add_assoc]; exact this
    · obtain ⟨i, hi, rfl⟩ := List.getElem_of_mem hy
      exact (hL i hi).2

set_option maxRecDepth 100000 in
theorem open_D1 {H : Type} {enc : TypeId × Value → H} {W : World} {base fuel : Nat} {spare : Nat → Bool} {held : Bool} {cs : List Value} {x : DataW H × List MemPlace} (h : DataW.trod enc Tryz.prog W base spare held fuel 129 cs = some x) : ∃ s : QD, cs = fD.cel s ∧ True := by
  obtain ⟨xs, n, _, _, hlen, hl, hx⟩ := DataW.trod_struct Tryz.underlying129 h
  have e0 : Tryz.prog.cellsOf 129 = 3 := by kernel_rfl
  rw [e0] at hlen
  have hl3 : xs.length = 3 := hl
  have ex : ∀ i, i < 3 → ∃ y, xs[i]? = some y := fun i hi => ⟨_, List.getElem?_eq_getElem (by omega)⟩
  match cs, hlen with
  | [c0, c1, c2], _ =>
    obtain ⟨y0, hy0⟩ := ex 0 (by omega)
    have h0 : DataW.trod enc Tryz.prog W base spare held n 3 [c0] = some y0 := by
      have := hx 0 _ rfl
      rw [hy0] at this
      have ez : Tryz.prog.cellsOf 3 = 1 := by kernel_rfl
      simpa [ez] using this
    obtain ⟨y1, hy1⟩ := ex 1 (by omega)
    have h1 : DataW.trod enc Tryz.prog W base spare held n 3 [c1] = some y1 := by
      have := hx 1 _ rfl
      rw [hy1] at this
      have ez : Tryz.prog.cellsOf 3 = 1 := by kernel_rfl
      simpa [ez] using this
    obtain ⟨y2, hy2⟩ := ex 2 (by omega)
    have h2 : DataW.trod enc Tryz.prog W base spare held n 3 [c2] = some y2 := by
      have := hx 2 _ rfl
      rw [hy2] at this
      have ez : Tryz.prog.cellsOf 3 = 1 := by kernel_rfl
      simpa [ez] using this
    obtain ⟨a0, rfl, _⟩ := cell_int h0
    obtain ⟨a1, rfl, _⟩ := cell_int h1
    obtain ⟨a2, rfl, _⟩ := cell_int h2
    exact ⟨⟨a0, a1, a2⟩, rfl, trivial⟩

set_option maxRecDepth 100000 in
theorem open_O1 {H : Type} {enc : TypeId × Value → H} {W : World} {base fuel : Nat} {spare : Nat → Bool} {held : Bool} {cs : List Value} {x : DataW H × List MemPlace} (h : DataW.trod enc Tryz.prog W base spare held fuel 185 cs = some x) : ∃ s : QO, cs = fO.cel s ∧ (-9223372036854775808 ≤ s.rt ∧ s.rt ≤ 9223372036854775807) := by
  obtain ⟨xs, n, _, _, hlen, hl, hx⟩ := DataW.trod_struct Tryz.underlying185 h
  have e0 : Tryz.prog.cellsOf 185 = 3 := by kernel_rfl
  rw [e0] at hlen
  have hl3 : xs.length = 3 := hl
  have ex : ∀ i, i < 3 → ∃ y, xs[i]? = some y := fun i hi => ⟨_, List.getElem?_eq_getElem (by omega)⟩
  match cs, hlen with
  | [c0, c1, c2], _ =>
    obtain ⟨y0, hy0⟩ := ex 0 (by omega)
    have h0 : DataW.trod enc Tryz.prog W base spare held n 3 [c0] = some y0 := by
      have := hx 0 _ rfl
      rw [hy0] at this
      have ez : Tryz.prog.cellsOf 3 = 1 := by kernel_rfl
      simpa [ez] using this
    obtain ⟨y1, hy1⟩ := ex 1 (by omega)
    have h1 : DataW.trod enc Tryz.prog W base spare held n 3 [c1] = some y1 := by
      have := hx 1 _ rfl
      rw [hy1] at this
      have ez : Tryz.prog.cellsOf 3 = 1 := by kernel_rfl
      simpa [ez] using this
    obtain ⟨y2, hy2⟩ := ex 2 (by omega)
    have h2 : DataW.trod enc Tryz.prog W base spare held n 3 [c2] = some y2 := by
      have := hx 2 _ rfl
      rw [hy2] at this
      have ez : Tryz.prog.cellsOf 3 = 1 := by kernel_rfl
      simpa [ez] using this
    obtain ⟨a0, rfl, _⟩ := cell_int h0
    obtain ⟨a1, rfl, w1⟩ := cell_int h1
    obtain ⟨a2, rfl, _⟩ := cell_int h2
    exact ⟨⟨a0, a1, a2⟩, rfl, bounds_i64 w1⟩

theorem open_D {H : Type} {enc : TypeId × Value → H} {W : World} {base fuel : Nat} {spare : Nat → Bool} {held : Bool} {cs : List Value} {x : DataW H × List MemPlace} (h : DataW.trod enc Tryz.prog W base spare held fuel 22 cs = some x) : ∃ (P : Option Addr) (cap : Nat) (L : List QD), cs = [.slice P L.length cap] ∧ L.length ≤ 9223372036854775807 ∧ LiesG fD W P L := by
  obtain ⟨P, c, L, h1, h2, h3, _⟩ := open_rowP fD (fun _ => True) Tryz.underlying22 (by kernel_rfl) (fun n cs x h => open_D1 h) h
  exact ⟨P, c, L, h1, h2, h3⟩
theorem open_O {H : Type} {enc : TypeId × Value → H} {W : World} {base fuel : Nat} {spare : Nat → Bool} {held : Bool} {cs : List Value} {x : DataW H × List MemPlace} (h : DataW.trod enc Tryz.prog W base spare held fuel 106 cs = some x) : ∃ (P : Option Addr) (cap : Nat) (L : List QO), cs = [.slice P L.length cap] ∧ L.length ≤ 9223372036854775807 ∧ LiesG fO W P L ∧ ∀ t ∈ L, -9223372036854775808 ≤ t.rt ∧ t.rt ≤ 9223372036854775807 :=
  open_rowP fO (fun t => -9223372036854775808 ≤ t.rt ∧ t.rt ≤ 9223372036854775807) Tryz.underlying106 (by kernel_rfl) (fun n cs x h => open_O1 h) h
set_option maxRecDepth 100000 in
theorem open_L1 {H : Type} {enc : TypeId × Value → H} {W : World} {base fuel : Nat} {spare : Nat → Bool} {held : Bool} {cs : List Value} {x : DataW H × List MemPlace} (h : DataW.trod enc Tryz.prog W base spare held fuel 108 cs = some x) : ∃ s : QL, cs = fL.cel s ∧ (LiesG fO W s.P s.l ∧ s.l.length ≤ 9223372036854775807 ∧ ∀ t ∈ s.l, -9223372036854775808 ≤ t.rt ∧ t.rt ≤ 9223372036854775807) := by
  obtain ⟨xs, n, _, _, hlen, hl, hx⟩ := DataW.trod_struct Tryz.underlying108 h
  have e0 : Tryz.prog.cellsOf 108 = 3 := by kernel_rfl
  rw [e0] at hlen
  have hl3 : xs.length = 3 := hl
  have ex : ∀ i, i < 3 → ∃ y, xs[i]? = some y := fun i hi => ⟨_, List.getElem?_eq_getElem (by omega)⟩
  match cs, hlen with
  | [c0, c1, c2], _ =>
    obtain ⟨y0, hy0⟩ := ex 0 (by omega)
    have h0 : DataW.trod enc Tryz.prog W base spare held n 3 [c0] = some y0 := by
      have := hx 0 _ rfl
      rw [hy0] at this
      have ez : Tryz.prog.cellsOf 3 = 1 := by kernel_rfl
      simpa [ez] using this
    obtain ⟨y1, hy1⟩ := ex 1 (by omega)
    have h1 : DataW.trod enc Tryz.prog W base spare held n 3 [c1] = some y1 := by
      have := hx 1 _ rfl
      rw [hy1] at this
      have ez : Tryz.prog.cellsOf 3 = 1 := by kernel_rfl
      simpa [ez] using this
    obtain ⟨y2, hy2⟩ := ex 2 (by omega)
    have h2 : DataW.trod enc Tryz.prog W base spare held n 106 [c2] = some y2 := by
      have := hx 2 _ rfl
      rw [hy2] at this
      have ez : Tryz.prog.cellsOf 106 = 1 := by kernel_rfl
      simpa [ez] using this
    obtain ⟨a0, rfl, _⟩ := cell_int h0
    obtain ⟨a1, rfl, _⟩ := cell_int h1
    obtain ⟨P, c, l, hc, hm, hr, hf⟩ := open_O h2
    simp only [List.cons.injEq, and_true] at hc
    subst hc
    exact ⟨⟨a0, a1, P, c, l⟩, rfl, hr, hm, hf⟩

theorem open_L {H : Type} {enc : TypeId × Value → H} {W : World} {base fuel : Nat} {spare : Nat → Bool} {held : Bool} {cs : List Value} {x : DataW H × List MemPlace} (h : DataW.trod enc Tryz.prog W base spare held fuel 23 cs = some x) : ∃ (P : Option Addr) (cap : Nat) (L : List QL), cs = [.slice P L.length cap] ∧ L.length ≤ 9223372036854775807 ∧ LiesG fL W P L ∧ ∀ s ∈ L, LiesG fO W s.P s.l ∧ s.l.length ≤ 9223372036854775807 ∧ ∀ t ∈ s.l, -9223372036854775808 ≤ t.rt ∧ t.rt ≤ 9223372036854775807 :=
  open_rowP fL (fun s => LiesG fO W s.P s.l ∧ s.l.length ≤ 9223372036854775807 ∧ ∀ t ∈ s.l, -9223372036854775808 ≤ t.rt ∧ t.rt ≤ 9223372036854775807) Tryz.underlying23 (by kernel_rfl) (fun n cs x h => open_L1 h) h
/-- The rights of all are numbers of 64 bits. -/
def QP.Fit (p : QP) : Prop := ∀ x ∈ p.ll, ∀ t ∈ x.l, -9223372036854775808 ≤ t.rt ∧ t.rt ≤ 9223372036854775807
set_option maxRecDepth 100000 in
theorem open_P1 {H : Type} {enc : TypeId × Value → H} {W : World} {base fuel : Nat} {spare : Nat → Bool} {held : Bool} {cs : List Value} {x : DataW H × List MemPlace} (h : DataW.trod enc Tryz.prog W base spare held fuel 25 cs = some x) : ∃ p : QP, cs = [.int .i64 p.bits, .slice p.dP p.dl.length p.dc, .slice p.lP p.ll.length p.lc] ∧ PlanIn W p ∧ p.Long ∧ p.Fit := by
  obtain ⟨xs, n, _, _, hlen, hl, hx⟩ := DataW.trod_struct Tryz.underlying25 h
  have e0 : Tryz.prog.cellsOf 25 = 3 := by kernel_rfl
  rw [e0] at hlen
  have hl3 : xs.length = 3 := hl
  have ex : ∀ i, i < 3 → ∃ y, xs[i]? = some y := fun i hi => ⟨_, List.getElem?_eq_getElem (by omega)⟩
  match cs, hlen with
  | [c0, c1, c2], _ =>
    obtain ⟨y0, hy0⟩ := ex 0 (by omega)
    have h0 : DataW.trod enc Tryz.prog W base spare held n 3 [c0] = some y0 := by
      have := hx 0 _ rfl
      rw [hy0] at this
      have ez : Tryz.prog.cellsOf 3 = 1 := by kernel_rfl
      simpa [ez] using this
    obtain ⟨y1, hy1⟩ := ex 1 (by omega)
    have h1 : DataW.trod enc Tryz.prog W base spare held n 22 [c1] = some y1 := by
      have := hx 1 _ rfl
      rw [hy1] at this
      have ez : Tryz.prog.cellsOf 22 = 1 := by kernel_rfl
      simpa [ez] using this
    obtain ⟨y2, hy2⟩ := ex 2 (by omega)
    have h2 : DataW.trod enc Tryz.prog W base spare held n 23 [c2] = some y2 := by
      have := hx 2 _ rfl
      rw [hy2] at this
      have ez : Tryz.prog.cellsOf 23 = 1 := by kernel_rfl
      simpa [ez] using this
    obtain ⟨bits, rfl, _⟩ := cell_int h0
    obtain ⟨dP, dc, dl, hc1, dm, dL⟩ := open_D h1
    obtain ⟨lP, lc, ll, hc2, lm, lL, lI⟩ := open_L h2
    simp only [List.cons.injEq, and_true] at hc1 hc2
    subst hc1 hc2
    exact ⟨⟨bits, dP, dc, dl, lP, lc, ll⟩, rfl, ⟨dL, lL, fun s hs => (lI s hs).1⟩, ⟨dm, lm, fun s hs => (lI s hs).2.1⟩, fun s hs => (lI s hs).2.2⟩

set_option maxRecDepth 100000 in
theorem open_plan {H : Type} {enc : TypeId × Value → H} {W : World} {base b0 : Nat} {spare : Nat → Bool} {held : Bool} {rc : Reach} {v : Value} {d : DataW H} {p : List MemPlace}
    (hv : Value.okWide Tryz.prog W rc b0 25 v) (h : DataW.Trod enc Tryz.prog W base spare held 25 v d p) :
    ∃ p : QP, v = .agg #[.int .i64 p.bits, .slice p.dP p.dl.length p.dc, .slice p.lP p.ll.length p.lc] ∧ PlanIn W p ∧ p.Long ∧ p.Fit := by
  obtain ⟨cs, rfl, hsz⟩ := okWide_struct Tryz.underlying25 hv
  obtain ⟨fuel, hf⟩ := h
  obtain ⟨p, hs, h1, h2, h3⟩ := open_P1 hf
  refine ⟨p, ?_, h1, h2, h3⟩
  have e : cs.toList = [.int .i64 p.bits, .slice p.dP p.dl.length p.dc, .slice p.lP p.ll.length p.lc] := by simpa [Value.cells] using hs
  have e2 : cs = #[.int .i64 p.bits, .slice p.dP p.dl.length p.dc, .slice p.lP p.ll.length p.lc] := by apply Array.ext'; rw [e]
  rw [e2]

end Go.Proofs.YtdfmpbdeiaeopaaGreatDoor
/-
  The law of BootOk: its walk.
-/
namespace Go.Proofs.YtdfmpbdeiaeopaaGreatDoor
open Go.ChangeShapes Go.WideShapes Go.ChangeAt Go.RowKit
set_option linter.unusedVariables false

theorem QP.fit_of {p q : QP} (h : p.pl = q.pl) (hf : p.Fit) : q.Fit := by
  intro x hx t ht
  have h2 := QP.pl_l h
  have : x.pl ∈ p.ll.map QL.pl := by rw [h2]; exact List.mem_map_of_mem hx
  obtain ⟨y, hy, e⟩ := List.mem_map.1 this
  simp [QL.pl] at e
  exact hf y hy t (by rw [e.2.2]; exact ht)
theorem plan_of {p q : QP} (h : q.pl = p.pl) : planB (q.bits, q.dl, q.ll.map QL.pl) = planB p.pl := congrArg planB h

end Go.Proofs.YtdfmpbdeiaeopaaGreatDoor
/-
  The law of BootLabel: its walk.
-/
namespace Go.Proofs.YtdfmpbdeiaeopaaGreatDoor
open Go.ChangeShapes Go.WideShapes Go.ChangeAt Go.RowKit
set_option linter.unusedVariables false

theorem lab_of {p q : QP} (a : Int) (h : q.pl = p.pl) : labI a (q.bits, q.dl, q.ll.map QL.pl) = labI a p.pl := congrArg (labI a) h

set_option maxRecDepth 100000 in
set_option maxHeartbeats 4000000 in
theorem bootLabLaw_great (p : QP) (a : Int) (w : World) (hP : PlanIn w p) (lP : p.Long) (hsz : ¬ (p.sz : Int) ≤ 1048576) :
    Calls Tryz.prog 4 #[.agg #[.int .i64 p.bits, .slice p.dP p.dl.length p.dc, .slice p.lP p.ll.length p.lc], .int .i64 a] w fun e w' => e = .returned (.bool true) ∧ Below w.heap.size w w' := by
  have bw : Below w.heap.size w (w.alloc (.cells #[.int .i64 p.bits, .slice p.dP p.dl.length p.dc, .slice p.lP p.ll.length p.lc] 25)) := (Below.refl _ _).alloc (Nat.le_refl _) _
  have HS1 : Hid _ := szP_any p 1048576 _ (by decide) (by decide) lP (hP.below bw)
  rw [szR_neg hsz] at HS1
  go_enter Tryz.func4, Tryz.ntmps4
  go_wp2_with ((go_at_call 5; refine Calls.mono HS1.out ?_; rintro e w1 ⟨rfl, hb⟩))
  go_ret
  exact ⟨rfl, bw.trans (hb.mono bw.size)⟩

set_option maxRecDepth 100000 in
set_option maxHeartbeats 8000000 in
theorem bootLabLaw_any (p : QP) (a : Int) (w : World) (e0 e1 e2 e3 e4 : Addr) (hS : Sents w e0 e1 e2 e3 e4) (hP : PlanIn w p) (lP : p.Long) (fP : p.Fit) (hsz : (p.sz : Int) ≤ 1048576) (n : Int) (hpb : labI a p.pl = n) :
    Calls Tryz.prog 4 #[.agg #[.int .i64 p.bits, .slice p.dP p.dl.length p.dc, .slice p.lP p.ll.length p.lc], .int .i64 a] w fun e w' => e = .returned (.bool true) ∧ Below w.heap.size w w' := by
  have sh : p.Short := QP.short (by omega)
  have bw : Below w.heap.size w (w.alloc (.cells #[.int .i64 p.bits, .slice p.dP p.dl.length p.dc, .slice p.lP p.ll.length p.lc] 25)) := (Below.refl _ _).alloc (Nat.le_refl _) _
  have xa := Bx.new w 25 [.int .i64 p.bits, .slice p.dP p.dl.length p.dc, .slice p.lP p.ll.length p.lc]
  have HS1 : Hid _ := szP_any p 1048576 _ (by decide) (by decide) lP (hP.below bw)
  rw [szR_pos hsz] at HS1
  obtain ⟨z, hz⟩ : ∃ z : Int, 1048576 - (p.sz : Int) = z := ⟨_, rfl⟩
  rw [hz] at HS1
  have hz0 : ¬ z < 0 := by omega
  clear hz hsz
  have HT : Hid _ := fun (W : World) (hW : Below w.heap.size w W) => toP_any p W sh (hP.below hW)
  go_enter Tryz.func4, Tryz.ntmps4
  go_upto_region 10 with (first
    | (go_at_call 15; refine Calls.mono (labelI_any q2.bits q2.dP q2.dc q2.dl q2.lP q2.lc q2.ll a _ e0 e1 e2 e3 e4 (hS.below bw3A) p2A.d p2A.l p2A.li sh2.d sh2.l sh2.li (QP.fit_of hq2.symm fP)) ?_; rw [lab_of a hq2, hpb]; rintro e w4 ⟨rfl, hb4⟩)
    | (go_at_call 14; refine Calls.mono (labelSp_any q1.bits q1.dP q1.dc q1.dl q1.lP q1.lc q1.ll a _ p1.d p1.l p1.li sh1.d sh1.l sh1.li) ?_; rw [lab_of a hq1, hpb]; rintro e w2 ⟨rfl, hb2⟩; have bw2 := bw1.trans (hb2.mono bw1.size); have xa2 := xa1.below hb2; have a0 := xa2.cell 0 _ rfl; have a1 := xa2.cell 1 _ rfl; have a2 := xa2.cell 2 _ rfl)
    | (have _q := hb2; go_at_call 7; refine Calls.mono (HT.out _ bw2) ?_; rintro e w3 ⟨q2, rfl, hq2, p2, hb3⟩; have bw3 := bw2.trans (hb3.mono bw2.size); have xa3 := xa2.below hb3; have sh2 := QP.short_of hq2.symm sh; have bA : Below w3.heap.size w3 (w3.alloc (.cells #[.int .i64 q2.bits, .slice q2.dP q2.dl.length q2.dc, .slice q2.lP q2.ll.length q2.lc] 41)) := (Below.refl _ _).alloc (Nat.le_refl _) _; have bw3A := bw3.trans (bA.mono bw3.size); have p2A := p2.below bA)
    | (have _q := hbz; go_at_call 7; refine Calls.mono (HT.out _ bwz) ?_; rintro e w1 ⟨q1, rfl, hq1, p1, hb1⟩; have bw1 := bwz.trans (hb1.mono bwz.size); have xa1 := xaz.below hb1; have sh1 := QP.short_of hq1.symm sh)
    | (go_at_call 5; refine Calls.mono HS1.out ?_; rintro e wz ⟨rfl, hbz⟩; have bwz := bw.trans (hbz.mono bw.size); have xaz := xa.below hbz; have a0 := xaz.cell 0 _ rfl; have a1 := xaz.cell 1 _ rfl; have a2 := xaz.cell 2 _ rfl))
  have bw4 := bw3A.trans (hb4.mono bw3A.size)
  have x4 := (Bx.new w3 41 [.int .i64 q2.bits, .slice q2.dP q2.dl.length q2.dc, .slice q2.lP q2.ll.length q2.lc]).below hb4
  have xa4 := (xa3.below bA).below hb4
  have p24 := p2A.below hb4
  have s0 : (w4.cell? ⟨w3.heap.size, 0, none⟩ = some (.int .i64 q2.bits) ∧ w4.cell? ⟨w3.heap.size, 1, none⟩ = some (.slice q2.dP q2.dl.length q2.dc) ∧ w4.cell? ⟨w3.heap.size, 2, none⟩ = some (.slice q2.lP q2.ll.length q2.lc)) ∧ (w4.cell? ⟨w.heap.size, 0, none⟩ = some (.int .i64 p.bits) ∧ w4.cell? ⟨w.heap.size, 1, none⟩ = some (.slice p.dP p.dl.length p.dc) ∧ w4.cell? ⟨w.heap.size, 2, none⟩ = some (.slice p.lP p.ll.length p.lc)) := ⟨⟨x4.cell 0 _ rfl, x4.cell 1 _ rfl, x4.cell 2 _ rfl⟩, ⟨xa4.cell 0 _ rfl, xa4.cell 1 _ rfl, xa4.cell 2 _ rfl⟩⟩
  have s0d : (w4.drew.cell? ⟨w3.heap.size, 0, none⟩ = some (.int .i64 q2.bits) ∧ w4.drew.cell? ⟨w3.heap.size, 1, none⟩ = some (.slice q2.dP q2.dl.length q2.dc) ∧ w4.drew.cell? ⟨w3.heap.size, 2, none⟩ = some (.slice q2.lP q2.ll.length q2.lc)) ∧ (w4.drew.cell? ⟨w.heap.size, 0, none⟩ = some (.int .i64 p.bits) ∧ w4.drew.cell? ⟨w.heap.size, 1, none⟩ = some (.slice p.dP p.dl.length p.dc) ∧ w4.drew.cell? ⟨w.heap.size, 2, none⟩ = some (.slice p.lP p.ll.length p.lc)) := s0
  have b4d : Below w.heap.size w w4.drew := bw4.drew
  go_region_held3 (fun w' => (w'.cell? ⟨w3.heap.size, 0, none⟩ = some (.int .i64 q2.bits) ∧ w'.cell? ⟨w3.heap.size, 1, none⟩ = some (.slice q2.dP q2.dl.length q2.dc) ∧ w'.cell? ⟨w3.heap.size, 2, none⟩ = some (.slice q2.lP q2.ll.length q2.lc)) ∧ (w'.cell? ⟨w.heap.size, 0, none⟩ = some (.int .i64 p.bits) ∧ w'.cell? ⟨w.heap.size, 1, none⟩ = some (.slice p.dP p.dl.length p.dc) ∧ w'.cell? ⟨w.heap.size, 2, none⟩ = some (.slice p.lP p.ll.length p.lc))) (first | exact s0 | exact s0d | exact s5 | exact s6)
    (first
      | (go_at_call 7; refine Calls.mono (HT.out _ b4d) ?_; rintro e w5 ⟨q3, rfl, hq3, p3, hb5⟩; have x5 := x4.drew.below hb5; have xa5 := xa4.drew.below hb5; have s5 : (w5.cell? ⟨w3.heap.size, 0, none⟩ = some (.int .i64 q2.bits) ∧ w5.cell? ⟨w3.heap.size, 1, none⟩ = some (.slice q2.dP q2.dl.length q2.dc) ∧ w5.cell? ⟨w3.heap.size, 2, none⟩ = some (.slice q2.lP q2.ll.length q2.lc)) ∧ (w5.cell? ⟨w.heap.size, 0, none⟩ = some (.int .i64 p.bits) ∧ w5.cell? ⟨w.heap.size, 1, none⟩ = some (.slice p.dP p.dl.length p.dc) ∧ w5.cell? ⟨w.heap.size, 2, none⟩ = some (.slice p.lP p.ll.length p.lc)) := ⟨⟨x5.cell 0 _ rfl, x5.cell 1 _ rfl, x5.cell 2 _ rfl⟩, ⟨xa5.cell 0 _ rfl, xa5.cell 1 _ rfl, xa5.cell 2 _ rfl⟩⟩)
      | (go_at_call 10; refine Calls.mono (eqP_same q2 q3 _ sh2 (hq2.trans hq3.symm) (p24.drew.below hb5) p3) ?_; rintro e w6 ⟨rfl, hb6⟩; have x6 := x5.below hb6; have xa6 := xa5.below hb6; have s6 : (w6.cell? ⟨w3.heap.size, 0, none⟩ = some (.int .i64 q2.bits) ∧ w6.cell? ⟨w3.heap.size, 1, none⟩ = some (.slice q2.dP q2.dl.length q2.dc) ∧ w6.cell? ⟨w3.heap.size, 2, none⟩ = some (.slice q2.lP q2.ll.length q2.lc)) ∧ (w6.cell? ⟨w.heap.size, 0, none⟩ = some (.int .i64 p.bits) ∧ w6.cell? ⟨w.heap.size, 1, none⟩ = some (.slice p.dP p.dl.length p.dc) ∧ w6.cell? ⟨w.heap.size, 2, none⟩ = some (.slice p.lP p.ll.length p.lc)) := ⟨⟨x6.cell 0 _ rfl, x6.cell 1 _ rfl, x6.cell 2 _ rfl⟩, ⟨xa6.cell 0 _ rfl, xa6.cell 1 _ rfl, xa6.cell 2 _ rfl⟩⟩))
  go_wp2
  go_ret
  exact ⟨rfl, (b4d.trans (hb5.mono b4d.size)).trans (hb6.mono (Nat.le_trans b4d.size hb5.size))⟩

end Go.Proofs.YtdfmpbdeiaeopaaGreatDoor
