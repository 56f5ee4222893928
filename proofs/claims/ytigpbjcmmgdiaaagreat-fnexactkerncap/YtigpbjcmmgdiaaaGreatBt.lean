/-
  Texts of the proof, put together: FindSpec, TreeB, TreeOkImpl.
-/
import Derived.Test.YtigpbjcmmgdiaaaGreatBb
import Derived.Test.YtigpbjcmmgdiaaaGreatBi
import Derived.Deep.DeepCutAuto
/-
 Where a slot with an address is, by the specification.
-/
namespace Go.Proofs.YtigpbjcmmgdiaaaGreat
open Go.ChangeShapes Go.WideShapes Go.ChangeAt Go.RowKit
set_option linter.unusedVariables false

/-- The first place of an At, or -1. -/
def findI : List Sl → Int → Int
 | [], _ => -1
 | s :: L, x => if s.t = x then 0 else if findI L x < 0 then -1 else findI L x + 1

theorem findI_ge : ∀ (L : List Sl) (x : Int), -1 ≤ findI L x
 | [], _ => by simp [findI]
 | s :: L, x => by
  have := findI_ge L x
  unfold findI
  repeat' split
  all_goals omega
theorem findI_no : ∀ (L : List Sl) (x : Int), (∀ i (h : i < L.length), L[i].t ≠ x) → findI L x = -1
 | [], _, _ => rfl
 | s :: L, x, h => by
  have h0 := h 0 (by simp)
  have ih := findI_no L x fun i hi => h (i + 1) (by simpa using hi)
  simp at h0
  simp [findI, h0, ih]
theorem findI_at : ∀ (L : List Sl) (x : Int) (k : Nat) (hk : k < L.length), L[k].t = x → (∀ i (h : i < k), L[i].t ≠ x) → findI L x = k
 | s :: L, x, 0, _, h, _ => by simp at h; simp [findI, h]
 | s :: L, x, k + 1, hk, h, hn => by
  have h0 := hn 0 (by omega)
  have ih := findI_at L x k (by simpa using hk) (by simpa using h) fun i hi => by simpa using hn (i + 1) (by omega)
  simp at h0
  simp only [findI, h0, if_false, ih]
  omega

set_option maxHeartbeats 400000 in
theorem findSpec_any (P : Option Addr) (n c : Nat) (x : Int) (L : List Sl) (w : World) (hn : n = L.length) (hl : n ≤ 1048576) (h : Lies w P L) :
  Calls Tryz.prog 26 #[.slice P n c, .int .i64 x] w fun e w' => e = .returned (.int .i64 (findI L x)) ∧ w' = w := by
 go_enter Tryz.func26, Tryz.ntmps26
 go_wp2
 go_loop [5] (fun i => ∃ k : Nat, k ≤ L.length ∧ i = .int .i64 k ∧ ∀ j (hj : j < k) (hk : k ≤ L.length), L[j].t ≠ x) (fun i => L.length - (intOf i).toNat)
 case atStart => exact ⟨0, Nat.zero_le _, rfl, fun j hj => absurd hj (Nat.not_lt_zero _)⟩
 case round =>
  obtain ⟨k, hk, rfl, hne⟩ := hrel
  have hb : (n : Int) ≤ 1048576 := by omega
  by_cases hlt : k < L.length
  ·obtain ⟨B, O, rfl⟩ := h.some hlt
   have hc := h.cells B O rfl k hlt
   have c0 := hc.c0
   have hkn : k < n := by omega
   by_cases he : L[k].t = x
   ·have HE : Hid _ := he
    have he2 : (L[k].t == x) = true := by simpa using he
    clear he
    go_wp2
    go_ret
    exact ⟨ret_int (findI_at L x k hlt HE.out (fun i hi => hne i hi (by omega))).symm, rfl⟩
   ·have he2 : (L[k].t == x) = false := by simpa using he
    go_wp2
    go_round
    case rel =>
     refine ⟨k + 1, by omega, by go_num, fun j hj hk1 => ?_⟩
     rcases Nat.lt_succ_iff_lt_or_eq.1 hj with h1 | h1
     ·exact hne j h1 (by omega)
     ·subst h1; exact he
    case measure => simp [intOf]; omega
  ·have hkn : ¬ k < n := by omega
   go_wp2
   go_ret
   exact ⟨ret_int (findI_no L x (fun i hi => hne i (by omega) hk)).symm, rfl⟩

end Go.Proofs.YtigpbjcmmgdiaaaGreat
/-
 What is a tree: the plain facts.
-/
namespace Go.Proofs.YtigpbjcmmgdiaaaGreat
set_option linter.unusedVariables false

/-- A slot may stand behind these, the last of which has this depth. -/
def slotB (was : Int) (pre : List Sl) (s : Sl) : Bool :=
 decide (0 ≤ s.p) && decide (s.p ≤ was + 1) && decide (s.p ≤ 12) && decide (64 ≤ s.t) && decide (s.t < 4096) && decide (s.t % 4 = 0) && okB s.k s.e s.b s.r s.d s.g s.q s.f s.o && decide (findI pre s.t < 0)
/-- All that follow may stand where they do. -/
def goB (was : Int) (pre : List Sl) : List Sl → Bool
 | [] => true
 | s :: rest => slotB was pre s && goB s.p (pre ++ [s]) rest
/-- A list is a tree. -/
def treeB (L : List Sl) : Bool := decide (L.length ≤ 300) && goB (-1) [] L

/-- A round: where a slot may not stand there, the list is no tree. -/
theorem goB_no {L : List Sl} {was : Int} {k : Nat} (hk : k < L.length) (hg : goB (-1) [] L = goB was (L.take k) (L.drop k)) (hs : slotB was (L.take k) L[k] = false) : treeB L = false := by
 rw [treeB, hg, List.drop_eq_getElem_cons hk, goB, hs]; simp
theorem goB_yes {L : List Sl} {was : Int} {k : Nat} (hk : k < L.length) (hg : goB (-1) [] L = goB was (L.take k) (L.drop k)) (hs : slotB was (L.take k) L[k] = true) : goB (-1) [] L = goB L[k].p (L.take (k + 1)) (L.drop (k + 1)) := by
 rw [hg, List.drop_eq_getElem_cons hk, goB, hs, Bool.true_and, List.take_succ_eq_append_getElem hk]
theorem treeB_end {L : List Sl} {was : Int} {k : Nat} (hl : L.length ≤ 300) (hk : L.length ≤ k) (hg : goB (-1) [] L = goB was (L.take k) (L.drop k)) : treeB L = true := by
 rw [treeB, hg, List.drop_eq_nil_of_le hk, goB]; simpa using hl
theorem treeB_long {L : List Sl} (hl : 300 < L.length) : treeB L = false := by
 rw [treeB, decide_eq_false (by omega), Bool.false_and]

theorem slotB_parts {was : Int} {pre : List Sl} {s : Sl} : slotB was pre s = true ↔ 0 ≤ s.p ∧ s.p ≤ was + 1 ∧ s.p ≤ 12 ∧ 64 ≤ s.t ∧ s.t < 4096 ∧ s.t % 4 = 0 ∧ okB s.k s.e s.b s.r s.d s.g s.q s.f s.o = true ∧ findI pre s.t < 0 := by
 simp [slotB, and_assoc]
theorem slotB_not {was : Int} {pre : List Sl} {s : Sl} (h : ¬ (0 ≤ s.p ∧ s.p ≤ was + 1 ∧ s.p ≤ 12 ∧ 64 ≤ s.t ∧ s.t < 4096 ∧ s.t % 4 = 0 ∧ okB s.k s.e s.b s.r s.d s.g s.q s.f s.o = true ∧ findI pre s.t < 0)) : slotB was pre s = false := by
 rw [← slotB_parts] at h; simpa using h

end Go.Proofs.YtigpbjcmmgdiaaaGreat
/-
 What TreeOk of the program answers.
-/
namespace Go.Proofs.YtigpbjcmmgdiaaaGreat
open Go.ChangeShapes Go.WideShapes Go.ChangeAt Go.RowKit
set_option linter.unusedVariables false

/-- An address of a slot. -/
def atB (t : Int) : Bool := withinB t 64 4095 && alignB t 4

set_option maxHeartbeats 400000 in
theorem atImpl_any (t : Int) (w : World) :
  Calls Tryz.prog 173 #[.int .i64 t] w fun e w' => e = .returned (.bool (atB t)) ∧ Below w.heap.size w w' := by
 cases h : withinB t 64 4095
 ·go_enter Tryz.func173, Tryz.ntmps173
  go_wp2_with (first
   | (go_at_call 99; refine (within_no _ _ _ _ h).mono ?_; rintro e w1 ⟨rfl, rfl⟩))
  go_ret
  exact ⟨ret_bool (by simp [atB, h]), Below.refl _ _⟩
 ·go_enter Tryz.func173, Tryz.ntmps173
  go_wp2_with (first
   | (go_at_call 99; refine (within_yes _ _ _ _ h).mono ?_; rintro e w1 ⟨rfl, rfl⟩)
   | (go_at_call 188; refine (alignImpl_any _ _ _).mono ?_; rintro e w1 ⟨rfl, hb1⟩))
  go_ret
  exact ⟨ret_bool (by simp [atB, h]), hb1⟩

theorem atImpl_to (t : Int) (x : Bool) (w : World) (h : atB t = x) :
  Calls Tryz.prog 173 #[.int .i64 t] w fun e w' => e = .returned (.bool x) ∧ Below w.heap.size w w' := by
 have := atImpl_any t w; rw [h] at this; exact this
theorem okImpl_to (k a b r d g q f : Int) (o x : Bool) (w : World) (h0 : -9223372036854775808 ≤ r) (h1 : r ≤ 9223372036854775807) (h : okB k a b r d g q f o = x) :
  Calls Tryz.prog 174 #[.agg #[.int .i64 k, .int .i64 a, .int .i64 b, .int .i64 r, .int .i64 d, .int .i64 g, .int .i64 q, .int .i64 f, .bool o]] w fun e w' => e = .returned (.bool x) ∧ Below w.heap.size w w' := by
 have := okImpl_any k a b r d g q f o w h0 h1; rw [h] at this; exact this

theorem atB_of {t : Int} (h : atB t = true) : 64 ≤ t ∧ t < 4096 ∧ t % 4 = 0 := by
 simp only [atB, withinB, alignB, Bool.and_eq_true, decide_eq_true_eq, beq_iff_eq] at h
 omega
theorem atB_mk {t : Int} (h : atB t = false) : ¬ (64 ≤ t ∧ t < 4096 ∧ t % 4 = 0) := by
 intro ⟨h1, h2, h3⟩
 have : atB t = true := by
  simp only [atB, withinB, alignB, fineB, Bool.and_eq_true, decide_eq_true_eq, beq_iff_eq]
  omega
 rw [h] at this; cases this

/-- The marks of the addresses that are taken. -/
structure Marks (W : World) (A : Nat) (pre : List Sl) : Prop where
 c : ∀ j, j < 1024 → W.cell? ⟨A, j, none⟩ = some (.bool (decide (0 ≤ findI pre (4 * (j : Nat)))))
 z : ∀ j, W.frozen? ⟨A, j, none⟩ = false

theorem Marks.below {W W' : World} {A : Nat} {pre : List Sl} (h : Marks W A pre) (hb : Below W.heap.size W W') (hA : A < W.heap.size) : Marks W' A pre :=
 ⟨fun j hj => ((bcell hb).1 _ _ hA).trans (h.c j hj), fun j => ((bcell hb).2 _ _ hA).trans (h.z j)⟩

theorem zeros : Tryz.zeroCells202 = Array.replicate 1024 (Value.bool false) := by kernel_rfl

theorem Marks.new (w : World) (T : Nat) : Marks (w.alloc (.cells Tryz.zeroCells202 T)) w.heap.size [] := by
 rw [zeros]
 refine ⟨fun j hj => ?_, fun j => by go_simp⟩
 have e : decide (0 ≤ findI [] (4 * (j : Nat))) = false := by simp [findI]
 rw [e]
 go_simp

theorem liesSet {W : World} {P : Option Addr} {L : List Sl} (h : Lies W P L) (A J : Nat) (v : Value) (hA : ∀ B O, P = some ⟨B, O, none⟩ → B ≠ A) : Lies (W.setCell ⟨A, J, none⟩ v) P L :=
 ⟨h.place, fun B O e i hi => (h.cells B O e i hi).of fun j => by have := hA B O e; go_simp⟩

theorem findI_snoc (pre : List Sl) (s : Sl) (x : Int) : (0 ≤ findI (pre ++ [s]) x) ↔ (0 ≤ findI pre x ∨ s.t = x) := by
 induction pre with
 | nil => simp [findI]; split <;> simp_all
 | cons a pre ih =>
  have h1 := findI_ge (pre ++ [s]) x
  have h2 := findI_ge pre x
  simp only [List.cons_append, findI]
  by_cases e : a.t = x
  ·simp [e]
  ·simp only [e, if_false]
   by_cases h : findI (pre ++ [s]) x < 0
   ·have : ¬ (0 ≤ findI pre x ∨ s.t = x) := fun g => by have := ih.2 g; omega
    have : findI pre x < 0 := by omega
    simp [h, this]; omega
   ·have g : 0 ≤ findI pre x ∨ s.t = x := ih.1 (by omega)
    simp only [h, if_false]
    by_cases h3 : findI pre x < 0
    ·simp only [h3, if_true]; omega
    ·simp only [h3, if_false]; omega

theorem Marks.put {W : World} {A J : Nat} {pre : List Sl} {s : Sl} (h : Marks W A pre) (hJ : s.t = 4 * (J : Int)) (hJ1 : J < 1024) : Marks (W.setCell ⟨A, J, none⟩ (.bool true)) A (pre ++ [s]) := by
 refine ⟨fun j hj => ?_, fun j => by have := h.z j; go_simp⟩
 by_cases e : j = J
 ·subst e
  have hc := h.c j hj
  have : decide (0 ≤ findI (pre ++ [s]) (4 * (j : Nat))) = true := by
   simp only [decide_eq_true_eq]; exact (findI_snoc pre s _).2 (.inr hJ)
  rw [this]
  go_simp
 ·have hc := h.c j hj
  have : decide (0 ≤ findI (pre ++ [s]) (4 * (j : Nat))) = decide (0 ≤ findI pre (4 * (j : Nat))) := by
   rw [Bool.eq_iff_iff]; simp only [decide_eq_true_eq]; rw [findI_snoc]
   constructor
   ·rintro (g | g)
    ·exact g
    ·exact absurd g (by omega)
   ·exact .inl
  rw [this]
  go_simp

/-- What stands between two rounds. -/
def okInv (w : World) (P : Option Addr) (L : List Sl) (v i : Value) (w' : World) : Prop :=
 ∃ (k : Nat) (was : Int), k ≤ L.length ∧ i = .int .i64 k ∧ v = .int .i64 (min (was + 1) 12) ∧ -1 ≤ was ∧ was ≤ 12 ∧ goB (-1) [] L = goB was (L.take k) (L.drop k) ∧ Lies w' P L ∧ Marks w' w.heap.size (L.take k) ∧ w.heap.size < w'.heap.size ∧ Below w.heap.size w w'

set_option maxRecDepth 100000 in
set_option maxHeartbeats 4000000 in
theorem treeOkImpl_any (P : Option Addr) (n c : Nat) (L : List Sl) (w : World) (hn : n = L.length) (hl : n ≤ 1048576) (hcap : n ≤ c) (hcm : c ≤ 9223372036854775807) (h : Lies w P L) (hfit : ∀ s ∈ L, s.Fit) :
  Calls Tryz.prog 153 #[.slice P n c] w fun e w' => e = .returned (.bool (treeB L)) ∧ Below w.heap.size w w' := by
 by_cases hbig : 300 < n
 ·go_enter Tryz.func153, Tryz.ntmps153
  go_wp2
  go_ret
  exact ⟨ret_bool (treeB_long (by omega)).symm, Below.refl _ _⟩
 ·have hM := Marks.new w 202
  go_enter Tryz.func153, Tryz.ntmps153
  go_wp2
  go_loopw [4, 12] (fun v i w' => okInv w P L v i w') (fun v i w' => L.length - (intOf i).toNat)
  case atStart => exact ⟨0, -1, Nat.zero_le _, rfl, rfl, by omega, by omega, rfl, h.below ((Below.refl _ _).alloc (Nat.le_refl _) _), hM, by simp, (Below.refl _ _).alloc (Nat.le_refl _) _⟩
  case round =>
   obtain ⟨k, was, hk, rfl, rfl, hw0, hw1, hg, hL, hMk, hA, hB⟩ := hrel
   have HG : Hid _ := hg
   clear hg hM
   by_cases hlt : k < L.length
   ·obtain ⟨B, O, rfl⟩ := hL.some hlt
    have hkn : k < n := by omega
    obtain ⟨s, hs⟩ : ∃ s, L[k] = s := ⟨_, rfl⟩
    have hc := hL.cells B O rfl k hlt
    rw [hs] at hc
    have hBlt := hc.lt
    have hfs : s.Fit := by rw [← hs]; exact hfit _ (List.getElem_mem hlt)
    have HS : Hid (L[k] = s) := hs
    clear hs
    obtain ⟨c0, c1, c2, c3, c4, c5, c6, c7, c8, c9, c10⟩ := hc
    cases h1 : atB s.t
    ·have hno : Hid (treeB L = false) := goB_no hlt HG.out (by rw [HS.out]; exact slotB_not (by have := atB_mk h1; omega))
     go_wp2_with (first
      | (go_at_call 173; refine (atImpl_to _ _ _ h1).mono ?_; rintro e w1 ⟨rfl, hb1⟩; obtain ⟨hc1, hf1⟩ := bcell hb1))
     go_ret
     exact ⟨ret_bool hno.out.symm, hB.trans (hb1.mono hB.size)⟩
    ·have ⟨ht0, ht1, ht2⟩ := atB_of h1
     obtain ⟨J, hJ⟩ : ∃ J : Nat, s.t = 4 * (J : Int) := ⟨(s.t / 4).toNat, by omega⟩
     have hJ1 : J < 1024 := by omega
     have hJ2 : (J : Int) < 1024 := by omega
     have hq : s.t / 4 = (J : Int) := by omega
     have hcm := hMk.c J hJ1
     have hzm := hMk.z J
     have HJ : Hid _ := hJ
     clear hJ
     by_cases h2 : 0 ≤ findI (L.take k) (4 * (J : Nat))
     ·have g2 : decide (0 ≤ findI (L.take k) (4 * (J : Nat))) = true := by simpa using h2
      rw [g2] at hcm
      have hno : Hid (treeB L = false) := goB_no hlt HG.out (by rw [HS.out]; exact slotB_not (by have := HJ.out; rw [this]; omega))
      go_wp2_with (first
       | (go_at_call 173; refine (atImpl_to _ _ _ h1).mono ?_; rintro e w1 ⟨rfl, hb1⟩; obtain ⟨hc1, hf1⟩ := bcell hb1))
      go_ret
      exact ⟨ret_bool hno.out.symm, hB.trans (hb1.mono hB.size)⟩
     ·have g2 : decide (0 ≤ findI (L.take k) (4 * (J : Nat))) = false := by simpa using h2
      rw [g2] at hcm
      have hr := hfs.r
      have hf2 : findI (L.take k) s.t < 0 := by rw [HJ.out]; omega
      have hcmin : (min (was + 1) 12) ≤ 12 := by omega
      cases h3 : okB s.k s.e s.b s.r s.d s.g s.q s.f s.o
      ·have hno : Hid (treeB L = false) := goB_no hlt HG.out (by rw [HS.out]; exact slotB_not (by rw [h3]; simp))
       go_wp2_with (first
        | (go_at_call 173; refine (atImpl_to _ _ _ h1).mono ?_; rintro e w1 ⟨rfl, hb1⟩; obtain ⟨hc1, hf1⟩ := bcell hb1)
        | (go_at_call 174; refine (okImpl_to _ _ _ _ _ _ _ _ _ _ _ hr.1 hr.2 h3).mono ?_; rintro e w2 ⟨rfl, hb2⟩; obtain ⟨hc2, hf2⟩ := bcell hb2))
       go_ret
       exact ⟨ret_bool hno.out.symm, hB.trans ((hb1.trans (hb2.mono hb1.size)).mono hB.size)⟩
      ·cases h4 : withinB s.p 0 (min (was + 1) 12)
       ·have hno : Hid (treeB L = false) := goB_no hlt HG.out (by rw [HS.out]; exact slotB_not (by simp [withinB] at h4; omega))
        go_wp2_with (first
         | (go_at_call 173; refine (atImpl_to _ _ _ h1).mono ?_; rintro e w1 ⟨rfl, hb1⟩; obtain ⟨hc1, hf1⟩ := bcell hb1)
         | (go_at_call 174; refine (okImpl_to _ _ _ _ _ _ _ _ _ _ _ hr.1 hr.2 h3).mono ?_; rintro e w2 ⟨rfl, hb2⟩; have hA2 : w.heap.size < w1.heap.size := (by have := hb1.size; omega); have hB2 : B < w1.heap.size := (by have := hb1.size; omega); obtain ⟨hc2, hf2⟩ := bcell hb2)
         | (go_at_call 99; refine (within_no _ _ _ _ h4).mono ?_; rintro e w3 ⟨rfl, rfl⟩))
        go_ret
        exact ⟨ret_bool hno.out.symm, hB.trans ((hb1.trans (hb2.mono hb1.size)).mono hB.size)⟩
       ·have hp : 0 ≤ s.p ∧ s.p ≤ was + 1 ∧ s.p ≤ 12 := by simp [withinB] at h4; omega
        have hyes : Hid (goB (-1) [] L = goB s.p (L.take (k + 1)) (L.drop (k + 1))) := by
         have := goB_yes hlt HG.out (by rw [HS.out]; exact slotB_parts.2 ⟨hp.1, hp.2.1, hp.2.2, ht0, ht1, ht2, h3, hf2⟩)
         rw [HS.out] at this; exact this
        have hp0 := hp.1
        have hp1 := hp.2.2
        have hne : ¬ B = w.heap.size := by
         have := (h.cells B O rfl k hlt).lt
         omega
        go_wp2_with (first
         | (go_at_call 173; refine (atImpl_to _ _ _ h1).mono ?_; rintro e w1 ⟨rfl, hb1⟩; obtain ⟨hc1, hf1⟩ := bcell hb1)
         | (go_at_call 174; refine (okImpl_to _ _ _ _ _ _ _ _ _ _ _ hr.1 hr.2 h3).mono ?_; rintro e w2 ⟨rfl, hb2⟩; have hA2 : w.heap.size < w1.heap.size := (by have := hb1.size; omega); have hB2 : B < w1.heap.size := (by have := hb1.size; omega); obtain ⟨hc2, hf2⟩ := bcell hb2)
         | (go_at_call 99; refine (within_yes _ _ _ _ h4).mono ?_; rintro e w3 ⟨rfl, rfl⟩))
        all_goals
         refine ⟨⟨_, _, _, _, _, ?_, rfl, rfl, rfl, rfl, rfl⟩, by simp [intOf]; omega⟩
         have hb12 := hb1.trans (hb2.mono hb1.size)
         have hMk2 := (hMk.below hb12 hA).put (s := s) HJ.out hJ1
         refine ⟨k + 1, s.p, by omega, by go_num, ?_, by omega, by omega, hyes.out, liesSet (hL.below hb12) _ _ _ (fun B' O' e => by cases e; exact hne), ?_, ?_, ?_⟩
         ·congr 1; omega
         ·rw [List.take_succ_eq_append_getElem hlt, HS.out]; exact hMk2
         ·simp; have := hb12.size; omega
         ·exact (hB.trans (hb12.mono hB.size)).setCell (Nat.le_refl _) _
   ·have hkn : ¬ k < n := by omega
    go_wp2
    go_ret
    exact ⟨ret_bool (treeB_end (by omega) (by omega) HG.out).symm, hB⟩

end Go.Proofs.YtigpbjcmmgdiaaaGreat
