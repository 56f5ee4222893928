/-
  Texts of the proof, put together: KernObj, KernQueue.
-/
import Derived.Test.YtigpbjcmmgdiaaaGreatRc
import Derived.Test.YtigpbjcmmgdiaaaGreatBq
import Derived.Test.YtigpbjcmmgdiaaaGreatRd
/-
 Just one of each object, told both ways. Plain facts. Conditions: all lie where they may, originals of one origin are apart.
-/
namespace Go.Proofs.YtigpbjcmmgdiaaaGreat
open Go.ChangeShapes Go.WideShapes Go.ChangeAt Go.RowKit
set_option linter.unusedVariables false

/-- A list has just the addresses of the originals of a kind, ascending. -/
def ListP (L : List Sl) (kd : Int) (ats : List Int) : Prop :=
 ats.Pairwise (· < ·) ∧ ∀ a, a ∈ ats ↔ ∃ s ∈ L, s.o = true ∧ s.k = kd ∧ s.e = a
def origAts (L : List Sl) (kd : Int) : List Int := (L.filter (isOrig kd)).map Sl.e
theorem mem_origAts {L : List Sl} {kd a : Int} : a ∈ origAts L kd ↔ ∃ s ∈ L, s.o = true ∧ s.k = kd ∧ s.e = a := by
 unfold origAts isOrig
 simp only [List.mem_map, List.mem_filter, Bool.and_eq_true, beq_iff_eq]
 constructor
 ·rintro ⟨s, ⟨h1, h2, h3⟩, h4⟩; exact ⟨s, h1, h2, h3, h4⟩
 ·rintro ⟨s, h1, h2, h3, h4⟩; exact ⟨s, ⟨h1, h2, h3⟩, h4⟩
theorem origAts_nodup {bits : Int} {L : List Sl} (S : Sound bits L) {kd : Int} (hk : kd ≠ 1) : (origAts L kd).Nodup := by
 unfold origAts
 rw [List.Nodup, List.pairwise_map]
 have h : L.Pairwise (fun s u => isOrig kd s = true → isOrig kd u = true → s.e ≠ u.e) := by
  rw [List.pairwise_iff_getElem]
  intro i j hi hj hij h1 h2 he
  unfold isOrig at h1 h2
  simp only [Bool.and_eq_true, beq_iff_eq] at h1 h2
  have := objs_one S hi hj h1.1 h2.1 (by omega) (by omega) he
  omega
 have h2 := (List.Pairwise.filter (isOrig kd) h)
 refine List.Pairwise.imp_of_mem ?_ h2
 intro a b ha hb hab
 exact hab (List.mem_filter.1 ha).2 (List.mem_filter.1 hb).2
theorem adj_pair : ∀ {l : List Int}, (∀ j, j + 1 < l.length → l.getD j 0 < l.getD (j + 1) 0) → l.Pairwise (· < ·) := by
 intro l h
 rw [List.pairwise_iff_getElem]
 have key : ∀ k i, (hk : i + k + 1 < l.length) → l[i]'(by omega) < l[i + k + 1] := by
  intro k
  induction k with
  | zero =>
   intro i hk
   have := h i (by omega)
   rw [List.getD_eq_getElem?_getD, List.getD_eq_getElem?_getD, List.getElem?_eq_getElem (by omega), List.getElem?_eq_getElem (by omega)] at this
   simpa using this
  | succ k ih =>
   intro i hk
   have h1 := ih i (by omega)
   have h2 := h (i + k + 1) (by omega)
   rw [List.getD_eq_getElem?_getD, List.getD_eq_getElem?_getD, List.getElem?_eq_getElem (by omega), List.getElem?_eq_getElem (by omega)] at h2
   have h3 : l[i + k + 1]'(by omega) < l[i + k + 1 + 1]'(by omega) := by simpa using h2
   show l[i] < l[i + (k + 1) + 1]'hk
   have e : i + (k + 1) + 1 = i + k + 1 + 1 := by omega
   simp only [e]; omega
 intro i j hi hj hij
 have := key (j - i - 1) i (by omega)
 have e : i + (j - i - 1) + 1 = j := by omega
 simp only [e] at this
 exact this
theorem pair_adj {l : List Int} (h : l.Pairwise (· < ·)) (j : Nat) (hj : j + 1 < l.length) : l.getD j 0 < l.getD (j + 1) 0 := by
 rw [List.pairwise_iff_getElem] at h
 have := h j (j + 1) (by omega) hj (by omega)
 rw [List.getD_eq_getElem?_getD, List.getD_eq_getElem?_getD, List.getElem?_eq_getElem (by omega), List.getElem?_eq_getElem hj]
 simpa using this
theorem pair_nodup {l : List Int} (h : l.Pairwise (· < ·)) : l.Nodup := h.imp (fun hab => by omega)
theorem isObj_iff {kd a : Int} {s : Sl} : isObj kd a s = true ↔ s.o = true ∧ s.k = kd ∧ s.e = a := by
 unfold isObj; simp [and_assoc]
theorem objAt_iff {L : List Sl} {kd : Int} {ats : List Int} {j : Nat} (hj : j < ats.length) : objAtB L kd ats j = true ↔ (∃ s ∈ L, s.o = true ∧ s.k = kd ∧ s.e = ats.getD j 0) ∧ (j = 0 ∨ ats.getD (j - 1) 0 < ats.getD j 0) := by
 unfold objAtB
 rw [Bool.and_eq_true, Bool.or_eq_true, decide_eq_true_eq, decide_eq_true_eq]
 refine and_congr ?_ Iff.rfl
 rcases firstI_or (isObj kd (ats.getD j 0)) L with ⟨e, hn⟩ | ⟨k, hk, e, _, hp⟩
 ·rw [e]
  constructor
  ·intro h; cases h
  ·rintro ⟨s, hs, h1, h2, h3⟩
   have := List.find?_eq_none.1 hn s hs
   exact absurd (isObj_iff.2 ⟨h1, h2, h3⟩) this
 ·rw [e]
  obtain ⟨h1, h2, h3⟩ := isObj_iff.1 hp
  constructor
  ·intro _; exact ⟨L[k], List.getElem_mem hk, h1, h2, h3⟩
  ·intro _; simp
theorem eq_of_sub {l m : List Int} (hl : l.Nodup) (hs : ∀ x ∈ l, x ∈ m) (hm : m.length ≤ l.length) : ∀ x ∈ m, x ∈ l := by
 intro x hx
 apply Classical.byContradiction
 intro hn
 have h1 := sub_len l (m.erase x) hl (fun y hy => (List.mem_erase_of_ne (fun e => hn (by rw [← e]; exact hy))).2 (hs y hy))
 have h2 := List.length_erase_of_mem hx
 have h3 := List.length_pos_of_mem hx
 omega
theorem objs_list {bits : Int} {L : List Sl} (S : Sound bits L) {kd : Int} (hk : kd ≠ 1) (ats : List Int) : (((ats.length : Int) == cntI L kd) && objsB L kd ats) = true ↔ ListP L kd ats := by
 have hlen : cntI L kd = ((origAts L kd).length : Int) := by unfold cntI origAts; rw [List.length_map, List.countP_eq_length_filter]
 rw [Bool.and_eq_true, beq_iff_eq, hlen]
 constructor
 ·rintro ⟨h1, h2⟩
  have h3 : ∀ j (hj : j < ats.length), (∃ s ∈ L, s.o = true ∧ s.k = kd ∧ s.e = ats.getD j 0) ∧ (j = 0 ∨ ats.getD (j - 1) 0 < ats.getD j 0) := fun j hj => (objAt_iff hj).1 (List.all_eq_true.1 h2 j (List.mem_range.2 hj))
  have hp : ats.Pairwise (· < ·) := adj_pair fun j hj => by
   rcases (h3 (j + 1) hj).2 with e | e
   ·omega
   ·simpa using e
  have hsub : ∀ x ∈ ats, x ∈ origAts L kd := by
   intro x hx
   obtain ⟨j, hj, rfl⟩ := List.mem_iff_getElem.1 hx
   have := (h3 j hj).1
   rw [List.getD_eq_getElem?_getD, List.getElem?_eq_getElem hj] at this
   exact mem_origAts.2 this
  refine ⟨hp, fun a => ?_⟩
  rw [← mem_origAts]
  exact ⟨hsub a, eq_of_sub (pair_nodup hp) hsub (by omega) a⟩
 ·rintro ⟨hp, hm⟩
  have hm2 : ∀ a, a ∈ ats ↔ a ∈ origAts L kd := fun a => by rw [hm, mem_origAts]
  have l1 := sub_len ats (origAts L kd) (pair_nodup hp) (fun x hx => (hm2 x).1 hx)
  have l2 := sub_len (origAts L kd) ats (origAts_nodup S hk) (fun x hx => (hm2 x).2 hx)
  refine ⟨by omega, ?_⟩
  unfold objsB
  rw [List.all_eq_true]
  intro j hj
  have hj := List.mem_range.1 hj
  rw [objAt_iff hj]
  refine ⟨?_, ?_⟩
  ·rw [← hm]; rw [List.getD_eq_getElem?_getD, List.getElem?_eq_getElem hj]; exact List.getElem_mem hj
  ·rcases Nat.eq_zero_or_pos j with e | e
   ·exact .inl e
   ·right
    have := pair_adj hp (j - 1) (by omega)
    have e2 : j - 1 + 1 = j := by omega
    rw [e2] at this; exact this
/-- A frame has as many words as its original says, by the program. -/
def frameOkB (L : List Sl) (f : QF) : Bool := match L.find? (isObj 6 f.ad) with
 | none => false
 | some s => ((f.l.length : Nat) : Int) == szI 6 s.b
theorem frame_sz {s : Sl} (h : okB s.k s.e s.b s.r s.d s.g s.q s.f s.o = true) (hk : s.k = 6) : szI 6 s.b = sizeI s.b := by
 have p := ok_parts h
 have h1 : bornSz s = szI 6 s.b := by unfold bornSz; rw [if_neg (by simp [hk]), hk]
 have h2 : 0 < szI 6 s.b := by rw [← h1]; exact p.2.2.2.1
 unfold szI at h2 ⊢
 simp only [show ¬ (6 : Int) = 1 from by decide, show ¬ (6 : Int) = 2 from by decide, show ¬ (6 : Int) = 3 from by decide, show ¬ ((6 : Int) = 4 ∨ (6 : Int) = 5) from by decide, if_false, if_true] at h2 ⊢
 split
 ·rfl
 ·rename_i hb; rw [if_neg hb] at h2; omega
theorem frame_same {L : List Sl} (hT : treeB L = true) (f : QF) : frameOkB L f = frameLenB L f := by
 unfold frameOkB frameLenB
 cases hf : L.find? (isObj 6 f.ad) with
 | none => rfl
 | some s =>
  have hm := List.mem_of_find?_eq_some hf
  have hp := (isObj_iff.1 (List.find?_some hf)).2.1
  show (((f.l.length : Nat) : Int) == szI 6 s.b) = (((f.l.length : Nat) : Int) == sizeI s.b)
  rw [frame_sz (tree_okm hT s hm) hp]
/-- All rows of objects, told the program's way. -/
def ObjsP (K : QK) : Prop := ListP K.sl 3 (K.tl.map QT.a0) ∧ ListP K.sl 4 (K.el.map QE.ad) ∧ ListP K.sl 5 (K.nl.map QN.ad) ∧ ListP K.sl 6 (K.fl.map QF.ad) ∧ ∀ f ∈ K.fl, frameOkB K.sl f = true
theorem objects_iff {bits : Int} {K : QK} (S : Sound bits K.sl) : objectsB K = true ↔ ObjsP K := by
 have o3 := objs_list S (kd := 3) (by decide) (K.tl.map QT.a0)
 have o4 := objs_list S (kd := 4) (by decide) (K.el.map QE.ad)
 have o5 := objs_list S (kd := 5) (by decide) (K.nl.map QN.ad)
 have o6 := objs_list S (kd := 6) (by decide) (K.fl.map QF.ad)
 have hfr : framesB K.sl K.fl = true ↔ objsB K.sl 6 (K.fl.map QF.ad) = true ∧ ∀ f ∈ K.fl, frameOkB K.sl f = true := by
  unfold framesB objsB frameAtB
  rw [List.all_eq_true, List.all_eq_true, List.length_map]
  constructor
  ·intro h
   refine ⟨fun j hj => ?_, fun f hf => ?_⟩
   ·have := h j hj; rw [Bool.and_eq_true] at this; exact this.1
   ·obtain ⟨j, hj, rfl⟩ := List.mem_iff_getElem.1 hf
    have := h j (List.mem_range.2 hj)
    rw [Bool.and_eq_true, List.getElem?_eq_getElem hj] at this
    rw [frame_same S.tree]; exact this.2
  ·rintro ⟨h1, h2⟩ j hj
   have hjl := List.mem_range.1 hj
   rw [Bool.and_eq_true, List.getElem?_eq_getElem hjl]
   refine ⟨h1 j hj, ?_⟩
   have := h2 _ (List.getElem_mem hjl)
   rw [frame_same S.tree] at this; exact this
 unfold objectsB ObjsP
 rw [← o3, ← o4, ← o5, ← o6]
 simp only [List.length_map, Bool.and_eq_true] at *
 rw [hfr]
 constructor
 ·rintro ⟨⟨⟨⟨⟨⟨⟨a1, a2⟩, a3⟩, a4⟩, b1⟩, b2⟩, b3⟩, b4, c⟩
  exact ⟨⟨a1, b1⟩, ⟨a2, b2⟩, ⟨a3, b3⟩, ⟨a4, b4⟩, c⟩
 ·rintro ⟨⟨a1, b1⟩, ⟨a2, b2⟩, ⟨a3, b3⟩, ⟨a4, b4⟩, c⟩
  exact ⟨⟨⟨⟨⟨⟨⟨a1, a2⟩, a3⟩, a4⟩, b1⟩, b2⟩, b3⟩, b4, c⟩

end Go.Proofs.YtigpbjcmmgdiaaaGreat
/-
 The threads and the queues, told both ways. Plain facts. Condition: each row of objects ascends by address.
-/
namespace Go.Proofs.YtigpbjcmmgdiaaaGreat
open Go.ChangeShapes Go.WideShapes Go.ChangeAt Go.RowKit
set_option linter.unusedVariables false

abbrev Hd := Int × Int
/-- Where a thread belongs. -/
def belongs (t : QT) : Option Hd := if t.a1 = 1 then some (1, t.a2) else if t.a1 = 2 ∨ t.a1 = 3 ∨ t.a1 = 5 then some (t.a1, t.a5) else none
/-- All queues: those who wait, those who listen, those who are ready. -/
def queuesL (K : QK) : List (Hd × List Int) := K.el.map (fun e => ((e.kd + 1, e.ad), e.l)) ++ (K.nl.map (fun n => ((5, n.ad), n.l)) ++ (List.range 8).map (fun p : Nat => ((1, (p : Int)), (readyQ K p).l)))
def headOf (Q : List (Hd × List Int)) (a : Int) : Option Hd := (Q.find? (fun q => q.2.contains a)).map (fun q => q.1)
def endShapeB (e : QE) : Bool := if e.kd = 0 then (e.l.length == 0) else if e.kd = 1 ∨ e.kd = 2 then decide (0 < e.l.length) else false
def noteShapeB (n : QN) : Bool := if n.ac = true then (n.l.length == 0) && withinB n.wd 0 65535 else n.wd == 0
def onB (t : QT) : Bool := t.a1 == 2 || t.a1 == 3 || t.a1 == 5 || t.a5 == 0
def threadB (t : QT) : Bool := numB t && msgB t && pendB t && onB t
/-- Each stands where its state says, and nowhere else. -/
structure QueuesP (K : QK) : Prop where
 ends : ∀ e ∈ K.el, endShapeB e = true
 notes : ∀ n ∈ K.nl, noteShapeB n = true
 nodup : ((queuesL K).flatMap (fun q => q.2)).Nodup
 thr : ∀ a ∈ (queuesL K).flatMap (fun q => q.2), ∃ t ∈ K.tl, t.a0 = a
 head : ∀ t ∈ K.tl, headOf (queuesL K) t.a0 = belongs t
def RepliesP (K : QK) : Prop := ∀ t ∈ K.tl, (repN K t : Int) = if t.a1 = 4 then 1 else 0

theorem head_mem : ∀ {Q : List (Hd × List Int)} {q : Hd × List Int} {a : Int}, (Q.flatMap (fun q => q.2)).Nodup → q ∈ Q → a ∈ q.2 → headOf Q a = some q.1
 | q0 :: Q, q, a, hn, hq, ha => by
  rw [List.flatMap_cons, List.nodup_append] at hn
  unfold headOf
  rw [List.find?_cons]
  by_cases h0 : a ∈ q0.2
  ·have : q0.2.contains a = true := by simpa using h0
   rw [this]
   rcases List.mem_cons.1 hq with e | e
   ·subst e; rfl
   ·exact absurd rfl (hn.2.2 a h0 a (List.mem_flatMap.2 ⟨q, e, ha⟩))
  ·have : q0.2.contains a = false := by simpa using h0
   rw [this]
   rcases List.mem_cons.1 hq with e | e
   ·subst e; exact absurd ha h0
   ·exact head_mem hn.2.1 e ha
theorem head_some {Q : List (Hd × List Int)} {a : Int} {h : Hd} (hh : headOf Q a = some h) : ∃ q ∈ Q, q.1 = h ∧ a ∈ q.2 := by
 unfold headOf at hh
 obtain ⟨q, hq, e⟩ := Option.map_eq_some_iff.1 hh
 exact ⟨q, List.mem_of_find?_eq_some hq, e, by simpa using List.find?_some hq⟩
theorem perm_of_sub {α : Type} [DecidableEq α] : ∀ {l m : List α}, l.Nodup → (∀ x ∈ l, x ∈ m) → m.length ≤ l.length → l.Perm m
 | [], m, _, _, h => by
  have : m = [] := List.length_eq_zero_iff.1 (by simpa using h)
  rw [this]
 | a :: l, m, hn, hs, hl => by
  have ha := hs a (List.mem_cons_self ..)
  have hn2 := List.nodup_cons.1 hn
  have h1 := List.length_erase_of_mem ha
  have h2 := List.length_pos_of_mem ha
  have ih := perm_of_sub (l := l) (m := m.erase a) hn2.2 (fun x hx => (List.mem_erase_of_ne (fun e => hn2.1 (by rw [← e]; exact hx))).2 (hs x (List.mem_cons_of_mem _ hx))) (by simp at hl; omega)
  exact (ih.cons a).trans (List.perm_cons_erase ha).symm
theorem find_one {α : Type} {L : List α} {f : α → Int} (hp : (L.map f).Pairwise (· < ·)) {x : α} (hx : x ∈ L) : L.find? (fun y => f y == f x) = some x := by
 induction L with
 | nil => cases hx
 | cons a L ih =>
  rw [List.map_cons, List.pairwise_cons] at hp
  rw [List.find?_cons]
  rcases List.mem_cons.1 hx with e | e
  ·subst e; simp
  ·have := hp.1 (f x) (List.mem_map_of_mem e)
   have h2 : (f a == f x) = false := by simp; omega
   rw [h2]; exact ih hp.2 e
theorem map_inj {α : Type} {L : List α} {f : α → Int} (hp : (L.map f).Pairwise (· < ·)) {x y : α} (hx : x ∈ L) (hy : y ∈ L) (h : f x = f y) : x = y := by
 have h1 := find_one hp hx
 have h2 := find_one hp hy
 rw [h] at h1; rw [h1] at h2; injection h2
theorem count_one {l : List Int} {a : Int} (hn : l.Nodup) (h : a ∈ l) : l.countP (fun y => y == a) = 1 := by
 have h1 : l.countP (fun y => y == a) = l.count a := rfl
 rw [h1]
 have h2 := List.nodup_iff_count.1 hn a
 have h3 := List.count_pos_iff.2 h
 omega
theorem count_mem {l : List Int} {a : Int} (h : ((l.countP (fun y => y == a) : Nat) : Int) = 1) : a ∈ l := by
 have h1 : l.countP (fun y => y == a) = l.count a := rfl
 rw [h1] at h
 exact List.count_pos_iff.1 (by omega)
/-- What is in a queue. -/
theorem mem_queues {K : QK} {q : Hd × List Int} : q ∈ queuesL K ↔ (∃ e ∈ K.el, q = ((e.kd + 1, e.ad), e.l)) ∨ (∃ n ∈ K.nl, q = ((5, n.ad), n.l)) ∨ ∃ p : Nat, p < 8 ∧ q = ((1, (p : Int)), (readyQ K p).l) := by
 unfold queuesL
 simp only [List.mem_append, List.mem_map, List.mem_range]
 constructor
 ·rintro (⟨e, he, rfl⟩ | ⟨n, hn, rfl⟩ | ⟨p, hp, rfl⟩)
  ·exact .inl ⟨e, he, rfl⟩
  ·exact .inr (.inl ⟨n, hn, rfl⟩)
  ·exact .inr (.inr ⟨p, hp, rfl⟩)
 ·rintro (⟨e, he, rfl⟩ | ⟨n, hn, rfl⟩ | ⟨p, hp, rfl⟩)
  ·exact .inl ⟨e, he, rfl⟩
  ·exact .inr (.inl ⟨n, hn, rfl⟩)
  ·exact .inr (.inr ⟨p, hp, rfl⟩)
/-- Those who are ready, with their priorities. -/
def readyE (K : QK) : List (Int × Int) := (List.range 8).flatMap (fun p : Nat => (readyQ K p).l.map (fun a => (a, (p : Int))))
def runsE (K : QK) : List (Int × Int) := (K.tl.filter isRun).map (fun t => (t.a0, t.a2))
theorem readyE_len (K : QK) : ((readyE K).length : Int) = readyN K 8 := by
 unfold readyE
 simp [List.range_succ, readyN]; omega
theorem mem_readyE {K : QK} {x : Int × Int} : x ∈ readyE K ↔ ∃ p : Nat, p < 8 ∧ x.2 = (p : Int) ∧ x.1 ∈ (readyQ K p).l := by
 unfold readyE
 simp only [List.mem_flatMap, List.mem_range, List.mem_map]
 constructor
 ·rintro ⟨p, hp, a, ha, rfl⟩; exact ⟨p, hp, rfl, ha⟩
 ·rintro ⟨p, hp, h1, h2⟩; exact ⟨p, hp, x.1, h2, by rw [← h1]⟩
theorem mem_runsE {K : QK} {x : Int × Int} : x ∈ runsE K ↔ ∃ t ∈ K.tl, t.a1 = 1 ∧ x = (t.a0, t.a2) := by
 unfold runsE isRun
 simp only [List.mem_map, List.mem_filter, beq_iff_eq]
 constructor
 ·rintro ⟨t, ⟨h1, h2⟩, h3⟩; exact ⟨t, h1, h2, h3.symm⟩
 ·rintro ⟨t, h1, h2, h3⟩; exact ⟨t, ⟨h1, h2⟩, h3.symm⟩
theorem runsE_nodup {K : QK} (ht : (K.tl.map QT.a0).Pairwise (· < ·)) : (runsE K).Nodup := by
 unfold runsE
 rw [List.Nodup, List.pairwise_map]
 rw [List.pairwise_map] at ht
 exact (ht.filter isRun).imp (fun h e => by injection e with e1 _; omega)
theorem runsE_len (K : QK) : (runsE K).length = K.tl.countP isRun := by
 unfold runsE; rw [List.length_map, List.countP_eq_length_filter]

theorem queues_to {K : QK} (ht : (K.tl.map QT.a0).Pairwise (· < ·)) (he : (K.el.map QE.ad).Pairwise (· < ·)) (hn : (K.nl.map QN.ad).Pairwise (· < ·)) (h : queuesB K = true) : (∀ t ∈ K.tl, threadB t = true) ∧ QueuesP K ∧ RepliesP K := by
 unfold queuesB at h
 simp only [Bool.and_eq_true, List.all_eq_true, beq_iff_eq] at h
 obtain ⟨h1, h2, h3, h4⟩ := h
 have hf : ∀ t ∈ K.tl, numB t = true ∧ msgB t = true ∧ pendB t = true ∧ whereB K t = true ∧ (repN K t : Int) = (if t.a1 = 4 then 1 else 0) ∧ (t.a1 = 1 → (((readyQ K t.a2.toNat).l.countP (fun y => y == t.a0) : Nat) : Int) = 1) := by
  intro t htm
  have := h1 t htm
  unfold thQB fieldsB isRun at this
  simp only [Bool.and_eq_true, Bool.or_eq_true, Bool.not_eq_true', beq_iff_eq, decide_eq_true_eq, beq_eq_false_iff_ne] at this
  obtain ⟨⟨⟨⟨⟨⟨a1, a2⟩, a3⟩, a4⟩, a5⟩, a6⟩, a7⟩ := this
  refine ⟨a1, a2, a3, a4, ?_, fun e => ?_⟩
  ·by_cases e : t.a1 = 4
   ·rw [if_pos e]
    have : (t.a1 == 4) = true := by simpa using e
    rw [this] at a5; simpa using a5
   ·rw [if_neg e]
    have : (t.a1 == 4) = false := by simpa using e
    rw [this] at a5
    have : ((repN K t : Int) == 1) = false := a5
    simp at this; omega
  ·rcases a7 with e2 | e2
   ·exact absurd e e2
   ·exact e2
 have hprio : ∀ t ∈ K.tl, 0 ≤ t.a2 ∧ t.a2 ≤ 7 := by
  intro t htm
  have := (hf t htm).1
  unfold numB at this
  simp only [Bool.and_eq_true, Bool.not_eq_true', decide_eq_false_iff_not] at this
  omega
 have hep : ∀ e ∈ K.el, endShapeB e = true ∧ 0 ≤ e.kd ∧ e.kd ≤ 2 ∧ (e.kd = 0 → e.l = []) ∧ ∀ a ∈ e.l, ∃ t ∈ K.tl, t.a0 = a ∧ t.a1 = e.kd + 1 ∧ t.a5 = e.ad := by
  intro e hem
  have := h2 e hem
  unfold endQB at this
  simp only [Bool.and_eq_true, Bool.not_eq_true', decide_eq_false_iff_not, List.all_eq_true, beq_iff_eq] at this
  obtain ⟨⟨⟨a1, a2⟩, a3⟩, a4⟩ := this
  have hz : e.kd = 0 ↔ e.l.length = 0 := by
   have h5 : (e.kd = 0) ↔ ((e.l.length : Int) = 0) := by
    constructor
    ·intro e1
     have : (e.kd == 0) = true := by simpa using e1
     rw [this] at a3; simpa using a3.symm
    ·intro e1
     have : ((e.l.length : Int) == 0) = true := by simpa using e1
     rw [this] at a3; simpa using a3
   rw [h5]; omega
  refine ⟨?_, by omega, by omega, fun e0 => List.length_eq_zero_iff.1 (hz.1 e0), fun a ha => ?_⟩
  ·unfold endShapeB
   by_cases e0 : e.kd = 0
   ·rw [if_pos e0]; simpa using hz.1 e0
   ·rw [if_neg e0, if_pos (by omega)]
    have : ¬ e.l.length = 0 := fun e1 => e0 (hz.2 e1)
    simp; omega
  ·have := a4 a ha
   unfold thWaitB at this
   cases hfd : K.tl.find? (fun s => s.a0 == a) with
   | none => rw [hfd] at this; cases this
   | some t =>
    rw [hfd] at this
    simp only [Bool.and_eq_true, beq_iff_eq] at this
    exact ⟨t, List.mem_of_find?_eq_some hfd, by simpa using List.find?_some hfd, this.1, this.2⟩
 have hnp : ∀ n ∈ K.nl, noteShapeB n = true ∧ ∀ a ∈ n.l, ∃ t ∈ K.tl, t.a0 = a ∧ t.a1 = 5 ∧ t.a5 = n.ad := by
  intro n hnm
  have := h3 n hnm
  unfold noteQB at this
  simp only [Bool.and_eq_true, Bool.not_eq_true', decide_eq_false_iff_not, List.all_eq_true] at this
  obtain ⟨⟨⟨⟨a1, a2⟩, a3⟩, a4⟩, a5⟩ := this
  refine ⟨?_, fun a ha => ?_⟩
  ·unfold noteShapeB withinB
   cases hac : n.ac with
   | true =>
    rw [hac] at a3
    simp at a3 ⊢
    exact ⟨a3, by omega⟩
   | false =>
    rw [hac] at a4
    simpa using a4
  ·have := a5 a ha
   unfold thWaitB at this
   cases hfd : K.tl.find? (fun s => s.a0 == a) with
   | none => rw [hfd] at this; cases this
   | some t =>
    rw [hfd] at this
    simp only [Bool.and_eq_true, beq_iff_eq] at this
    exact ⟨t, List.mem_of_find?_eq_some hfd, by simpa using List.find?_some hfd, this.1, this.2⟩
 have hsub : ∀ x ∈ runsE K, x ∈ readyE K := by
  intro x hx
  obtain ⟨t, htm, hr, rfl⟩ := mem_runsE.1 hx
  have hp := hprio t htm
  exact mem_readyE.2 ⟨t.a2.toNat, by omega, by show t.a2 = _; omega, count_mem ((hf t htm).2.2.2.2.2 hr)⟩
 have hperm : (runsE K).Perm (readyE K) := by
  refine perm_of_sub (runsE_nodup ht) hsub ?_
  have e1 := readyE_len K
  have e2 := runsE_len K
  omega
 have hrp : ∀ p, p < 8 → ∀ a ∈ (readyQ K p).l, ∃ t ∈ K.tl, t.a0 = a ∧ t.a1 = 1 ∧ t.a2 = (p : Int) := by
  intro p hp a ha
  have := hperm.mem_iff.2 (mem_readyE.2 ⟨p, hp, rfl, ha⟩ : (a, (p : Int)) ∈ readyE K)
  obtain ⟨t, htm, hr, e⟩ := mem_runsE.1 this
  injection e with e1 e2
  exact ⟨t, htm, e1.symm, hr, e2.symm⟩
 have hall : ∀ q ∈ queuesL K, ∀ a ∈ q.2, ∃ t ∈ K.tl, t.a0 = a ∧ belongs t = some q.1 := by
  intro q hq a ha
  rcases mem_queues.1 hq with ⟨e, hem, rfl⟩ | ⟨n, hnm, rfl⟩ | ⟨p, hp, rfl⟩
  ·obtain ⟨_, b1, b2, b3, b4⟩ := hep e hem
   obtain ⟨t, htm, t0, t1, t5⟩ := b4 a ha
   refine ⟨t, htm, t0, ?_⟩
   have : e.kd ≠ 0 := fun e0 => by rw [b3 e0] at ha; cases ha
   unfold belongs
   rw [if_neg (by omega), if_pos (by omega), t1, t5]
  ·obtain ⟨t, htm, t0, t1, t5⟩ := (hnp n hnm).2 a ha
   refine ⟨t, htm, t0, ?_⟩
   unfold belongs
   rw [if_neg (by omega), if_pos (by omega), t1, t5]
  ·obtain ⟨t, htm, t0, t1, t2⟩ := hrp p hp a ha
   refine ⟨t, htm, t0, ?_⟩
   unfold belongs
   rw [if_pos t1, t2]
 have hone : ∀ q ∈ queuesL K, q.2.Nodup := by
  intro q hq
  rcases mem_queues.1 hq with ⟨e, hem, rfl⟩ | ⟨n, hnm, rfl⟩ | ⟨p, hp, rfl⟩
  ·rw [List.nodup_iff_count]
   intro a
   by_cases ha : a ∈ e.l
   ·obtain ⟨_, b1, b2, b3, b4⟩ := hep e hem
    obtain ⟨t, htm, t0, t1, t5⟩ := b4 a ha
    have hk0 : e.kd ≠ 0 := fun e0 => by rw [b3 e0] at ha; cases ha
    have hw := (hf t htm).2.2.2.1
    unfold whereB at hw
    have hfe : K.el.find? (fun s => s.ad == t.a5) = some e := by rw [t5]; exact find_one he hem
    rcases (by omega : e.kd = 1 ∨ e.kd = 2) with ek | ek
    ·have e1 : (t.a1 == 2) = true := by simp; omega
     rw [if_pos e1] at hw
     unfold atEndB at hw
     rw [hfe] at hw
     simp only [Bool.and_eq_true, beq_iff_eq] at hw
     have h9 := hw.2
     rw [t0] at h9
     have h8 : e.l.countP (fun y => y == a) = e.l.count a := rfl
     show e.l.count a ≤ 1
     omega
    ·have e1 : ¬ (t.a1 == 2) = true := by simp; omega
     have e2 : (t.a1 == 3) = true := by simp; omega
     rw [if_neg e1, if_pos e2] at hw
     unfold atEndB at hw
     rw [hfe] at hw
     simp only [Bool.and_eq_true, beq_iff_eq] at hw
     have h9 := hw.2
     rw [t0] at h9
     have h8 : e.l.countP (fun y => y == a) = e.l.count a := rfl
     show e.l.count a ≤ 1
     omega
   ·show e.l.count a ≤ 1
    rw [List.count_eq_zero.2 ha]; omega
  ·rw [List.nodup_iff_count]
   intro a
   by_cases ha : a ∈ n.l
   ·obtain ⟨t, htm, t0, t1, t5⟩ := (hnp n hnm).2 a ha
    have hw := (hf t htm).2.2.2.1
    unfold whereB at hw
    have hfe : K.nl.find? (fun s => s.ad == t.a5) = some n := by rw [t5]; exact find_one hn hnm
    have e1 : ¬ (t.a1 == 2) = true := by simp; omega
    have e2 : ¬ (t.a1 == 3) = true := by simp; omega
    have e3 : (t.a1 == 5) = true := by simp; omega
    rw [if_neg e1, if_neg e2, if_pos e3] at hw
    unfold atNoteB at hw
    rw [hfe] at hw
    simp only [beq_iff_eq] at hw
    rw [t0] at hw
    have h8 : n.l.countP (fun y => y == a) = n.l.count a := rfl
    show n.l.count a ≤ 1
    omega
   ·show n.l.count a ≤ 1
    rw [List.count_eq_zero.2 ha]; omega
  ·have h5 : (readyE K).Nodup := hperm.nodup_iff.1 (runsE_nodup ht)
   unfold readyE at h5
   rw [List.Nodup, List.pairwise_flatMap] at h5
   have := h5.1 p (List.mem_range.2 hp)
   rw [List.pairwise_map] at this
   exact this.imp (fun hab e => hab (by rw [e]))
 refine ⟨fun t htm => ?_, ⟨fun e hem => (hep e hem).1, fun n hnm => (hnp n hnm).1, ?_, ?_, ?_⟩, fun t htm => (hf t htm).2.2.2.2.1⟩
 ·obtain ⟨a1, a2, a3, a4, _⟩ := hf t htm
  unfold threadB
  rw [a1, a2, a3]
  unfold whereB at a4
  unfold onB
  cases e2 : (t.a1 == 2)
  ·cases e3 : (t.a1 == 3)
   ·cases e5 : (t.a1 == 5)
    ·rw [e2, e3, e5] at a4; simpa using a4
    ·rfl
   ·rfl
  ·rfl
 ·have hdis : ∀ q q', q ∈ queuesL K → q' ∈ queuesL K → q.1 ≠ q'.1 → ∀ x ∈ q.2, ∀ y ∈ q'.2, x ≠ y := by
   intro q q' hq hq' hne x hx y hy e
   subst e
   obtain ⟨t, htm, t0, tb⟩ := hall q hq x hx
   obtain ⟨t', htm', t0', tb'⟩ := hall q' hq' x hy
   have : t = t' := map_inj ht htm htm' (by omega)
   subst this
   rw [tb] at tb'; injection tb' with e; exact hne e
  rw [List.Nodup, List.pairwise_flatMap]
  refine ⟨fun q hq => hone q hq, ?_⟩
  unfold queuesL
  rw [List.pairwise_append, List.pairwise_append]
  refine ⟨?_, ⟨?_, ?_, ?_⟩, ?_⟩
  ·rw [List.pairwise_map]
   rw [List.pairwise_map] at he
   refine List.Pairwise.imp_of_mem ?_ he
   intro a b ha hb hab
   exact hdis _ _ (mem_queues.2 (.inl ⟨a, ha, rfl⟩)) (mem_queues.2 (.inl ⟨b, hb, rfl⟩)) (fun e => by injection e with _ e; omega)
  ·rw [List.pairwise_map]
   rw [List.pairwise_map] at hn
   refine List.Pairwise.imp_of_mem ?_ hn
   intro a b ha hb hab
   exact hdis _ _ (mem_queues.2 (.inr (.inl ⟨a, ha, rfl⟩))) (mem_queues.2 (.inr (.inl ⟨b, hb, rfl⟩))) (fun e => by injection e with _ e; omega)
  ·rw [List.pairwise_map]
   have := List.pairwise_lt_range (n := 8)
   refine List.Pairwise.imp_of_mem ?_ this
   intro a b ha hb hab
   exact hdis _ _ (mem_queues.2 (.inr (.inr ⟨a, List.mem_range.1 ha, rfl⟩))) (mem_queues.2 (.inr (.inr ⟨b, List.mem_range.1 hb, rfl⟩))) (fun e => by injection e with _ e; omega)
  ·intro q hq q' hq'
   obtain ⟨n, hnm, rfl⟩ := List.mem_map.1 hq
   obtain ⟨p, hp, rfl⟩ := List.mem_map.1 hq'
   exact hdis _ _ (mem_queues.2 (.inr (.inl ⟨n, hnm, rfl⟩))) (mem_queues.2 (.inr (.inr ⟨p, List.mem_range.1 hp, rfl⟩))) (fun e => by injection e with e _; omega)
  ·intro q hq q' hq' x hx y hy
   obtain ⟨e, hem, rfl⟩ := List.mem_map.1 hq
   obtain ⟨_, b1, b2, b3, _⟩ := hep e hem
   have hk0 : e.kd ≠ 0 := fun e0 => by rw [b3 e0] at hx; cases hx
   rcases List.mem_append.1 hq' with hq2 | hq2
   ·obtain ⟨n, hnm, rfl⟩ := List.mem_map.1 hq2
    exact hdis _ _ (mem_queues.2 (.inl ⟨e, hem, rfl⟩)) (mem_queues.2 (.inr (.inl ⟨n, hnm, rfl⟩))) (fun e => by injection e with e _; omega) x hx y hy
   ·obtain ⟨p, hp, rfl⟩ := List.mem_map.1 hq2
    exact hdis _ _ (mem_queues.2 (.inl ⟨e, hem, rfl⟩)) (mem_queues.2 (.inr (.inr ⟨p, List.mem_range.1 hp, rfl⟩))) (fun e => by injection e with e _; omega) x hx y hy
 ·intro a ha
  obtain ⟨q, hq, haq⟩ := List.mem_flatMap.1 ha
  obtain ⟨t, htm, t0, _⟩ := hall q hq a haq
  exact ⟨t, htm, t0⟩
 ·intro t htm
  cases hb : belongs t with
  | none =>
   cases hh : headOf (queuesL K) t.a0 with
   | none => rfl
   | some h =>
    obtain ⟨q, hq, _, hm⟩ := head_some hh
    obtain ⟨t', htm', t0, tb⟩ := hall q hq _ hm
    have : t' = t := map_inj ht htm' htm t0
    subst this; rw [hb] at tb; cases tb
  | some h =>
   have hin : ∃ q ∈ queuesL K, t.a0 ∈ q.2 := by
    have hff := hf t htm
    have hw := hff.2.2.2.1
    unfold belongs at hb
    by_cases e1 : t.a1 = 1
    ·have hp := hprio t htm
     exact ⟨_, mem_queues.2 (.inr (.inr ⟨t.a2.toNat, by omega, rfl⟩)), count_mem (hff.2.2.2.2.2 e1)⟩
    ·rw [if_neg e1] at hb
     by_cases e2 : t.a1 = 2
     ·unfold whereB at hw
      rw [if_pos (by simpa using e2)] at hw
      unfold atEndB at hw
      cases hfe : K.el.find? (fun s => s.ad == t.a5) with
      | none => rw [hfe] at hw; cases hw
      | some e =>
       rw [hfe] at hw
       simp only [Bool.and_eq_true, beq_iff_eq] at hw
       exact ⟨_, mem_queues.2 (.inl ⟨e, List.mem_of_find?_eq_some hfe, rfl⟩), count_mem hw.2⟩
     ·by_cases e3 : t.a1 = 3
      ·unfold whereB at hw
       rw [if_neg (by simpa using e2), if_pos (by simpa using e3)] at hw
       unfold atEndB at hw
       cases hfe : K.el.find? (fun s => s.ad == t.a5) with
       | none => rw [hfe] at hw; cases hw
       | some e =>
        rw [hfe] at hw
        simp only [Bool.and_eq_true, beq_iff_eq] at hw
        exact ⟨_, mem_queues.2 (.inl ⟨e, List.mem_of_find?_eq_some hfe, rfl⟩), count_mem hw.2⟩
      ·by_cases e5 : t.a1 = 5
       ·unfold whereB at hw
        rw [if_neg (by simpa using e2), if_neg (by simpa using e3), if_pos (by simpa using e5)] at hw
        unfold atNoteB at hw
        cases hfe : K.nl.find? (fun s => s.ad == t.a5) with
        | none => rw [hfe] at hw; cases hw
        | some n =>
         rw [hfe] at hw
         simp only [beq_iff_eq] at hw
         exact ⟨_, mem_queues.2 (.inr (.inl ⟨n, List.mem_of_find?_eq_some hfe, rfl⟩)), count_mem hw⟩
       ·rw [if_neg (by omega)] at hb; cases hb
   obtain ⟨q, hq, hm⟩ := hin
   cases hh : headOf (queuesL K) t.a0 with
   | none =>
    exfalso
    unfold headOf at hh
    rw [Option.map_eq_none_iff, List.find?_eq_none] at hh
    exact hh q hq (by simpa using hm)
   | some h' =>
    obtain ⟨q', hq', e', hm'⟩ := head_some hh
    obtain ⟨t', htm', t0, tb⟩ := hall q' hq' _ hm'
    have : t' = t := map_inj ht htm' htm t0
    subst this; rw [hb] at tb; rw [← e', tb]

theorem queues_from {K : QK} (ht : (K.tl.map QT.a0).Pairwise (· < ·)) (he : (K.el.map QE.ad).Pairwise (· < ·)) (hn : (K.nl.map QN.ad).Pairwise (· < ·)) (hth : ∀ t ∈ K.tl, threadB t = true) (Q : QueuesP K) (R : RepliesP K) : queuesB K = true := by
 have hth2 : ∀ t ∈ K.tl, numB t = true ∧ msgB t = true ∧ pendB t = true ∧ onB t = true := by
  intro t htm
  have := hth t htm
  unfold threadB at this
  simp only [Bool.and_eq_true] at this
  exact ⟨this.1.1.1, this.1.1.2, this.1.2, this.2⟩
 have hprio : ∀ t ∈ K.tl, 0 ≤ t.a2 ∧ t.a2 ≤ 7 := by
  intro t htm
  have := (hth2 t htm).1
  unfold numB at this
  simp only [Bool.and_eq_true, Bool.not_eq_true', decide_eq_false_iff_not] at this
  omega
 have hone : ∀ q ∈ queuesL K, q.2.Nodup := by
  have := Q.nodup
  rw [List.Nodup, List.pairwise_flatMap] at this
  exact fun q hq => this.1 q hq
 have hesh : ∀ e ∈ K.el, 0 ≤ e.kd ∧ e.kd ≤ 2 ∧ (e.kd = 0 ↔ e.l = []) := by
  intro e hem
  have := Q.ends e hem
  unfold endShapeB at this
  by_cases e0 : e.kd = 0
  ·rw [if_pos e0] at this
   have h2 : e.l = [] := List.length_eq_zero_iff.1 (by simpa using this)
   exact ⟨by omega, by omega, fun _ => h2, fun _ => e0⟩
  ·rw [if_neg e0] at this
   by_cases e1 : e.kd = 1 ∨ e.kd = 2
   ·rw [if_pos e1] at this
    refine ⟨by omega, by omega, fun h => absurd h e0, fun h => ?_⟩
    rw [h] at this; simp at this
   ·rw [if_neg e1] at this; cases this
 -- whoever stands in a queue belongs there
 have hbel : ∀ q ∈ queuesL K, ∀ a ∈ q.2, ∃ t ∈ K.tl, t.a0 = a ∧ belongs t = some q.1 := by
  intro q hq a ha
  obtain ⟨t, htm, t0⟩ := Q.thr a (List.mem_flatMap.2 ⟨q, hq, ha⟩)
  refine ⟨t, htm, t0, ?_⟩
  rw [← Q.head t htm, t0]
  exact head_mem Q.nodup hq ha
 have hin : ∀ t ∈ K.tl, ∀ h, belongs t = some h → ∃ q ∈ queuesL K, q.1 = h ∧ t.a0 ∈ q.2 := by
  intro t htm h hb
  exact head_some (by rw [Q.head t htm, hb])
 have hend : ∀ t ∈ K.tl, ∀ k, (k = 1 ∨ k = 2) → t.a1 = k + 1 → atEndB K.el t.a5 k t.a0 = true := by
  intro t htm k hk e1
  have hb : belongs t = some (k + 1, t.a5) := by unfold belongs; rw [if_neg (by omega), if_pos (by omega), e1]
  obtain ⟨q, hq, hqh, hm⟩ := hin t htm _ hb
  rcases mem_queues.1 hq with ⟨e, hem, rfl⟩ | ⟨n, hnm, rfl⟩ | ⟨p, hp, rfl⟩
  ·injection hqh with h1 h2
   unfold atEndB
   have hfe : K.el.find? (fun s => s.ad == t.a5) = some e := by rw [← h2]; exact find_one he hem
   rw [hfe]
   have := count_one (hone _ hq) hm
   have hm2 : e.l.countP (fun y => y == t.a0) = 1 := this
   simp only [Bool.and_eq_true, beq_iff_eq]
   exact ⟨by omega, by omega⟩
  ·injection hqh with h1 h2; omega
  ·injection hqh with h1 h2; omega
 have hwh : ∀ t ∈ K.tl, whereB K t = true := by
  intro t htm
  unfold whereB
  cases e2 : (t.a1 == 2)
  ·cases e3 : (t.a1 == 3)
   ·cases e5 : (t.a1 == 5)
    ·have := (hth2 t htm).2.2.2
     unfold onB at this
     rw [e2, e3, e5] at this
     simpa using this
    ·simp only [if_true, Bool.false_eq_true, if_false]
     have e5' : t.a1 = 5 := by simpa using e5
     have hb : belongs t = some (5, t.a5) := by unfold belongs; rw [if_neg (by omega), if_pos (by omega), e5']
     obtain ⟨q, hq, hqh, hm⟩ := hin t htm _ hb
     rcases mem_queues.1 hq with ⟨e, hem, rfl⟩ | ⟨n, hnm, rfl⟩ | ⟨p, hp, rfl⟩
     ·injection hqh with h1 h2
      have := hesh e hem; omega
     ·injection hqh with h1 h2
      unfold atNoteB
      have hfe : K.nl.find? (fun s => s.ad == t.a5) = some n := by rw [← h2]; exact find_one hn hnm
      rw [hfe]
      have hm2 : n.l.countP (fun y => y == t.a0) = 1 := count_one (hone _ hq) hm
      simp only [beq_iff_eq]; omega
     ·injection hqh with h1 h2; omega
   ·simp only [if_true, Bool.false_eq_true, if_false]
    exact hend t htm 2 (.inr rfl) (by simpa using e3)
  ·simp only [if_true]
   exact hend t htm 1 (.inl rfl) (by simpa using e2)
 have hrun : ∀ t ∈ K.tl, t.a1 = 1 → t.a0 ∈ (readyQ K t.a2.toNat).l ∧ (((readyQ K t.a2.toNat).l.countP (fun y => y == t.a0) : Nat) : Int) = 1 := by
  intro t htm e1
  have hb : belongs t = some (1, t.a2) := by unfold belongs; rw [if_pos e1]
  obtain ⟨q, hq, hqh, hm⟩ := hin t htm _ hb
  rcases mem_queues.1 hq with ⟨e, hem, rfl⟩ | ⟨n, hnm, rfl⟩ | ⟨p, hp, rfl⟩
  ·injection hqh with h1 h2
   have := (hesh e hem).2.2.1 (by omega)
   have hm' : t.a0 ∈ e.l := hm
   rw [this] at hm'; cases hm'
  ·injection hqh with h1 h2; omega
  ·injection hqh with h1 h2
   have e3 : t.a2.toNat = p := by omega
   rw [e3]
   have hm' : t.a0 ∈ (readyQ K p).l := hm
   have := count_one (hone _ hq) hm'
   have h9 : (readyQ K p).l.countP (fun y => y == t.a0) = 1 := this
   exact ⟨hm', by omega⟩
 have hwait : ∀ a t st on, t ∈ K.tl → t.a0 = a → t.a1 = st → t.a5 = on → thWaitB K.tl st on a = true := by
  intro a t st on htm t0 t1 t5
  unfold thWaitB
  rw [← t0, find_one (f := QT.a0) ht htm]
  simp [t1, t5]
 unfold queuesB
 simp only [Bool.and_eq_true, List.all_eq_true, beq_iff_eq]
 refine ⟨fun t htm => ?_, fun e hem => ?_, fun n hnm => ?_, ?_⟩
 ·obtain ⟨a1, a2, a3, _⟩ := hth2 t htm
  have hr := R t htm
  unfold thQB fieldsB
  rw [a1, a2, a3, hwh t htm]
  have h5 : ((((repN K t : Nat) : Int) == 1) == (t.a1 == 4)) = true := by
   by_cases e4 : t.a1 = 4
   ·rw [if_pos e4] at hr; simp [hr, e4]
   ·rw [if_neg e4] at hr; simp [hr, e4]
  have h6 : decide (((repN K t : Nat) : Int) ≤ 1) = true := by
   simp only [decide_eq_true_eq]
   split at hr <;> omega
  rw [h5, h6]
  simp only [Bool.and_true, Bool.true_and, Bool.or_eq_true, Bool.not_eq_true', beq_iff_eq]
  by_cases e1 : t.a1 = 1
  ·exact .inr (hrun t htm e1).2
  ·exact .inl (by unfold isRun; simpa using e1)
 ·obtain ⟨b1, b2, b3⟩ := hesh e hem
  unfold endQB
  simp only [Bool.and_eq_true, Bool.not_eq_true', decide_eq_false_iff_not, List.all_eq_true, beq_iff_eq]
  refine ⟨⟨⟨by omega, by omega⟩, ?_⟩, fun a ha => ?_⟩
  ·by_cases e0 : e.kd = 0
   ·rw [b3.1 e0]; simp [e0]
   ·have : e.l ≠ [] := fun h => e0 (b3.2 h)
    have h2 : (e.kd == 0) = false := by simpa using e0
    rw [h2]
    have h3 : ¬ e.l.length = 0 := fun h => this (List.length_eq_zero_iff.1 h)
    symm; simp; exact this
  ·obtain ⟨t, htm, t0, tb⟩ := hbel _ (mem_queues.2 (.inl ⟨e, hem, rfl⟩)) a ha
   have hk0 : e.kd ≠ 0 := fun e0 => by rw [b3.1 e0] at ha; cases ha
   unfold belongs at tb
   by_cases e1 : t.a1 = 1
   ·rw [if_pos e1] at tb; injection tb with tb; injection tb with t1 t2; omega
   ·rw [if_neg e1] at tb
    by_cases e2 : t.a1 = 2 ∨ t.a1 = 3 ∨ t.a1 = 5
    ·rw [if_pos e2] at tb; injection tb with tb; injection tb with t1 t2
     exact hwait a t _ _ htm t0 t1 t2
    ·rw [if_neg e2] at tb; cases tb
 ·have hns := Q.notes n hnm
  unfold noteShapeB at hns
  unfold noteQB
  simp only [Bool.and_eq_true, Bool.not_eq_true', decide_eq_false_iff_not, List.all_eq_true]
  refine ⟨?_, fun a ha => ?_⟩
  ·cases hac : n.ac with
   | true =>
    rw [hac] at hns
    simp only [if_true, Bool.and_eq_true, beq_iff_eq, withinB, decide_eq_true_eq] at hns
    simp [hns.1]; omega
   | false =>
    rw [hac] at hns
    simp at hns
    simp [hns]
  ·obtain ⟨t, htm, t0, tb⟩ := hbel _ (mem_queues.2 (.inr (.inl ⟨n, hnm, rfl⟩))) a ha
   unfold belongs at tb
   by_cases e1 : t.a1 = 1
   ·rw [if_pos e1] at tb; injection tb with tb; injection tb with t1 t2; omega
   ·rw [if_neg e1] at tb
    by_cases e2 : t.a1 = 2 ∨ t.a1 = 3 ∨ t.a1 = 5
    ·rw [if_pos e2] at tb; injection tb with tb; injection tb with t1 t2
     exact hwait a t _ _ htm t0 t1 t2
    ·rw [if_neg e2] at tb; cases tb
 ·have s1 : ∀ x ∈ runsE K, x ∈ readyE K := by
   intro x hx
   obtain ⟨t, htm, hr, rfl⟩ := mem_runsE.1 hx
   have hp := hprio t htm
   exact mem_readyE.2 ⟨t.a2.toNat, by omega, by show t.a2 = _; omega, (hrun t htm hr).1⟩
  have s2 : ∀ x ∈ readyE K, x ∈ runsE K := by
   intro x hx
   obtain ⟨p, hp, h1, h2⟩ := mem_readyE.1 hx
   obtain ⟨t, htm, t0, tb⟩ := hbel _ (mem_queues.2 (.inr (.inr ⟨p, hp, rfl⟩))) x.1 h2
   have : t.a1 = 1 ∧ t.a2 = (p : Int) := by
    unfold belongs at tb
    by_cases e1 : t.a1 = 1
    ·rw [if_pos e1] at tb; injection tb with tb; injection tb with t1 t2; exact ⟨e1, t2⟩
    ·rw [if_neg e1] at tb
     by_cases e2 : t.a1 = 2 ∨ t.a1 = 3 ∨ t.a1 = 5
     ·rw [if_pos e2] at tb; injection tb with tb; injection tb with t1 t2; omega
     ·rw [if_neg e2] at tb; cases tb
   exact mem_runsE.2 ⟨t, htm, this.1, by rw [t0, this.2, ← h1]⟩
  have n2 : (readyE K).Nodup := by
   have hnd := Q.nodup
   unfold queuesL at hnd
   rw [List.flatMap_append, List.nodup_append] at hnd
   have hnd2 := hnd.2.1
   rw [List.flatMap_append, List.nodup_append] at hnd2
   have hnd3 := hnd2.2.1
   rw [List.flatMap_map] at hnd3
   have hmap : (readyE K).map (fun x => x.1) = (List.range 8).flatMap (fun p : Nat => (readyQ K p).l) := by
    unfold readyE
    rw [List.map_flatMap]
    congr 1
    funext p
    rw [List.map_map]; simp [Function.comp_def]
   have hnd4 : ((readyE K).map (fun x => x.1)).Nodup := by rw [hmap]; exact hnd3
   rw [List.Nodup, List.pairwise_map] at hnd4
   exact hnd4.imp (fun hab e => hab (by rw [e]))
  have l1 := sub_len (runsE K) (readyE K) (runsE_nodup ht) s1
  have l2 := sub_len (readyE K) (runsE K) n2 s2
  have e1 := readyE_len K
  have e2 := runsE_len K
  omega

end Go.Proofs.YtigpbjcmmgdiaaaGreat
