/-
  Texts of the proof, put together: KernHome, HomeS, QueueS.
-/
import Derived.Test.YtigpbjcmmgdiaaaGreatRc
import Derived.Test.YtigpbjcmmgdiaaaGreatSpec4G
import Derived.Test.YtigpbjcmmgdiaaaGreatRv
import Derived.Test.YtigpbjcmmgdiaaaGreatBp
import Derived.Test.YtigpbjcmmgdiaaaGreatRi
import Derived.Test.YtigpbjcmmgdiaaaGreatRf
import Derived.Test.YtigpbjcmmgdiaaaGreatRa
/-
 In whose object a slot lies, told both ways; who keeps whom from going, told both ways: the one graph has a ring just if the other has. Plain facts. Conditions: all lie where they may, originals of one origin are apart.
-/
namespace Go.Proofs.YtigpbjcmmgdiaaaGreat
open Go.ChangeShapes Go.WideShapes Go.ChangeAt Go.RowKit
set_option linter.unusedVariables false

def holdsB (x : Int) (s : Sl) : Bool := !(holdP x s == -1)
/-- The place of the original in whose object an address lies, or -1. -/
def homeI (L : List Sl) (x : Int) : Int := firstI (holdsB x) L
theorem hold_cases (x : Int) (s : Sl) : (holdP x s = -1 ∧ holdsB x s = false) ∨ (holdP x s = 2 ∧ holdsB x s = true ∧ s.o = true ∧ s.k = 2 ∧ inB x 4 s.e (szI s.k s.b) = true) ∨ (holdP x s = 3 ∧ holdsB x s = true ∧ s.o = true ∧ s.k = 3 ∧ inB x 4 s.e 12 = true) := by
 have hb : holdsB x s = !(holdP x s == -1) := rfl
 rw [hb]
 unfold holdP
 by_cases h1 : (s.o && x.tmod 4 == 0) = true
 ·rw [if_pos h1]
  simp only [Bool.and_eq_true] at h1
  by_cases h2 : (s.k == 2 && inB x 4 s.e (szI s.k s.b)) = true
  ·rw [if_pos h2]
   simp only [Bool.and_eq_true, beq_iff_eq] at h2
   exact .inr (.inl ⟨rfl, rfl, h1.1, h2.1, h2.2⟩)
  ·rw [if_neg h2]
   by_cases h3 : (s.k == 3 && inB x 4 s.e 12) = true
   ·rw [if_pos h3]
    simp only [Bool.and_eq_true, beq_iff_eq] at h3
    exact .inr (.inr ⟨rfl, rfl, h1.1, h3.1, h3.2⟩)
   ·rw [if_neg h3]; exact .inl ⟨rfl, rfl⟩
 ·rw [if_neg h1]; exact .inl ⟨rfl, rfl⟩
/-- What holds an address: an original that is no region, and has it among its words. -/
theorem hold_in {bits : Int} {L : List Sl} (S : Sound bits L) {x : Int} {i : Nat} (hi : i < L.length) (h : holdsB x L[i] = true) : L[i].o = true ∧ L[i].k ≠ 1 ∧ L[i].e ≤ x ∧ x + 4 ≤ L[i].e + bornSz L[i] ∧ opensB L[i] = true := by
 have p := ok_parts (tree_ok S.tree i hi).2.2.2
 rcases hold_cases x L[i] with ⟨_, e⟩ | ⟨_, _, ho, hk, hin⟩ | ⟨_, _, ho, hk, hin⟩
 ·rw [h] at e; cases e
 ·obtain ⟨_, _, h3, h4⟩ := in_iff.1 hin
  have := p.2.2.2.2.2.2.2.2.2.2.2.2 ho
  exact ⟨ho, by omega, h3, by omega, by unfold opensB; rw [ho, hk]; rfl⟩
 ·obtain ⟨_, _, h3, h4⟩ := in_iff.1 hin
  have := p.2.2.2.2.2.2.2.2.2.2.2.1 hk
  exact ⟨ho, by omega, h3, by omega, by unfold opensB; rw [ho, hk]; rfl⟩
theorem home_one {bits : Int} {L : List Sl} (S : Sound bits L) {x : Int} {i j : Nat} (hi : i < L.length) (hj : j < L.length) (h1 : holdsB x L[i] = true) (h2 : holdsB x L[j] = true) : i = j := by
 obtain ⟨a1, a2, a3, a4, _⟩ := hold_in S hi h1
 obtain ⟨b1, b2, b3, b4, _⟩ := hold_in S hj h2
 exact objs_apart S hi hj a1 b1 a2 b2 (by omega) (by omega)
theorem home_at {bits : Int} {L : List Sl} (S : Sound bits L) {x : Int} {i : Nat} (hi : i < L.length) (h : holdsB x L[i] = true) : homeI L x = (i : Int) := by
 refine firstI_at _ L i hi h fun j hj => ?_
 cases hb : holdsB x (L[j]'(by omega)) with
 | false => rfl
 | true => have := home_one S (by omega) hi hb h; omega
theorem home_or (L : List Sl) (x : Int) : (homeI L x = -1 ∧ ∀ j (h : j < L.length), holdsB x L[j] = false) ∨ ∃ (k : Nat) (h : k < L.length), homeI L x = (k : Int) ∧ holdsB x L[k] = true := by
 rcases firstI_or (holdsB x) L with ⟨e, hf⟩ | ⟨k, hk, e, _, hp⟩
 ·refine .inl ⟨e, fun j h => ?_⟩
  have := List.find?_eq_none.1 hf L[j] (List.getElem_mem h)
  simpa using this
 ·exact .inr ⟨k, hk, e, hp⟩
theorem holdL_home {bits : Int} {L : List Sl} (S : Sound bits L) (x : Int) : (homeI L x = -1 ∧ holdL x L = -1) ∨ ∃ (k : Nat) (h : k < L.length), homeI L x = (k : Int) ∧ holdsB x L[k] = true ∧ holdL x L = holdP x L[k] := by
 rcases home_or L x with ⟨e, hn⟩ | ⟨k, hk, e, hp⟩
 ·refine .inl ⟨e, holdL_none x L fun j h => ?_⟩
  have := hn j h
  unfold holdsB at this; simpa using this
 ·refine .inr ⟨k, hk, e, hp, holdL_at x L k hk (fun j hj hl => ?_) ?_⟩
  ·rcases hold_cases x L[j] with ⟨e, _⟩ | ⟨_, hb, _⟩ | ⟨_, hb, _⟩
   ·exact e
   ·have := home_one S hl hk hb hp; omega
   ·have := home_one S hl hk hb hp; omega
  ·unfold holdsB at hp; simpa using hp

/-- What may be in a slot of a thread, by how far it is from the thread's beginning. -/
def slotKindI (a : Int) : Int := if a = 0 then 2 else if a = 4 then 7 else 4
/-- Nothing came of a slot. -/
def bareB (L : List Sl) (i : Nat) : Bool := match L[i]? with
 | none => false
 | some s => runN s.p (L.drop (i + 1)) == 0
def homeSl (L : List Sl) (x : Int) : Option Sl := if homeI L x < 0 then none else L[(homeI L x).toNat]?
/-- A slot is where slots are, and holds what it may hold there. -/
def homeOkB (L : List Sl) (i : Nat) : Bool := match L[i]? with
 | none => false
 | some s => if s.t < 128 then s.k != 7 else match homeSl L s.t with
  | none => false
  | some h => if (h.k == 2) = true then s.k != 7 else s.k == slotKindI (s.t - h.e) && !s.o && bareB L i
/-- The same by the specification. -/
def slotN (s : Sl) : Nat := ((s.t % 32) / 4).toNat
def liesB (L : List Sl) (i : Nat) : Bool := match L[i]? with
 | none => false
 | some s => fitsB L s (slotN s) && !(holderI L s.t == 3 && decide (0 < runN s.p (L.drop (i + 1))))
theorem homeSl_none {L : List Sl} {x : Int} (h : homeI L x = -1) : homeSl L x = none := by unfold homeSl; rw [h]; rfl
theorem homeSl_some {L : List Sl} {x : Int} {k : Nat} (hk : k < L.length) (h : homeI L x = (k : Int)) : homeSl L x = some L[k] := by
 unfold homeSl; rw [h, if_neg (by omega)]; simp [hk]
theorem thr_slot {L : List Sl} (hT : treeB L = true) {i k : Nat} (hi : i < L.length) (hk : k < L.length) (h3 : L[k].k = 3) (hin : inB L[i].t 4 L[k].e 12 = true) : slotN L[i] ≤ 2 ∧ (L[i].t.tmod 32).tdiv 4 = (slotN L[i] : Int) ∧ slotKind (slotN L[i]) = slotKindI (L[i].t - L[k].e) := by
 obtain ⟨t1, t2, t3, _⟩ := tree_ok hT i hi
 have p := ok_parts (tree_ok hT k hk).2.2.2
 have hsz := p.2.2.2.2.2.2.2.2.2.2.2.1 h3
 have hal := p.2.2.2.2.2.2.1
 rw [hsz] at hal
 obtain ⟨_, _, h4, h5⟩ := in_iff.1 hin
 have hc : L[i].t - L[k].e = 0 ∨ L[i].t - L[k].e = 4 ∨ L[i].t - L[k].e = 8 := by omega
 have e1 : (L[i].t.tmod 32).tdiv 4 = (L[i].t % 32) / 4 := by
  rw [Int.tmod_eq_emod_of_nonneg (by omega), Int.tdiv_eq_ediv_of_nonneg (by omega)]
 have e2 : ((slotN L[i] : Nat) : Int) = (L[i].t % 32) / 4 := by unfold slotN; omega
 rcases hc with e | e | e
 ·have : slotN L[i] = 0 := by omega
  refine ⟨by omega, by omega, ?_⟩
  rw [this, e]; rfl
 ·have : slotN L[i] = 1 := by omega
  refine ⟨by omega, by omega, ?_⟩
  rw [this, e]; rfl
 ·have : slotN L[i] = 2 := by omega
  refine ⟨by omega, by omega, ?_⟩
  rw [this, e]; rfl
theorem holder_low {L : List Sl} {x : Int} (h1 : 64 ≤ x) (h2 : x < 128) (h3 : x % 4 = 0) : holderI L x = 0 := by
 unfold holderI
 have : x.tmod 4 = 0 := by rw [Int.tmod_eq_emod_of_nonneg (by omega)]; exact h3
 rw [if_pos (by simp [h1, h2, this])]
theorem holder_high {L : List Sl} {x : Int} (h2 : ¬ x < 128) : holderI L x = holdL x L := by
 unfold holderI
 rw [if_neg (by simp [h2])]
/-- What the walk of l4Fits asks: a slot of a thread is one of its three. -/
theorem holdL_three {x : Int} : ∀ {L : List Sl}, holdL x L = 3 → ∃ (k : Nat) (h : k < L.length), L[k].k = 3 ∧ inB x 4 L[k].e 12 = true
 | s :: L, h => by
  rw [holdL] at h
  by_cases e : holdP x s = -1
  ·rw [if_pos e] at h
   obtain ⟨k, hk, h1, h2⟩ := holdL_three h
   exact ⟨k + 1, by simpa using hk, by simpa using h1, by simpa using h2⟩
  ·rw [if_neg e] at h
   rcases hold_cases x s with ⟨e2, _⟩ | ⟨e2, _⟩ | ⟨_, _, _, h3, hin⟩
   ·exact absurd e2 e
   ·rw [e2] at h; omega
   ·exact ⟨0, by simp, h3, hin⟩
theorem fits_cond {L : List Sl} (hT : treeB L = true) {i : Nat} (hi : i < L.length) : holderI L L[i].t = 3 → slotN L[i] ≤ 2 ∧ (L[i].t.tmod 32).tdiv 4 = (slotN L[i] : Int) := by
 intro h
 obtain ⟨t1, t2, t3, _⟩ := tree_ok hT i hi
 by_cases hl : L[i].t < 128
 ·rw [holder_low t1 hl t3] at h; omega
 ·rw [holder_high hl] at h
  obtain ⟨k, hk, h3, hin⟩ := holdL_three h
  have := thr_slot hT hi hk h3 hin
  exact ⟨this.1, this.2.1⟩
theorem home_lies {bits : Int} {L : List Sl} (S : Sound bits L) {i : Nat} (hi : i < L.length) : liesB L i = homeOkB L i := by
 obtain ⟨t1, t2, t3, _⟩ := tree_ok S.tree i hi
 unfold liesB homeOkB
 rw [List.getElem?_eq_getElem hi]
 show (fitsB L L[i] (slotN L[i]) && !(holderI L L[i].t == 3 && decide (0 < runN L[i].p (L.drop (i + 1))))) = (if L[i].t < 128 then L[i].k != 7 else match homeSl L L[i].t with
  | none => false
  | some h => if (h.k == 2) = true then L[i].k != 7 else L[i].k == slotKindI (L[i].t - h.e) && !L[i].o && bareB L i)
 by_cases hl : L[i].t < 128
 ·rw [if_pos hl]
  unfold fitsB
  rw [holder_low t1 hl t3]; simp
 ·rw [if_neg hl]
  rcases holdL_home S L[i].t with ⟨e0, e⟩ | ⟨k, hk, e0, hb, e⟩
  ·rw [homeSl_none e0]
   unfold fitsB
   rw [holder_high hl, e]; simp
  ·rw [homeSl_some hk e0]
   unfold fitsB
   rw [holder_high hl, e]
   show _ = (if (L[k].k == 2) = true then L[i].k != 7 else L[i].k == slotKindI (L[i].t - L[k].e) && !L[i].o && bareB L i)
   rcases hold_cases L[i].t L[k] with ⟨_, e2⟩ | ⟨e2, _, _, h2, _⟩ | ⟨e2, _, _, h3, hin⟩
   ·rw [hb] at e2; cases e2
   ·rw [e2, h2]; simp
   ·rw [e2, h3]
    have := thr_slot S.tree hi hk h3 hin
    rw [this.2.2]
    have hbare : bareB L i = !(decide (0 < runN L[i].p (L.drop (i + 1)))) := by
     unfold bareB; rw [List.getElem?_eq_getElem hi]
     show (runN L[i].p (L.drop (i + 1)) == 0) = _
     rw [Bool.eq_iff_iff]; simp
    rw [hbare]; simp

/-- Whom a slot keeps from going: what it came of, and the original of the object in which it lies. -/
def keepN (L : List Sl) (y q : Nat) : Int := if q = 0 then cameI L y else match L[y]? with
 | none => -1
 | some s => homeI L s.t
theorem keep_stop {bits : Int} {L : List Sl} (S : Sound bits L) (y x : Nat) (hy : y < L.length) (hx : x < L.length) (h : Holds (keepN L) y x) : stopR L y x := by
 refine ⟨L[x], List.getElem?_eq_getElem hx, ?_⟩
 unfold stopB
 rcases h with h | h
 ·have h1 : cameI L y = (x : Int) := h
  have hlt := came_lt hy h1
  have hall : ∀ j, x < j → j ≤ y → depN L x < depN L j := by
   unfold cameI at h1
   rcases ups_first (depN L) (depN L y) y with ⟨e, _⟩ | ⟨u, hu, hf, hj, e⟩
   ·rw [e] at h1; simp only [headI] at h1; omega
   ·rw [e] at h1
    have : u = x := by simp only [headI] at h1; omega
    subst this
    intro j h2 h3
    by_cases e2 : j = y
    ·subst e2; exact hf
    ·have := hj j h2 (by omega); omega
  have := (run_iff hx rfl y hy hlt).2 hall
  have e1 : decide (x < y) = true := by simpa using hlt
  have e2 : decide (y < x + 1 + runN L[x].p (L.drop (x + 1))) = true := by simp; omega
  rw [e1, e2]; rfl
 ·have h1 : homeI L L[y].t = (x : Int) := by
   have : keepN L y 1 = homeI L L[y].t := by unfold keepN; rw [if_neg (by omega), List.getElem?_eq_getElem hy]
   rw [← this]; exact h
  rcases home_or L L[y].t with ⟨e, _⟩ | ⟨k, hk, e, hp⟩
  ·omega
  ·have : k = x := by omega
   subst this
   obtain ⟨o1, o2, o3, o4, o5⟩ := hold_in S hk hp
   have p := ok_parts (tree_ok S.tree k hk).2.2.2
   obtain ⟨t1, t2, t3, _⟩ := tree_ok S.tree y hy
   have hsz := p.2.2.2.2.2.2.2.2.2.2.2.2 o1
   have hin : inB L[y].t 4 L[k].e (szI L[k].k L[k].b) = true := in_iff.2 ⟨by omega, by omega, by omega, by omega⟩
   rw [o5, List.getElem?_eq_getElem hy]
   show (_ || (true && inB L[y].t 4 L[k].e (szI L[k].k L[k].b))) = true
   rw [hin]; simp
theorem stop_keep {bits : Int} {L : List Sl} (hbits : 9 ≤ bits) (S : Sound bits L) (hh : ∀ i, i < L.length → homeOkB L i = true) (y x : Nat) (hy : y < L.length) (hx : x < L.length) (h : stopR L y x) : Way L.length (Holds (keepN L)) y x := by
 obtain ⟨s, hs, hst⟩ := h
 rw [List.getElem?_eq_getElem hx] at hs
 obtain rfl : L[x] = s := by injection hs
 unfold stopB at hst
 rw [Bool.or_eq_true] at hst
 rcases hst with hst | hst
 ·simp only [Bool.and_eq_true, decide_eq_true_eq] at hst
  have key : ∀ y, y < L.length → x < y → y < x + runN L[x].p (L.drop (x + 1)) + 1 → Way L.length (Holds (keepN L)) y x := by
   intro y
   induction y using Nat.strongRecOn with
   | _ y ih =>
    intro hy h1 h2
    have hall := (run_iff hx rfl y hy h1).1 h2
    rcases ups_first (depN L) (depN L y) y with ⟨_, hj⟩ | ⟨u, hu, hf, hj, e⟩
    ·exact absurd (hall y h1 (Nat.le_refl _)) (hj x h1)
    ·have hc : cameI L y = (u : Int) := by unfold cameI; rw [e]; rfl
     have hxu : x ≤ u := by
      rcases Nat.lt_or_ge u x with h3 | h3
      ·exact absurd (hall y h1 (Nat.le_refl _)) (hj x h3 h1)
      ·exact h3
     by_cases e2 : x = u
     ·subst e2; exact .one hy hx (.inl hc)
     ·have hul : u < L.length := by omega
      have := ih u hu hul (by omega) ((run_iff hx rfl u hul (by omega)).2 fun j h3 h4 => hall j h3 (by omega))
      exact (Way.one hy hul (.inl hc)).trans this
  exact key y hy hst.1 (by omega)
 ·rw [List.getElem?_eq_getElem hy] at hst
  simp only [Bool.and_eq_true] at hst
  obtain ⟨ho, hin⟩ := hst
  have p := ok_parts (tree_ok S.tree x hx).2.2.2
  obtain ⟨t1, t2, t3, _⟩ := tree_ok S.tree y hy
  have hoo : L[x].o = true := by unfold opensB at ho; simp only [Bool.and_eq_true] at ho; exact ho.1
  have hk : L[x].k = 2 ∨ L[x].k = 3 := by unfold opensB at ho; simpa [hoo] using ho
  have hsz := p.2.2.2.2.2.2.2.2.2.2.2.2 hoo
  obtain ⟨_, _, h3, h4⟩ := in_iff.1 hin
  have hm := S.mem x hx
  have hge : 128 ≤ L[x].e := by
   unfold memB at hm; simp only [Bool.not_eq_true', Bool.or_eq_false_iff, decide_eq_false_iff_not] at hm; omega
  have hhome : homeI L L[y].t = (x : Int) := by
   have hy2 := hh y hy
   unfold homeOkB at hy2
   rw [List.getElem?_eq_getElem hy] at hy2
   simp only [] at hy2
   rw [if_neg (by omega)] at hy2
   rcases home_or L L[y].t with ⟨e, _⟩ | ⟨k, hk2, e, hp⟩
   ·rw [homeSl_none e] at hy2; cases hy2
   ·obtain ⟨o1, o2, o3, o4, _⟩ := hold_in S hk2 hp
    have : k = x := objs_apart S hk2 hx o1 hoo o2 (by omega) (by omega) (by omega)
    subst this; exact e
  refine .one hy hx (.inr ?_)
  show keepN L y 1 = _
  unfold keepN; rw [if_neg (by omega), List.getElem?_eq_getElem hy]; exact hhome
theorem acyc_both {bits : Int} {L : List Sl} (hbits : 9 ≤ bits) (S : Sound bits L) (hh : ∀ i, i < L.length → homeOkB L i = true) : Acyc L.length (stopR L) ↔ Acyc L.length (Holds (keepN L)) :=
 ⟨acyc_mono (fun y x hy hx h => keep_stop S y x hy hx h), acyc_ways (fun y x hy hx h => stop_keep hbits S hh y x hy hx h)⟩

end Go.Proofs.YtigpbjcmmgdiaaaGreat
/-
 In whose object each slot lies, by the program: the rooms of originals, the sorted addresses, the row of homes. Plain facts. Conditions: all lie where they may, originals of one origin are apart.
-/
namespace Go.Proofs.YtigpbjcmmgdiaaaGreat
open Go.ChangeShapes Go.WideShapes Go.ChangeAt Go.RowKit
set_option linter.unusedVariables false

/-- The room of an original: where it begins, how many words. -/
def rmA (s : Sl) : Int := if (s.o && s.k == 2) = true then s.e else if (s.o && s.k == 3) = true then s.e else 0
def rmS (s : Sl) : Int := if (s.o && s.k == 2) = true then bornSz s else if (s.o && s.k == 3) = true then 12 else 0
def inRm (s : Sl) (x : Int) : Bool := decide (rmA s ≤ x) && decide (x < rmA s + rmS s)
theorem sz2_four {b : Int} (h : 0 < szI 2 b) : szI 2 b % 4 = 0 := by
 unfold szI at h ⊢
 rw [if_neg (by decide), if_pos rfl] at h ⊢
 split
 ·omega
 ·rename_i hb; rw [if_neg hb] at h; omega
theorem rm_fine {L : List Sl} (hT : treeB L = true) {i : Nat} (hi : i < L.length) : 0 ≤ rmA L[i] ∧ rmA L[i] ≤ 4096 ∧ 0 ≤ rmS L[i] ∧ rmS L[i] ≤ 4096 := by
 have p := ok_parts (tree_ok hT i hi).2.2.2
 unfold rmA rmS
 by_cases h1 : (L[i].o && L[i].k == 2) = true
 ·rw [if_pos h1, if_pos h1]; omega
 ·by_cases h2 : (L[i].o && L[i].k == 3) = true
  ·rw [if_neg h1, if_neg h1, if_pos h2, if_pos h2]; omega
  ·rw [if_neg h1, if_neg h1, if_neg h2, if_neg h2]; omega
theorem inRm_holds {L : List Sl} (hT : treeB L = true) {i y : Nat} (hi : i < L.length) (hy : y < L.length) : inRm L[i] L[y].t = holdsB L[y].t L[i] := by
 have p := ok_parts (tree_ok hT i hi).2.2.2
 obtain ⟨t1, t2, t3, _⟩ := tree_ok hT y hy
 have t4 : (L[y].t.tmod 4 == 0) = true := by
  rw [beq_iff_eq, Int.tmod_eq_emod_of_nonneg (by omega)]; exact t3
 unfold holdsB holdP inRm rmA rmS
 rw [t4, Bool.and_true]
 cases ho : L[i].o with
 | false => simp
 | true =>
  by_cases h2 : L[i].k = 2
  ·have e2 : (L[i].k == 2) = true := by simpa using h2
   have hb : bornSz L[i] = szI 2 L[i].b := by rw [p.2.2.2.2.2.2.2.2.2.2.2.2 ho, h2]
   have hs4 := sz2_four (b := L[i].b) (by rw [← hb]; omega)
   have hdv : L[i].e % 4 = 0 := by
    have h9 := p.2.2.2.2.2.2.1
    rw [hb] at h9
    obtain ⟨q, hq⟩ : ∃ q, szI 2 L[i].b = 4 * q := ⟨szI 2 L[i].b / 4, by omega⟩
    obtain ⟨r, hr⟩ : ∃ r, L[i].e = szI 2 L[i].b * r := ⟨L[i].e / szI 2 L[i].b, by have := Int.mul_ediv_add_emod L[i].e (szI 2 L[i].b); omega⟩
    rw [hr, hq, Int.mul_assoc]; omega
   rw [e2]
   simp only [Bool.and_true, if_true, Bool.true_and]
   rw [h2, hb]
   have hin := @in_iff L[y].t 4 L[i].e (szI 2 L[i].b)
   by_cases hc : L[i].e ≤ L[y].t ∧ L[y].t < L[i].e + szI 2 L[i].b
   ·have : inB L[y].t 4 L[i].e (szI 2 L[i].b) = true := hin.2 ⟨by omega, by omega, by omega, by omega⟩
    rw [this]; simp [hc.1, hc.2]
   ·have : inB L[y].t 4 L[i].e (szI 2 L[i].b) = false := by
     cases hb2 : inB L[y].t 4 L[i].e (szI 2 L[i].b) with
     | false => rfl
     | true => have := hin.1 hb2; omega
    rw [this]
    have h3 : ((2 : Int) == 3) = false := by decide
    rw [h3]; simp; omega
  ·have e2 : (L[i].k == 2) = false := by simpa using h2
   rw [e2]
   by_cases h3 : L[i].k = 3
   ·have e3 : (L[i].k == 3) = true := by simpa using h3
    have hb := p.2.2.2.2.2.2.2.2.2.2.2.1 h3
    have h9 := p.2.2.2.2.2.2.1
    rw [hb] at h9
    rw [e3]
    simp only [Bool.and_true, if_true, Bool.true_and, Bool.false_eq_true, if_false, Bool.false_and]
    have hin := @in_iff L[y].t 4 L[i].e 12
    by_cases hc : L[i].e ≤ L[y].t ∧ L[y].t < L[i].e + 12
    ·have : inB L[y].t 4 L[i].e 12 = true := hin.2 ⟨by omega, by omega, by omega, by omega⟩
     rw [this]; simp [hc.1, hc.2]
    ·have : inB L[y].t 4 L[i].e 12 = false := by
      cases hb2 : inB L[y].t 4 L[i].e 12 with
      | false => rfl
      | true => have := hin.1 hb2; omega
     rw [this]; simp; omega
   ·have e3 : (L[i].k == 3) = false := by simpa using h3
    rw [e3]; simp

/-! ### The row of homes. -/
/-- The last of the first k originals in whose room a slot lies. -/
def hmR (L : List Sl) : Nat → Int → Int
 | 0, _ => -1
 | k + 1, x => if (match L[k]? with | none => false | some s => inRm s x) = true then (k : Int) else hmR L k x
theorem hmR_next {L : List Sl} {k : Nat} (hk : k < L.length) (x : Int) : hmR L (k + 1) x = if inRm L[k] x = true then (k : Int) else hmR L k x := by
 rw [hmR, List.getElem?_eq_getElem hk]
theorem hmR_or (L : List Sl) (x : Int) : ∀ k, k ≤ L.length → (hmR L k x = -1 ∧ ∀ j (hj : j < k) (hl : j < L.length), inRm L[j] x = false) ∨ ∃ (j : Nat) (hj : j < L.length), j < k ∧ hmR L k x = (j : Int) ∧ inRm L[j] x = true
 | 0, _ => .inl ⟨rfl, fun j hj => absurd hj (Nat.not_lt_zero _)⟩
 | k + 1, h => by
  have hk : k < L.length := by omega
  rw [hmR_next hk]
  by_cases e : inRm L[k] x = true
  ·rw [if_pos e]; exact .inr ⟨k, hk, Nat.lt_succ_self _, rfl, e⟩
  ·rw [if_neg e]
   rcases hmR_or L x k (by omega) with ⟨h1, h2⟩ | ⟨j, hj, h1, h2, h3⟩
   ·refine .inl ⟨h1, fun j hj hl => ?_⟩
    by_cases e2 : j = k
    ·subst e2; simpa using e
    ·exact h2 j (by omega) hl
   ·exact .inr ⟨j, hj, by omega, h2, h3⟩
theorem hmR_home {bits : Int} {L : List Sl} (S : Sound bits L) {y : Nat} (hy : y < L.length) : hmR L L.length L[y].t = homeI L L[y].t := by
 rcases hmR_or L L[y].t L.length (Nat.le_refl _) with ⟨h1, h2⟩ | ⟨j, hj, _, h2, h3⟩
 ·rcases home_or L L[y].t with ⟨e, _⟩ | ⟨k, hk, _, hp⟩
  ·rw [h1, e]
  ·have := h2 k hk hk
   rw [inRm_holds S.tree hk hy] at this
   rw [hp] at this; cases this
 ·rw [inRm_holds S.tree hj hy] at h3
  rw [h2, home_at S hj h3]
/-- Homes while the slots of one room are gone through: those of the addresses in D are told already. -/
def hmD (L : List Sl) (i : Nat) (D : List Int) (y : Nat) : Int := match L[y]? with
 | none => -1
 | some s => if s.t ∈ D then (i : Int) else hmR L i s.t
def hmRow (L : List Sl) (i : Nat) (D : List Int) : List Value := (List.range L.length).map (fun y => Value.int .i64 (hmD L i D y))
theorem hmRow_len (L : List Sl) (i : Nat) (D : List Int) : (hmRow L i D).length = L.length := by unfold hmRow; simp
theorem hmRow_at {L : List Sl} {y : Nat} (hy : y < L.length) (i : Nat) (D : List Int) : (hmRow L i D)[y]? = some (.int .i64 (hmD L i D y)) := by unfold hmRow; simp [hy]
theorem hmRow_zero (L : List Sl) : hmRow L 0 [] = List.replicate L.length (.int .i64 (-1)) := by
 refine List.ext_getElem? fun k => ?_
 by_cases hk : k < L.length
 ·rw [hmRow_at hk, List.getElem?_replicate_of_lt hk]
  unfold hmD; rw [List.getElem?_eq_getElem hk]; rfl
 ·rw [List.getElem?_eq_none (by rw [hmRow_len]; omega), List.getElem?_eq_none (by simp; omega)]
theorem hmRow_set {L : List Sl} (hT : treeB L = true) {i y : Nat} (hy : y < L.length) (D : List Int) : (hmRow L i D).set y (.int .i64 (i : Int)) = hmRow L i (D ++ [L[y].t]) := by
 refine List.ext_getElem? fun k => ?_
 rw [List.getElem?_set]
 by_cases hk : k < L.length
 ·rw [hmRow_at hk, hmRow_at hk]
  by_cases e : y = k
  ·subst e
   rw [if_pos rfl, if_pos (by rw [hmRow_len]; exact hy)]
   unfold hmD; rw [List.getElem?_eq_getElem hy]
   simp
  ·rw [if_neg e]
   unfold hmD; rw [List.getElem?_eq_getElem hk]
   have hne : L[k].t ≠ L[y].t := by
    rcases Nat.lt_or_ge y k with h | h
    ·exact fun e2 => (tree_slot hT k hk).2.2.2.2 y h e2.symm
    ·exact (tree_slot hT y hy).2.2.2.2 k (by omega)
   have : (L[k].t ∈ D ++ [L[y].t]) ↔ L[k].t ∈ D := by simp [hne]
   by_cases hd : L[k].t ∈ D
   ·simp [hd]
   ·simp [hd, hne]
 ·rw [List.getElem?_eq_none (l := hmRow L i (D ++ [L[y].t])) (by rw [hmRow_len]; omega)]
  rw [if_neg (by omega)]
  exact List.getElem?_eq_none (by rw [hmRow_len]; omega)
theorem hmRow_next {L : List Sl} {i : Nat} (hi : i < L.length) {D : List Int} (hD : ∀ y (hy : y < L.length), L[y].t ∈ D ↔ inRm L[i] L[y].t = true) : hmRow L i D = hmRow L (i + 1) [] := by
 unfold hmRow
 refine List.map_congr_left fun y hy => ?_
 have hy := List.mem_range.1 hy
 unfold hmD; rw [List.getElem?_eq_getElem hy]
 show Value.int .i64 (if L[y].t ∈ D then (i : Int) else hmR L i L[y].t) = Value.int .i64 (if L[y].t ∈ [] then ((i + 1 : Nat) : Int) else hmR L (i + 1) L[y].t)
 rw [if_neg (List.not_mem_nil), hmR_next hi]
 by_cases e : inRm L[i] L[y].t = true
 ·rw [if_pos ((hD y hy).2 e), if_pos e]
 ·rw [if_neg (fun h => e ((hD y hy).1 h)), if_neg e]
/-- The homes of all slots, in a row. -/
def homesRow (L : List Sl) : List Value := (List.range L.length).map (fun y => Value.int .i64 (keepN L y 1))
theorem homesRow_at {L : List Sl} {y : Nat} (hy : y < L.length) : (homesRow L)[y]? = some (.int .i64 (homeI L L[y].t)) := by
 unfold homesRow keepN; simp [hy]
theorem hmRow_end {bits : Int} {L : List Sl} (S : Sound bits L) : hmRow L L.length [] = homesRow L := by
 unfold hmRow homesRow
 refine List.map_congr_left fun y hy => ?_
 have hy := List.mem_range.1 hy
 unfold hmD keepN; rw [List.getElem?_eq_getElem hy]
 show Value.int .i64 (if L[y].t ∈ [] then (L.length : Int) else hmR L L.length L[y].t) = Value.int .i64 (homeI L L[y].t)
 rw [if_neg List.not_mem_nil, hmR_home S hy]

/-! ### The sorted addresses. -/
theorem placeR_at {L : List Sl} (hT : treeB L = true) {y : Nat} (hy : y < L.length) : placeR L L.length L[y].t = some (y : Int) := by
 have key : ∀ k, y < k → k ≤ L.length → placeR L k L[y].t = some (y : Int) := by
  intro k
  induction k with
  | zero => intro h; omega
  | succ k ih =>
   intro h hk
   have hkl : k < L.length := by omega
   rw [placeR, List.getElem?_eq_getElem hkl]
   by_cases e : y = k
   ·subst e; simp
   ·have hne : L[y].t ≠ L[k].t := (tree_slot hT k hkl).2.2.2.2 y (by omega)
    have : ¬ some L[y].t = (some L[k]).map Sl.t := by simpa using hne
    rw [if_neg this]; exact ih (by omega) (by omega)
 exact key _ hy (Nat.le_refl _)
theorem placeR_some {L : List Sl} {x : Int} : ∀ {k : Nat}, k ≤ L.length → (placeR L k x).isSome = true → ∃ (y : Nat) (hy : y < L.length), L[y].t = x
 | 0, _, h => by cases h
 | k + 1, hk, h => by
  have hkl : k < L.length := by omega
  rw [placeR, List.getElem?_eq_getElem hkl] at h
  by_cases e : some x = (some L[k]).map Sl.t
  ·exact ⟨k, hkl, by simpa using e.symm⟩
  ·rw [if_neg e] at h; exact placeR_some (by omega) h
theorem ats_mem {L : List Sl} (hT : treeB L = true) {A : List Int} (hA : AtsP (placeR L L.length) A) (x : Int) : x ∈ A ↔ ∃ (y : Nat) (hy : y < L.length), L[y].t = x := by
 rw [hA.mem]
 constructor
 ·rintro ⟨_, h⟩; exact placeR_some (Nat.le_refl _) h
 ·rintro ⟨y, hy, rfl⟩
  obtain ⟨t1, t2, _⟩ := tree_ok hT y hy
  exact ⟨⟨by omega, by omega⟩, by rw [placeR_at hT hy]; rfl⟩
theorem ats_le {L : List Sl} (hT : treeB L = true) {A : List Int} (hA : AtsP (placeR L L.length) A) : A.length ≤ L.length := by
 have := sub_len A (L.map Sl.t) (hA.up.imp (fun {a b} h e => by omega)) (fun x hx => by
  obtain ⟨y, hy, rfl⟩ := (ats_mem hT hA x).1 hx
  exact List.mem_map.2 ⟨L[y], List.getElem_mem hy, rfl⟩)
 simpa using this
/-- How many are ahead of a number. -/
def cntLt (A : List Int) (x : Int) : Nat := A.countP (· < x)
theorem cntLt_le (A : List Int) (x : Int) : cntLt A x ≤ A.length := List.countP_le_length
theorem cntLt_at : ∀ {A : List Int} {x : Int}, A.Pairwise (· < ·) → ∀ i (hi : i < A.length), (i < cntLt A x ↔ A[i] < x)
 | [], _, _, i, hi => absurd hi (Nat.not_lt_zero _)
 | a :: A, x, h, i, hi => by
  rw [List.pairwise_cons] at h
  unfold cntLt
  rw [List.countP_cons]
  by_cases e : a < x
  ·have e1 : decide (a < x) = true := by simpa using e
   rw [if_pos e1]
   cases i with
   | zero => simp [e]
   | succ i =>
    have ih := cntLt_at (x := x) h.2 i (by simpa using hi)
    unfold cntLt at ih
    simp only [List.getElem_cons_succ]
    omega
  ·have e1 : ¬ decide (a < x) = true := by simpa using e
   rw [if_neg e1]
   have hz : A.countP (fun y => decide (y < x)) = 0 := by
    rw [List.countP_eq_zero]; intro y hy; have := h.1 y hy; simp; omega
   rw [hz]
   cases i with
   | zero => simp [e]
   | succ i =>
    have := h.1 (A[i]'(by simpa using hi)) (List.getElem_mem _)
    simp only [List.getElem_cons_succ]
    omega
/-- The addresses from one on, ahead of another. -/
def midL (A : List Int) (a b : Int) : List Int := A.filter (fun x => decide (a ≤ x) && decide (x < b))
theorem midL_take {A : List Int} (hA : A.Pairwise (· < ·)) (a b : Int) (m : Nat) (hm : cntLt A a + m ≤ A.length) (hb : ∀ j (hj : j < A.length), cntLt A a ≤ j → j < cntLt A a + m → A[j] < b) (he : ∀ j (hj : j < A.length), j = cntLt A a + m → b ≤ A[j]) : (A.drop (cntLt A a)).take m = midL A a b := by
 have hall : ∀ j (hj : j < A.length), (cntLt A a ≤ j ∧ j < cntLt A a + m) ↔ (a ≤ A[j] ∧ A[j] < b) := by
  intro j hj
  have h1 := cntLt_at (x := a) hA j hj
  constructor
  ·rintro ⟨h2, h3⟩; exact ⟨by omega, hb j hj h2 h3⟩
  ·rintro ⟨h2, h3⟩
   refine ⟨by omega, ?_⟩
   apply Classical.byContradiction
   intro h4
   have h5 : cntLt A a + m < A.length := by omega
   have h6 := he _ h5 rfl
   rw [List.pairwise_iff_getElem] at hA
   by_cases e : j = cntLt A a + m
   ·subst e; omega
   ·have := hA _ j h5 hj (by omega); omega
 generalize cntLt A a = c at *
 unfold midL
 have e1 : A = A.take c ++ ((A.drop c).take m ++ (A.drop c).drop m) := by rw [List.take_append_drop, List.take_append_drop]
 have f1 : (A.take c).filter (fun x => decide (a ≤ x) && decide (x < b)) = [] := by
  rw [List.filter_eq_nil_iff]
  intro x hx
  obtain ⟨j, hj, rfl⟩ := List.mem_iff_getElem.1 hx
  simp at hj
  rw [List.getElem_take]
  have := hall j (by omega)
  simp only [Bool.and_eq_true, decide_eq_true_eq]
  intro h; have := this.2 h; omega
 have f2 : ((A.drop c).take m).filter (fun x => decide (a ≤ x) && decide (x < b)) = (A.drop c).take m := by
  rw [List.filter_eq_self]
  intro x hx
  obtain ⟨j, hj, rfl⟩ := List.mem_iff_getElem.1 hx
  simp at hj
  rw [List.getElem_take, List.getElem_drop]
  have := (hall (c + j) (by omega)).1 ⟨by omega, by omega⟩
  simpa using this
 have f3 : ((A.drop c).drop m).filter (fun x => decide (a ≤ x) && decide (x < b)) = [] := by
  rw [List.filter_eq_nil_iff]
  intro x hx
  obtain ⟨j, hj, rfl⟩ := List.mem_iff_getElem.1 hx
  simp at hj
  rw [List.getElem_drop, List.getElem_drop]
  have := hall (c + (m + j)) (by omega)
  simp only [Bool.and_eq_true, decide_eq_true_eq]
  intro h; have := this.2 h; omega
 conv => rhs; rw [e1, List.filter_append, List.filter_append, f1, f2, f3]
 simp
theorem mid_in {L : List Sl} (hT : treeB L = true) {A : List Int} (hA : AtsP (placeR L L.length) A) {i : Nat} (hi : i < L.length) : ∀ y (hy : y < L.length), L[y].t ∈ midL A (rmA L[i]) (rmA L[i] + rmS L[i]) ↔ inRm L[i] L[y].t = true := by
 intro y hy
 unfold midL inRm
 rw [List.mem_filter, ats_mem hT hA]
 exact ⟨fun h => h.2, fun h => ⟨⟨y, hy, rfl⟩, h⟩⟩

end Go.Proofs.YtigpbjcmmgdiaaaGreat
/-
 Entering queues, one thread behind the other: plain facts. No conditions.
-/
namespace Go.Proofs.YtigpbjcmmgdiaaaGreat
open Go.ChangeShapes Go.WideShapes Go.ChangeAt Go.RowKit
set_option linter.unusedVariables false

abbrev Prs := List (Int × Hd)
/-- The head of the queue in which a thread was found, or nothing. -/
def hdP (P : Prs) (x : Int) : Hd := match P.find? (fun e => e.1 == x) with
 | none => (0, 0)
 | some e => e.2
def quF (T : List QT) (P : Prs) (x : Int) : Option Value := (T.find? (fun t => t.a0 == x)).map (fun t => memH (hdP P x) t)
/-- No thread stands in two queues, and all are threads. -/
structure Ent (T : List QT) (P : Prs) : Prop where
 nd : (P.map Prod.fst).Nodup
 thr : ∀ e ∈ P, ∃ t ∈ T, t.a0 = e.1
def NzP (P : Prs) : Prop := ∀ e ∈ P, e.2.1 ≠ 0
theorem Ent.nil (T : List QT) : Ent T [] := ⟨List.nodup_nil, fun e h => by cases h⟩
theorem NzP.nil : NzP [] := fun e h => by cases h
theorem NzP.app {P Q : Prs} (h : NzP P) (k : NzP Q) : NzP (P ++ Q) := fun e he => (List.mem_append.1 he).elim (h e) (k e)
theorem NzP.one {a : Int} {h : Hd} (hh : h.1 ≠ 0) : NzP [(a, h)] := fun e he => by simp at he; subst he; exact hh
theorem Ent.pre {T : List QT} {P Q : Prs} (h : Ent T (P ++ Q)) : Ent T P := by
 refine ⟨?_, fun e he => h.thr e (List.mem_append_left _ he)⟩
 have := h.nd
 rw [List.map_append, List.nodup_append] at this
 exact this.1
theorem Ent.snoc {T : List QT} {P : Prs} (h : Ent T P) {a : Int} {hd : Hd} (ht : ∃ t ∈ T, t.a0 = a) (hn : ∀ e ∈ P, e.1 ≠ a) : Ent T (P ++ [(a, hd)]) := by
 refine ⟨?_, fun e he => ?_⟩
 ·rw [List.map_append, List.nodup_append]
  refine ⟨h.nd, by simp, fun x hx y hy => ?_⟩
  simp at hy; subst hy
  obtain ⟨e, he, rfl⟩ := List.mem_map.1 hx
  exact hn e he
 ·rcases List.mem_append.1 he with he | he
  ·exact h.thr e he
  ·simp at he; subst he; exact ht
theorem Ent.len {T : List QT} {P : Prs} (h : Ent T P) : P.length ≤ T.length := by
 have := sub_len (P.map Prod.fst) (T.map QT.a0) h.nd (fun x hx => by
  obtain ⟨e, he, rfl⟩ := List.mem_map.1 hx
  obtain ⟨t, ht, e2⟩ := h.thr e he
  exact List.mem_map.2 ⟨t, ht, e2⟩)
 simpa using this
theorem hdP_none {P : Prs} {x : Int} (h : ∀ e ∈ P, e.1 ≠ x) : hdP P x = (0, 0) := by
 unfold hdP
 have : P.find? (fun e => e.1 == x) = none := by rw [List.find?_eq_none]; intro e he; simpa using h e he
 rw [this]
theorem hdP_zero {P : Prs} (hz : NzP P) {x : Int} (h : (hdP P x).1 = 0) : ∀ e ∈ P, e.1 ≠ x := by
 intro e he hx
 unfold hdP at h
 cases hf : P.find? (fun e => e.1 == x) with
 | none =>
  rw [List.find?_eq_none] at hf
  exact hf e he (by simpa using hx)
 | some e2 =>
  rw [hf] at h
  exact hz e2 (List.mem_of_find?_eq_some hf) h
theorem hdP_snoc {P : Prs} {a : Int} {hd : Hd} (hn : ∀ e ∈ P, e.1 ≠ a) (x : Int) : hdP (P ++ [(a, hd)]) x = if x = a then hd else hdP P x := by
 unfold hdP
 rw [List.find?_append]
 by_cases e : x = a
 ·subst e
  have : P.find? (fun e => e.1 == x) = none := by rw [List.find?_eq_none]; intro e he; simpa using hn e he
  rw [this]; simp
 ·rw [if_neg e]
  have : ([(a, hd)] : Prs).find? (fun e => e.1 == x) = none := by
   rw [List.find?_eq_none]; intro y hy; simp at hy; subst hy; simp; exact fun h => e h.symm
  rw [this]
  cases P.find? (fun e => e.1 == x) <;> rfl
theorem quF_put {T : List QT} {P : Prs} {a : Int} {hd : Hd} {t : QT} (hn : ∀ e ∈ P, e.1 ≠ a) (hf : T.find? (fun t => t.a0 == a) = some t) : putV (quF T P) a (memH hd t) = quF T (P ++ [(a, hd)]) := by
 funext x
 unfold putV quF
 by_cases e : x = a
 ·subst e; rw [if_pos rfl, hf, hdP_snoc hn, if_pos rfl]; rfl
 ·rw [if_neg e, hdP_snoc hn, if_neg e]
theorem find_thr {T : List QT} {a : Int} : (∃ t ∈ T, t.a0 = a) ↔ ∃ t, T.find? (fun t => t.a0 == a) = some t := by
 constructor
 ·rintro ⟨t, ht, rfl⟩
  cases hf : T.find? (fun u => u.a0 == t.a0) with
  | none => rw [List.find?_eq_none] at hf; exact absurd (by simp) (hf t ht)
  | some u => exact ⟨u, rfl⟩
 ·rintro ⟨t, ht⟩
  exact ⟨t, List.mem_of_find?_eq_some ht, by simpa using List.find?_some ht⟩
/-- The threads as they are laid into the map. -/
theorem thr_qu {T : List QT} (h : (T.map QT.a0).Pairwise (· < ·)) : thrF T T.length = quF T [] := by
 have key : ∀ k, k ≤ T.length → ∀ x, thrF T k x = ((T.take k).find? (fun t => t.a0 == x)).map (fun t => memH (0, 0) t) := by
  intro k
  induction k with
  | zero => intro _ x; rfl
  | succ k ih =>
   intro hk x
   have hlt : k < T.length := by omega
   rw [thrF, ih (by omega), List.getElem?_eq_getElem hlt, List.take_succ_eq_append_getElem hlt, List.find?_append]
   by_cases e : x = T[k].a0
   ·have hn : (T.take k).find? (fun t => t.a0 == x) = none := by
     rw [List.find?_eq_none]
     intro t ht
     obtain ⟨j, hj, rfl⟩ := List.mem_iff_getElem.1 ht
     rw [List.pairwise_map, List.pairwise_iff_getElem] at h
     have hj' : j < k := by simp at hj; omega
     have := h j k (by omega) hlt hj'
     rw [List.getElem_take]; simp; omega
    rw [hn]; simp [e]
   ·have hs : ¬ some x = (some T[k]).map QT.a0 := by simp; exact e
    rw [if_neg hs]
    have : ([T[k]] : List QT).find? (fun t => t.a0 == x) = none := by rw [List.find?_eq_none]; intro y hy; simp at hy; subst hy; simp; exact fun h => e h.symm
    rw [this]; cases (T.take k).find? (fun t => t.a0 == x) <;> rfl
 funext x
 rw [key _ (Nat.le_refl _), List.take_length]; rfl
/-- One queue's threads, with its head. -/
def prs (h : Hd) (l : List Int) : Prs := l.map (fun a => (a, h))
theorem prs_nil (h : Hd) : prs h [] = [] := rfl
theorem prs_len (h : Hd) (l : List Int) : (prs h l).length = l.length := by unfold prs; simp
theorem prs_take {h : Hd} {l : List Int} {j : Nat} (hj : j < l.length) : prs h (l.take (j + 1)) = prs h (l.take j) ++ [(l[j], h)] := by
 unfold prs; rw [List.take_succ_eq_append_getElem hj, List.map_append]; rfl
theorem prs_nz {h : Hd} {l : List Int} (hh : h.1 ≠ 0) : NzP (prs h l) := fun e he => by
 unfold prs at he; obtain ⟨a, _, rfl⟩ := List.mem_map.1 he; exact hh
theorem prs_split (h : Hd) (l : List Int) (j : Nat) : prs h l = prs h (l.take j) ++ prs h (l.drop j) := by
 unfold prs; rw [← List.map_append, List.take_append_drop]
/-- Not the next: it is no thread, or stands somewhere. -/
theorem ent_no {T : List QT} {P : Prs} {h : Hd} {l : List Int} {j : Nat} (hj : j < l.length) (hx : (∀ t ∈ T, t.a0 ≠ l[j]) ∨ ∃ e ∈ P ++ prs h (l.take j), e.1 = l[j]) : ¬ Ent T (P ++ prs h l) := by
 intro hE
 rw [prs_split h l (j + 1), prs_take hj] at hE
 have hE2 : Ent T ((P ++ prs h (l.take j)) ++ [(l[j], h)]) := by
  rw [← List.append_assoc, ← List.append_assoc] at hE; exact hE.pre
 rcases hx with hx | ⟨e, he, ex⟩
 ·obtain ⟨t, ht, e⟩ := hE2.thr (l[j], h) (by simp)
  exact hx t ht e
 ·have hn := hE2.nd
  rw [List.map_append, List.nodup_append] at hn
  exact hn.2.2 e.1 (List.mem_map_of_mem he) l[j] (by simp) ex

/-! ### All queues. -/
def pairsQ (Q : List (Hd × List Int)) : Prs := Q.flatMap (fun q => prs q.1 q.2)
theorem pairsQ_app (Q R : List (Hd × List Int)) : pairsQ (Q ++ R) = pairsQ Q ++ pairsQ R := by unfold pairsQ; rw [List.flatMap_append]
theorem pairsQ_one (q : Hd × List Int) : pairsQ [q] = prs q.1 q.2 := by unfold pairsQ; simp
theorem pairsQ_fst (Q : List (Hd × List Int)) : (pairsQ Q).map Prod.fst = Q.flatMap (fun q => q.2) := by
 unfold pairsQ prs
 rw [List.map_flatMap]
 congr 1; funext q; rw [List.map_map]; simp [Function.comp_def]
theorem hdP_head : ∀ (Q : List (Hd × List Int)) (a : Int), hdP (pairsQ Q) a = (headOf Q a).getD (0, 0)
 | [], a => rfl
 | q :: Q, a => by
  have ih := hdP_head Q a
  unfold hdP headOf at *
  have e : pairsQ (q :: Q) = prs q.1 q.2 ++ pairsQ Q := rfl
  rw [e, List.find?_append, List.find?_cons]
  by_cases h : a ∈ q.2
  ·have h1 : q.2.contains a = true := by simpa using h
   rw [h1]
   have h2 : (prs q.1 q.2).find? (fun e => e.1 == a) = some (a, q.1) := by
    cases hf : (prs q.1 q.2).find? (fun e => e.1 == a) with
    | none =>
     rw [List.find?_eq_none] at hf
     exact absurd (by simp) (hf (a, q.1) (List.mem_map.2 ⟨a, h, rfl⟩))
    | some e2 =>
     have m := List.mem_of_find?_eq_some hf
     have p := List.find?_some hf
     obtain ⟨b, hb, rfl⟩ := List.mem_map.1 m
     simp at p; rw [p]
   rw [h2]; rfl
  ·have h1 : q.2.contains a = false := by simpa using h
   rw [h1]
   have h2 : (prs q.1 q.2).find? (fun e => e.1 == a) = none := by
    rw [List.find?_eq_none]
    intro e2 he2
    obtain ⟨b, hb, rfl⟩ := List.mem_map.1 he2
    simp; intro e3; rw [e3] at hb; exact h hb
   rw [h2]; exact ih
def endQ (e : QE) : Hd × List Int := ((e.kd + 1, e.ad), e.l)
def noteQ (n : QN) : Hd × List Int := ((5, n.ad), n.l)
def rdyQ (K : QK) (p : Nat) : Hd × List Int := ((1, (p : Int)), (readyQ K p).l)
theorem queuesL_eq (K : QK) : queuesL K = K.el.map endQ ++ (K.nl.map noteQ ++ (List.range 8).map (rdyQ K)) := rfl
def pE (K : QK) (j : Nat) : Prs := pairsQ ((K.el.take j).map endQ)
def pN (K : QK) (j : Nat) : Prs := pE K K.el.length ++ pairsQ ((K.nl.take j).map noteQ)
def pR (K : QK) (j : Nat) : Prs := pN K K.nl.length ++ pairsQ ((List.range j).map (rdyQ K))
theorem pE_zero (K : QK) : pE K 0 = [] := rfl
theorem pE_next {K : QK} {j : Nat} (hj : j < K.el.length) : pE K (j + 1) = pE K j ++ prs (K.el[j].kd + 1, K.el[j].ad) K.el[j].l := by
 unfold pE; rw [List.take_succ_eq_append_getElem hj, List.map_append, pairsQ_app, List.map_cons, List.map_nil, pairsQ_one]; rfl
theorem pN_zero (K : QK) : pN K 0 = pE K K.el.length := by unfold pN; simp [pairsQ]
theorem pN_next {K : QK} {j : Nat} (hj : j < K.nl.length) : pN K (j + 1) = pN K j ++ prs (5, K.nl[j].ad) K.nl[j].l := by
 unfold pN; rw [List.take_succ_eq_append_getElem hj, List.map_append, pairsQ_app, List.append_assoc, List.map_cons, List.map_nil, pairsQ_one]; rfl
theorem pR_zero (K : QK) : pR K 0 = pN K K.nl.length := by unfold pR; simp [pairsQ]
theorem pR_next (K : QK) (j : Nat) : pR K (j + 1) = pR K j ++ prs (1, (j : Int)) (readyQ K j).l := by
 unfold pR; rw [List.range_succ, List.map_append, pairsQ_app, List.append_assoc, List.map_cons, List.map_nil, pairsQ_one]; rfl
theorem pR_all (K : QK) : pR K 8 = pairsQ (queuesL K) := by
 unfold pR pN pE; rw [List.take_length, List.take_length, queuesL_eq, pairsQ_app, pairsQ_app, List.append_assoc]
theorem pE_pre {K : QK} {j : Nat} : ∃ R, pR K 8 = pE K j ++ R := by
 refine ⟨pairsQ ((K.el.drop j).map endQ ++ (K.nl.map noteQ ++ (List.range 8).map (rdyQ K))), ?_⟩
 have e : K.el.map endQ = (K.el.take j).map endQ ++ (K.el.drop j).map endQ := by rw [← List.map_append, List.take_append_drop]
 rw [pR_all, queuesL_eq, e, List.append_assoc, pairsQ_app]; rfl
theorem pN_pre {K : QK} {j : Nat} : ∃ R, pR K 8 = pN K j ++ R := by
 refine ⟨pairsQ ((K.nl.drop j).map noteQ ++ (List.range 8).map (rdyQ K)), ?_⟩
 have e : K.nl.map noteQ = (K.nl.take j).map noteQ ++ (K.nl.drop j).map noteQ := by rw [← List.map_append, List.take_append_drop]
 rw [pR_all, queuesL_eq, e, List.append_assoc ((K.nl.take j).map noteQ), pairsQ_app, pairsQ_app ((K.nl.take j).map noteQ), ← List.append_assoc]
 unfold pN pE; rw [List.take_length]
theorem pR_pre {K : QK} {j : Nat} (hj : j ≤ 8) : ∃ R, pR K 8 = pR K j ++ R := by
 have : ∀ m, ∃ R, pR K (j + m) = pR K j ++ R := by
  intro m
  induction m with
  | zero => exact ⟨[], by simp⟩
  | succ m ih =>
   obtain ⟨R, hR⟩ := ih
   exact ⟨R ++ prs (1, ((j + m : Nat) : Int)) (readyQ K (j + m)).l, by rw [← Nat.add_assoc, pR_next, hR, List.append_assoc]⟩
 have h := this (8 - j)
 have e : j + (8 - j) = 8 := by omega
 rw [e] at h; exact h
def belongsI (t : QT) : Hd := (belongs t).getD (0, 0)
theorem belongsI_nz (t : QT) (h : Hd) (hb : belongs t = some h) : h.1 ≠ 0 := by
 unfold belongs at hb
 by_cases e1 : t.a1 = 1
 ·rw [if_pos e1] at hb; injection hb with hb; subst hb; show (1 : Int) ≠ 0; decide
 ·rw [if_neg e1] at hb
  by_cases e2 : t.a1 = 2 ∨ t.a1 = 3 ∨ t.a1 = 5
  ·rw [if_pos e2] at hb; injection hb with hb; subst hb; show t.a1 ≠ 0; omega
  ·rw [if_neg e2] at hb; cases hb
theorem queues_all (K : QK) : QueuesP K ↔ (∀ e ∈ K.el, endShapeB e = true) ∧ (∀ n ∈ K.nl, noteShapeB n = true) ∧ Ent K.tl (pR K 8) ∧ ∀ t ∈ K.tl, hdP (pR K 8) t.a0 = belongsI t := by
 have hnz : (∀ e ∈ K.el, endShapeB e = true) → ∀ a h, headOf (queuesL K) a = some h → h.1 ≠ 0 := by
  intro he a h hh
  obtain ⟨q, hq, e, ha⟩ := head_some hh
  subst e
  rcases mem_queues.1 hq with ⟨e, hem, rfl⟩ | ⟨n, hnm, rfl⟩ | ⟨p, hp, rfl⟩
  ·have := he e hem
   unfold endShapeB at this
   by_cases e0 : e.kd = 0
   ·rw [if_pos e0] at this
    have h2 : e.l = [] := List.length_eq_zero_iff.1 (by simpa using this)
    rw [h2] at ha; cases ha
   ·rw [if_neg e0] at this
    by_cases e1 : e.kd = 1 ∨ e.kd = 2
    ·show e.kd + 1 ≠ 0; omega
    ·rw [if_neg e1] at this; cases this
  ·show (5 : Int) ≠ 0; decide
  ·show (1 : Int) ≠ 0; decide
 have hiff : (∀ e ∈ K.el, endShapeB e = true) → ∀ t, (headOf (queuesL K) t.a0 = belongs t ↔ hdP (pR K 8) t.a0 = belongsI t) := by
  intro he t
  rw [pR_all, hdP_head]
  unfold belongsI
  constructor
  ·intro h; rw [h]
  ·intro h
   cases h1 : headOf (queuesL K) t.a0 with
   | none =>
    cases h2 : belongs t with
    | none => rfl
    | some b =>
     rw [h1, h2] at h
     exact absurd (congrArg Prod.fst h).symm (belongsI_nz t b h2)
   | some a =>
    cases h2 : belongs t with
    | none =>
     rw [h1, h2] at h
     exact absurd (congrArg Prod.fst h) (hnz he _ _ h1)
    | some b =>
     rw [h1, h2] at h
     have h : a = b := h
     rw [h]
 constructor
 ·intro Q
  refine ⟨Q.ends, Q.notes, ⟨?_, ?_⟩, fun t ht => (hiff Q.ends t).1 (Q.head t ht)⟩
  ·rw [pR_all, pairsQ_fst]; exact Q.nodup
  ·intro e he
   refine Q.thr e.1 ?_
   rw [← pairsQ_fst, ← pR_all]; exact List.mem_map_of_mem he
 ·rintro ⟨h1, h2, h3, h4⟩
  refine ⟨h1, h2, ?_, ?_, fun t ht => (hiff h1 t).2 (h4 t ht)⟩
  ·rw [← pairsQ_fst, ← pR_all]; exact h3.nd
  ·intro a ha
   rw [← pairsQ_fst, ← pR_all] at ha
   obtain ⟨e, he, rfl⟩ := List.mem_map.1 ha
   exact h3.thr e he

end Go.Proofs.YtigpbjcmmgdiaaaGreat
