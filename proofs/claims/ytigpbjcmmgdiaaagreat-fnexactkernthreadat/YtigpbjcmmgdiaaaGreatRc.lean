/-
  Texts of the proof, put together: KernApart, ApartD, KernFall.
-/
import Derived.Test.YtigpbjcmmgdiaaaGreatRb
import Derived.Test.YtigpbjcmmgdiaaaGreatBo
import Derived.Test.YtigpbjcmmgdiaaaGreatBa
/-
 Where originals lie: one that came of another one lies in it; two that are no regions share no word. Plain facts. No conditions.
-/
namespace Go.Proofs.YtigpbjcmmgdiaaaGreat
open Go.ChangeShapes Go.WideShapes Go.ChangeAt Go.RowKit
set_option linter.unusedVariables false

theorem tree_ok {L : List Sl} (hT : treeB L = true) (k : Nat) (hk : k < L.length) : 64 ≤ L[k].t ∧ L[k].t < 4096 ∧ L[k].t % 4 = 0 ∧ okB L[k].k L[k].e L[k].b L[k].r L[k].d L[k].g L[k].q L[k].f L[k].o = true := by
 have h := hT
 simp only [treeB, Bool.and_eq_true] at h
 have hs := goB_drop L [] (-1) h.2 k hk
 obtain ⟨_, _, _, h1, h2, h3, h4, _⟩ := slotB_parts.1 hs
 exact ⟨h1, h2, h3, h4⟩

theorem tree_okm {L : List Sl} (hT : treeB L = true) : ∀ s ∈ L, okB s.k s.e s.b s.r s.d s.g s.q s.f s.o = true := by
 intro s hs
 obtain ⟨k, hk, rfl⟩ := List.mem_iff_getElem.1 hs
 exact (tree_ok hT k hk).2.2.2

/-- What is ok: its words, and what it may be. -/
theorem ok_parts {s : Sl} (h : okB s.k s.e s.b s.r s.d s.g s.q s.f s.o = true) : 1 ≤ s.k ∧ s.k ≤ 7 ∧ 0 ≤ s.e ∧ 0 < bornSz s ∧ s.e ≤ 4096 ∧ bornSz s ≤ 4096 ∧ s.e % bornSz s = 0 ∧ s.e + bornSz s ≤ 4096 ∧ spanI s.k s.b = bornSz s ∧ (s.k = 1 → s.o = true ∧ 0 ≤ s.f ∧ s.f ≤ bornSz s) ∧ (s.k = 7 → s.o = false) ∧ (s.k = 3 → bornSz s = 32) ∧ (s.o = true → bornSz s = szI s.k s.b) := by
 unfold okB at h
 simp only [Bool.and_eq_true] at h
 obtain ⟨⟨⟨⟨⟨h1, h2⟩, h3⟩, h4⟩, h5⟩, h6⟩ := h
 simp only [withinB, decide_eq_true_eq] at h1
 have hf := align_fine h3
 have hs : spanI s.k s.b = bornSz s := by
  unfold spanI bornSz
  by_cases k7 : s.k = 7
  ·have : (s.k == 7) = true := by simpa using k7
   rw [if_pos k7, if_pos this]
   by_cases b0 : s.b = 0
   ·rw [if_pos b0]
   ·unfold spanI at hf
    rw [if_pos k7, if_neg b0] at hf; omega
  ·have : ¬ (s.k == 7) = true := by simpa using k7
   rw [if_neg k7, if_neg this]
 rw [hs] at h3 h4 hf
 have h3' : s.e % bornSz s = 0 := by
  unfold alignB at h3; simp only [Bool.and_eq_true, beq_iff_eq] at h3; exact h3.2
 have h4' : s.e + bornSz s ≤ 4096 := by
  unfold inB at h4; simp only [Bool.and_eq_true, decide_eq_true_eq] at h4; omega
 refine ⟨h1.1, h1.2, hf.1, hf.2.1, hf.2.2.1, hf.2.2.2, h3', h4', hs, ?_, ?_, ?_, ?_⟩
 ·intro e
  have ho : s.o = true := by unfold origB at h6; rw [if_pos e] at h6; exact h6
  refine ⟨ho, ?_⟩
  unfold besideB fmaxI at h5
  simp only [Bool.and_eq_true, withinB, decide_eq_true_eq] at h5
  rw [if_pos e] at h5
  have h7 : bornSz s = szI 1 s.b := by rw [← hs]; unfold spanI; rw [if_neg (by omega), e]
  rw [h7]; omega
 ·intro e
  unfold origB at h6; rw [if_neg (by omega), if_pos e] at h6; simpa using h6
 ·intro e
  rw [← hs] at hf ⊢
  unfold spanI szI at hf ⊢
  rw [if_neg (by omega), if_neg (by omega), if_neg (by omega), if_pos e] at hf ⊢
  split
  ·rfl
  ·rename_i hb; rw [if_neg hb] at hf; omega
 ·intro ho
  unfold bornSz
  have : s.k ≠ 7 := by
   intro e
   unfold origB at h6; rw [if_neg (by omega), if_pos e] at h6; simp [ho] at h6
  rw [if_neg (by simpa using this)]

theorem meet_iff {a s b t : Int} (h1 : 0 ≤ a) (h2 : 0 < s) (h3 : a ≤ 4096) (h4 : s ≤ 4096) (k1 : 0 ≤ b) (k2 : 0 < t) (k3 : b ≤ 4096) (k4 : t ≤ 4096) : meetB a s b t = true ↔ a < b + t ∧ b < a + s := by
 unfold meetB
 rw [fineB_mk ⟨h1, h2, h3, h4⟩, fineB_mk ⟨k1, k2, k3, k4⟩]; simp
theorem in_iff {a s b t : Int} : inB a s b t = true ↔ (0 ≤ a ∧ 0 < s ∧ a ≤ 4096 ∧ s ≤ 4096) ∧ (0 ≤ b ∧ 0 < t ∧ b ≤ 4096 ∧ t ≤ 4096) ∧ b ≤ a ∧ a + s ≤ b + t := by
 unfold inB fineB; simp [and_assoc]

/-- It came of that, rightly. -/
def cameB (s p : Sl) : Bool := if s.o = true then usedB s p else derB s p
/-- All lie where they may, came of what they may, and originals of one origin are apart. -/
structure Sound (bits : Int) (L : List Sl) : Prop where
 tree : treeB L = true
 mem : ∀ i (h : i < L.length), memB bits L[i] = true
 der : ∀ i (h : i < L.length), (match upSl L i with | none => L[i].o | some p => cameB L[i] p) = true
 apart : ∀ i j (hi : i < L.length) (hj : j < L.length), j < i → L[i].o = true → L[j].o = true → cameI L j = cameI L i → meetB L[i].e (bornSz L[i]) L[j].e (bornSz L[j]) = false

theorem born_all {bits : Int} {L : List Sl} (hT : treeB L = true) : (∀ i, i < L.length → bornB bits L i = true) ↔ Sound bits L := by
 constructor
 ·intro h
  refine ⟨hT, fun i hi => ?_, fun i hi => ?_, fun i j hi hj hji hoi hoj hc => ?_⟩
  ·have := h i hi
   unfold bornB at this; rw [List.getElem?_eq_getElem hi] at this
   simp only [Bool.and_eq_true] at this; exact this.1
  ·have := h i hi
   unfold bornB at this; rw [List.getElem?_eq_getElem hi] at this
   simp only [Bool.and_eq_true] at this
   have h2 := this.2
   cases hu : upSl L i with
   | none => rw [hu] at h2; cases ho : L[i].o with
    | true => rfl
    | false => rw [ho] at h2; simp at h2
   | some p => rw [hu] at h2; unfold cameB; cases ho : L[i].o with
    | true => rw [ho] at h2; simp only [if_true, Bool.and_eq_true] at h2 ⊢; exact h2.2
    | false => rw [ho] at h2; simpa using h2
  ·have := h i hi
   unfold bornB at this; rw [List.getElem?_eq_getElem hi] at this
   simp only [Bool.and_eq_true, hoi, if_true] at this
   have h2 := List.all_eq_true.1 this.2.1 j (List.mem_range.2 hji)
   unfold meetsB at h2
   rw [List.getElem?_eq_getElem hj] at h2
   simp only [hoj, hc, beq_self_eq_true, Bool.true_and, Bool.not_eq_true'] at h2
   have := (ok_parts (tree_ok hT j hj).2.2.2).2.2.2.2.2.2.2.2.2.2.2.2 hoj
   rw [this]; exact h2
 ·intro S i hi
  have hm := S.mem i hi
  have hd := S.der i hi
  cases ho : L[i].o with
  | true =>
   rw [born_orig (List.getElem?_eq_getElem hi) hm ho]
   ·cases hu : upSl L i with
    | none => rfl
    | some p => rw [hu] at hd; simpa [cameB, ho] using hd
   ·intro j hji
    have hj : j < L.length := by omega
    unfold meetsB
    rw [List.getElem?_eq_getElem hj]
    cases hoj : L[j].o with
    | false => simp [hoj]
    | true =>
     by_cases hc : cameI L j = cameI L i
     ·have := S.apart i j hi hj hji ho hoj hc
      rw [(ok_parts (tree_ok hT j hj).2.2.2).2.2.2.2.2.2.2.2.2.2.2.2 hoj] at this
      simp [this]
     ·simp [hc]
  | false =>
   rw [born_copy (List.getElem?_eq_getElem hi) hm ho]
   cases hu : upSl L i with
   | none => rw [hu] at hd; rw [ho] at hd; cases hd
   | some p => rw [hu] at hd; simpa [cameB, ho] using hd

/-- A slot came of another one, by some steps or none. -/
inductive Anc (L : List Sl) (a : Nat) : Nat → Prop
 | refl : Anc L a a
 | up {b c : Nat} : b < L.length → cameI L b = (c : Int) → Anc L a c → Anc L a b
theorem came_lt {L : List Sl} {b c : Nat} (hb : b < L.length) (h : cameI L b = (c : Int)) : c < b := by
 rcases cameI_or L b hb with ⟨e, _⟩ | ⟨u, _, hu, e, _⟩
 ·omega
 ·omega
theorem came_up {L : List Sl} {b c : Nat} (hb : b < L.length) (h : cameI L b = (c : Int)) : ∃ hc : c < L.length, upSl L b = some L[c] := by
 rcases cameI_or L b hb with ⟨e, _⟩ | ⟨u, hu, _, e, e2⟩
 ·omega
 ·have : u = c := by omega
  subst this; exact ⟨hu, e2⟩
theorem Anc.le {L : List Sl} {a b : Nat} (h : Anc L a b) : a ≤ b := by
 induction h with
 | refl => exact Nat.le_refl _
 | up hb hc _ ih => have := came_lt hb hc; omega
/-- What stands ahead of it on its way, if it is not that one itself. -/
theorem Anc.child {L : List Sl} {a b : Nat} (h : Anc L a b) (hne : a ≠ b) : ∃ c, c < L.length ∧ cameI L c = (a : Int) ∧ Anc L c b := by
 induction h with
 | refl => exact absurd rfl hne
 | @up b c hb hc h ih =>
  by_cases e : a = c
  ·subst e; exact ⟨b, hb, hc, .refl⟩
  ·obtain ⟨d, hd, hda, hdc⟩ := ih e
   exact ⟨d, hd, hda, .up hb hc hdc⟩
theorem anc_root (L : List Sl) : ∀ b : Nat, b < L.length → ∃ r, r < L.length ∧ cameI L r = -1 ∧ Anc L r b := by
 intro b
 induction b using Nat.strongRecOn with
 | _ b ih =>
  intro hb
  rcases cameI_or L b hb with ⟨e, _⟩ | ⟨u, hu, hub, e, _⟩
  ·exact ⟨b, hb, e, .refl⟩
  ·obtain ⟨r, hr, hr2, hr3⟩ := ih u hub hu
   exact ⟨r, hr, hr2, .up hb e hr3⟩
/-- An original that came of another slot: that one is the original of a region, and holds it. -/
theorem orig_up {bits : Int} {L : List Sl} (S : Sound bits L) {i u : Nat} (hi : i < L.length) (ho : L[i].o = true) (h : cameI L i = (u : Int)) : ∃ hu : u < L.length, L[u].o = true ∧ L[u].k = 1 ∧ L[u].e ≤ L[i].e ∧ L[i].e + bornSz L[i] ≤ L[u].e + bornSz L[u] := by
 obtain ⟨hu, e⟩ := came_up hi h
 have hd := S.der i hi
 rw [e] at hd
 unfold cameB usedB at hd
 simp only [ho, if_true, Bool.and_eq_true, beq_iff_eq] at hd
 obtain ⟨_, _, hb, hc⟩ := in_iff.1 hd.2
 have hp := (ok_parts (tree_ok S.tree u hu).2.2.2).2.2.2.2.2.2.2.2.2.1 hd.1
 exact ⟨hu, hp.1, hd.1, hb, by omega⟩
theorem anc_orig {bits : Int} {L : List Sl} (S : Sound bits L) {a b : Nat} (h : Anc L a b) : ∀ (hb : b < L.length), L[b].o = true → ∃ ha : a < L.length, L[a].o = true ∧ L[a].e ≤ L[b].e ∧ L[b].e + bornSz L[b] ≤ L[a].e + bornSz L[a] ∧ (a ≠ b → L[a].k = 1) := by
 induction h with
 | refl => exact fun hb ho => ⟨hb, ho, Int.le_refl _, Int.le_refl _, fun e => absurd rfl e⟩
 | @up b c hb' hc h ih =>
  intro hb ho
  obtain ⟨hu, o1, k1, r1, r2⟩ := orig_up S hb ho hc
  obtain ⟨ha, o2, s1, s2, k2⟩ := ih hu o1
  refine ⟨ha, o2, by omega, by omega, fun e => ?_⟩
  by_cases e2 : a = c
  ·subst e2; exact k1
  ·exact k2 e2

/-- Of two originals that share words the one came of the other. -/
theorem orig_meet {bits : Int} {L : List Sl} (S : Sound bits L) : ∀ (n i j : Nat), i ≤ n → j < i → ∀ (hi : i < L.length) (hj : j < L.length), L[i].o = true → L[j].o = true → L[i].e < L[j].e + bornSz L[j] → L[j].e < L[i].e + bornSz L[i] → Anc L j i := by
 have nomeet : ∀ a b (ha : a < L.length) (hb : b < L.length), b ≠ a → L[a].o = true → L[b].o = true → cameI L b = cameI L a → L[a].e < L[b].e + bornSz L[b] → L[b].e < L[a].e + bornSz L[a] → False := by
  intro a b ha hb hne hoa hob hc h1 h2
  have pa := ok_parts (tree_ok S.tree a ha).2.2.2
  have pb := ok_parts (tree_ok S.tree b hb).2.2.2
  rcases Nat.lt_or_ge b a with hlt | hge
  ·have := S.apart a b ha hb hlt hoa hob hc
   rw [(meet_iff (by omega) (by omega) (by omega) (by omega) (by omega) (by omega) (by omega) (by omega)).2 ⟨h1, h2⟩] at this
   cases this
  ·have := S.apart b a hb ha (by omega) hob hoa hc.symm
   rw [(meet_iff (by omega) (by omega) (by omega) (by omega) (by omega) (by omega) (by omega) (by omega)).2 ⟨h2, h1⟩] at this
   cases this
 intro n
 induction n with
 | zero => intro i j hin hji; omega
 | succ n ih =>
  intro i j hin hji hi hj hoi hoj h1 h2
  by_cases hc : cameI L j = cameI L i
  ·exact (nomeet i j hi hj (by omega) hoi hoj hc h1 h2).elim
  ·rcases cameI_or L i hi with ⟨e, _⟩ | ⟨u, hu, hui, e, _⟩
   ·obtain ⟨r, hr, hr2, hr3⟩ := anc_root L j hj
    obtain ⟨_, o2, s1, s2, _⟩ := anc_orig S hr3 hj hoj
    have := hr3.le
    exact (nomeet i r hi hr (by omega) hoi o2 (by omega) (by omega) (by omega)).elim
   ·obtain ⟨_, o1, k1, r1, r2⟩ := orig_up S hi hoi e
    by_cases huj : u = j
    ·subst huj; exact .up hi e .refl
    ·rcases Nat.lt_or_ge j u with hlt | hge
     ·exact .up hi e (ih u j (by omega) hlt hu hj o1 hoj (by omega) (by omega))
     ·have ha := ih j u (by omega) (by omega) hj hu hoj o1 (by omega) (by omega)
      obtain ⟨c, hcl, hcu, hcj⟩ := ha.child huj
      obtain ⟨_, o2, s1, s2, _⟩ := anc_orig S hcj hj hoj
      have := hcj.le
      exact (nomeet i c hi hcl (by omega) hoi o2 (by omega) (by omega) (by omega)).elim
/-- Two originals that are no regions share no word. -/
theorem objs_apart {bits : Int} {L : List Sl} (S : Sound bits L) {i j : Nat} (hi : i < L.length) (hj : j < L.length) (hoi : L[i].o = true) (hoj : L[j].o = true) (ki : L[i].k ≠ 1) (kj : L[j].k ≠ 1) (h1 : L[i].e < L[j].e + bornSz L[j]) (h2 : L[j].e < L[i].e + bornSz L[i]) : i = j := by
 apply Classical.byContradiction
 intro hne
 rcases Nat.lt_or_ge j i with hlt | hge
 ·obtain ⟨_, _, _, _, hk⟩ := anc_orig S (orig_meet S i i j (Nat.le_refl _) hlt hi hj hoi hoj h1 h2) hi hoi
  exact kj (hk (by omega))
 ·obtain ⟨_, _, _, _, hk⟩ := anc_orig S (orig_meet S j j i (Nat.le_refl _) (by omega) hj hi hoj hoi h2 h1) hj hoj
  exact ki (hk (by omega))
/-- Two originals of one kind and address are one, regions aside. -/
theorem objs_one {bits : Int} {L : List Sl} (S : Sound bits L) {i j : Nat} (hi : i < L.length) (hj : j < L.length) (hoi : L[i].o = true) (hoj : L[j].o = true) (ki : L[i].k ≠ 1) (kj : L[j].k ≠ 1) (h : L[i].e = L[j].e) : i = j := by
 have pi := ok_parts (tree_ok S.tree i hi).2.2.2
 have pj := ok_parts (tree_ok S.tree j hj).2.2.2
 exact objs_apart S hi hj hoi hoj ki kj (by omega) (by omega)

end Go.Proofs.YtigpbjcmmgdiaaaGreat
/-
 Originals of one origin share no word. Plain.
-/
namespace Go.Proofs.YtigpbjcmmgdiaaaGreat
set_option linter.unusedVariables false

def ApartP (L : List Sl) : Prop := ∀ i j (hi : i < L.length) (hj : j < L.length), j < i → L[i].o = true → L[j].o = true → cameI L j = cameI L i → meetB L[i].e (bornSz L[i]) L[j].e (bornSz L[j]) = false

end Go.Proofs.YtigpbjcmmgdiaaaGreat
/-
 Whether all can be taken away, one behind the other: plain facts on relations between finitely many. No conditions.
-/
namespace Go.Proofs.YtigpbjcmmgdiaaaGreat
set_option linter.unusedVariables false

/-- In every set there is one that nobody in it holds. -/
def Acyc (n : Nat) (R : Nat → Nat → Prop) : Prop :=
 ∀ S : Nat → Prop, (∃ x, x < n ∧ S x) → ∃ x, x < n ∧ S x ∧ ∀ y, y < n → S y → ¬ R y x

/-- A way from one to another, of one step or more. -/
inductive Way (n : Nat) (R : Nat → Nat → Prop) : Nat → Nat → Prop
 | one {y x : Nat} : y < n → x < n → R y x → Way n R y x
 | snoc {y u x : Nat} : Way n R y u → x < n → R u x → Way n R y x
theorem Way.to_lt {n : Nat} {R : Nat → Nat → Prop} {y x : Nat} (h : Way n R y x) : x < n := by
 cases h with
 | one _ h2 _ => exact h2
 | snoc _ h2 _ => exact h2
theorem Way.trans {n : Nat} {R : Nat → Nat → Prop} {a b c : Nat} (h : Way n R a b) (k : Way n R b c) : Way n R a c := by
 induction k with
 | one h1 h2 h3 => exact h.snoc h2 h3
 | snoc _ h2 h3 ih => exact ih.snoc h2 h3

theorem acyc_mono {n : Nat} {R R' : Nat → Nat → Prop} (h : ∀ y x, y < n → x < n → R y x → R' y x) (ha : Acyc n R') : Acyc n R := by
 intro S hS
 obtain ⟨x, hx, hs, hn⟩ := ha S hS
 exact ⟨x, hx, hs, fun y hy hsy hr => hn y hy hsy (h y x hy hx hr)⟩

theorem acyc_ways {n : Nat} {R R' : Nat → Nat → Prop} (h : ∀ y x, y < n → x < n → R' y x → Way n R y x) (ha : Acyc n R) : Acyc n R' := by
 intro S hS
 apply Classical.byContradiction
 intro hno
 have hall : ∀ x, x < n → S x → ∃ y, y < n ∧ S y ∧ Way n R y x := by
  intro x hx hs
  apply Classical.byContradiction
  intro h2
  apply hno
  refine ⟨x, hx, hs, fun y hy hsy hr => h2 ⟨y, hy, hsy, h y x hy hx hr⟩⟩
 obtain ⟨x0, hx0, hs0⟩ := hS
 obtain ⟨z, hz, ⟨⟨y, hy, hwy⟩, ⟨x, hx, hwx⟩⟩, hzn⟩ := ha (fun z => (∃ y, S y ∧ (y = z ∨ Way n R y z)) ∧ (∃ x, S x ∧ (z = x ∨ Way n R z x))) ⟨x0, hx0, ⟨x0, hs0, .inl rfl⟩, ⟨x0, hs0, .inl rfl⟩⟩
 have key : ∀ a, S a → Way n R a z → False := by
  intro a ha2 hw
  cases hw with
  | one h1 h2 h3 =>
   refine hzn a h1 ⟨⟨a, ha2, .inl rfl⟩, ⟨x, hx, ?_⟩⟩ h3
   rcases hwx with e | hwx
   ·subst e; exact .inr (.one h1 h2 h3)
   ·exact .inr ((Way.one h1 h2 h3).trans hwx)
  | snoc hw h2 h3 =>
   refine hzn _ hw.to_lt ⟨⟨a, ha2, .inr hw⟩, ⟨x, hx, ?_⟩⟩ h3
   rcases hwx with e | hwx
   ·subst e; exact .inr (.one hw.to_lt h2 h3)
   ·exact .inr ((Way.one hw.to_lt h2 h3).trans hwx)
 rcases hwy with e | hwy
 ·subst e
  obtain ⟨b, hb, hsb, hwb⟩ := hall y hz hy
  exact key b hsb hwb
 ·exact key y hy hwy

/-! ### Taking away whatever is free, until nothing is. -/
/-- A set of which one is gone has one that nobody in it holds. -/
def Gone (n : Nat) (R : Nat → Nat → Prop) (left : Nat → Bool) : Prop :=
 ∀ S : Nat → Prop, (∃ x, x < n ∧ S x ∧ left x = false) → ∃ x, x < n ∧ S x ∧ ∀ y, y < n → S y → ¬ R y x
theorem gone_all {n : Nat} {R : Nat → Nat → Prop} {left : Nat → Bool} (h : ∀ x, x < n → left x = true) : Gone n R left := by
 intro S ⟨x, hx, _, hl⟩
 rw [h x hx] at hl; cases hl
theorem gone_step {n : Nat} {R : Nat → Nat → Prop} {left left' : Nat → Bool} {i : Nat} (h : Gone n R left) (hi : i < n) (hf : ∀ y, y < n → left y = true → ¬ R y i) (hl : ∀ x, x < n → x ≠ i → left' x = left x) : Gone n R left' := by
 intro S ⟨x, hx, hs, hlx⟩
 by_cases hg : ∃ x, x < n ∧ S x ∧ left x = false
 ·exact h S hg
 ·by_cases e : x = i
  ·subst e
   refine ⟨x, hx, hs, fun y hy hsy => hf y hy ?_⟩
   cases hl2 : left y with
   | true => rfl
   | false => exact absurd ⟨y, hy, hsy, hl2⟩ hg
  ·rw [hl x hx e] at hlx
   exact absurd ⟨x, hx, hs, hlx⟩ hg
theorem gone_end {n : Nat} {R : Nat → Nat → Prop} {left : Nat → Bool} (h : Gone n R left) (hn : ∀ x, x < n → left x = true → ∃ y, y < n ∧ left y = true ∧ R y x) : Acyc n R ↔ ∀ x, x < n → left x = false := by
 constructor
 ·intro ha x hx
  cases hl : left x with
  | false => rfl
  | true =>
   obtain ⟨z, hz, hs, hno⟩ := ha (fun z => left z = true) ⟨x, hx, hl⟩
   obtain ⟨y, hy, hly, hr⟩ := hn z hz hs
   exact absurd hr (hno y hy hly)
 ·intro h0 S ⟨x, hx, hs⟩
  exact h S ⟨x, hx, hs, h0 x hx⟩

/-! ### Counting who holds whom. -/
theorem countP_out {α : Type} [BEq α] [LawfulBEq α] {p : α → Bool} {l : List α} {a : α} (h : a ∈ l) : l.countP p = (l.erase a).countP p + (if p a = true then 1 else 0) := by
 rw [(List.perm_cons_erase h).countP_eq p, List.countP_cons]
theorem sub_len {α : Type} [DecidableEq α] : ∀ (l m : List α), l.Nodup → (∀ x ∈ l, x ∈ m) → l.length ≤ m.length
 | [], _, _, _ => Nat.zero_le _
 | a :: l, m, hn, hs => by
  have ha := hs a (List.mem_cons_self ..)
  have hn2 := List.nodup_cons.1 hn
  have ih := sub_len l (m.erase a) hn2.2 (fun x hx => (List.mem_erase_of_ne (fun e => hn2.1 (by rw [← e]; exact hx))).2 (hs x (List.mem_cons_of_mem _ hx)))
  have hl := List.length_erase_of_mem ha
  have hp := List.length_pos_of_mem ha
  simp only [List.length_cons]; omega
/-- Who holds at a place whom, or nobody. -/
def Holds (keep : Nat → Nat → Int) (y x : Nat) : Prop := keep y 0 = (x : Int) ∨ keep y 1 = (x : Int)
/-- A hold that is not yet given up. -/
def heldN (keep : Nat → Nat → Int) (U : List (Nat × Nat)) (x : Nat) : Nat := U.countP (fun e => keep e.1 e.2 == (x : Int))
/-- Between two steps: those that are gone, in their order; whose holds are given up; how many hold each. -/
structure Taking (n : Nat) (keep : Nat → Nat → Int) (g : List Nat) (i p : Nat) (U : List (Nat × Nat)) : Prop where
 nd : g.Nodup
 lt : ∀ x ∈ g, x < n
 un : U.Nodup
 at_ : ∀ y q, (y, q) ∈ U ↔ y < n ∧ q < 2 ∧ ¬ ((∃ a, a < i ∧ g[a]? = some y) ∨ (g[i]? = some y ∧ q < p))
 zero : ∀ x, x < n → (x ∈ g ↔ heldN keep U x = 0)
 ahead : ∀ (a x : Nat), g[a]? = some x → ∀ y q, y < n → q < 2 → keep y q = (x : Int) → ∃ b, b < a ∧ g[b]? = some y

theorem taking_init {n : Nat} {keep : Nat → Nat → Int} {g : List Nat} {U : List (Nat × Nat)} (hU : U.Nodup) (hUa : ∀ y q, (y, q) ∈ U ↔ y < n ∧ q < 2) (hg : g.Nodup) (hga : ∀ x, x ∈ g ↔ x < n ∧ heldN keep U x = 0) : Taking n keep g 0 0 U := by
 refine ⟨hg, fun x hx => ((hga x).1 hx).1, hU, fun y q => ?_, fun x hx => ?_, fun a x ha y q hy hq hk => ?_⟩
 ·rw [hUa]; simp
 ·rw [hga]; simp [hx]
 ·have hx := (hga x).1 (List.mem_of_getElem? ha)
  have h0 := hx.2
  unfold heldN at h0
  rw [List.countP_eq_zero] at h0
  have := h0 (y, q) ((hUa y q).2 ⟨hy, hq⟩)
  simp [hk] at this

/-- The next hold of the one that goes: nobody is held. -/
theorem taking_none {n : Nat} {keep : Nat → Nat → Int} {g : List Nat} {i p : Nat} {U : List (Nat × Nat)} {y : Nat} (h : Taking n keep g i p U) (hy : g[i]? = some y) (hp : p < 2) (hk : ∀ x, x < n → keep y p ≠ (x : Int)) : Taking n keep g i (p + 1) (U.erase (y, p)) := by
 have hmem : (y, p) ∈ U := by
  rw [h.at_]
  refine ⟨h.lt y (List.mem_of_getElem? hy), hp, ?_⟩
  rintro (⟨a, ha, hga⟩ | ⟨_, hq⟩)
  ·have := (List.getElem?_inj (List.getElem?_eq_some_iff.1 hga).1 h.nd).1 (hga.trans hy.symm)
   omega
  ·omega
 have hcount : ∀ x, x < n → heldN keep (U.erase (y, p)) x = heldN keep U x := by
  intro x hx
  unfold heldN
  have hc := countP_out (p := fun e : Nat × Nat => keep e.1 e.2 == (x : Int)) hmem
  have : ¬ ((keep y p == (x : Int)) = true) := by simpa using hk x hx
  rw [if_neg this] at hc
  omega
 refine ⟨h.nd, h.lt, h.un.erase _, fun y' q' => ?_, fun x hx => by rw [hcount x hx]; exact h.zero x hx, h.ahead⟩
 rw [h.un.mem_erase_iff, h.at_]
 constructor
 ·rintro ⟨hne, h1, h2, h3⟩
  refine ⟨h1, h2, ?_⟩
  rintro (h4 | ⟨h4, h5⟩)
  ·exact h3 (.inl h4)
  ·have e : y' = y := Option.some.inj (h4.symm.trans hy)
   by_cases hq : q' = p
   ·exact hne (by rw [e, hq])
   ·exact h3 (.inr ⟨h4, by omega⟩)
 ·rintro ⟨h1, h2, h3⟩
  refine ⟨?_, h1, h2, fun h4 => h3 ?_⟩
  ·intro e
   have e1 : y' = y := congrArg Prod.fst e
   have e2 : q' = p := congrArg Prod.snd e
   exact h3 (.inr ⟨by rw [e1]; exact hy, by omega⟩)
  ·rcases h4 with h4 | ⟨h4, h5⟩
   ·exact .inl h4
   ·exact .inr ⟨h4, by omega⟩

theorem taking_some {n : Nat} {keep : Nat → Nat → Int} {g : List Nat} {i p : Nat} {U : List (Nat × Nat)} {y x : Nat} (h : Taking n keep g i p U) (hy : g[i]? = some y) (hp : p < 2) (hx : x < n) (hk : keep y p = (x : Int)) :
  1 ≤ heldN keep U x ∧ heldN keep (U.erase (y, p)) x = heldN keep U x - 1 ∧ (∀ z, z ≠ x → heldN keep (U.erase (y, p)) z = heldN keep U z) ∧
  Taking n keep (if heldN keep U x - 1 = 0 then g ++ [x] else g) i (p + 1) (U.erase (y, p)) := by
 have hmem : (y, p) ∈ U := by
  rw [h.at_]
  refine ⟨h.lt y (List.mem_of_getElem? hy), hp, ?_⟩
  rintro (⟨a, ha, hga⟩ | ⟨_, hq⟩)
  ·have := (List.getElem?_inj (List.getElem?_eq_some_iff.1 hga).1 h.nd).1 (hga.trans hy.symm)
   omega
  ·omega
 have hpos : 1 ≤ heldN keep U x := by
  unfold heldN
  exact List.countP_pos_iff.2 ⟨(y, p), hmem, by simp [hk]⟩
 have hcx : heldN keep (U.erase (y, p)) x = heldN keep U x - 1 := by
  unfold heldN
  have hc := countP_out (p := fun e : Nat × Nat => keep e.1 e.2 == (x : Int)) hmem
  rw [if_pos (by simp [hk])] at hc
  omega
 have hcz : ∀ z, z ≠ x → heldN keep (U.erase (y, p)) z = heldN keep U z := by
  intro z hz
  unfold heldN
  have hc := countP_out (p := fun e : Nat × Nat => keep e.1 e.2 == (z : Int)) hmem
  have : ¬ ((keep y p == (z : Int)) = true) := by
   rw [hk]; simp; omega
  rw [if_neg this] at hc
  omega
 have hxg : x ∉ g := fun hx2 => by have := (h.zero x hx).1 hx2; omega
 have hil : i < g.length := (List.getElem?_eq_some_iff.1 hy).1
 have hgi : ∀ (g' : List Nat), (g' = g ∨ g' = g ++ [x]) → ∀ a, a ≤ i → g'[a]? = g[a]? := by
  intro g' hg' a ha
  rcases hg' with e | e
  ·rw [e]
  ·rw [e, List.getElem?_append_left (by omega)]
 have hat : ∀ g' : List Nat, (g' = g ∨ g' = g ++ [x]) → ∀ y' q', (y', q') ∈ U.erase (y, p) ↔ y' < n ∧ q' < 2 ∧ ¬ ((∃ a, a < i ∧ g'[a]? = some y') ∨ (g'[i]? = some y' ∧ q' < p + 1)) := by
  intro g' hg' y' q'
  have hrw : ((∃ a, a < i ∧ g'[a]? = some y') ∨ (g'[i]? = some y' ∧ q' < p + 1)) ↔ ((∃ a, a < i ∧ g[a]? = some y') ∨ (g[i]? = some y' ∧ q' < p + 1)) := by
   constructor
   ·rintro (⟨a, ha, hh⟩ | ⟨hh, hq⟩)
    ·exact .inl ⟨a, ha, by rw [← hgi g' hg' a (by omega)]; exact hh⟩
    ·exact .inr ⟨by rw [← hgi g' hg' i (Nat.le_refl _)]; exact hh, hq⟩
   ·rintro (⟨a, ha, hh⟩ | ⟨hh, hq⟩)
    ·exact .inl ⟨a, ha, by rw [hgi g' hg' a (by omega)]; exact hh⟩
    ·exact .inr ⟨by rw [hgi g' hg' i (Nat.le_refl _)]; exact hh, hq⟩
  rw [hrw, h.un.mem_erase_iff, h.at_]
  constructor
  ·rintro ⟨hne, h1, h2, h3⟩
   refine ⟨h1, h2, ?_⟩
   rintro (h4 | ⟨h4, h5⟩)
   ·exact h3 (.inl h4)
   ·have e : y' = y := Option.some.inj (h4.symm.trans hy)
    by_cases hq : q' = p
    ·exact hne (by rw [e, hq])
    ·exact h3 (.inr ⟨h4, by omega⟩)
  ·rintro ⟨h1, h2, h3⟩
   refine ⟨?_, h1, h2, fun h4 => h3 ?_⟩
   ·intro e
    have e1 : y' = y := congrArg Prod.fst e
    have e2 : q' = p := congrArg Prod.snd e
    exact h3 (.inr ⟨by rw [e1]; exact hy, by omega⟩)
   ·rcases h4 with h4 | ⟨h4, h5⟩
    ·exact .inl h4
    ·exact .inr ⟨h4, by omega⟩
 refine ⟨hpos, hcx, hcz, ?_⟩
 by_cases h0 : heldN keep U x - 1 = 0
 ·rw [if_pos h0]
  refine ⟨?_, ?_, h.un.erase _, hat _ (.inr rfl), ?_, ?_⟩
  ·rw [List.nodup_append]
   refine ⟨h.nd, by simp, fun a ha b hb => ?_⟩
   simp at hb; subst hb
   intro e; subst e; exact hxg ha
  ·intro z hz
   rcases List.mem_append.1 hz with hz | hz
   ·exact h.lt z hz
   ·simp at hz; subst hz; exact hx
  ·intro z hz
   by_cases e : z = x
   ·subst e; rw [hcx]; simp [h0]
   ·rw [hcz z e, ← h.zero z hz]; simp [e]
  ·intro a z ha y' q' hy' hq' hk'
   by_cases hal : a < g.length
   ·rw [List.getElem?_append_left hal] at ha
    obtain ⟨b, hb, hgb⟩ := h.ahead a z ha y' q' hy' hq' hk'
    exact ⟨b, hb, by rw [List.getElem?_append_left (by omega)]; exact hgb⟩
   ·have hae : a = g.length ∧ z = x := by
     have hlt := (List.getElem?_eq_some_iff.1 ha).1
     simp at hlt
     have : a = g.length := by omega
     subst this
     simp at ha
     exact ⟨rfl, ha.symm⟩
    obtain ⟨rfl, rfl⟩ := hae
    have hnot : (y', q') ∉ U.erase (y, p) := by
     intro hm
     have hz0 : heldN keep (U.erase (y, p)) z = 0 := by rw [hcx]; exact h0
     unfold heldN at hz0
     rw [List.countP_eq_zero] at hz0
     have := hz0 (y', q') hm
     simp [hk'] at this
    have hd := (not_congr (hat g (.inl rfl) y' q')).1 hnot
    have hd2 : (∃ a, a < i ∧ g[a]? = some y') ∨ (g[i]? = some y' ∧ q' < p + 1) := by
     apply Classical.byContradiction
     intro hc
     exact hd ⟨hy', hq', hc⟩
    rcases hd2 with ⟨b, hb, hgb⟩ | ⟨hgb, _⟩
    ·exact ⟨b, by omega, by rw [List.getElem?_append_left (by omega)]; exact hgb⟩
    ·exact ⟨i, hil, by rw [List.getElem?_append_left hil]; exact hgb⟩
 ·rw [if_neg h0]
  refine ⟨h.nd, h.lt, h.un.erase _, hat _ (.inl rfl), ?_, h.ahead⟩
  intro z hz
  by_cases e : z = x
  ·subst e; rw [hcx, h.zero z hz]; omega
  ·rw [hcz z e]; exact h.zero z hz

/-- The next one goes. -/
theorem taking_next {n : Nat} {keep : Nat → Nat → Int} {g : List Nat} {i : Nat} {U : List (Nat × Nat)} (h : Taking n keep g i 2 U) (hi : i < g.length) : Taking n keep g (i + 1) 0 U := by
 refine ⟨h.nd, h.lt, h.un, fun y q => ?_, h.zero, h.ahead⟩
 rw [h.at_]
 constructor
 ·rintro ⟨h1, h2, h3⟩
  refine ⟨h1, h2, ?_⟩
  rintro (⟨a, ha, hga⟩ | ⟨_, h5⟩)
  ·by_cases e : a = i
   ·subst e; exact h3 (.inr ⟨hga, h2⟩)
   ·exact h3 (.inl ⟨a, by omega, hga⟩)
  ·omega
 ·rintro ⟨h1, h2, h3⟩
  refine ⟨h1, h2, ?_⟩
  rintro (⟨a, ha, hga⟩ | ⟨h4, _⟩)
  ·exact h3 (.inl ⟨a, by omega, hga⟩)
  ·exact h3 (.inl ⟨i, by omega, h4⟩)

/-- A list without doubles of numbers below n is of n just if it holds all. -/
theorem full_of_len {n : Nat} {g : List Nat} (hn : g.Nodup) (hl : ∀ x ∈ g, x < n) (hg : g.length = n) : ∀ x, x < n → x ∈ g := by
 intro x hx
 apply Classical.byContradiction
 intro hx2
 have h1 : (x :: g).Nodup := List.nodup_cons.2 ⟨hx2, hn⟩
 have h2 : ∀ z ∈ (x :: g), z ∈ List.range n := by
  intro z hz
  rcases List.mem_cons.1 hz with e | e
  ·subst e; exact List.mem_range.2 hx
  ·exact List.mem_range.2 (hl z e)
 have h3 := sub_len _ _ h1 h2
 rw [List.length_cons, hg, List.length_range] at h3
 omega
theorem len_of_full {n : Nat} {g : List Nat} (hn : g.Nodup) (hl : ∀ x ∈ g, x < n) (hf : ∀ x, x < n → x ∈ g) : g.length = n := by
 have a := sub_len _ _ hn (fun z hz => List.mem_range.2 (hl z hz))
 have b := sub_len _ _ (List.nodup_range (n := n)) (fun z hz => hf z (List.mem_range.1 hz))
 simp at a b; omega

theorem taking_end {n : Nat} {keep : Nat → Nat → Int} {g : List Nat} {U : List (Nat × Nat)} (h : Taking n keep g g.length 0 U) : g.length = n ↔ Acyc n (Holds keep) := by
 constructor
 ·intro hg S ⟨x, hx, hs⟩
  have hfull := full_of_len h.nd h.lt hg
  have hex : ∃ a : Nat, ∃ z, g[a]? = some z ∧ S z := by
   obtain ⟨a, ha, e⟩ := List.mem_iff_getElem.1 (hfull x hx)
   exact ⟨a, x, by rw [List.getElem?_eq_getElem ha, e], hs⟩
  have hmin : ∀ a : Nat, (∃ z : Nat, g[a]? = some z ∧ S z) → ∃ (b z : Nat), g[b]? = some z ∧ S z ∧ ∀ c : Nat, c < b → ∀ u : Nat, g[c]? = some u → ¬ S u := by
   intro a
   induction a using Nat.strongRecOn with
   | _ a ih =>
    rintro ⟨z, hz, hs2⟩
    by_cases hc : ∃ c, c < a ∧ ∃ u, g[c]? = some u ∧ S u
    ·obtain ⟨c, hc1, hc2⟩ := hc
     exact ih c hc1 hc2
    ·exact ⟨a, z, hz, hs2, fun c hc1 u hu hsu => hc ⟨c, hc1, u, hu, hsu⟩⟩
  obtain ⟨a, ha⟩ := hex
  obtain ⟨b, z, hb, hsz, hfirst⟩ := hmin a ha
  refine ⟨z, h.lt z (List.mem_of_getElem? hb), hsz, fun y hy hsy hr => ?_⟩
  rcases hr with hr | hr
  ·obtain ⟨c, hc, hgc⟩ := h.ahead b z hb y 0 hy (by omega) hr
   exact hfirst c hc y hgc hsy
  ·obtain ⟨c, hc, hgc⟩ := h.ahead b z hb y 1 hy (by omega) hr
   exact hfirst c hc y hgc hsy
 ·intro ha
  apply len_of_full h.nd h.lt
  intro x hx
  apply Classical.byContradiction
  intro hxg
  obtain ⟨z, hz, hsz, hno⟩ := ha (fun z => z ∉ g) ⟨x, hx, hxg⟩
  have hpos : heldN keep U z ≠ 0 := fun e => hsz ((h.zero z hz).2 e)
  unfold heldN at hpos
  obtain ⟨⟨y, q⟩, hm, hk⟩ := List.countP_pos_iff.1 (Nat.pos_of_ne_zero hpos)
  have hk2 : keep y q = (z : Int) := by simpa using hk
  obtain ⟨hy, hq, hnd⟩ := (h.at_ y q).1 hm
  have hyg : y ∉ g := by
   intro hyg
   obtain ⟨a, ha2, e⟩ := List.mem_iff_getElem.1 hyg
   exact hnd (.inl ⟨a, ha2, by rw [List.getElem?_eq_getElem ha2, e]⟩)
  refine hno y hy hyg ?_
  have : q = 0 ∨ q = 1 := by omega
  rcases this with e | e
  ·subst e; exact .inl hk2
  ·subst e; exact .inr hk2

end Go.Proofs.YtigpbjcmmgdiaaaGreat
