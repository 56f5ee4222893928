/-
  Two words, and what is read off them: plain facts, and what both CapUnpack answer.
-/
import Derived.Test.YthmambhagheocaaGreatDoorUnpack
import Derived.Test.YthmambhagheocaaGreatDoorPack
import Derived.Test.YthmambhagheocaaGreatDoorReadImpP
namespace Go.Proofs.YthmambhagheocaaGreatDoor
open Go.ChangeShapes Go.WideShapes Go.ChangeAt Go.RowKit
set_option linter.unusedVariables false

def candU (a b : Int) : CQ := ⟨a % 16, b % 65536, a / 256 % 16, a / 32 % 8, if a % 16 = 2 then 0 else b / 65536, if a % 16 = 2 then b / 65536 else 0, a / 4096 % 16, a / 65536, a / 16 % 2 == 1⟩
def unC (a b : Int) : CQ := if (candU a b).ok = true then candU a b else CQ.zero
def wA (c : CQ) : Int := wordA c.k c.a c.b c.r c.d c.g c.q c.f c.o
def wB (c : CQ) : Int := wordB c.k c.a c.b c.r c.d c.g c.q c.f c.o
theorem cand_yes {a b : Int} (h : a % 16 = 2) : candU a b = ⟨a % 16, b % 65536, a / 256 % 16, a / 32 % 8, 0, b / 65536, a / 4096 % 16, a / 65536, a / 16 % 2 == 1⟩ := by unfold candU; rw [if_pos h, if_pos h]
theorem cand_no {a b : Int} (h : ¬ a % 16 = 2) : candU a b = ⟨a % 16, b % 65536, a / 256 % 16, a / 32 % 8, b / 65536, 0, a / 4096 % 16, a / 65536, a / 16 % 2 == 1⟩ := by unfold candU; rw [if_neg h, if_neg h]
theorem fields (a b : Int) : Fields a b (a % 16) (b % 65536) (a / 256 % 16) (a / 32 % 8) (a / 4096 % 16) (a / 65536) (b / 65536) (a / 16 % 2 == 1) := ⟨rfl, rfl, rfl, rfl, rfl, rfl, rfl, rfl⟩

theorem un_back {a b : Int} (ha : 0 ≤ a) (hb : 0 ≤ b) (h : (candU a b).ok = true) : wA (unC a b) = a ∧ wB (unC a b) = b := by
  have hu : unC a b = candU a b := by unfold unC; rw [if_pos h]
  rw [hu]
  unfold wA wB wordA wordB
  have h2 : okB (candU a b).k (candU a b).a (candU a b).b (candU a b).r (candU a b).d (candU a b).g (candU a b).q (candU a b).f (candU a b).o = true := h
  rw [if_pos h2, if_pos h2]
  by_cases hk : a % 16 = 2
  · rw [cand_yes hk]; exact words_back (fields a b) ha hb 0 (b / 65536) (by omega)
  · rw [cand_no hk]; exact words_back (fields a b) ha hb (b / 65536) 0 (by omega)
theorem un_ok {a b : Int} (h : (candU a b).ok = true) : (unC a b).ok = true := by unfold unC; rw [if_pos h]; exact h
theorem un_r (a b : Int) : 0 ≤ (unC a b).r ∧ (unC a b).r ≤ 7 := by
  unfold unC
  split
  · show 0 ≤ a / 32 % 8 ∧ a / 32 % 8 ≤ 7; omega
  · exact ⟨Int.le_refl 0, show (0 : Int) ≤ 7 by decide⟩
theorem pack_no {c : CQ} (h : c.ok = false) : wA c = 0 ∧ wB c = 0 := by
  unfold wA wB wordA wordB
  have h2 : ¬ okB c.k c.a c.b c.r c.d c.g c.q c.f c.o = true := by rw [show okB c.k c.a c.b c.r c.d c.g c.q c.f c.o = false from h]; decide
  rw [if_neg h2, if_neg h2]; exact ⟨rfl, rfl⟩
theorem cand_zero : (candU 0 0).ok = false := by decide
theorem pack_back {c : CQ} (h : c.ok = true) : candU (wA c) (wB c) = c := by
  have h2 : okB c.k c.a c.b c.r c.d c.g c.q c.f c.o = true := h
  have hdg : c.k = 2 → c.d = 0 := fun e => by
    simp only [okB, besideB, withinB, Bool.and_eq_true, decide_eq_true_eq] at h2
    obtain ⟨⟨⟨⟨⟨⟨h1, h7⟩, ⟨hr0, hr1⟩⟩, hA⟩, hI⟩, ⟨⟨⟨hd0, hd1⟩, ⟨hq0, hq1⟩⟩, ⟨hg0, hg1⟩⟩, ⟨hf0, hf1⟩⟩, ho⟩ := h2
    have : bmaxI c.k = 0 := by unfold bmaxI; rw [if_neg (by omega)]
    omega
  have hg2 : ¬ c.k = 2 → c.g = 0 := fun e => by
    simp only [okB, besideB, withinB, Bool.and_eq_true, decide_eq_true_eq] at h2
    obtain ⟨⟨⟨⟨⟨⟨h1, h7⟩, ⟨hr0, hr1⟩⟩, hA⟩, hI⟩, ⟨⟨⟨hd0, hd1⟩, ⟨hq0, hq1⟩⟩, ⟨hg0, hg1⟩⟩, ⟨hf0, hf1⟩⟩, ho⟩ := h2
    have : gmaxI c.k = 0 := by unfold gmaxI; rw [if_neg e]
    have hq : c.q = 0 := by omega
    rw [hq] at hg1
    have : sizeI 0 = 1 := by decide
    omega
  obtain ⟨⟨k0, k1⟩, ⟨a0, a1⟩, ⟨b0, b1⟩, ⟨r0, r1⟩, ⟨d0, d1⟩, ⟨g0, g1⟩, ⟨q0, q1⟩, ⟨f0, f1⟩, hd⟩ := ok_bounds h2
  unfold wA wB wordA wordB
  rw [if_pos h2, if_pos h2]
  obtain ⟨k, a, b, r, d, g, q, f, o⟩ := c
  simp only at *
  unfold packA packB oI candU
  cases o
  · simp only [Bool.false_eq_true, if_false]
    have e1 : (k + 16 * 0 + 32 * r + 256 * b + 4096 * q + 65536 * f) % 16 = k := by omega
    rw [e1]
    by_cases hk : k = 2
    · have := hdg hk
      rw [if_pos hk, if_pos hk]
      simp only [CQ.mk.injEq]
      refine ⟨trivial, ?_, ?_, ?_, ?_, ?_, ?_, ?_, ?_⟩ <;> first | omega | (simp; omega)
    · have := hg2 hk
      rw [if_neg hk, if_neg hk]
      simp only [CQ.mk.injEq]
      refine ⟨trivial, ?_, ?_, ?_, ?_, ?_, ?_, ?_, ?_⟩ <;> first | omega | (simp; omega)
  · simp only [if_true]
    have e1 : (k + 16 * 1 + 32 * r + 256 * b + 4096 * q + 65536 * f) % 16 = k := by omega
    rw [e1]
    by_cases hk : k = 2
    · have := hdg hk
      rw [if_pos hk, if_pos hk]
      simp only [CQ.mk.injEq]
      refine ⟨trivial, ?_, ?_, ?_, ?_, ?_, ?_, ?_, ?_⟩ <;> first | omega | (simp; omega)
    · have := hg2 hk
      rw [if_neg hk, if_neg hk]
      simp only [CQ.mk.injEq]
      refine ⟨trivial, ?_, ?_, ?_, ?_, ?_, ?_, ?_, ?_⟩ <;> first | omega | (simp; omega)
theorem un_pack {c : CQ} (h : c.ok = true) : unC (wA c) (wB c) = c ∧ (candU (wA c) (wB c)).ok = true := by
  have e := pack_back h
  exact ⟨by unfold unC; rw [e, if_pos h], by rw [e]; exact h⟩
theorem unC_yes {a b : Int} (h : (candU a b).ok = true) : unC a b = candU a b := by unfold unC; rw [if_pos h]
theorem unC_no {a b : Int} (h : (candU a b).ok = false) : unC a b = CQ.zero := by unfold unC; rw [if_neg (by rw [h]; decide)]

theorem unpackI_any (a b : Int) (w : World) (ha : 0 ≤ a ∧ a ≤ 4294967295) (hb : 0 ≤ b ∧ b ≤ 4294967295) :
    Calls Tryz.prog 6 #[.int .u32 a, .int .u32 b] w fun e w' => e = .returned (.tuple #[.agg #[.int .i64 (unC a b).k, .int .i64 (unC a b).a, .int .i64 (unC a b).b, .int .i64 (unC a b).r, .int .i64 (unC a b).d, .int .i64 (unC a b).g, .int .i64 (unC a b).q, .int .i64 (unC a b).f, .bool (unC a b).o], .bool (candU a b).ok]) ∧ Below w.heap.size w w' := by
  cases hok : (candU a b).ok
  · rw [unC_no hok]
    cases hk : (a % 16 == 2)
    · have hk' : ¬ a % 16 = 2 := by simpa using hk
      rw [cand_no hk'] at hok
      exact unpackImpl_on a b _ _ _ _ _ _ _ _ w ha.1 ha.2 hb.1 hb.2 (fields a b) hk hok
    · have hk' : a % 16 = 2 := by simpa using hk
      rw [cand_yes hk'] at hok
      exact unpackImpl_nn a b _ _ _ _ _ _ _ _ w ha.1 ha.2 hb.1 hb.2 (fields a b) hk hok
  · rw [unC_yes hok]
    cases hk : (a % 16 == 2)
    · have hk' : ¬ a % 16 = 2 := by simpa using hk
      rw [cand_no hk'] at hok ⊢
      exact unpackImpl_oy a b _ _ _ _ _ _ _ _ w ha.1 ha.2 hb.1 hb.2 (fields a b) hk hok
    · have hk' : a % 16 = 2 := by simpa using hk
      rw [cand_yes hk'] at hok ⊢
      exact unpackImpl_ny a b _ _ _ _ _ _ _ _ w ha.1 ha.2 hb.1 hb.2 (fields a b) hk hok

theorem unpackS_any (a b : Int) (w : World) (ha : 0 ≤ a ∧ a ≤ 4294967295) (hb : 0 ≤ b ∧ b ≤ 4294967295) :
    Calls Tryz.prog 11 #[.int .u32 a, .int .u32 b] w fun e w' => e = .returned (.tuple #[.agg #[.int .i64 (unC a b).k, .int .i64 (unC a b).a, .int .i64 (unC a b).b, .int .i64 (unC a b).r, .int .i64 (unC a b).d, .int .i64 (unC a b).g, .int .i64 (unC a b).q, .int .i64 (unC a b).f, .bool (unC a b).o], .bool (candU a b).ok]) ∧ Below w.heap.size w w' := by
  cases hok : (candU a b).ok
  · rw [unC_no hok]
    have hz : ((a == 0) = false ∧ ((0 : Int) != a) = true) ∨ ((a == 0) = true ∧ ((0 : Int) != a) = false) := by
      by_cases e : a = 0
      · right; subst e; exact ⟨rfl, rfl⟩
      · left; exact ⟨by simpa using e, by simp; omega⟩
    cases hk : (a % 16 == 2)
    · have hk' : ¬ a % 16 = 2 := by simpa using hk
      rw [cand_no hk'] at hok
      rcases hz with ⟨hz, hz2⟩ | ⟨hz, hz2⟩
      · exact unpackSpec_ona a b _ _ _ _ _ _ _ _ w ha.1 ha.2 hb.1 hb.2 (fields a b) hk hok hz hz2
      · cases hz3 : ((0 : Int) != b)
        · exact unpackSpec_onc a b _ _ _ _ _ _ _ _ w ha.1 ha.2 hb.1 hb.2 (fields a b) hk hok hz hz2 hz3
        · exact unpackSpec_onb a b _ _ _ _ _ _ _ _ w ha.1 ha.2 hb.1 hb.2 (fields a b) hk hok hz hz2 hz3
    · have hk' : a % 16 = 2 := by simpa using hk
      rw [cand_yes hk'] at hok
      rcases hz with ⟨hz, hz2⟩ | ⟨hz, hz2⟩
      · exact unpackSpec_nna a b _ _ _ _ _ _ _ _ w ha.1 ha.2 hb.1 hb.2 (fields a b) hk hok hz hz2
      · cases hz3 : ((0 : Int) != b)
        · exact unpackSpec_nnc a b _ _ _ _ _ _ _ _ w ha.1 ha.2 hb.1 hb.2 (fields a b) hk hok hz hz2 hz3
        · exact unpackSpec_nnb a b _ _ _ _ _ _ _ _ w ha.1 ha.2 hb.1 hb.2 (fields a b) hk hok hz hz2 hz3
  · rw [unC_yes hok]
    cases hk : (a % 16 == 2)
    · have hk' : ¬ a % 16 = 2 := by simpa using hk
      rw [cand_no hk'] at hok ⊢
      exact unpackSpec_oy a b _ _ _ _ _ _ _ _ w ha.1 ha.2 hb.1 hb.2 (fields a b) hk hok
    · have hk' : a % 16 = 2 := by simpa using hk
      rw [cand_yes hk'] at hok ⊢
      exact unpackSpec_ny a b _ _ _ _ _ _ _ _ w ha.1 ha.2 hb.1 hb.2 (fields a b) hk hok

end Go.Proofs.YthmambhagheocaaGreatDoor
