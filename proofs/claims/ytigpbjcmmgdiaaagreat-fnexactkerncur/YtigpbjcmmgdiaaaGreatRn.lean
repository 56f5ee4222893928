/-
  Texts of the proof, put together: SearchA, HeldSeq, ViewI.
-/
import Derived.Test.YtigpbjcmmgdiaaaGreatRh
import Derived.Test.YtigpbjcmmgdiaaaGreatRk
import Derived.Shelf.Slices.SearchI
import Derived.Shelf.Slices.Empties
import Derived.Ground.Names2Prog
import Derived.Test.YtigpbjcmmgdiaaaGreatRl
import Derived.Test.YtigpbjcmmgdiaaaGreatBw
import Derived.Test.YtigpbjcmmgdiaaaGreatRm
import Derived.BigRegion
/-
 A number is looked for in a sorted row of numbers: slices.BinarySearch at []int. No conditions, but that the row is sorted.
-/
namespace Go.Proofs
open Go.RowKit Go.Shelf

end Go.Proofs
namespace Go.Proofs.YtigpbjcmmgdiaaaGreat
open Go.ChangeShapes Go.WideShapes Go.ChangeAt Go.RowKit
set_option linter.unusedVariables false

theorem search_any (P : Option Addr) (cap : Nat) (A : List Int) (x : Int) (w : World) (hA : A.Pairwise (· < ·)) (hlen : A.length ≤ 1048576) (h : LiesG fI w P A) :
  Calls Tryz.prog 140 #[.slice P A.length cap, .int .i64 x] w fun e w' => e = .returned (.tuple #[.int .i64 ((cntLt A x : Nat) : Int), .bool (A.contains x)]) ∧ ∃ q, w' = w.drewN q := by
 by_cases h0 : A.length = 0
 ·have hA0 : A = [] := List.length_eq_zero_iff.1 h0
  subst hA0
  have := Any.slices_BinarySearch_int_empty Tryz.searchA P cap x w
  change Calls Tryz.prog 140 _ _ _ at this
  exact this.mono fun e w' ⟨h1, h2⟩ => ⟨h1, 0, h2⟩
 ·obtain ⟨B, O, rfl⟩ := h.has (i := 0) (by omega)
  have hc : ∀ j, j < A.length → w.cell? ⟨B, O + j, none⟩ = some (.int .i64 (A.getD j 0)) := by
   intro j hj
   have := h.at hj 0 _ rfl
   have e : O + j * fI.n + 0 = O + j := by simp [fI]
   rw [e] at this
   rw [this, List.getD_eq_getElem?_getD, List.getElem?_eq_getElem hj]; rfl
  have := Any.slices_BinarySearch_int Tryz.searchA B O A.length cap A x w (Nat.le_refl _) (by omega) hc (by rw [List.take_length]; exact hA.imp (fun h => by omega))
  change Calls Tryz.prog 140 _ _ _ at this
  rw [List.take_length] at this
  exact this

end Go.Proofs.YtigpbjcmmgdiaaaGreat
/-
 The places of the slots that lie in the room of an original, told one behind the other.
-/
namespace Go.Proofs.YtigpbjcmmgdiaaaGreat
open Go.ChangeShapes Go.WideShapes Go.ChangeAt Go.RowKit Go.Shelf
set_option linter.unusedVariables false

attribute [local go_sem] Oper.semAt_some

/-- Blocks that stay as they were. -/
def Stay (Q : Nat → Prop) (W W' : World) : Prop := ∀ b, Q b → W'.heap[b]? = W.heap[b]?
theorem Stay.trans {Q : Nat → Prop} {A B C : World} (h : Stay Q A B) (k : Stay Q B C) : Stay Q A C := fun b hb => (k b hb).trans (h b hb)
theorem Stay.of {Q : Nat → Prop} {A B : World} {n : Nat} (h : Below n A B) (hQ : ∀ b, Q b → b < n) : Stay Q A B := fun b hb => h.block b (hQ b hb)
theorem MapI.same {W W' : World} {b n : Nat} {f : Int → Option Int} (h : MapI W b n f) (hs : W'.heap[b]? = W.heap[b]?) : MapI W' b n f := by
 obtain ⟨D, hown, hr⟩ := h
 obtain ⟨es, clock, hb, Ft, hs2, hD⟩ := hown
 exact ⟨D, ⟨es, clock, hs.trans hb, Ft, hs2, hD⟩, hr⟩
/-- The blocks that the iterator reads. -/
def hQ (xB rB vB pB : Nat) (P : Option Addr) (b : Nat) : Prop := b = xB ∨ b = rB ∨ b = vB ∨ b = pB ∨ ∃ O, P = some ⟨b, O, none⟩
/-- What the iterator reads. -/
structure HeldV (W : World) (xB rB vB pB np : Nat) (L : List Sl) (s : Sl) (P : Option Addr) (cap : Nat) (A : List Int) : Prop where
 x : W.cell? ⟨xB, 0, none⟩ = some (.pointer (some ⟨vB, 0, none⟩))
 r0 : W.cell? ⟨rB, 0, none⟩ = some (.int .u32 (rmA s))
 r1 : W.cell? ⟨rB, 1, none⟩ = some (.int .u32 (rmS s))
 vp : W.cell? ⟨vB, 18, none⟩ = some (.map (some pB))
 va : W.cell? ⟨vB, 19, none⟩ = some (.slice P A.length cap)
 m : MapI W pB np (placeR L L.length)
 a : LiesG fI W P A
theorem HeldV.stay {W W' : World} {xB rB vB pB np : Nat} {L : List Sl} {s : Sl} {P : Option Addr} {cap : Nat} {A : List Int} (h : HeldV W xB rB vB pB np L s P cap A) (k : Stay (hQ xB rB vB pB P) W W') : HeldV W' xB rB vB pB np L s P cap A := by
 have kx := fun o => cell_same (k xB (.inl rfl)) o
 have kr := fun o => cell_same (k rB (.inr (.inl rfl))) o
 have kv := fun o => cell_same (k vB (.inr (.inr (.inl rfl)))) o
 refine ⟨(kx 0).trans h.x, (kr 0).trans h.r0, (kr 1).trans h.r1, (kv 18).trans h.vp, (kv 19).trans h.va, h.m.same (k pB (.inr (.inr (.inr (.inl rfl))))), ⟨h.a.place, fun B O e i hi j hj => ?_⟩⟩
 exact (cell_same (k B (.inr (.inr (.inr (.inr ⟨O, e⟩))))) _).trans (h.a.cells B O e i hi j hj)
/-- What stands between two rounds. -/
def heldInv (xB rB vB pB np : Nat) (L : List Sl) (s : Sl) (P : Option Addr) (cap : Nat) (A : List Int) (J : List (Fin L.length) → World → Prop) (i : Value) (wr : World) : Prop :=
 ∃ (m : Nat) (pre : List (Fin L.length)), cntLt A (rmA s) + m ≤ A.length ∧ i = .int .i64 (m : Int) ∧ pre.map (fun y => L[y.val].t) = (A.drop (cntLt A (rmA s))).take m ∧ (∀ j (hj : j < A.length), cntLt A (rmA s) ≤ j → j < cntLt A (rmA s) + m → A[j] < rmA s + rmS s) ∧ HeldV wr xB rB vB pB np L s P cap A ∧ J pre wr
theorem mid_pre {A : List Int} (hA : A.Pairwise (· < ·)) (a b : Int) (m : Nat) (hm : cntLt A a + m ≤ A.length) (hb : ∀ j (hj : j < A.length), cntLt A a ≤ j → j < cntLt A a + m → A[j] < b) : (A.drop (cntLt A a)).take m <+: midL A a b := by
 by_cases h0 : m = 0
 ·subst h0; simp
 ·have hl : cntLt A a + m - 1 < A.length := by omega
  have h1 := (cntLt_at (x := b) hA _ hl).2 (hb _ hl (by omega) (by omega))
  have hle := cntLt_le A b
  have e := midL_take hA a b (cntLt A b - cntLt A a) (by omega) (fun j hj h2 h3 => (cntLt_at hA j hj).1 (by omega)) (fun j hj h2 => by
   have := cntLt_at (x := b) hA j hj; omega)
  rw [← e]
  have e2 : (A.drop (cntLt A a)).take m = ((A.drop (cntLt A a)).take (cntLt A b - cntLt A a)).take m := by
   rw [List.take_take, Nat.min_eq_left (by omega)]
  rw [e2]; exact List.take_prefix _ _
theorem add_none (b o j : Nat) : Addr.add ⟨b, o, none⟩ j = ⟨b, o + j, none⟩ := by
 by_cases h : j = 0 <;> simp [Addr.add, h]
theorem ixI (B O n cap i : Nat) (h : i < n) (W : World) : (Instr.indexAt 27 (.slice (some ⟨B, O, none⟩) n cap) (.int .i64 (i : Int))).run Tryz.prog W = .ok (.pointer (some ⟨B, O + i, none⟩)) W := by
 have h1 : (i : Int) < (n : Int) := by omega
 go_simp
set_option maxRecDepth 100000 in
set_option maxHeartbeats 8000000 in
theorem held1_in (n : Nat) (hn : 1 ≤ n) (l xB rB vB pB np B0 : Nat) (L : List Sl) (s : Sl) (P : Option Addr) (cap : Nat) (A : List Int) (hT : treeB L = true) (hA : AtsP (placeR L L.length) A) (hcap : A.length ≤ cap) (hcm : cap ≤ 9223372036854775807) (hlen : L.length ≤ 1048576) (hs : 0 ≤ rmA s ∧ rmA s ≤ 4096 ∧ 0 ≤ rmS s ∧ rmS s ≤ 4096) (J Jx : List (Fin L.length) → World → Prop) (hab : AbidesFrom B0 J)
  (hY : ∀ pre x W, inRm s L[x.val].t = true → J pre W → pre.length < L.length → YieldAt Fence.wide (n - 1) Tryz.prog l #[.int .i64 (x.val : Int)] W fun e W' =>
   (e = .returned (.bool true) ∧ J (pre ++ [x]) W' ∧ Stay (hQ xB rB vB pB P) W W') ∨ (e = .returned (.bool false) ∧ Jx (pre ++ [x]) W'))
  (W : World) (hB0 : ∀ W', Below W.heap.size W W' → True) (hH : HeldV W xB rB vB pB np L s P cap A) (h0 : J [] W) :
  CallsIn Fence.wide n Tryz.prog 139 #[.func (.yield l) #[] #[], .pointer (some ⟨xB, 0, none⟩), .pointer (some ⟨rB, 0, none⟩)] W fun e W' => (∃ v, e = .returned v) ∧
   ((∃ ys : List (Fin L.length), ys.map (fun y => L[y.val].t) = midL A (rmA s) (rmA s + rmS s) ∧ J ys W') ∨ (∃ pre : List (Fin L.length), pre.map (fun y => L[y.val].t) <+: midL A (rmA s) (rmA s + rmS s) ∧ Jx pre W')) := by
 obtain ⟨s1, s2, s3, s4⟩ := hs
 have HSe : Hid (∀ k, CallsIn Fence.wide (n - 1) Tryz.prog 140 #[.slice P A.length cap, .int .i64 (rmA s)] (W.drewN k) fun e w' => e = .returned (.tuple #[.int .i64 ((cntLt A (rmA s) : Nat) : Int), .bool (A.contains (rmA s))]) ∧ ∃ q, w' = (W.drewN k).drewN q) := fun k => callsIn_wide.2 (search_any P cap A (rmA s) (W.drewN k) hA.up (by have := ats_le hT hA; omega) ⟨hH.a.place, hH.a.cells⟩)
 have hwr : IntKind.i64.wrap (rmA s) = rmA s := by rw [IntKind.wrap_i64]; omega
 have x0 := hH.x
 have r0 := hH.r0
 have va := hH.va
 have HLe : Hid (A.length ≤ L.length) := ats_le hT hA
 refine callsIn_of_wp Tryz.func139 rfl trivial ?_ rfl
 simp only [Tryz.ntmps139, List.size_toArray, List.length_cons, List.length_nil, Nat.reduceAdd, Nat.reduceSub, Array.replicate_succ, Array.replicate_zero, List.push_toArray, List.append_toArray, List.nil_append, List.cons_append]
 gi_wp2
 refine wpIn_region_quiet_lit rfl (by kernel_rfl) (by kernel_rfl) ?_
 repeat (refine wpQuietIn_step (by first | (quiet_asked_in; done) | (intro a f h; trivial) | (simp [Oper.askedIn, Oper.about]; intros; trivial)) (fun K hK => ?_); go_simp; first | (refine hK _ ?_; clear hK K) | (apply Exists.intro; refine ⟨fun _ => ?_, hK _ ?_⟩; (gi_at_call 140; exact CallsIn.quiet_of (HSe.out _)); clear hK K))
 refine wpQuietIn_nil ?_
 intro _ hw'
 obtain ⟨nq, hw''⟩ := hw'
 subst hw''
 clear x0 r0 va
 obtain ⟨c, hc⟩ : ∃ c, cntLt A (rmA s) = c := ⟨_, rfl⟩
 rw [hc]
 have HC : Hid (cntLt A (rmA s) = c) := hc
 have hcl : c ≤ A.length := by rw [← hc]; exact cntLt_le _ _
 have va : (W.drewN nq).cell? ⟨vB, 19, none⟩ = some (.slice P A.length cap) := hH.va
 have x0 : (W.drewN nq).cell? ⟨xB, 0, none⟩ = some (.pointer (some ⟨vB, 0, none⟩)) := hH.x
 have HV1 : Hid (HeldV (W.drewN nq) xB rB vB pB np L s P cap A) := hH.stay (fun b _ => rfl)
 have HJ1 : Hid (J [] (W.drewN nq)) := hab _ _ _ none h0 (grown_drewN _ _ _) (fun r e => by cases e)
 have HPl : Hid (c < A.length → ∃ B O, P = some ⟨B, O, none⟩) := fun h => hH.a.has h
 clear hc hH h0
 by_cases hcc : cap = c
 ·as_aux_lemma =>
  gi_wp2
  generalize W.drewN nq = W1 at HV1 HJ1 ⊢
  gi_loopw [26] (fun i wr => heldInv xB rB vB pB np L s P cap A J i wr) (fun i wr => A.length - c - (intOf i).toNat)
  case atStart => exact ⟨0, [], by rw [HC.out]; omega, rfl, by simp, fun j hj h1 h2 => absurd h2 (by omega), HV1.out, HJ1.out⟩
  case round =>
   clear HV1 HJ1
   obtain ⟨m, pre, hm, rfl, hpre, hlo, hV, hJ⟩ := hrel
   rw [HC.out] at hm hpre hlo
   have hplen : pre.length = m := by have := congrArg List.length hpre; simp at this; omega
   by_cases hj : c + m < A.length
   ·exact absurd hj (by omega)
   ·have hk1 : ¬ (m : Int) < ((A.length - c : Nat) : Int) := by omega
    have HD : Hid (pre.map (fun y => L[y.val].t) = midL A (rmA s) (rmA s + rmS s)) := by
     unfold Hid
     rw [hpre]
     have := midL_take hA.up (rmA s) (rmA s + rmS s) m (by rw [HC.out]; omega) (fun j hj h1 h2 => by rw [HC.out] at h1 h2; exact hlo j hj h1 h2) (fun j hj h1 => by rw [HC.out] at h1; omega)
     rw [HC.out] at this; exact this
    have HJ9 : Hid _ := hJ
    clear hlo hpre hV hJ
    gi_wp2
    go_end0
    exact ⟨⟨_, rfl⟩, .inl ⟨pre, HD.out, HJ9.out⟩⟩
 ·as_aux_lemma =>
  have HQp : Hid (c < A.length → ∃ B O, P = some ⟨B, O, none⟩ ∧ P.map (fun x => x.add c) = some ⟨B, O + c, none⟩) := fun h => by
   obtain ⟨B, O, e⟩ := HPl.out h
   exact ⟨B, O, e, by rw [e, Option.map_some, add_none]⟩
  gi_wp2
  generalize W.drewN nq = W1 at HV1 HJ1 ⊢
  gi_loopw [26] (fun i wr => heldInv xB rB vB pB np L s P cap A J i wr) (fun i wr => A.length - c - (intOf i).toNat)
  case atStart => exact ⟨0, [], by rw [HC.out]; omega, rfl, by simp, fun j hj h1 h2 => absurd h2 (by omega), HV1.out, HJ1.out⟩
  case round =>
   clear HV1 HJ1
   obtain ⟨m, pre, hm, rfl, hpre, hlo, hV, hJ⟩ := hrel
   rw [HC.out] at hm hpre hlo
   have hplen : pre.length = m := by have := congrArg List.length hpre; simp at this; omega
   by_cases hj : c + m < A.length
   ·obtain ⟨B, O, hP, hq⟩ := HQp.out (by omega)
    have hk1 : (m : Int) < ((A.length - c : Nat) : Int) := by omega
    have hrow := hV.a
    rw [hP] at hrow
    have a0 := atI hrow hj
    obtain ⟨a, ha⟩ : ∃ a, A[c + m] = a := ⟨_, rfl⟩
    rw [ha] at a0
    have HA9 : Hid (A[c + m] = a) := ha
    have hix : ∀ W, (Instr.indexAt 27 (.slice (Option.map (fun x => x.add c) P) (A.length - c) (cap - c)) (.int .i64 (m : Int))).run Tryz.prog W = .ok (.pointer (some ⟨B, O + (c + m), none⟩)) W := fun W => by
     have := ixI B (O + c) (A.length - c) (cap - c) m (by omega) W
     rw [Nat.add_assoc] at this
     rw [hq]; exact this
    have x0 := hV.x
    have r0 := hV.r0
    have r1 := hV.r1
    have hmem : ∃ (y : Nat) (hy : y < L.length), L[y].t = a := (ats_mem hT hA a).1 (by rw [← ha]; exact List.getElem_mem hj)
    obtain ⟨y, hy, hyt⟩ := hmem
    have HY9 : Hid (L[y].t = a) := hyt
    have hfa : FitI a := by obtain ⟨t1, t2, _⟩ := tree_ok hT y hy; rw [hyt] at t1 t2; exact ⟨by omega, by omega⟩
    have bA := (Below.refl wr.heap.size wr).alloc (Nat.le_refl _) (.cells #[.int .u32 (rmA s), .int .u32 (rmS s)] 152)
    have gA : wr.grownBy (wr.alloc (.cells #[.int .u32 (rmA s), .int .u32 (rmS s)] 152)) none := ⟨bA.os, bA.tape, bA.output, bA.size, fun k hk _ => bA.block k hk⟩
    have HJ2 : Hid (J pre (wr.alloc (.cells #[.int .u32 (rmA s), .int .u32 (rmS s)] 152))) := hab _ _ _ none hJ gA (fun r e => by cases e)
    have hen : IntKind.i64.wrap (rmA s + rmS s) = rmA s + rmS s := by rw [IntKind.wrap_i64]; omega
    by_cases hge : rmA s + rmS s ≤ a
    ·have g : decide (rmA s + rmS s ≤ a) = true := by simpa using hge
     have HD : Hid (pre.map (fun y => L[y.val].t) = midL A (rmA s) (rmA s + rmS s)) := by
      unfold Hid
      rw [hpre]
      have := midL_take hA.up (rmA s) (rmA s + rmS s) m (by rw [HC.out]; omega) (fun j hj h1 h2 => by rw [HC.out] at h1 h2; exact hlo j hj h1 h2) (fun j hj h1 => by rw [HC.out] at h1; subst h1; rw [HA9.out]; exact hge)
      rw [HC.out] at this; exact this
     clear hge hlo hpre hP hrow ha hq hyt
     gi_wp2_with ((refine ⟨trivial, ?_⟩; gi_at_call 141; refine (callsIn_wide.2 (end_any (rmA s) (rmS s) _ s1 s2 s3 s4)).mono ?_; rintro e w2 ⟨rfl, rfl⟩))
     refine ⟨fun f h => (by cases h), ?_⟩
     gi_wp2
     refine bodyPost_ret (results_none rfl _ _ _) rfl ?_
     exact ⟨⟨_, rfl⟩, .inl ⟨pre, HD.out, HJ2.out⟩⟩
    ·have g : decide (rmA s + rmS s ≤ a) = false := by simpa using hge
     have HLt : Hid (a < rmA s + rmS s) := by unfold Hid; omega
     have HPre : Hid (pre.map (fun y => L[y.val].t) = (A.drop c).take m) := hpre
     have HLo : Hid (∀ j (hj : j < A.length), c ≤ j → j < c + m → A[j] < rmA s + rmS s) := hlo
     have HNx : Hid (∀ x : Fin L.length, x.val = y → (pre ++ [x]).map (fun y => L[y.val].t) = (A.drop c).take (m + 1)) := fun x hx => by
      rw [List.map_append, hpre, List.map_cons, List.map_nil]
      have e1 : L[x.val].t = a := by have := hyt; subst hx; exact this
      rw [e1, ← ha, List.take_succ_eq_append_getElem (by simp; omega), List.getElem_drop]
     obtain ⟨x, hx⟩ : ∃ x : Fin L.length, x.val = y := ⟨⟨y, hy⟩, rfl⟩
     have HIr : Hid (inRm s (L[x.val]'x.isLt).t = true) := by
      have e1 : L[x.val].t = a := by have := hyt; subst hx; exact this
      have h1 := cntLt_at (x := rmA s) hA.up (c + m) hj
      rw [ha, HC.out] at h1
      have h2 := HLt.out
      have h3 : rmA s ≤ a := by omega
      unfold Hid inRm
      rw [e1]
      simp [h2, h3]
     have hVA : HeldV (wr.alloc (.cells #[.int .u32 (rmA s), .int .u32 (rmS s)] 152)) xB rB vB pB np L s P cap A := by
      refine hV.stay (fun b hb => bA.block b ?_)
      rcases hb with e | e | e | e | ⟨O, e⟩
      ·rw [e]; exact block_lt_of_cell hV.x
      ·rw [e]; exact block_lt_of_cell hV.r0
      ·rw [e]; exact block_lt_of_cell hV.vp
      ·rw [e]; exact hV.m.lt
      ·have := hV.a.cells b O e (c + m) hj 0 (by decide)
       exact block_lt_of_cell (this.trans (show (fI.cel A[c + m])[0]? = some (.int .i64 A[c + m]) from rfl))
     have vp := hVA.vp
     have xA := hVA.x
     have hlk := hVA.m.look hfa
     have hpl : (placeR L L.length a).getD 0 = (y : Int) := by rw [← hyt, placeR_at hT hy]; rfl
     rw [hpl, ← hx] at hlk
     have HHV : Hid _ := hVA
     have HX9 : Hid (x.val = y) := hx
     clear hge hlo hpre hP hrow ha hq hyt hpl hx hVA
     gi_wp2_with ((refine ⟨trivial, ?_⟩; gi_at_call 141; refine (callsIn_wide.2 (end_any (rmA s) (rmS s) _ s1 s2 s3 s4)).mono ?_; rintro e w2 ⟨rfl, rfl⟩))
     obtain ⟨fn, tmps, assign, body, hyy, hR⟩ := hY pre x _ HIr.out HJ2.out (by have := HLe.out; omega)
     rw [hyy]
     go_simp
     refine hR.mono ?_
     rintro e W3 (⟨rfl, hJ3, hk3⟩ | ⟨rfl, hJx3⟩)
     ·have HV3 : Hid _ := HHV.out.stay hk3
      have HJ3 : Hid _ := hJ3
      clear hk3 hJ3
      gi_wp2
      go_roundw
      case rel => exact ⟨m + 1, pre ++ [x], by rw [HC.out]; omega, by go_num, by rw [HC.out]; exact HNx.out x HX9.out, fun j hj h1 h2 => by rw [HC.out] at h1 h2; by_cases e : j = c + m; subst e; rw [HA9.out]; exact HLt.out; exact HLo.out j hj h1 (by omega), HV3.out, HJ3.out⟩
      case measure => simp [intOf]; omega
     ·gi_wp2
      refine bodyPost_ret (results_none rfl _ _ _) rfl ?_
      refine ⟨⟨_, rfl⟩, .inr ⟨pre ++ [x], ?_, hJx3⟩⟩
      rw [HNx.out x HX9.out]
      have := mid_pre hA.up (rmA s) (rmA s + rmS s) (m + 1) (by rw [HC.out]; omega) (fun j hj h1 h2 => by rw [HC.out] at h1 h2; by_cases e : j = c + m; subst e; rw [HA9.out]; exact HLt.out; exact HLo.out j hj h1 (by omega))
      rw [HC.out] at this; exact this
   ·have hk1 : ¬ (m : Int) < ((A.length - c : Nat) : Int) := by omega
    have HD : Hid (pre.map (fun y => L[y.val].t) = midL A (rmA s) (rmA s + rmS s)) := by
     unfold Hid
     rw [hpre]
     have := midL_take hA.up (rmA s) (rmA s + rmS s) m (by rw [HC.out]; omega) (fun j hj h1 h2 => by rw [HC.out] at h1 h2; exact hlo j hj h1 h2) (fun j hj h1 => by rw [HC.out] at h1; omega)
     rw [HC.out] at this; exact this
    have HJ9 : Hid _ := hJ
    clear hlo hpre hV hJ
    gi_wp2
    go_end0
    exact ⟨⟨_, rfl⟩, .inl ⟨pre, HD.out, HJ9.out⟩⟩

theorem held_stops (n : Nat) (hn : 1 ≤ n) (xB rB vB pB np : Nat) (L : List Sl) (s : Sl) (P : Option Addr) (cap : Nat) (A : List Int) (hT : treeB L = true) (hA : AtsP (placeR L L.length) A) (hcap : A.length ≤ cap) (hcm : cap ≤ 9223372036854775807) (hlen : L.length ≤ 1048576) (hs : 0 ≤ rmA s ∧ rmA s ≤ 4096 ∧ 0 ≤ rmS s ∧ rmS s ≤ 4096) (w : World) (hH : HeldV w xB rB vB pB np L s P cap A) (hQ9 : ∀ b, hQ xB rB vB pB P b → b < w.heap.size) :
  SeqStopsK Fence.wide n Tryz.prog 139 #[.pointer (some ⟨xB, 0, none⟩), .pointer (some ⟨rB, 0, none⟩)] (fun x : Fin L.length => #[.int .i64 (x.val : Int)]) (Stay (hQ xB rB vB pB P))
   (fun ys => ys.map (fun y => L[y.val].t) = midL A (rmA s) (rmA s + rmS s)) (fun pre => pre.map (fun y => L[y.val].t) <+: midL A (rmA s) (rmA s + rmS s)) L.length w := fun l J Jx W hW hab _ hY h0 =>
 held1_in n hn l xB rB vB pB np W.heap.size L s P cap A hT hA hcap hcm hlen hs J Jx hab (fun pre x W1 _ => hY pre x W1) W (fun _ _ => trivial) (hH.stay (Stay.of hW hQ9)) h0
/-- The same, of those alone that lie in the room. -/
theorem held_subs (n : Nat) (hn : 1 ≤ n) (xB rB vB pB np : Nat) (L : List Sl) (s : Sl) (P : Option Addr) (cap : Nat) (A : List Int) (hT : treeB L = true) (hA : AtsP (placeR L L.length) A) (hcap : A.length ≤ cap) (hcm : cap ≤ 9223372036854775807) (hlen : L.length ≤ 1048576) (hs : 0 ≤ rmA s ∧ rmA s ≤ 4096 ∧ 0 ≤ rmS s ∧ rmS s ≤ 4096) (w : World) (hH : HeldV w xB rB vB pB np L s P cap A) (hQ9 : ∀ b, hQ xB rB vB pB P b → b < w.heap.size) :
  SeqStopsK Fence.wide n Tryz.prog 139 #[.pointer (some ⟨xB, 0, none⟩), .pointer (some ⟨rB, 0, none⟩)] (fun x : {x : Fin L.length // inRm s L[x.val].t = true} => #[.int .i64 (x.1.val : Int)]) (Stay (hQ xB rB vB pB P))
   (fun ys => ys.map (fun y => L[y.1.val].t) = midL A (rmA s) (rmA s + rmS s)) (fun pre => pre.map (fun y => L[y.1.val].t) <+: midL A (rmA s) (rmA s + rmS s)) L.length w := fun l J Jx W hW hab _ hY h0 => by
 refine (held1_in n hn l xB rB vB pB np W.heap.size L s P cap A hT hA hcap hcm hlen hs (fun ys W => ∃ zs : List {x : Fin L.length // inRm s L[x.val].t = true}, zs.map Subtype.val = ys ∧ J zs W) (fun ys W => ∃ zs : List {x : Fin L.length // inRm s L[x.val].t = true}, zs.map Subtype.val = ys ∧ Jx zs W) (fun ys W W' row ⟨zs, e, hj⟩ hg hr => ⟨zs, e, hab zs W W' row hj hg hr⟩) ?_ W (fun _ _ => trivial) (hH.stay (Stay.of hW hQ9)) ⟨[], rfl, h0⟩).mono ?_
 ·rintro pre x W1 hx ⟨zs, rfl, hj⟩ hlt
  obtain ⟨fn, tmps, assign, body, h1, h2⟩ := hY zs ⟨x, hx⟩ W1 hj (by simpa using hlt)
  refine ⟨fn, tmps, assign, body, h1, h2.mono ?_⟩
  rintro e W' (⟨e1, h3, h4⟩ | ⟨e1, h3⟩)
  ·exact .inl ⟨e1, ⟨zs ++ [⟨x, hx⟩], by simp, h3⟩, h4⟩
  ·exact .inr ⟨e1, ⟨zs ++ [⟨x, hx⟩], by simp, h3⟩⟩
 ·rintro e W' ⟨hv, ⟨ys, h1, zs, rfl, hj⟩ | ⟨pre, h1, zs, rfl, hj⟩⟩
  ·exact ⟨hv, .inl ⟨zs, by rw [List.map_map] at h1; exact h1, hj⟩⟩
  ·exact ⟨hv, .inr ⟨zs, by rw [List.map_map] at h1; exact h1, hj⟩⟩

end Go.Proofs.YtigpbjcmmgdiaaaGreat
/-
 In whose object each slot lies, by the program: the row of homes. Conditions: the view lies in memory, all lie where they may.
-/
namespace Go.Proofs.YtigpbjcmmgdiaaaGreat
open Go.ChangeShapes Go.WideShapes Go.ChangeAt Go.RowKit Go.Shelf
set_option linter.unusedVariables false

attribute [local go_sem] Oper.semAt_some

/-- The row of homes while it is being cleared. -/
def clrRow (n k : Nat) : List Value := List.replicate k (.int .i64 (-1)) ++ List.replicate (n - k) (.int .i64 0)
theorem clrRow_set {n k : Nat} (hk : k < n) : (clrRow n k).set k (.int .i64 (-1)) = clrRow n (k + 1) := by
 unfold clrRow
 rw [List.set_append_right _ _ (by simp)]
 simp only [List.length_replicate, Nat.sub_self]
 have e : n - k = (n - (k + 1)) + 1 := by omega
 rw [e, List.replicate_succ, List.set_cons_zero, List.replicate_succ', List.append_assoc]; rfl
theorem clrRow_at {n k : Nat} (hk : k < n) : (clrRow n k)[k]? = some (.int .i64 0) := by
 unfold clrRow
 rw [List.getElem?_append_right (by simp), List.length_replicate, Nat.sub_self, List.getElem?_replicate_of_lt (by omega)]
theorem clrRow_zero (n : Nat) : clrRow n 0 = List.replicate n (.int .i64 0) := by unfold clrRow; simp
theorem clrRow_end (n : Nat) : clrRow n n = List.replicate n (.int .i64 (-1)) := by unfold clrRow; simp
def mkC (D : Nat) : Deferred := { target := .collected D, args := #[] }
structure MkD (n0 : Nat) (Ds : List Nat) (W : World) : Prop where
 nd : Ds.Nodup
 at_ : ∀ D ∈ Ds, n0 ≤ D ∧ W.heap[D]? = some (.deferred (some []))
theorem MkD.nil (n0 : Nat) (W : World) : MkD n0 [] W := ⟨List.nodup_nil, fun D h => by cases h⟩
theorem MkD.keep {n0 : Nat} {Ds : List Nat} {W W' : World} (h : MkD n0 Ds W) (hs : ∀ D, n0 ≤ D → W.heap[D]? = some (.deferred (some [])) → W'.heap[D]? = W.heap[D]?) : MkD n0 Ds W' :=
 ⟨h.nd, fun D hD => by obtain ⟨a, b⟩ := h.at_ D hD; exact ⟨a, (hs D a b).trans b⟩⟩
theorem MkD.cons {n0 : Nat} {Ds : List Nat} {W : World} {D : Nat} (h : MkD n0 Ds W) (h1 : n0 ≤ D) (h2 : W.heap[D]? = some (.deferred (some []))) (h3 : D ∉ Ds) : MkD n0 (D :: Ds) W :=
 ⟨List.nodup_cons.2 ⟨h3, h.nd⟩, fun E hE => by rcases List.mem_cons.1 hE with e | e; subst e; exact ⟨h1, h2⟩; exact h.at_ E e⟩
structure ButL (Ds : List Nat) (W W' : World) : Prop where
 os : W'.os = W.os
 tape : W'.tape = W.tape
 output : W'.output = W.output
 size : W.heap.size ≤ W'.heap.size
 block : ∀ k, k < W.heap.size → k ∉ Ds → W'.heap[k]? = W.heap[k]?
theorem leaves_marks {F : Fence} {n : Nat} {P : Program} {fn : Func} {tmps : Array Value} {R : Ending → World → Prop} {u : FrameMode} {n0 : Nat} (hu : u ≠ .run) : ∀ (Ds : List Nat) (W : World), MkD n0 Ds W → (∀ W', ButL Ds W W' → LeavesIn F n P fn tmps R [] u W') → LeavesInM F n P fn tmps R (Ds.map mkC) u W
 | [], W, _, h => h W ⟨rfl, rfl, rfl, Nat.le_refl _, fun _ _ _ => rfl⟩
 | D :: Ds, W, hM, h => by
  obtain ⟨h1, h2⟩ := hM.at_ D (List.mem_cons_self ..)
  have hnd := List.nodup_cons.1 hM.nd
  have hp := grownBy_putObj' W D (.deferred none)
  refine ⟨hu, .inl ⟨D, W.putObj D (.deferred none), rfl, run_takeDeferred h2, leaves_marks (n0 := n0) hu Ds _ ⟨hnd.2, fun E hE => ?_⟩ (fun W' hb => h W' ⟨hb.os.trans hp.os, hb.tape.trans hp.tape, hb.output.trans hp.output, Nat.le_trans hp.size hb.size, fun k hk hn => ?_⟩)⟩⟩
  ·obtain ⟨a, b⟩ := hM.at_ E (List.mem_cons_of_mem _ hE)
   have hne : E ≠ D := fun e => hnd.1 (by rw [← e]; exact hE)
   exact ⟨a, (hp.block E (Array.getElem?_eq_some_iff.1 b).1 (fun e => by injection e with e; exact hne e)).trans b⟩
  ·have hkD : k ≠ D := fun e => hn (by rw [e]; exact List.mem_cons_self ..)
   exact (hb.block k (Nat.lt_of_lt_of_le hk hp.size) (fun h => hn (List.mem_cons_of_mem _ h))).trans (hp.block k hk (fun e => by injection e with e; exact hkD e))
structure HmW (w0 : World) (K : QK) (vB hB xB : Nat) (fs : List Value) (w : World) (i : Nat) (Ds : List Nat) (W : World) : Prop where
 v : View w0 K vB fs W
 r : Bx W hB 3 (hmRow K.sl i [])
 b : But vB w W
 x : W.cell? ⟨xB, 0, none⟩ = some (.pointer (some ⟨vB, 0, none⟩))
 m : MkD w.heap.size Ds W
def hmInv (w0 : World) (K : QK) (vB hB xB : Nat) (fs : List Value) (w : World) (v : Value) (Ds : List Nat) (W : World) : Prop :=
 ∃ i : Nat, i ≤ K.sl.length ∧ v = .int .i64 (i : Int) ∧ HmW w0 K vB hB xB fs w i Ds W
theorem but_from {g : Nat} {w W W' : World} {row : Option Nat} (h : But g w W) (hg : W.grownBy W' row) (hr : ∀ r, row = some r → w.heap.size ≤ r) : But g w W' :=
 ⟨hg.os.trans h.os, hg.tape.trans h.tape, hg.output.trans h.output, Nat.le_trans h.size hg.size, fun k hk hn => (hg.block k (Nat.lt_of_lt_of_le hk h.size) (fun e => by have := hr k e.symm; omega)).trans (h.block k hk hn)⟩
def hokInv (K : QK) (w : World) (xB vB : Nat) (v : Value) (W : World) : Prop :=
 ∃ j : Nat, j ≤ K.sl.length ∧ v = .int .i64 (j : Int) ∧ (∀ m, m < K.sl.length → m < j → homeOkB K.sl m = true) ∧ Below w.heap.size w W ∧ W.cell? ⟨xB, 0, none⟩ = some (.pointer (some ⟨vB, 0, none⟩))
def clrInv (w0 : World) (K : QK) (vB hB xB : Nat) (fs : List Value) (w : World) (v : Value) (W : World) : Prop :=
 ∃ k : Nat, k ≤ K.sl.length ∧ v = .int .i64 (k : Int) ∧ View w0 K vB fs W ∧ Bx W hB 3 (clrRow K.sl.length k) ∧ But vB w W ∧ W.cell? ⟨xB, 0, none⟩ = some (.pointer (some ⟨vB, 0, none⟩))
set_option maxRecDepth 100000 in
set_option maxHeartbeats 16000000 in
theorem homesOk_any (w0 : World) (K : QK) (vB N uB pB np : Nat) (fs : List Value) (P : Option Addr) (cap : Nat) (A : List Int) (w : World) (hs : K.Short) {bits : Int} (S : Sound bits K.sl) (h : View w0 K vB fs w) (hfl : fs.length = 13) (hf0 : fs[0]? = some (.slice (some ⟨N, 0, none⟩) K.sl.length K.sl.length)) (hf2 : fs[2]? = some (.slice none 0 0)) (hf3 : fs[3]? = some (.map (some pB))) (hf4 : fs[4]? = some (.slice P A.length cap)) (hl : Linked w N K.sl) (hN : N < w.heap.size) (hm : MapI w pB np (placeR K.sl K.sl.length)) (ha : LiesG fI w P A) (hA : AtsP (placeR K.sl K.sl.length) A) (hcap : A.length ≤ cap) (hcm : cap ≤ 9223372036854775807) (hPb : ∀ B O, P = some ⟨B, O, none⟩ → B < w.heap.size ∧ B ≠ vB) (hNb : N ≠ vB) (hpb : pB ≠ vB) :
  Calls Tryz.prog 69 #[.pointer (some ⟨vB, 0, none⟩)] w fun e w' => ∃ hB, w.heap.size ≤ hB ∧ e = .returned (.bool ((List.range K.sl.length).all (homeOkB K.sl))) ∧ View w0 K vB (fs.set 2 (.slice (some ⟨hB, 0, none⟩) K.sl.length K.sl.length)) w' ∧ Bx w' hB 3 (homesRow K.sl) ∧ But vB w w' := by
 have hlen := hs.s
 have hmk := makeInts K.sl.length (by omega)
 have xB0 := Bx.new w 73 [.pointer (some ⟨vB, 0, none⟩)]
 have v0 := h.below ((Below.refl _ _).alloc (Nat.le_refl _) (.cells #[.pointer (some ⟨vB, 0, none⟩)] 73))
 have hvl := h.lt
 refine (callsIn_wide (n := 5)).1 ?_
 refine callsIn_of_wp_marks Tryz.func69 rfl trivial ?_ rfl
 simp only [Tryz.ntmps69, List.size_toArray, List.length_cons, List.length_nil, Nat.reduceAdd, Nat.reduceSub, Array.replicate_succ, Array.replicate_zero, List.push_toArray, List.append_toArray, List.nil_append, List.cons_append]
 refine wpIn_wide.2 ?_
 go_upto_region 1 with fail
 have HVl : Hid (vB < w.heap.size) := hvl
 have HW0 : Hid (w0.heap.size ≤ w.heap.size) := h.bw.size
 have HM9 : Hid (MapI w pB np (placeR K.sl K.sl.length)) := hm
 have HAa : Hid (LiesG fI w P A) := ha
 have HCp : Hid (A.length ≤ cap ∧ cap ≤ 9223372036854775807) := ⟨hcap, hcm⟩
 have HLk : Hid (Linked w N K.sl ∧ N < w.heap.size) := ⟨hl, hN⟩
 have HPb : Hid (∀ B O, P = some ⟨B, O, none⟩ → B < w.heap.size ∧ B ≠ vB) := hPb
 clear hPb
 have hcB0 := But.of vB ((Below.refl w.heap.size w).alloc (Nat.le_refl _) (.cells #[.pointer (some ⟨vB, 0, none⟩)] 73))
 have HXs : Hid ((w.alloc (.cells #[.pointer (some ⟨vB, 0, none⟩)] 73)).heap.size = w.heap.size + 1) := by unfold Hid; simp
 generalize w.alloc (.cells #[.pointer (some ⟨vB, 0, none⟩)] 73) = W0 at xB0 v0 hcB0 HXs ⊢
 obtain ⟨xB, hxB⟩ : ∃ xB, w.heap.size = xB := ⟨_, rfl⟩
 rw [hxB] at xB0 HXs ⊢
 have HXB : Hid (w.heap.size = xB) := hxB
 have hvx : ¬ vB = xB := by omega
 clear hxB
 have x0 := xB0.cell 0 _ rfl
 have g2 := v0.cs
 have f2 := v0.snd 2 _ hf2
 have fz := v0.frozen 17
 have hvl0 := v0.lt
 have ne1 : ¬ vB = W0.heap.size := by omega
 have ne2 : ¬ W0.heap.size = vB := by omega
 have bA := (Below.refl W0.heap.size W0).alloc (Nat.le_refl _) (.cells (Array.replicate K.sl.length (Value.int .i64 0)) 3)
 have x0A := (xB0.below bA).cell 0 _ rfl
 have g2A := (v0.below bA).cs
 have f2A := (v0.below bA).snd 2 _ hf2
 have fzA := (v0.below bA).frozen 17
 have hmx : Tryz.prog.follows .mixedOrders = true := by kernel_rfl
 clear h hl hN ha hm hmk hcap hcm
 have hmkA := makeInts K.sl.length (by omega)
 go_region
 have v2 := v0.set 2 (.slice (some ⟨W0.heap.size, 0, none⟩) K.sl.length K.sl.length)
 have bu2 := hcB0.set 17 (.slice (some ⟨W0.heap.size, 0, none⟩) K.sl.length K.sl.length)
 have xx2 := xB0.far (c := vB) (k := 17) (.slice (some ⟨W0.heap.size, 0, none⟩) K.sl.length K.sl.length) (by omega)
 have e2 : (W0.setCell ⟨vB, 17, none⟩ (.slice (some ⟨W0.heap.size, 0, none⟩) K.sl.length K.sl.length)).heap.size = W0.heap.size := by simp
 have e3 : 15 + 2 = 17 := rfl
 rw [e3] at v2
 have bB := (Below.refl (W0.setCell ⟨vB, 17, none⟩ (.slice (some ⟨W0.heap.size, 0, none⟩) K.sl.length K.sl.length)).heap.size (W0.setCell ⟨vB, 17, none⟩ (.slice (some ⟨W0.heap.size, 0, none⟩) K.sl.length K.sl.length))).alloc (Nat.le_refl _) (.cells (Array.replicate K.sl.length (Value.int .i64 0)) 3)
 have v3 := (v2.below bB).drew
 have bu3 := (bu2.trans (But.of vB bB)).trans (But.of vB (Below.refl _ _).drew)
 have xx3 := (xx2.below bB).drew
 have h3 : Bx ((W0.setCell ⟨vB, 17, none⟩ (.slice (some ⟨W0.heap.size, 0, none⟩) K.sl.length K.sl.length)).alloc (.cells (Array.replicate K.sl.length (Value.int .i64 0)) 3)).drew W0.heap.size 3 (clrRow K.sl.length 0) := by
  have := Bx.newAt (W0.setCell ⟨vB, 17, none⟩ (.slice (some ⟨W0.heap.size, 0, none⟩) K.sl.length K.sl.length)) 3 (List.replicate K.sl.length (.int .i64 0)) (c := W0.heap.size) (by simp)
  rw [clrRow_zero]
  have e : (List.replicate K.sl.length (Value.int .i64 0)).toArray = Array.replicate K.sl.length (Value.int .i64 0) := by simp
  rw [e] at this; exact this.drew
 clear v0 xB0 hcB0 g2 f2 fz hvl0 ne1 ne2 bA x0A g2A f2A fzA x0 hmkA v2 bu2 xx2 e2 bB
 have HBs : Hid (w.heap.size ≤ W0.heap.size ∧ xB < W0.heap.size) := by unfold Hid; have := HXs.out; have := HXB.out; omega
 generalize ((W0.setCell ⟨vB, 17, none⟩ (.slice (some ⟨W0.heap.size, 0, none⟩) K.sl.length K.sl.length)).alloc (.cells (Array.replicate K.sl.length (Value.int .i64 0)) 3)).drew = W3 at v3 bu3 xx3 h3 ⊢
 obtain ⟨hB, hhB⟩ : ∃ hB, W0.heap.size = hB := ⟨_, rfl⟩
 rw [hhB] at v3 h3 HBs ⊢
 clear hhB
 obtain ⟨fs', hfs⟩ : ∃ fs', fs.set 2 (.slice (some ⟨hB, 0, none⟩) K.sl.length K.sl.length) = fs' := ⟨_, rfl⟩
 rw [hfs] at v3
 have HFs : Hid (fs.set 2 (.slice (some ⟨hB, 0, none⟩) K.sl.length K.sl.length) = fs') := hfs
 have HF2 : Hid (fs'[2]? = some (.slice (some ⟨hB, 0, none⟩) K.sl.length K.sl.length)) := by unfold Hid; rw [← hfs]; rw [List.getElem?_set_self (by omega)]
 have HFo : Hid (∀ k v, k ≠ 2 → fs[k]? = some v → fs'[k]? = some v) := fun k v hk e => by rw [← hfs, List.getElem?_set_ne (by omega)]; exact e
 have HF0 : Hid (fs'[0]? = some (.slice (some ⟨N, 0, none⟩) K.sl.length K.sl.length)) := HFo.out 0 _ (by omega) hf0
 have HF3 : Hid (fs'[3]? = some (.map (some pB))) := HFo.out 3 _ (by omega) hf3
 have HF4 : Hid (fs'[4]? = some (.slice P A.length cap)) := HFo.out 4 _ (by omega) hf4
 clear hfs hf0 hf2 hf3 hf4 HFo hfl
 have x0 := xx3.cell 0 _ rfl
 have f2 := v3.snd 2 _ HF2.out
 go_wp2
 go_loopw [22] (fun v W => clrInv w0 K vB hB xB fs' w v W) (fun v W => K.sl.length - (intOf v).toNat)
 case atStart => exact ⟨0, Nat.zero_le _, rfl, v3, h3, bu3, x0⟩
 case round =>
  clear v3 h3 bu3 xx3 x0 f2
  obtain ⟨k, hk, rfl, hv, hr, hu, hx⟩ := hrel
  by_cases hlt : k < K.sl.length
  ·have hk1 : (k : Int) < (K.sl.length : Int) := by omega
   have f2 := hv.snd 2 _ HF2.out
   have c0 := hr.cell k _ (clrRow_at hlt)
   have z0 := hr.frozen k
   have HV9 : Hid _ := hv
   have HR9 : Hid _ := hr
   clear hv hr
   go_wp2
   go_roundw
   case rel =>
    obtain ⟨q1, q2⟩ := HBs.out
    have hvl2 := HVl.out
    have hw2 := HW0.out
    refine ⟨k + 1, by omega, by go_num, HV9.out.far (by omega) (by omega) _, ?_, hu.out (by omega) _ _, ?_⟩
    ·rw [← clrRow_set hlt]; exact Bx.set HR9.out k _
    ·exact (World.cell?_setCell_far _ _ _ _ (by simp; omega)).trans hx
   case measure => simp [intOf]; omega
  ·have hk1 : ¬ (k : Int) < (K.sl.length : Int) := by omega
   have hke : k = K.sl.length := by omega
   rw [hke, clrRow_end, ← hmRow_zero] at hr
   clear hke hk
   have g2 := hv.cs
   have x0 := hx
   go_wp2
   refine wp_loop (fun a' w' => ∃ (v38 : Value) (Ds : List Nat) (u4 u5 u39 u40 u41 u42 u43 u45 u46 u47 u48 u49 u50 u51 u52 : Value), hmInv w0 K vB hB xB fs' w v38 Ds w' ∧ a' = { tmps := #[.pointer (some ⟨vB, 0, none⟩), .pointer (some ⟨xB, 0, none⟩), .bool false, u3, u4, u5, undef, .pointer (some ⟨vB, 0, none⟩), .pointer (some ⟨vB, 0, none⟩), .pointer (some ⟨vB, 0, none⟩), .pointer (some ⟨vB, 0, none⟩), .pointer (some ⟨vB, 2, none⟩), .slice K.sP K.sl.length K.sc, .int .i64 (K.sl.length : Int), .slice (some ⟨hB, 0, none⟩) K.sl.length K.sl.length, .pointer (some ⟨vB, 0, none⟩), .pointer (some ⟨vB, 17, none⟩), .pointer (some ⟨vB, 0, none⟩), .pointer (some ⟨vB, 0, none⟩), .pointer (some ⟨vB, 17, none⟩), .slice (some ⟨hB, 0, none⟩) K.sl.length K.sl.length, .int .i64 (K.sl.length : Int), .int .i64 (k : Int), .bool false, u24, u25, u26, u27, u28, u29, u30, u31, .pointer (some ⟨vB, 0, none⟩), .pointer (some ⟨vB, 0, none⟩), .pointer (some ⟨vB, 0, none⟩), .pointer (some ⟨vB, 2, none⟩), .slice K.sP K.sl.length K.sc, .int .i64 (K.sl.length : Int), v38, u39, u40, u41, u42, u43, undef, u45, u46, u47, u48, u49, u50, u51, u52, undef, undef, undef, undef, undef, undef, undef, undef, undef, undef, undef, undef, undef, undef], defers := Ds.map mkC }) (fun a' _ => K.sl.length - (intOf (a'.tmps.getD 38 undef)).toNat) ?_ ?_
   ·refine ⟨_, [], _, _, _, _, _, _, _, _, _, _, _, _, _, _, _, ⟨0, Nat.zero_le _, rfl, hv, hr, hu, hx, MkD.nil _ _⟩, rfl⟩
   ·intro a1 wr hinv
    obtain ⟨v38, Ds, u4, u5, u39, u40, u41, u42, u43, u45, u46, u47, u48, u49, u50, u51, u52, hrel, ha⟩ := hinv
    subst ha
    try dsimp only
    clear hv hr hu hx g2 x0
    obtain ⟨i, hk, rfl, S9⟩ := hrel
    by_cases hlt : i < K.sl.length
    ·have hk1 : (i : Int) < (K.sl.length : Int) := by omega
     have bI := (Below.refl wr.heap.size wr).alloc (Nat.le_refl _) (.cells #[.int .i64 (i : Int)] 3)
     have x0 := S9.x
     have x0A := cellB S9.x (.cells #[.int .i64 (i : Int)] 3)
     have ciA := Bx.newAt wr 3 [.int .i64 (i : Int)] (c := wr.heap.size) rfl
     have i0 := ciA.cell 0 _ rfl
     have HHe : Hid _ := held_any w0 K vB i fs' (wr.alloc (.cells #[.int .i64 (i : Int)] 3)) (S9.v.below bI) S.tree hlt hlen
     have hiw : wr.heap.size < (wr.alloc (.cells #[.int .i64 (i : Int)] 3)).heap.size := by simp
     obtain ⟨iB, hiB⟩ : ∃ iB, wr.heap.size = iB := ⟨_, rfl⟩
     have HS9 : Hid _ := S9
     have HIs : Hid (wr.heap.size = iB) := hiB
     rw [hiB] at hiw ciA i0
     have HIw : Hid (iB < (wr.alloc (.cells #[.int .i64 (i : Int)] 3)).heap.size) := hiw
     have HCi : Hid _ := ciA
     clear S9 hiB hiw ciA
     go_wp2_with (go_at_call 82; refine Calls.mono HHe.out ?_; rintro e w5 ⟨rB, hrB, rfl, hx5, hr5, hb5⟩)
     have hnw := HS9.out.b.size
     obtain ⟨q1, q2⟩ := HBs.out
     have bw5 : Below wr.heap.size wr w5 := bI.trans (hb5.mono bI.size)
     have v5 : View w0 K vB fs' w5 := HS9.out.v.below bw5
     have r5 : Bx w5 hB 3 (hmRow K.sl i []) := HS9.out.r.below bw5
     have b5 : But vB w w5 := HS9.out.b.trans (But.of vB bw5)
     have x5 : w5.cell? ⟨xB, 0, none⟩ = some (.pointer (some ⟨vB, 0, none⟩)) := (bw5.cell (block_lt_of_cell HS9.out.x)).trans HS9.out.x
     have ci5 : Bx w5 iB 3 [.int .i64 (i : Int)] := Bx.below HCi.out hb5
     have m5 : MkD w.heap.size Ds w5 := HS9.out.m.keep (fun D _ hD => bw5.block D (Array.getElem?_eq_some_iff.1 hD).1)
     have MDl : Hid (∀ D ∈ Ds, D < w5.heap.size) := fun D hD => (Array.getElem?_eq_some_iff.1 (m5.at_ D hD).2).1
     obtain ⟨xh, hxh⟩ : ∃ xh, (wr.alloc (.cells #[.int .i64 (i : Int)] 3)).heap.size = xh := ⟨_, rfl⟩
     rw [hxh] at hx5 hrB
     have e9 : wr.heap.size + 1 = xh := by rw [← hxh]; simp
     rw [e9, HIs.out]
     have hxl : xh < w5.heap.size := hx5.lt
     have hrl : rB < w5.heap.size := hr5.lt
     have hvl5 : vB < w5.heap.size := v5.lt
     have hhl : hB < wr.heap.size := HS9.out.r.lt
     have hie := HIs.out
     have hxe : wr.heap.size < xh := by rw [← hxh]; simp
     have hw2 := HW0.out
     have hvb := HVl.out
     have hpl : pB < w.heap.size := HM9.out.lt
     have hsame : ∀ b, b < w.heap.size → b ≠ vB → w5.heap[b]? = w.heap[b]? := fun b hb hne => b5.block b hb (fun e => hne (by injection e))
     have hHV : HeldV w5 xh rB vB pB np K.sl K.sl[i] P cap A := by
      refine ⟨hx5.cell 0 _ rfl, hr5.cell 0 _ rfl, hr5.cell 1 _ rfl, v5.snd 3 _ HF3.out, v5.snd 4 _ HF4.out, HM9.out.same (hsame pB hpl hpb), ⟨HAa.out.place, fun B O e k hk j hj => ?_⟩⟩
      obtain ⟨z1, z2⟩ := HPb.out B O e
      exact (cell_same (hsame B z1 z2) _).trans (HAa.out.cells B O e k hk j hj)
     have hQ9 : ∀ b, hQ xh rB vB pB P b → b < w5.heap.size ∧ b ≠ hB := by
      have h5 := b5.size
      rintro b (e | e | e | e | ⟨O, e⟩)
      ·omega
      ·omega
      ·omega
      ·omega
      ·obtain ⟨z1, _⟩ := HPb.out b O e; omega
     have hsfine := rm_fine S.tree hlt
     have HNW : Hid (w.heap.size ≤ wr.heap.size) := hnw
     refine (wpIn_wide (n := 5)).1 ?_
     refine wpIn_rangeFunc_ownF rfl (by omega) (gf := 139) (lb := #[.pointer (some ⟨xh, 0, none⟩), .pointer (some ⟨rB, 0, none⟩)]) rfl trivial (enters_of Tryz.func139 (by kernel_rfl) rfl)
      (held_stops 4 (by omega) xh rB vB pB np K.sl K.sl[i] P cap A S.tree hA HCp.out.1 HCp.out.2 hlen hsfine w5 hHV (fun b hb => (hQ9 b hb).1))
      (fun a b => Stay.trans a b) (fun W l o o' hl h h1 h2 => Stay.of (belowK_b (w := w5) (Nat.le_refl _) W l o o' hl h h1 h2) (fun b hb => (hQ9 b hb).1)) (Below.refl _ _) (fun _ => rfl)
      (fun pre W => But hB w5 W ∧ Bx W hB 3 (hmRow K.sl i (pre.map (fun y => K.sl[y.val].t))))
      (fun _ _ _ => False)
      (fun s A B row hs hg hr => ⟨but_from hs.1 hg (fun r e => (hr r e).1), Bx.grown hs.2 hg (fun e => by have := (hr hB e).1; omega)⟩)
      (fun _ _ _ _ _ hs _ _ => hs)
      ⟨But.of hB (Below.refl _ _), r5⟩
      (fun x => { tmps := #[.pointer (some ⟨vB, 0, none⟩), .pointer (some ⟨xB, 0, none⟩), .bool false, u3, .pointer (some ⟨iB, 0, none⟩), .int .i64 (x.val : Int), undef, .pointer (some ⟨vB, 0, none⟩), .pointer (some ⟨vB, 0, none⟩), .pointer (some ⟨vB, 0, none⟩), .pointer (some ⟨vB, 0, none⟩), .pointer (some ⟨vB, 2, none⟩), .slice K.sP K.sl.length K.sc, .int .i64 (K.sl.length : Int), .slice (some ⟨hB, 0, none⟩) K.sl.length K.sl.length, .pointer (some ⟨vB, 0, none⟩), .pointer (some ⟨vB, 17, none⟩), .pointer (some ⟨vB, 0, none⟩), .pointer (some ⟨vB, 0, none⟩), .pointer (some ⟨vB, 17, none⟩), .slice (some ⟨hB, 0, none⟩) K.sl.length K.sl.length, .int .i64 (K.sl.length : Int), .int .i64 (k : Int), .bool false, u24, u25, u26, u27, u28, u29, u30, u31, .pointer (some ⟨vB, 0, none⟩), .pointer (some ⟨vB, 0, none⟩), .pointer (some ⟨vB, 0, none⟩), .pointer (some ⟨vB, 2, none⟩), .slice K.sP K.sl.length K.sc, .int .i64 (K.sl.length : Int), .int .i64 (i : Int), .bool true, .int .i64 (i : Int), .pointer (some ⟨vB, 0, none⟩), .int .i64 (i : Int), (.func (.func 139) #[] #[.pointer (some ⟨xh, 0, none⟩), .pointer (some ⟨rB, 0, none⟩)]), .int .i64 (x.val : Int), u45, u46, u47, u48, u49, u50, u51, u52, undef, undef, undef, undef, undef, undef, undef, undef, undef, undef, undef, undef, undef, undef], defers := [] }) ?assign ?body ?done ?stop
     case assign =>
      intro l x W Kp hK
      gi_wp2
      exact hK
     case body =>
      rintro l pre x W ⟨hbW, hrW⟩ hpl2
      have xW : W.cell? ⟨xB, 0, none⟩ = some (.pointer (some ⟨vB, 0, none⟩)) := (cell_same (hbW.block xB (block_lt_of_cell x5) (fun e => by injection e with e; omega)) 0).trans x5
      have iW : W.cell? ⟨iB, 0, none⟩ = some (.int .i64 (i : Int)) := (ci5.but hbW (by omega)).cell 0 _ rfl
      have vW := v5.but hbW (by omega) (by omega)
      have fW := vW.snd 2 _ HF2.out
      have hxi := x.isLt
      have hcW := hrW.cell x.val _ (hmRow_at hxi i _)
      have hzW := hrW.frozen x.val
      have hx1 : (x.val : Int) < (K.sl.length : Int) := by omega
      have HA9 : Hid (KeepsOthers W (W.setCell ⟨hB, x.val, none⟩ (.int .i64 (i : Int))).drew ∧ Stay (hQ xh rB vB pB P) W (W.setCell ⟨hB, x.val, none⟩ (.int .i64 (i : Int))).drew ∧ (But hB w5 (W.setCell ⟨hB, x.val, none⟩ (.int .i64 (i : Int))).drew ∧ Bx (W.setCell ⟨hB, x.val, none⟩ (.int .i64 (i : Int))).drew hB 3 (hmRow K.sl i ((pre ++ [x]).map (fun y => K.sl[y.val].t))))) := by
       refine ⟨(KeepsOthers.setCell _ _ _).trans (KeepsOthers.drew _), fun b hb => Below.heap_setCell _ ⟨hB, x.val, none⟩ _ b (hQ9 b hb).2, (hbW.set x.val _).trans (But.of hB (Below.refl _ _).drew), ?_⟩
       rw [List.map_append, List.map_cons, List.map_nil, ← hmRow_set S.tree hxi]
       exact (hrW.set x.val _).drew
      have hm9 : Tryz.prog.follows .mixedOrders = true := by kernel_rfl
      clear hbW hrW vW S hA hHV hQ9 hsame v5 r5 b5 hsfine m5
      gi_wp2
      gi_region_with_o (fail)
      all_goals gi_wp2
      all_goals exact HA9.out
     case done =>
      rintro D ys W hD hys ⟨hbW, hrW⟩ hK2
      have hmD : ∀ y (hy : y < K.sl.length), K.sl[y].t ∈ ys.map (fun y => K.sl[y.val].t) ↔ inRm K.sl[i] K.sl[y].t = true := fun y hy => by
       rw [hys]; exact mid_in S.tree hA hlt y hy
      rw [hmRow_next hlt hmD] at hrW
      have HR9 : Hid (HmW w0 K vB hB xB fs' w (i + 1) (D :: Ds) W) := by
       refine ⟨v5.but hbW (by omega) (by omega), hrW, but_from b5 hbW (fun r e => by injection e with e; omega), (cell_same (hbW.block xB (block_lt_of_cell x5) (fun e => by injection e with e; omega)) 0).trans x5, MkD.cons (m5.keep fun E _ hE => hbW.block E (Array.getElem?_eq_some_iff.1 hE).1 (fun e => by
        injection e with e
        rw [e] at hE
        have := r5
        unfold Bx at this
        rw [hE] at this; cases this)) (by have := b5.size; omega) hK2 (fun hin => by have := MDl.out D hin; omega)⟩
      go_wp2
      exact ⟨⟨_, D :: Ds, _, _, _, _, _, _, _, _, _, _, _, _, _, _, _, ⟨i + 1, by omega, by go_num, HR9.out⟩, rfl⟩, by simp [intOf]; omega⟩
     case stop =>
      rintro D c pre W _ _ h _
      exact h.elim
    ·have hk1 : ¬ (i : Int) < (K.sl.length : Int) := by omega
     have hie : i = K.sl.length := by omega
     rw [hie] at S9
     obtain ⟨v9, r9, b9, x9, m9⟩ := S9
     rw [hmRow_end S] at r9
     have HV9 : Hid (View w0 K vB fs' wr) := v9
     have HR9 : Hid (Bx wr hB 3 (homesRow K.sl)) := r9
     have HB9 : Hid (But vB w wr) := b9
     have HM99 : Hid (MkD w.heap.size Ds wr) := m9
     have HAll : Hid (∀ j, j < K.sl.length → ∀ W, Below wr.heap.size wr W → Calls Tryz.prog 125 #[.pointer (some ⟨vB, 0, none⟩), .int .i64 (j : Int)] W fun e w' => e = .returned (.bool (homeOkB K.sl j)) ∧ Below W.heap.size W w') := fun j hj W hW => by
      have hN9 : N < wr.heap.size := Nat.lt_of_lt_of_le HLk.out.2 b9.size
      have hl9 : Linked wr N K.sl := HLk.out.1.same (b9.block N HLk.out.2 (fun e => by injection e with e; exact hNb e))
      exact homeOk_any w0 K vB N hB j fs' W (v9.below hW) HF0.out HF2.out (hl9.belowL hW hN9) (Nat.lt_of_lt_of_le hN9 hW.size) (r9.below hW) S.tree hj hlen
     have HNo : Hid (∀ (j : Nat), j < K.sl.length → homeOkB K.sl j = false → (List.range K.sl.length).all (homeOkB K.sl) = false) := fun j hj hx => by rw [List.all_eq_false]; exact ⟨j, List.mem_range.2 hj, by simp [hx]⟩
     have HYes : Hid ((∀ j, j < K.sl.length → homeOkB K.sl j = true) → (List.range K.sl.length).all (homeOkB K.sl) = true) := fun hx => by
      rw [List.all_eq_true]; intro j hj; exact hx j (List.mem_range.1 hj)
     have HEnd : Hid (∀ (b : Bool) (tmps : Array Value) (W : World), Below wr.heap.size wr W → b = (List.range K.sl.length).all (homeOkB K.sl) → tmps.getD 2 undef = .bool b → LeavesInM Fence.wide 5 Tryz.prog Tryz.f69 tmps (fun e w' => ∃ hB, w.heap.size ≤ hB ∧ e = .returned (.bool ((List.range K.sl.length).all (homeOkB K.sl))) ∧ View w0 K vB (fs.set 2 (.slice (some ⟨hB, 0, none⟩) K.sl.length K.sl.length)) w' ∧ Bx w' hB 3 (homesRow K.sl) ∧ But vB w w') (Ds.map mkC) .returning W) := fun b tmps W hW hb ht => by
      have hmk9 : MkD w.heap.size Ds W := m9.keep (fun D _ hD => hW.block D (Array.getElem?_eq_some_iff.1 hD).1)
      refine leaves_marks (by simp) Ds W hmk9 fun W' hBL => ?_
      have hcell : ∀ (c : Nat) (T : TypeId) (L : List Value), Bx W c T L → c ∉ Ds := fun c T L hc hin => by
       have := (hmk9.at_ c hin).2
       unfold Bx at hc
       rw [hc] at this; cases this
      have hvW : View w0 K vB fs' W := HV9.out.below hW
      have hrW : Bx W hB 3 (homesRow K.sl) := Bx.below HR9.out hW
      have hbW : But vB w W := HB9.out.trans (But.of vB hW)
      have hw2 := HW0.out
      have hlow : ∀ c, c < w.heap.size → c ∉ Ds := fun c hc hin => by have := (hmk9.at_ c hin).1; omega
      refine ⟨_, results_tmp rfl _ _ _, hB, HBs.out.1, ?_, ?_, ?_, ?_⟩
      ·rw [ht, hb]
      ·rw [HFs.out]
       exact ⟨hvW.x.same (hBL.block vB hvW.lt (hcell _ _ _ hvW.x)), hvW.h0, ⟨hBL.os.trans hvW.bw.os, hBL.tape.trans hvW.bw.tape, hBL.output.trans hvW.bw.output, Nat.le_trans hvW.bw.size hBL.size, fun c hc => (hBL.block c (Nat.lt_of_lt_of_le hc hvW.bw.size) (hlow c (by omega))).trans (hvW.bw.block c hc)⟩, hvW.le⟩
      ·exact hrW.same (hBL.block hB hrW.lt (hcell _ _ _ hrW))
      ·exact ⟨hBL.os.trans hbW.os, hBL.tape.trans hbW.tape, hBL.output.trans hbW.output, Nat.le_trans hbW.size hBL.size, fun c hc hn => (hBL.block c (Nat.lt_of_lt_of_le hc hbW.size) (hlow c hc)).trans (hbW.block c hc hn)⟩
     have g2 := v9.cs
     have x0 := x9
     clear v9 r9 b9 x9 m9
     go_wp2
     go_loopw [59] (fun v W => hokInv K wr xB vB v W) (fun v W => K.sl.length - (intOf v).toNat)
     case atStart => exact ⟨0, Nat.zero_le _, rfl, fun j _ h => absurd h (Nat.not_lt_zero _), Below.refl _ _, x0⟩
     case round =>
      clear g2 x0
      obtain ⟨j, hj, rfl, hno, hbl, x0⟩ := hrel
      have HN : Hid _ := hno
      clear hno
      by_cases hlt2 : j < K.sl.length
      ·have hk2 : (j : Int) < (K.sl.length : Int) := by omega
       have HO := HAll.out j hlt2
       cases hbj : homeOkB K.sl j
       ·rw [hbj] at HO
        have HO2 : Hid _ := HO
        have HX : Hid (homeOkB K.sl j = false) := hbj
        clear HO hbj
        go_wp2_with (go_at_call 125; refine (HO2.out _ ‹_›).mono ?_; rintro e w5 ⟨rfl, hb5⟩)
        exact HEnd.out false _ _ (hbl.trans (hb5.mono hbl.size)) (HNo.out j hlt2 HX.out).symm rfl
       ·rw [hbj] at HO
        have HO2 : Hid _ := HO
        have HX : Hid (homeOkB K.sl j = true) := hbj
        clear HO hbj
        go_wp2_with (go_at_call 125; refine (HO2.out _ ‹_›).mono ?_; rintro e w5 ⟨rfl, hb5⟩)
        go_roundw
        case rel => exact ⟨j + 1, by omega, by go_num, fun m hm h => by by_cases e : m = j; subst e; exact HX.out; exact HN.out m hm (by omega), hbl.trans (hb5.mono hbl.size), (hb5.cell (block_lt_of_cell x0)).trans x0⟩
        case measure => simp [intOf]; omega
      ·have hk2 : ¬ (j : Int) < (K.sl.length : Int) := by omega
       go_wp2
       exact HEnd.out true _ _ hbl (HYes.out (fun m hm => HN.out m hm (by omega))).symm rfl

end Go.Proofs.YtigpbjcmmgdiaaaGreat
