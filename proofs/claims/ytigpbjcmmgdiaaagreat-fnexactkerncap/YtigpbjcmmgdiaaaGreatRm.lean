/-
  Texts of the proof, put together: LeafImpl, ViewG, Sizes.
-/
import Derived.Test.YtigpbjcmmgdiaaaGreatBw
import Derived.Test.YtigpbjcmmgdiaaaGreatRl
import Derived.Test.YtigpbjcmmgdiaaaGreatRi
import Derived.BigRegion
import Derived.Test.YtigpbjcmmgdiaaaGreatBb
import Derived.Test.YtigpbjcmmgdiaaaGreatBa
/-
 What TreeLeaf of the program answers.
-/
namespace Go.Proofs.YtigpbjcmmgdiaaaGreat
open Go.RowKit Go.Shelf
set_option linter.unusedVariables false

attribute [local go_sem] Oper.semAt_some

set_option maxRecDepth 100000 in
set_option maxHeartbeats 2000000 in
theorem leafM_some (N i : Nat) (L : List Sl) (w1 : World) (hi : i < L.length) (hNlt : N < w1.heap.size) (hK : Linked w1 N L) (k : Nat) (hk : IsLeaf L i k) :
  CallsIn Fence.wide 5 Tryz.prog 81 #[.pointer (some ⟨N, i * 4, none⟩)] w1 fun e w' => e = .returned (.pointer (some ⟨N, (i + k) * 4, none⟩)) ∧ Below w1.heap.size w1 w' := by
 refine callsIn_of_wp_marks Tryz.func81 rfl trivial ?_ rfl
 simp only [Tryz.ntmps81, List.size_toArray, List.length_cons, List.length_nil, Nat.reduceAdd, Nat.reduceSub, Array.replicate_succ, Array.replicate_zero, List.push_toArray, List.append_toArray, List.nil_append, List.cons_append]
 gi_wp2_with ((refine ⟨trivial, ?_⟩; gi_at_call 137; refine (below_in _ _ _).mono ?_; rintro e w2 ⟨rfl, rfl⟩))
 have hB0 : Below w1.heap.size w1 ((w1.alloc (.cells #[.pointer (some ⟨N, i * 4, none⟩)] 129)).alloc (.cells #[.pointer (some ⟨N, i * 4, none⟩)] 129)) := ((Below.refl _ w1).alloc (Nat.le_refl _) _).alloc (by simp) _
 have c0 := cell_new w1 (.pointer (some ⟨N, i * 4, none⟩)) 129
 have c1 := cell_new (w1.alloc (.cells #[.pointer (some ⟨N, i * 4, none⟩)] 129)) (.pointer (some ⟨N, i * 4, none⟩)) 129
 rw [World.size_alloc] at c1
 have hb2 : Below (w1.heap.size + 1) (w1.alloc (.cells #[.pointer (some ⟨N, i * 4, none⟩)] 129)) ((w1.alloc (.cells #[.pointer (some ⟨N, i * 4, none⟩)] 129)).alloc (.cells #[.pointer (some ⟨N, i * 4, none⟩)] 129)) := (Below.refl _ _).alloc (by simp) _
 have c0' := (hb2.cell (p := ⟨w1.heap.size, 0, none⟩) (Nat.lt_succ_self _)).trans c0.1
 have f0' := (hb2.frozen (p := ⟨w1.heap.size, 0, none⟩) (Nat.lt_succ_self _)).trans c0.2
 refine wpIn_rangeFunc_ownF rfl (by omega) (gf := 168) (lb := #[.pointer (some ⟨w1.heap.size + 1, 0, none⟩)]) rfl trivial (enters_of Tryz.func168 (by kernel_rfl) rfl)
  (below_stops 4 (by omega) (w1.heap.size + 1) N i L hi _ (by simp) (by simp; omega) c1.1 (hK.keep (keep2_below (Bn := N) hB0 hNlt hNlt)))
  (fun a b => Keep2.trans a b) (keep2_put (n₀ := w1.heap.size + 1 + 1) (by simp) (by omega) (by omega)) (Below.refl _ _) (fun _ => rfl)
  (fun pre W => ((climbs (depN L) i (pre.map Fin.val) ∧ lastN i (pre.map Fin.val) < L.length) ∧ W.cell? ⟨w1.heap.size, 0, none⟩ = some (.pointer (some ⟨N, lastN i (pre.map Fin.val) * 4, none⟩)) ∧ W.frozen? ⟨w1.heap.size, 0, none⟩ = false) ∧ Below w1.heap.size w1 W)
  (fun c pre W => (c = .exit 0 ∧ (∃ (ps : List (Fin L.length)) (x : Fin L.length), pre = ps ++ [x] ∧ climbs (depN L) i (ps.map Fin.val) ∧ ¬ depN L (lastN i (ps.map Fin.val)) < depN L x.val ∧ W.cell? ⟨w1.heap.size, 0, none⟩ = some (.pointer (some ⟨N, lastN i (ps.map Fin.val) * 4, none⟩)))) ∧ Below w1.heap.size w1 W)
  (OwnFrom.and (Own.from (fun s A B row hs hg hr => ⟨hs.1, cell_kept hs.2.1 hg hr, (frozen_kept hs.2.1 hg hr).trans hs.2.2⟩) _) (ownFrom_below (Nat.le_refl _) (by simp; omega)))
  (fun c => OwnFrom.and (Own.from (fun s A B row hs hg hr => ⟨hs.1, by obtain ⟨ps, x, e1, e2, e3, e4⟩ := hs.2; exact ⟨ps, x, e1, e2, e3, cell_kept e4 hg hr⟩⟩) _) (ownFrom_below (Nat.le_refl _) (by simp; omega)))
  ⟨⟨⟨trivial, hi⟩, c0', f0'⟩, hB0⟩
  (fun x => { tmps := #[.pointer (some ⟨N, i * 4, none⟩), undef, .pointer none, .pointer (some ⟨w1.heap.size, 0, none⟩), .pointer (some ⟨N, x.val * 4, none⟩), .pointer (some ⟨N, i * 4, none⟩), .pointer (some ⟨N, i * 4, none⟩), .func (.func 168) #[] #[.pointer (some ⟨w1.heap.size + 1, 0, none⟩)], .pointer (some ⟨N, x.val * 4, none⟩), undef, undef, undef, undef, undef, undef, undef, undef, undef, undef, undef], defers := [] }) ?assign ?body ?done ?stop
 case assign =>
  intro l x W K hK
  gi_wp2
  exact hK
 case body =>
  rintro l pre x W ⟨⟨⟨hcl, hla⟩, hc, hf⟩, hB⟩ _
  have hLk := hK.keep (keep2_below (Bn := N) hB hNlt hNlt)
  have hdx := hLk.depth x.val x.isLt
  have hdl := hLk.depth _ hla
  rw [← depN_at x.isLt] at hdx
  rw [← depN_at hla] at hdl
  obtain ⟨p, hp⟩ : ∃ p, lastN i (pre.map Fin.val) = p := ⟨_, rfl⟩
  rw [hp] at hc hdl hla
  have HP : Hid _ := hp
  clear hp
  have hm : Tryz.prog.follows .mixedOrders = true := by kernel_rfl
  by_cases hlt : depN L p < depN L x.val
  ·have g : decide (depN L x.val ≤ depN L p) = false := by simp; omega
   have HA : KeepsOthers W (W.setCell ⟨w1.heap.size, 0, none⟩ (.pointer (some ⟨N, x.val * 4, none⟩))).drew ∧ Keep2 N (w1.heap.size + 1) W (W.setCell ⟨w1.heap.size, 0, none⟩ (.pointer (some ⟨N, x.val * 4, none⟩))).drew ∧
     (((climbs (depN L) i ((pre ++ [x]).map Fin.val) ∧ lastN i ((pre ++ [x]).map Fin.val) < L.length) ∧ (W.setCell ⟨w1.heap.size, 0, none⟩ (.pointer (some ⟨N, x.val * 4, none⟩))).drew.cell? ⟨w1.heap.size, 0, none⟩ = some (.pointer (some ⟨N, lastN i ((pre ++ [x]).map Fin.val) * 4, none⟩)) ∧ (W.setCell ⟨w1.heap.size, 0, none⟩ (.pointer (some ⟨N, x.val * 4, none⟩))).drew.frozen? ⟨w1.heap.size, 0, none⟩ = false) ∧ Below w1.heap.size w1 (W.setCell ⟨w1.heap.size, 0, none⟩ (.pointer (some ⟨N, x.val * 4, none⟩))).drew) := by
    rw [List.map_append, List.map_cons, List.map_nil, lastN_snoc, climbs_snoc, HP.out]
    refine ⟨(KeepsOthers.setCell _ _ _).trans (KeepsOthers.drew _), fun o => ⟨World.cell?_setCell_far _ _ _ _ (by simp; omega), World.cell?_setCell_far _ _ _ _ (by simp)⟩, ⟨⟨⟨hcl, hlt⟩, x.isLt⟩, ?_, ?_⟩, (hB.setCell (p := ⟨w1.heap.size, 0, none⟩) (Nat.le_refl _) _).drew⟩
    ·exact World.cell?_setCell_same' W ⟨w1.heap.size, 0, none⟩ _ (by rw [hc]; rfl)
    ·show (W.setCell ⟨w1.heap.size, 0, none⟩ _).frozen? _ = false
     rw [World.frozen?_setCell]; exact hf
   have HH : Hid _ := HA
   clear HA HP hcl hK hB0 c0 c1 c0' f0' hb2
   gi_wp2
   gi_region_with_o (fail)
   all_goals gi_wp2
   all_goals exact HH.out
  ·have g : decide (depN L x.val ≤ depN L p) = true := by simp; omega
   have HA : KeepsOthers W W.drew ∧ ((Code.exit 0 = Code.exit 0 ∧ (∃ (ps : List (Fin L.length)) (y : Fin L.length), pre ++ [x] = ps ++ [y] ∧ climbs (depN L) i (ps.map Fin.val) ∧ ¬ depN L (lastN i (ps.map Fin.val)) < depN L y.val ∧ W.drew.cell? ⟨w1.heap.size, 0, none⟩ = some (.pointer (some ⟨N, lastN i (ps.map Fin.val) * 4, none⟩)))) ∧ Below w1.heap.size w1 W.drew) :=
    ⟨KeepsOthers.drew _, ⟨rfl, pre, x, rfl, hcl, by rw [HP.out]; exact hlt, by rw [HP.out]; exact hc⟩, hB.drew⟩
   have HH : Hid _ := HA
   clear HA HP hcl hK hB0 c0 c1 c0' f0' hb2
   gi_wp2
   gi_region_with_o (fail)
   all_goals gi_wp2
   all_goals exact ⟨HH.out.1, ⟨rfl, HH.out.2.1.2⟩, HH.out.2.2⟩
 case done =>
  rintro D ys W hD hys ⟨⟨⟨hcl, hla⟩, hc, hf⟩, hB⟩ hK2
  rw [hys] at hcl hc hla
  rw [lastN_range] at hc hla
  have e := leaf_done hk hi rfl hcl
  rw [← e] at hc hla
  clear e hcl
  gi_wp2
  refine ⟨by simp, .inl ⟨_, _, rfl, run_takeDeferred hK2, ?_⟩⟩
  refine ⟨_, results_tmp rfl _ _ _, rfl, ?_⟩
  exact hB.trans (belowK_b (w := w1) (Nat.le_refl _) W D _ _ (by simp at hD; omega) hK2 rfl rfl)
 case stop =>
  rintro D c' pre W hD hpre ⟨⟨rfl, ps, x, rfl, hcl, hno, hc⟩, hB⟩ hK2
  rw [List.map_append, List.map_cons, List.map_nil] at hpre
  obtain ⟨hm1, hm2⟩ := prefix_snoc hpre
  generalize (ps.map Fin.val).length = m at hm1 hm2
  clear hpre
  rw [hm1] at hcl hno hc
  rw [lastN_range] at hno hc
  rw [hm2] at hno
  have hx := x.isLt
  have e := leaf_stop hk hcl hno (by omega)
  rw [← e] at hc
  clear e hcl hno hm1 hm2
  gi_wp2
  refine ⟨by simp, .inl ⟨_, _, rfl, run_takeDeferred hK2, ?_⟩⟩
  refine ⟨_, results_tmp rfl _ _ _, rfl, ?_⟩
  exact hB.trans (belowK_b (w := w1) (Nat.le_refl _) W D _ _ (by simp at hD; omega) hK2 rfl rfl)

end Go.Proofs.YtigpbjcmmgdiaaaGreat
/-
 Whether a slot is where slots are, and holds what it may hold there, by the program. Conditions: the view lies in memory, with the links and the homes of its slots.
-/
namespace Go.Proofs.YtigpbjcmmgdiaaaGreat
open Go.ChangeShapes Go.WideShapes Go.ChangeAt Go.RowKit
set_option linter.unusedVariables false

theorem bare_leaf {L : List Sl} {i k : Nat} (hi : i < L.length) (h : IsLeaf L i k) : bareB L i = (k == 0) := by
 unfold bareB
 rw [List.getElem?_eq_getElem hi]
 show (runN L[i].p (L.drop (i + 1)) == 0) = (k == 0)
 rw [Bool.eq_iff_iff, beq_iff_eq, beq_iff_eq]
 have hr : ∀ j, i < j → j < L.length → (j < i + runN L[i].p (L.drop (i + 1)) + 1 ↔ ∀ m, i < m → m ≤ j → depN L i < depN L m) := fun j h1 h2 => run_iff hi rfl j h2 h1
 constructor
 ·intro h0
  apply Classical.byContradiction
  intro hk
  have hin := h.inn
  have := (hr (i + 1) (by omega) (by omega)).2 (fun m h1 h2 => by
   have e : m = i + 1 := by omega
   subst e
   have := h.up 0 (by omega)
   simpa using this)
  omega
 ·intro h0
  subst h0
  apply Classical.byContradiction
  intro hn
  have hle := runN_le L[i].p (L.drop (i + 1))
  rw [List.length_drop] at hle
  have h1 : i + 1 < L.length := by omega
  have := (hr (i + 1) (by omega) h1).1 (by omega) (i + 1) (by omega) (Nat.le_refl _)
  have h2 := h.top (by omega)
  simp only [Nat.add_zero] at h2
  omega
set_option maxRecDepth 100000 in
set_option maxHeartbeats 16000000 in
theorem bare_any (w0 : World) (K : QK) (vB N i : Nat) (fs : List Value) (w : World) (h : View w0 K vB fs w) (hf : fs[0]? = some (.slice (some ⟨N, 0, none⟩) K.sl.length K.sl.length)) (hl : Linked w N K.sl) (hN : N < w.heap.size) (hi : i < K.sl.length) (hlen : K.sl.length ≤ 1048576) :
  Calls Tryz.prog 165 #[.pointer (some ⟨vB, 0, none⟩), .int .i64 (i : Int)] w fun e w' => e = .returned (.bool (bareB K.sl i)) ∧ Below w.heap.size w w' := by
 obtain ⟨k, hk⟩ := isLeaf_ex K.sl i hi
 have HX0 := bare_leaf hi hk
 have HX : Hid (bareB K.sl i = ((i + k : Nat) == i)) := by unfold Hid; rw [HX0, Bool.eq_iff_iff, beq_iff_eq, beq_iff_eq]; omega
 have HLf := callsIn_wide.1 (leafM_some N i K.sl w hi hN hl k hk)
 have f0 := h.snd 0 _ hf
 have hi1 : (i : Int) < (K.sl.length : Int) := by omega
 have HP : Hid (∀ w2, Below w.heap.size w w2 → w2.cell? ⟨N, (i + k) * 4, none⟩ = some (.int .i64 ((i + k : Nat) : Int))) := fun w2 hb => (hb.cell (p := ⟨N, (i + k) * 4, none⟩) hN).trans (hl.place (i + k) hk.inn)
 have hin := hk.inn
 clear HX0 hl hk h hf
 obtain ⟨j, hj⟩ : ∃ j, i + k = j := ⟨_, rfl⟩
 rw [hj] at HLf HP HX hin
 have HJ : Hid (bareB K.sl i = ((j : Nat) == i)) := HX
 clear HX hj
 cases hji : ((j : Int) == (i : Int))
 ·have HX : Hid (bareB K.sl i = false) := by unfold Hid; rw [HJ.out]; simp at hji ⊢; omega
  go_enter Tryz.func165, Tryz.ntmps165
  go_wp2_with (go_at_call 81; refine HLf.mono ?_; rintro e w2 ⟨rfl, hb2⟩; have hp := HP.out w2 hb2)
  go_ret
  exact ⟨ret_bool HX.out.symm, hb2⟩
 ·have HX : Hid (bareB K.sl i = true) := by unfold Hid; rw [HJ.out]; simp at hji ⊢; omega
  go_enter Tryz.func165, Tryz.ntmps165
  go_wp2_with (go_at_call 81; refine HLf.mono ?_; rintro e w2 ⟨rfl, hb2⟩; have hp := HP.out w2 hb2)
  go_ret
  exact ⟨ret_bool HX.out.symm, hb2⟩

theorem cellB {w : World} {a : Addr} {v : Value} (h : w.cell? a = some v) (o : Obj) : (w.alloc o).cell? a = some v := (((Below.refl w.heap.size w).alloc (Nat.le_refl _) o).cell (block_lt_of_cell h)).trans h
set_option maxRecDepth 100000 in
set_option maxHeartbeats 16000000 in
theorem homeOk_any (w0 : World) (K : QK) (vB N hB i : Nat) (fs : List Value) (w : World) (h : View w0 K vB fs w) (hf : fs[0]? = some (.slice (some ⟨N, 0, none⟩) K.sl.length K.sl.length)) (hf2 : fs[2]? = some (.slice (some ⟨hB, 0, none⟩) K.sl.length K.sl.length)) (hl : Linked w N K.sl) (hN : N < w.heap.size) (hh : Bx w hB 3 (homesRow K.sl)) (hT : treeB K.sl = true) (hi : i < K.sl.length) (hlen : K.sl.length ≤ 1048576) :
  Calls Tryz.prog 125 #[.pointer (some ⟨vB, 0, none⟩), .int .i64 (i : Int)] w fun e w' => e = .returned (.bool (homeOkB K.sl i)) ∧ Below w.heap.size w w' := by
 have hrow := h.b.s
 obtain ⟨B, O, hP⟩ := hrow.some hi
 have HP9 : Hid (K.sP = some ⟨B, O, none⟩) := hP
 rw [hP] at hrow
 have hcc := hrow.cells B O rfl i hi
 obtain ⟨s, hsl⟩ : ∃ s, K.sl[i] = s := ⟨_, rfl⟩
 rw [hsl] at hcc
 have HSl : Hid (K.sl[i] = s) := hsl
 have g2 := h.cs
 rw [hP] at g2
 obtain ⟨c0, c1, c2, c3, c4, c5, c6, c7, c8, c9, c10⟩ := hcc
 have hi1 : (i : Int) < (K.sl.length : Int) := by omega
 have HV : Hid (View w0 K vB fs w) := h
 have HF0 : Hid (fs[0]? = some (.slice (some ⟨N, 0, none⟩) K.sl.length K.sl.length)) := hf
 have HF2 : Hid (fs[2]? = some (.slice (some ⟨hB, 0, none⟩) K.sl.length K.sl.length)) := hf2
 have HL : Hid (Linked w N K.sl) := hl
 have HN : Hid (N < w.heap.size) := hN
 have HH : Hid (Bx w hB 3 (homesRow K.sl)) := hh
 have HT : Hid (treeB K.sl = true) := hT
 clear hsl hP hrow h hf hf2 hl hN hh hT
 have HE : Hid (homeOkB K.sl i = (if s.t < 128 then s.k != 7 else match homeSl K.sl s.t with | none => false | some h => if (h.k == 2) = true then s.k != 7 else s.k == slotKindI (s.t - h.e) && !s.o && bareB K.sl i)) := by
  unfold Hid homeOkB; rw [List.getElem?_eq_getElem hi, HSl.out]; rfl
 go_enter Tryz.func125, Tryz.ntmps125
 go_upto_region 2 with fail
 clear g2 c0 c1 c2 c3 c4 c5 c6 c7 c8 c9 c10
 have b1 := (Below.refl w.heap.size w).alloc (Nat.le_refl _) (.cells #[.int .i64 s.t, .int .i64 s.k, .int .i64 s.e, .int .i64 s.b, .int .i64 s.r, .int .i64 s.d, .int .i64 s.g, .int .i64 s.q, .int .i64 s.f, .bool s.o, .int .i64 s.p] 66)
 have v1 := HV.out.below b1
 have hh1 := HH.out.below b1
 have l1 := HL.out.belowL b1 HN.out
 have hN1 : N < (w.alloc (.cells #[.int .i64 s.t, .int .i64 s.k, .int .i64 s.e, .int .i64 s.b, .int .i64 s.r, .int .i64 s.d, .int .i64 s.g, .int .i64 s.q, .int .i64 s.f, .bool s.o, .int .i64 s.p] 66)).heap.size := Nat.lt_of_lt_of_le HN.out b1.size
 have cx := Bx.newAt w 66 [.int .i64 s.t, .int .i64 s.k, .int .i64 s.e, .int .i64 s.b, .int .i64 s.r, .int .i64 s.d, .int .i64 s.g, .int .i64 s.q, .int .i64 s.f, .bool s.o, .int .i64 s.p] (c := w.heap.size) rfl
 generalize w.alloc (.cells #[.int .i64 s.t, .int .i64 s.k, .int .i64 s.e, .int .i64 s.b, .int .i64 s.r, .int .i64 s.d, .int .i64 s.g, .int .i64 s.q, .int .i64 s.f, .bool s.o, .int .i64 s.p] 66) = W1 at b1 v1 hh1 l1 hN1 cx ⊢
 have y0 := cx.cell 0 _ rfl
 have y1 := cx.cell 1 _ rfl
 have y9 := cx.cell 9 _ rfl
 by_cases hlo : s.t < 128
 ·have g : decide (s.t < 128) = true := by simpa using hlo
  have HX : Hid (homeOkB K.sl i = (s.k != 7)) := by unfold Hid; rw [HE.out, if_pos hlo]
  clear hlo
  cases h7 : (s.k != 7)
  ·rw [h7] at HX
   go_wp2
   go_ret
   exact ⟨ret_bool HX.out.symm, b1⟩
  ·rw [h7] at HX
   go_wp2
   go_ret
   exact ⟨ret_bool HX.out.symm, b1⟩
 ·have g : decide (s.t < 128) = false := by simpa using hlo
  have HE2 : Hid (homeOkB K.sl i = (match homeSl K.sl s.t with | none => false | some h => if (h.k == 2) = true then s.k != 7 else s.k == slotKindI (s.t - h.e) && !s.o && bareB K.sl i)) := by unfold Hid; rw [HE.out, if_neg hlo]
  clear hlo HE
  have f2 := v1.snd 2 _ HF2.out
  have ch := hh1.cell i _ (homesRow_at hi)
  rw [HSl.out] at ch
  rcases home_or K.sl s.t with ⟨e, _⟩ | ⟨k, hk, e, _⟩
  ·have HX : Hid (homeOkB K.sl i = false) := by unfold Hid; rw [HE2.out, homeSl_none e]
   rw [e] at ch
   clear e
   go_wp2
   go_ret
   exact ⟨ret_bool HX.out.symm, b1⟩
  ·rw [e] at ch
   obtain ⟨h, hh9⟩ : ∃ h, K.sl[k] = h := ⟨_, rfl⟩
   have HX : Hid (homeOkB K.sl i = (if (h.k == 2) = true then s.k != 7 else s.k == slotKindI (s.t - h.e) && !s.o && bareB K.sl i)) := by unfold Hid; rw [HE2.out, homeSl_some hk e, hh9]
   have hk0 : decide ((k : Int) < 0) = false := by simp
   have hk1 : (k : Int) < (K.sl.length : Int) := by omega
   have hrow := v1.b.s
   rw [HP9.out] at hrow
   have hcc := hrow.cells B O rfl k hk
   rw [hh9] at hcc
   obtain ⟨c0, c1, c2, c3, c4, c5, c6, c7, c8, c9, c10⟩ := hcc
   have g2 := v1.cs
   rw [HP9.out] at g2
   have HOs := tree_ok HT.out i hi
   have HOh := tree_ok HT.out k hk
   rw [HSl.out] at HOs
   rw [hh9] at HOh
   have ph := ok_parts HOh.2.2.2
   have hsub : IntKind.i64.wrap (s.t - h.e) = s.t - h.e := by rw [IntKind.wrap_i64]; omega
   have HBa : Hid (∀ W, Below W1.heap.size W1 W → Calls Tryz.prog 165 #[.pointer (some ⟨vB, 0, none⟩), .int .i64 (i : Int)] W fun e w' => e = .returned (.bool (bareB K.sl i)) ∧ Below W.heap.size W w') := fun W hW => bare_any w0 K vB N i fs W (v1.below hW) HF0.out (l1.belowL hW hN1) (Nat.lt_of_lt_of_le hN1 hW.size) hi hlen
   have HSk := fun W => slotKind_any (s.t - h.e) W
   clear e hh9 hrow HOs HOh ph
   go_upto_region 6 with fail
   have g2A := cellB g2 (.cells #[.int .i64 0, .int .i64 0, .int .i64 0, .int .i64 0, .int .i64 0, .int .i64 0, .int .i64 0, .int .i64 0, .bool false] 33); have f2A := cellB f2 (.cells #[.int .i64 0, .int .i64 0, .int .i64 0, .int .i64 0, .int .i64 0, .int .i64 0, .int .i64 0, .int .i64 0, .bool false] 33); have chA := cellB ch (.cells #[.int .i64 0, .int .i64 0, .int .i64 0, .int .i64 0, .int .i64 0, .int .i64 0, .int .i64 0, .int .i64 0, .bool false] 33); have c1A := cellB c1 (.cells #[.int .i64 0, .int .i64 0, .int .i64 0, .int .i64 0, .int .i64 0, .int .i64 0, .int .i64 0, .int .i64 0, .bool false] 33); have c2A := cellB c2 (.cells #[.int .i64 0, .int .i64 0, .int .i64 0, .int .i64 0, .int .i64 0, .int .i64 0, .int .i64 0, .int .i64 0, .bool false] 33); have c3A := cellB c3 (.cells #[.int .i64 0, .int .i64 0, .int .i64 0, .int .i64 0, .int .i64 0, .int .i64 0, .int .i64 0, .int .i64 0, .bool false] 33); have c4A := cellB c4 (.cells #[.int .i64 0, .int .i64 0, .int .i64 0, .int .i64 0, .int .i64 0, .int .i64 0, .int .i64 0, .int .i64 0, .bool false] 33); have c5A := cellB c5 (.cells #[.int .i64 0, .int .i64 0, .int .i64 0, .int .i64 0, .int .i64 0, .int .i64 0, .int .i64 0, .int .i64 0, .bool false] 33); have c6A := cellB c6 (.cells #[.int .i64 0, .int .i64 0, .int .i64 0, .int .i64 0, .int .i64 0, .int .i64 0, .int .i64 0, .int .i64 0, .bool false] 33); have c7A := cellB c7 (.cells #[.int .i64 0, .int .i64 0, .int .i64 0, .int .i64 0, .int .i64 0, .int .i64 0, .int .i64 0, .int .i64 0, .bool false] 33); have c8A := cellB c8 (.cells #[.int .i64 0, .int .i64 0, .int .i64 0, .int .i64 0, .int .i64 0, .int .i64 0, .int .i64 0, .int .i64 0, .bool false] 33); have c9A := cellB c9 (.cells #[.int .i64 0, .int .i64 0, .int .i64 0, .int .i64 0, .int .i64 0, .int .i64 0, .int .i64 0, .int .i64 0, .bool false] 33)
   go_region
   go_upto_region 7 with fail
   clear g2A f2A chA c1A c2A c3A c4A c5A c6A c7A c8A c9A
   have b2 := (b1.alloc b1.size (.cells #[.int .i64 h.k, .int .i64 h.e, .int .i64 h.b, .int .i64 h.r, .int .i64 h.d, .int .i64 h.g, .int .i64 h.q, .int .i64 h.f, .bool h.o] 33)).drew
   have v2 := (v1.below ((Below.refl _ _).alloc (Nat.le_refl _) (.cells #[.int .i64 h.k, .int .i64 h.e, .int .i64 h.b, .int .i64 h.r, .int .i64 h.d, .int .i64 h.g, .int .i64 h.q, .int .i64 h.f, .bool h.o] 33))).drew
   have l2 := (l1.belowL ((Below.refl _ _).alloc (Nat.le_refl _) (.cells #[.int .i64 h.k, .int .i64 h.e, .int .i64 h.b, .int .i64 h.r, .int .i64 h.d, .int .i64 h.g, .int .i64 h.q, .int .i64 h.f, .bool h.o] 33)) hN1)
   have hN2 : N < (W1.alloc (.cells #[.int .i64 h.k, .int .i64 h.e, .int .i64 h.b, .int .i64 h.r, .int .i64 h.d, .int .i64 h.g, .int .i64 h.q, .int .i64 h.f, .bool h.o] 33)).drew.heap.size := by show N < (W1.alloc (.cells #[.int .i64 h.k, .int .i64 h.e, .int .i64 h.b, .int .i64 h.r, .int .i64 h.d, .int .i64 h.g, .int .i64 h.q, .int .i64 h.f, .bool h.o] 33)).heap.size; simp; omega
   have l2 : Linked (W1.alloc (.cells #[.int .i64 h.k, .int .i64 h.e, .int .i64 h.b, .int .i64 h.r, .int .i64 h.d, .int .i64 h.g, .int .i64 h.q, .int .i64 h.f, .bool h.o] 33)).drew N K.sl := ⟨l2.place, l2.depth, l2.ahead, l2.behind⟩
   have cx2 := (cx.alloc (.cells #[.int .i64 h.k, .int .i64 h.e, .int .i64 h.b, .int .i64 h.r, .int .i64 h.d, .int .i64 h.g, .int .i64 h.q, .int .i64 h.f, .bool h.o] 33)).drew
   have ch2 := (Bx.newAt W1 33 [.int .i64 h.k, .int .i64 h.e, .int .i64 h.b, .int .i64 h.r, .int .i64 h.d, .int .i64 h.g, .int .i64 h.q, .int .i64 h.f, .bool h.o] (c := W1.heap.size) rfl).drew
   clear b1 v1 l1 hN1 cx hh1 HBa y0 y1 y9 f2 ch c0 c1 c2 c3 c4 c5 c6 c7 c8 c9 c10 g2
   generalize (W1.alloc (.cells #[.int .i64 h.k, .int .i64 h.e, .int .i64 h.b, .int .i64 h.r, .int .i64 h.d, .int .i64 h.g, .int .i64 h.q, .int .i64 h.f, .bool h.o] 33)).drew = W2 at b2 v2 l2 hN2 cx2 ch2 ⊢
   have HBa : Hid (∀ W, Below W2.heap.size W2 W → Calls Tryz.prog 165 #[.pointer (some ⟨vB, 0, none⟩), .int .i64 (i : Int)] W fun e w' => e = .returned (.bool (bareB K.sl i)) ∧ Below W.heap.size W w') := fun W hW => bare_any w0 K vB N i fs W (v2.below hW) HF0.out (l2.belowL hW hN2) (Nat.lt_of_lt_of_le hN2 hW.size) hi hlen
   have q0 := ch2.cell 0 _ rfl
   cases h2 : (h.k == 2)
   ·have HX1 : Hid (homeOkB K.sl i = (s.k == slotKindI (s.t - h.e) && !s.o && bareB K.sl i)) := by unfold Hid; rw [HX.out, h2]; rfl
    obtain ⟨bv, hbv⟩ : ∃ bv, bareB K.sl i = bv := ⟨_, rfl⟩
    have HSk0 : ∀ W, Calls Tryz.prog 164 #[.int .i64 (s.t - h.e)] W fun e w' => e = .returned (.int .i64 (slotKindI (s.t - h.e))) ∧ Below W.heap.size W w' := fun W => (slotKind_any (s.t - h.e) W).mono fun e w' ⟨h1, h2⟩ => ⟨h1, by rw [h2]; exact Below.refl _ _⟩
    obtain ⟨sk, hsk⟩ : ∃ sk, slotKindI (s.t - h.e) = sk := ⟨_, rfl⟩
    rw [hsk] at HSk0 HX1
    rw [hbv] at HX1 HBa
    have HSk : Hid _ := HSk0
    clear HSk0 hsk hbv HX HSl HE2
    clear v2 l2 hN2
    go_upto_region 9 with fail
    have q1 := cell_regrown (ch2.cell 1 _ rfl)
    have q0 := cell_regrown (ch2.cell 0 _ rfl)
    have z0 := cell_regrown (cx2.cell 0 _ rfl)
    have z1 := cell_regrown (cx2.cell 1 _ rfl)
    have z9 := cell_regrown (cx2.cell 9 _ rfl)
    clear ch2 cx2
    cases hkk : (s.k == sk)
    ·have HX : Hid (homeOkB K.sl i = false) := by unfold Hid; rw [HX1.out, hkk]; rfl
     refine wq_region (by kernel_rfl) (by kernel_rfl) ?_
     repeat (first | (refine wq_step (fun K9 hK => ?_); go_simp; first | (refine hK _ ?_; clear hK K9) | (apply Exists.intro; refine ⟨fun _ => ?_, hK _ ?_⟩; (first | (go_at_call 164; exact Calls.regrown_of (HSk.out _)) | (go_at_call 165; exact Calls.regrown_of (HBa.out _ (below_regrown _ _ _)))); clear hK K9)))
     refine wq_nil ?_
     intro _ hw'
     obtain ⟨⟨dq, osq⟩, hw''⟩ := hw'
     subst hw''
     have b9 := b2.trans ((below_regrown W2 dq osq).mono b2.size)
     go_wp2
     go_ret
     exact ⟨ret_bool HX.out.symm, b9⟩
    ·cases hoo : s.o
     ·rw [hoo] at z9
      cases bv
      ·have HX : Hid (homeOkB K.sl i = false) := by unfold Hid; rw [HX1.out, hkk, hoo]; rfl
       refine wq_region (by kernel_rfl) (by kernel_rfl) ?_
       repeat (first | (refine wq_step (fun K9 hK => ?_); go_simp; first | (refine hK _ ?_; clear hK K9) | (apply Exists.intro; refine ⟨fun _ => ?_, hK _ ?_⟩; (first | (go_at_call 164; exact Calls.regrown_of (HSk.out _)) | (go_at_call 165; exact Calls.regrown_of (HBa.out _ (below_regrown _ _ _)))); clear hK K9)))
       refine wq_nil ?_
       intro _ hw'
       obtain ⟨⟨dq, osq⟩, hw''⟩ := hw'
       subst hw''
       have b9 := b2.trans ((below_regrown W2 dq osq).mono b2.size)
       go_wp2
       go_ret
       exact ⟨ret_bool HX.out.symm, b9⟩
      ·have HX : Hid (homeOkB K.sl i = true) := by unfold Hid; rw [HX1.out, hkk, hoo]; rfl
       refine wq_region (by kernel_rfl) (by kernel_rfl) ?_
       repeat (first | (refine wq_step (fun K9 hK => ?_); go_simp; first | (refine hK _ ?_; clear hK K9) | (apply Exists.intro; refine ⟨fun _ => ?_, hK _ ?_⟩; (first | (go_at_call 164; exact Calls.regrown_of (HSk.out _)) | (go_at_call 165; exact Calls.regrown_of (HBa.out _ (below_regrown _ _ _)))); clear hK K9)))
       refine wq_nil ?_
       intro _ hw'
       obtain ⟨⟨dq, osq⟩, hw''⟩ := hw'
       subst hw''
       have b9 := b2.trans ((below_regrown W2 dq osq).mono b2.size)
       go_wp2
       go_ret
       exact ⟨ret_bool HX.out.symm, b9⟩
     ·rw [hoo] at z9
      have HX : Hid (homeOkB K.sl i = false) := by unfold Hid; rw [HX1.out, hkk, hoo]; rfl
      refine wq_region (by kernel_rfl) (by kernel_rfl) ?_
      repeat (first | (refine wq_step (fun K9 hK => ?_); go_simp; first | (refine hK _ ?_; clear hK K9) | (apply Exists.intro; refine ⟨fun _ => ?_, hK _ ?_⟩; (first | (go_at_call 164; exact Calls.regrown_of (HSk.out _)) | (go_at_call 165; exact Calls.regrown_of (HBa.out _ (below_regrown _ _ _)))); clear hK K9)))
      refine wq_nil ?_
      intro _ hw'
      obtain ⟨⟨dq, osq⟩, hw''⟩ := hw'
      subst hw''
      have b9 := b2.trans ((below_regrown W2 dq osq).mono b2.size)
      go_wp2
      go_ret
      exact ⟨ret_bool HX.out.symm, b9⟩
   ·have HX1 : Hid (homeOkB K.sl i = (s.k != 7)) := by unfold Hid; rw [HX.out, h2]; rfl
    have z1 := cx2.cell 1 _ rfl
    cases h7 : (s.k != 7)
    ·rw [h7] at HX1
     go_wp2
     go_ret
     exact ⟨ret_bool HX1.out.symm, b2⟩
    ·rw [h7] at HX1
     go_wp2
     go_ret
     exact ⟨ret_bool HX1.out.symm, b2⟩

end Go.Proofs.YtigpbjcmmgdiaaaGreat
/-
 What CapSize and CapMax of the program answer, at every argument.
-/
namespace Go.Proofs.YtigpbjcmmgdiaaaGreat
open Go.ChangeShapes Go.WideShapes Go.ChangeAt Go.RowKit
set_option linter.unusedVariables false

set_option maxHeartbeats 2000000 in
theorem sizeKind_any (k b : Int) (w : World) :
  Calls Tryz.prog 124 #[.int .i64 k, .int .i64 b] w fun e w' => e = .returned (.int .i64 (szI k b)) ∧ Below w.heap.size w w' := by
 rcases kind_cases k with (h | h | h | h | h | h | h) | ⟨h1, h2, h3, h4, h5, h6, h7⟩
 ·subst h
  have mM := wordsM_1
  go_enter Tryz.func124, Tryz.ntmps124
  go_wp2_with (first | (go_at_call 158; refine (kindOf_any _ _).mono ?_; rintro e w' ⟨rfl, rfl⟩; rw [kindV_1]) | (go_at_call 235; refine (words_1 _ _).mono ?_; rintro e w' ⟨rfl, rfl⟩))
  go_ret
  exact ⟨rfl, (Below.refl _ _).alloc (Nat.le_refl _) _⟩
 ·subst h
  have mM := wordsM_2
  go_enter Tryz.func124, Tryz.ntmps124
  go_wp2_with (first | (go_at_call 158; refine (kindOf_any _ _).mono ?_; rintro e w' ⟨rfl, rfl⟩; rw [kindV_2]) | (go_at_call 238; refine (words_2 _ _).mono ?_; rintro e w' ⟨rfl, rfl⟩))
  go_ret
  exact ⟨rfl, (Below.refl _ _).alloc (Nat.le_refl _) _⟩
 ·subst h
  have mM := wordsM_3
  go_enter Tryz.func124, Tryz.ntmps124
  go_wp2_with (first | (go_at_call 158; refine (kindOf_any _ _).mono ?_; rintro e w' ⟨rfl, rfl⟩; rw [kindV_3]) | (go_at_call 177; refine (words_3 _ _).mono ?_; rintro e w' ⟨rfl, rfl⟩))
  go_ret
  exact ⟨rfl, (Below.refl _ _).alloc (Nat.le_refl _) _⟩
 ·subst h
  have mM := wordsM_4
  go_enter Tryz.func124, Tryz.ntmps124
  go_wp2_with (first | (go_at_call 158; refine (kindOf_any _ _).mono ?_; rintro e w' ⟨rfl, rfl⟩; rw [kindV_4]) | (go_at_call 241; refine (words_4 _ _).mono ?_; rintro e w' ⟨rfl, rfl⟩))
  go_ret
  exact ⟨rfl, (Below.refl _ _).alloc (Nat.le_refl _) _⟩
 ·subst h
  have mM := wordsM_5
  go_enter Tryz.func124, Tryz.ntmps124
  go_wp2_with (first | (go_at_call 158; refine (kindOf_any _ _).mono ?_; rintro e w' ⟨rfl, rfl⟩; rw [kindV_5]) | (go_at_call 244; refine (words_5 _ _).mono ?_; rintro e w' ⟨rfl, rfl⟩))
  go_ret
  exact ⟨rfl, (Below.refl _ _).alloc (Nat.le_refl _) _⟩
 ·subst h
  have mM := wordsM_6
  go_enter Tryz.func124, Tryz.ntmps124
  go_wp2_with (first | (go_at_call 158; refine (kindOf_any _ _).mono ?_; rintro e w' ⟨rfl, rfl⟩; rw [kindV_6]) | (go_at_call 247; refine (words_6 _ _).mono ?_; rintro e w' ⟨rfl, rfl⟩))
  go_ret
  exact ⟨rfl, (Below.refl _ _).alloc (Nat.le_refl _) _⟩
 ·subst h
  have mM := wordsM_7
  go_enter Tryz.func124, Tryz.ntmps124
  go_wp2_with (first | (go_at_call 158; refine (kindOf_any _ _).mono ?_; rintro e w' ⟨rfl, rfl⟩; rw [kindV_7]) | (go_at_call 230; refine (words_7 _ _).mono ?_; rintro e w' ⟨rfl, rfl⟩))
  go_ret
  exact ⟨rfl, (Below.refl _ _).alloc (Nat.le_refl _) _⟩
 ·go_enter Tryz.func124, Tryz.ntmps124
  go_wp2_with (first | (go_at_call 158; refine (kindOf_any _ _).mono ?_; rintro e w' ⟨rfl, rfl⟩; rw [kindV_none h1 h2 h3 h4 h5 h6 h7]))
  go_ret
  exact ⟨ret_int (by simp [szI, *]), Below.refl _ _⟩

end Go.Proofs.YtigpbjcmmgdiaaaGreat
