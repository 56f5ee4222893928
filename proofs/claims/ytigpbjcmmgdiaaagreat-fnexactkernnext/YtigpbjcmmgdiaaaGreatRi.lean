/-
  Texts of the proof, put together: ViewC, ViewS.
-/
import Derived.Test.YtigpbjcmmgdiaaaGreatRg
import Derived.Test.YtigpbjcmmgdiaaaGreatBw
import Derived.Test.YtigpbjcmmgdiaaaGreatRa
import Derived.Test.YtigpbjcmmgdiaaaGreatRh
import Derived.BigRegion
/-
 The first look at the slots, by the program: the links, what each came of, where each lies. Conditions: the view lies in memory.
-/
namespace Go.Proofs.YtigpbjcmmgdiaaaGreat
open Go.ChangeShapes Go.WideShapes Go.ChangeAt Go.RowKit
set_option linter.unusedVariables false

/-- The place of the last of the first k slots that lies there. -/
def placeR (L : List Sl) : Nat → Int → Option Int
 | 0, _ => none
 | k + 1, x => if some x = (L[k]?).map Sl.t then some (k : Int) else placeR L k x
theorem placeR_step {L : List Sl} {k : Nat} (hk : k < L.length) : putF (placeR L k) L[k].t (k : Int) = placeR L (k + 1) := by
 funext x
 unfold putF
 rw [placeR, List.getElem?_eq_getElem hk]
 simp
theorem cell_same {W W' : World} {b : Nat} (h : W'.heap[b]? = W.heap[b]?) (o : Nat) : W'.cell? ⟨b, o, none⟩ = W.cell? ⟨b, o, none⟩ := by simp [World.cell?, h]
theorem Linked.same {W W' : World} {N : Nat} {L : List Sl} (h : Linked W N L) (hs : W'.heap[N]? = W.heap[N]?) : Linked W' N L :=
 ⟨fun i hi => (cell_same hs _).trans (h.place i hi), fun i hi => (cell_same hs _).trans (h.depth i hi), fun i hi => (cell_same hs _).trans (h.ahead i hi), fun i hi => (cell_same hs _).trans (h.behind i hi)⟩
theorem Linked.far {W : World} {N : Nat} {L : List Sl} (h : Linked W N L) {c k : Nat} (v : Value) (hc : N ≠ c) : Linked (W.setCell ⟨c, k, none⟩ v) N L := h.same (Below.heap_setCell _ ⟨c, k, none⟩ _ N hc)
theorem Linked.belowL {W W' : World} {N : Nat} {L : List Sl} (h : Linked W N L) (hb : Below W.heap.size W W') (hN : N < W.heap.size) : Linked W' N L := h.same (hb.block N hN)
theorem Linked.but {W W' : World} {N g : Nat} {L : List Sl} (h : Linked W N L) (hb : But g W W') (hN : N < W.heap.size) (hg : N ≠ g) : Linked W' N L := h.same (hb.block N hN (fun e => hg (by injection e)))
theorem eqNil (a : Addr) (n c : Nat) (w : World) : (binOp .eql 87 (.slice (some a) n c) (.slice none 0 0)).run Tryz.prog w = .ok (.bool false) w := by kernel_rfl
/-- What a view has behind slotsOk, but for the addresses in their order. -/
structure SlotsV (w0 : World) (K : QK) (vB N uB pB : Nat) (k : Nat) (rest : List Value) (W : World) : Prop where
 v : View w0 K vB (.slice (some ⟨N, 0, none⟩) K.sl.length K.sl.length :: .slice (some ⟨uB, 0, none⟩) K.sl.length K.sl.length :: .slice none 0 0 :: .map (some pB) :: rest) W
 l : Linked W N K.sl
 ln : N < W.heap.size
 nv : vB < N ∧ N < uB ∧ uB < pB
 u : Bx W uB 3 (upsRow K.sl)
 m : MapI W pB k (placeR K.sl k)
def rest8 : List Value := [.map none, .map none, .map none, .map none, .map none, .map none, .map none, .map none]
def rest9 : List Value := .slice none 0 0 :: rest8
def fs0 : List Value := [.slice none 0 0, .slice none 0 0, .slice none 0 0, .map none, .slice none 0 0, .map none, .map none, .map none, .map none, .map none, .map none, .map none, .map none]

theorem eqNil2 (w : World) : (binOp .eql 87 (.slice none 0 0) (.slice none 0 0)).run Tryz.prog w = .ok (.bool true) w := by kernel_rfl
set_option maxRecDepth 100000 in
set_option maxHeartbeats 8000000 in
theorem slotsOk_no (w0 : World) (K : QK) (vB : Nat) (w : World) (hs : K.Short) (hcap : K.sl.length ≤ K.sc) (hcm : K.sc ≤ 9223372036854775807) (hfit : ∀ s ∈ K.sl, s.Fit) (hT : treeB K.sl = false) (h : View w0 K vB fs0 w) :
  Calls Tryz.prog 63 #[.pointer (some ⟨vB, 0, none⟩)] w fun e w' => e = .returned (.bool false) ∧ Below w0.heap.size w0 w' := by
 have hlen := hs.s
 have hvl := h.lt
 have g2 := h.cs
 have l0 := h.snd 0 _ rfl
 have hz := h.frozen
 have HLi0 := fun W (hW : Lies W K.sP K.sl) => links_no K.sP K.sc K.sl W hlen hcap hcm hW hfit hT
 have HLi : Hid _ := HLi0
 clear HLi0 hT
 go_enter Tryz.func63, Tryz.ntmps63
 go_upto_region 2 with (go_at_call 100; refine Calls.mono (HLi.out _ h.b.s) ?_; rintro e w1 ⟨rfl, hb1⟩; have h1 := h.below hb1; have l1 := h1.snd 0 _ rfl; have hz1 := h1.frozen)
 have v2 := h1.set 0 (.slice none 0 0)
 have f0 := v2.snd 0 _ rfl
 have hen := fun W => eqNil2 W
 clear h h1 hb1 l0 l1 hz hz1 g2 hvl
 generalize w1.setCell ⟨vB, 15 + 0, none⟩ (.slice none 0 0) = W2 at v2 f0 ⊢
 go_wp2
 go_ret
 exact ⟨rfl, v2.bw⟩

end Go.Proofs.YtigpbjcmmgdiaaaGreat
/-
 The first look at the slots, by the program, and what stays as it was. Conditions: the view lies in memory.
-/
namespace Go.Proofs.YtigpbjcmmgdiaaaGreat
open Go.ChangeShapes Go.WideShapes Go.ChangeAt Go.RowKit
set_option linter.unusedVariables false

theorem But.grow {g p : Nat} {w W W' : World} (h : But g w W) (h2 : But p W W') (hp : w.heap.size ≤ p) : But g w W' :=
 ⟨h2.os.trans h.os, h2.tape.trans h.tape, h2.output.trans h.output, Nat.le_trans h.size h2.size, fun k hk hn => (h2.block k (Nat.lt_of_lt_of_le hk h.size) (fun e => by injection e with e; omega)).trans (h.block k hk hn)⟩
def plInvB (w0 : World) (K : QK) (vB N uB pB : Nat) (rest : List Value) (w : World) (v : Value) (W : World) : Prop :=
 ∃ k : Nat, k ≤ K.sl.length ∧ v = .int .i64 (k : Int) ∧ SlotsV w0 K vB N uB pB k rest W ∧ But vB w W
set_option maxRecDepth 100000 in
set_option maxHeartbeats 8000000 in
theorem slotsOk_but (w0 : World) (K : QK) (vB : Nat) (w : World) (hs : K.Short) (hcap : K.sl.length ≤ K.sc) (hcm : K.sc ≤ 9223372036854775807) (hfit : ∀ s ∈ K.sl, s.Fit) (hT : treeB K.sl = true) (h : View w0 K vB fs0 w) :
  Calls Tryz.prog 63 #[.pointer (some ⟨vB, 0, none⟩)] w fun e w' => e = .returned (.bool true) ∧ ∃ N uB pB av A, SlotsV w0 K vB N uB pB K.sl.length (av :: rest8) w' ∧ OwnG fI 3 w' (pB + 1) av A ∧ AtsP (placeR K.sl K.sl.length) A ∧ But vB w w' := by
 have hlen := hs.s
 have hvl := h.lt
 have HWs : Hid (w0.heap.size ≤ w.heap.size) := h.bw.size
 have g2 := h.cs
 have l0 := h.snd 0 _ rfl
 have hz := h.frozen
 have HLi0 := fun W (hW : Lies W K.sP K.sl) => links_yes K.sP K.sc K.sl W hlen hcap hcm hW hfit hT
 have HUp0 := fun W (hW : Lies W K.sP K.sl) => treeUps_any K.sP K.sc K.sl W hlen hW hT
 have hmm := makeMap_hint K.sl.length (by omega)
 have HLi : Hid _ := HLi0
 have HUp : Hid _ := HUp0
 have HTr : Hid (treeB K.sl = true) := hT
 clear HLi0 HUp0 hT
 go_enter Tryz.func63, Tryz.ntmps63
 go_upto_region 2 with (go_at_call 100; refine Calls.mono (HLi.out _ h.b.s) ?_; rintro e w1 ⟨N, hN, rfl, hl1, hb1⟩; have h1 := h.below hb1; have l1 := h1.snd 0 _ rfl; have hz1 := h1.frozen)
 have hLk := hl1.linked
 have hNl := hl1.lt
 have hvN : vB < N := Nat.lt_of_lt_of_le hvl hN
 have v2 : View w0 K vB (.slice (some ⟨N, 0, none⟩) K.sl.length K.sl.length :: .slice none 0 0 :: .slice none 0 0 :: .map none :: rest9) (w1.setCell ⟨vB, 15, none⟩ (.slice (some ⟨N, 0, none⟩) K.sl.length K.sl.length)) := h1.set 0 (.slice (some ⟨N, 0, none⟩) K.sl.length K.sl.length)
 have B2 := (But.of vB hb1).set 15 (.slice (some ⟨N, 0, none⟩) K.sl.length K.sl.length)
 have L2 := hLk.far (c := vB) (k := 15) (.slice (some ⟨N, 0, none⟩) K.sl.length K.sl.length) (by omega)
 have n2 : N < (w1.setCell ⟨vB, 15, none⟩ (.slice (some ⟨N, 0, none⟩) K.sl.length K.sl.length)).heap.size := by simpa using hNl
 clear h h1 hl1 hb1 hLk hNl hN l0 l1 hz hz1 g2 hvl
 generalize w1.setCell ⟨vB, 15, none⟩ (.slice (some ⟨N, 0, none⟩) K.sl.length K.sl.length) = W2 at v2 L2 n2 B2 ⊢
 have g2 := v2.cs
 have f0 := v2.snd 0 _ rfl
 have hen := fun W => eqNil ⟨N, 0, none⟩ K.sl.length K.sl.length W
 go_upto_region 4 with fail
 go_upto_region 5 with (go_at_call 101; refine Calls.mono (HUp.out _ v2.b.s) ?_; rintro e w3 ⟨rfl, hu3, hb3⟩; have v3 := v2.below hb3; have l3 := v3.snd 1 _ rfl; have hz3 := v3.frozen)
 obtain ⟨uB, huB⟩ : ∃ uB, W2.heap.size = uB := ⟨_, rfl⟩
 rw [huB] at hu3 n2 ⊢
 have B3 := (B2.trans (But.of vB hb3)).set 16 (.slice (some ⟨uB, 0, none⟩) K.sl.length K.sl.length)
 have L3 := L2.belowL hb3 (by rw [huB]; exact n2)
 have v4 : View w0 K vB (.slice (some ⟨N, 0, none⟩) K.sl.length K.sl.length :: .slice (some ⟨uB, 0, none⟩) K.sl.length K.sl.length :: .slice none 0 0 :: .map none :: rest9) (w3.setCell ⟨vB, 16, none⟩ (.slice (some ⟨uB, 0, none⟩) K.sl.length K.sl.length)) := v3.set 1 (.slice (some ⟨uB, 0, none⟩) K.sl.length K.sl.length)
 have L4 := L3.far (c := vB) (k := 16) (.slice (some ⟨uB, 0, none⟩) K.sl.length K.sl.length) (by omega)
 have u4 : Bx (w3.setCell ⟨vB, 16, none⟩ (.slice (some ⟨uB, 0, none⟩) K.sl.length K.sl.length)) uB 3 (upsRow K.sl) := Bx.far hu3 (.slice (some ⟨uB, 0, none⟩) K.sl.length K.sl.length) (by omega)
 have hus : uB < (w3.setCell ⟨vB, 16, none⟩ (.slice (some ⟨uB, 0, none⟩) K.sl.length K.sl.length)).heap.size := u4.lt
 clear v2 L2 B2 g2 f0 hu3 hb3 v3 l3 hz3 L3 huB
 generalize w3.setCell ⟨vB, 16, none⟩ (.slice (some ⟨uB, 0, none⟩) K.sl.length K.sl.length) = W4 at v4 L4 u4 hus B3 ⊢
 have g2 := v4.cs
 have f3 := v4.snd 3 _ rfl
 have z4 := v4.frozen
 have hv4 := v4.lt
 have ne1 : ¬ vB = W4.heap.size := by omega
 have ne2 : ¬ W4.heap.size = vB := by omega
 have v5 := v4.below ((Below.refl _ _).alloc (Nat.le_refl _) (.map #[] 0))
 have f5 := v5.snd 3 _ rfl
 have z5 := v5.frozen
 go_upto_region 6 with fail
 have v6 : View w0 K vB (.slice (some ⟨N, 0, none⟩) K.sl.length K.sl.length :: .slice (some ⟨uB, 0, none⟩) K.sl.length K.sl.length :: .slice none 0 0 :: .map (some W4.heap.size) :: rest9) (W4.setCell ⟨vB, 18, none⟩ (.map (some W4.heap.size))) := v4.set 3 _
 have v7 := v6.below ((Below.refl _ _).alloc (Nat.le_refl _) (.map #[] 0))
 have L7 := (L4.far (c := vB) (k := 18) (.map (some W4.heap.size)) (by omega)).belowL ((Below.refl _ _).alloc (Nat.le_refl _) (.map #[] 0)) (by simp; omega)
 have u7 := (u4.far (c := vB) (k := 18) (.map (some W4.heap.size)) (by omega)).alloc (.map #[] 0)
 have m7 := MapI.new (W4.setCell ⟨vB, 18, none⟩ (.map (some W4.heap.size)))
 have e7 : (W4.setCell ⟨vB, 18, none⟩ (.map (some W4.heap.size))).heap.size = W4.heap.size := by simp
 rw [e7] at m7
 have B7 : But vB w ((W4.setCell ⟨vB, 18, none⟩ (.map (some W4.heap.size))).alloc (.map #[] 0)) := (B3.set 18 _).trans (But.of vB ((Below.refl _ _).alloc (Nat.le_refl _) (.map #[] 0)))
 have hpw : w.heap.size ≤ W4.heap.size := B3.size
 have S7 : SlotsV w0 K vB N uB W4.heap.size 0 rest9 ((W4.setCell ⟨vB, 18, none⟩ (.map (some W4.heap.size))).alloc (.map #[] 0)) := ⟨v7, L7, by simp; omega, ⟨hvN, n2, hus⟩, u7, m7⟩
 clear B3 v4 L4 u4 g2 f3 z4 hv4 ne1 ne2 v5 f5 z5 v6 v7 L7 u7 m7 e7 hus
 generalize (W4.setCell ⟨vB, 18, none⟩ (.map (some W4.heap.size))).alloc (.map #[] 0) = W5 at S7 B7 ⊢
 generalize W4.heap.size = pB at S7 hpw ⊢
 have g2 := S7.v.cs
 go_wp2
 go_loopw [43] (fun v W => plInvB w0 K vB N uB pB rest9 w v W) (fun v W => K.sl.length - (intOf v).toNat)
 case atStart => exact ⟨0, Nat.zero_le _, rfl, S7, B7⟩
 case round =>
  clear S7 B7 g2
  obtain ⟨k, hk, rfl, S, hB⟩ := hrel
  have HB : Hid _ := hB
  clear hB
  have g2 := S.v.cs
  have g18 := S.v.snd 3 _ rfl
  by_cases hlt : k < K.sl.length
  ·have hk1 : (k : Int) < (K.sl.length : Int) := by omega
   have hrow := S.v.b.s
   obtain ⟨B, O, hP⟩ := hrow.some hlt
   rw [hP] at hrow g2
   have c0 := (hrow.cells B O rfl k hlt).c0
   have ht := tree_ok HTr.out k hlt
   obtain ⟨t, htq⟩ : ∃ t, K.sl[k].t = t := ⟨_, rfl⟩
   rw [htq] at c0 ht
   obtain ⟨W', hrun, hm, hg⟩ := (S.m.below (Below.refl _ _).drew).put (by unfold maxLen; omega) (x := t) (y := (k : Int)) ⟨by omega, by omega⟩ ⟨by omega, by omega⟩
   have HM : Hid (MapI W' pB (k + 1) (placeR K.sl (k + 1))) := by unfold Hid; rw [← placeR_step hlt, htq]; exact hm
   have HG : Hid _ := hg
   clear hP hm hg htq hrow ht
   go_upto_region 9 with fail
   go_region
   go_wp2
   go_roundw
   case rel =>
    have hg := HG.out
    obtain ⟨n1, n2, n3⟩ := S.nv
    have hlt1 := S.ln
    have hlt2 := S.u.lt
    have hle := S.v.le
    exact ⟨k + 1, by omega, by go_num, ⟨S.v.drew.but hg (by omega) (by omega), S.l.same (hg.block N hlt1 (fun e => by injection e with e; omega)), Nat.lt_of_lt_of_le hlt1 hg.size, S.nv, S.u.drew.but hg (by omega), HM.out⟩, But.grow (But.trans HB.out (But.of vB (Below.refl wr.heap.size wr).drew)) hg hpw⟩
   case measure => simp [intOf]; omega
  ·have hk1 : ¬ (k : Int) < (K.sl.length : Int) := by omega
   have hke : k = K.sl.length := by omega
   rw [hke] at S
   clear hke
   go_upto_region 11 with fail
   clear g2
   obtain ⟨n1, n2, n3⟩ := S.nv
   have hvl := S.v.lt
   have hpl := S.m.lt
   obtain ⟨D, hown, hr⟩ := S.m
   have hsz := hown.size_le
   have hmax : Maps.size D ≤ maxLen := by unfold maxLen; omega
   have hby : Maps.size D * 8 ≤ 140737488355328 := by omega
   have HK := fun W => Tryz.keysOf (some pB) W
   have HSt0 := Tryz.sortedOf (H := Unit) pB _ D _ wr hown hmax hby
   have HSt : Hid _ := HSt0
   have HOw : Hid _ := hown
   have HRd : Hid _ := hr
   clear HSt0 hown hr hmax hby hsz
   go_wp2_with (first
    | (go_at_call 103; refine Calls.mono (HK _) ?_; rintro e w8 ⟨rfl, hw8⟩; subst hw8)
    | (go_at_call 102; refine Calls.mono HSt.out ?_; rintro e w9 ⟨av, ss, rfl, hp, hrow, hnil, hb9⟩; have ho : OwnG fI 3 w9 (wr.heap.size + 1) av (ss.mergeSort leI) := (by unfold OwnG; rw [← cells_encZ, List.length_mergeSort]; exact hrow); obtain ⟨A, hA⟩ : ∃ A, ss.mergeSort leI = A := ⟨_, rfl⟩; rw [hA] at ho; have HA : Hid _ := hA; clear hA; obtain ⟨P, cap, rfl, hli, _, _, hform, _, hob⟩ := ho.form; have hb10 : Below wr.heap.size wr w9 := ((Below.refl _ _).alloc (Nat.le_refl _) (.cells #[.map (some pB)] 88)).trans (hb9.mono (Nat.le_succ _)); have v9 := S.v.below hb10; have l9 := v9.snd 4 _ rfl; have z9 := v9.frozen; clear hrow hnil hli))
   go_ret
   have hne : (Value.slice P A.length cap).ownBlock ≠ some vB := by
    rw [hob]
    intro e
    obtain ⟨a, ha, hb⟩ := Option.map_eq_some_iff.1 e
    obtain ⟨B, O, sh⟩ := a
    cases hP2 : P with
    | none => rw [hP2] at ha; cases ha
    | some a2 =>
     have := OwnG.lt ho vB (by rw [hob, e])
     omega
   exact ⟨rfl, N, uB, pB, _, A, ⟨v9.set 4 _, (S.l.belowL hb10 S.ln).far _ (by omega), by simpa using Nat.lt_of_lt_of_le S.ln hb10.size, S.nv, (S.u.below hb10).far _ (by omega), MapI.setCell (MapI.below ⟨D, HOw.out, HRd.out⟩ hb10) (by simp; omega) _⟩, OwnG.rebase (base := wr.heap.size + 1) (base' := pB + 1) (OwnG.farB (base := wr.heap.size + 1) ho _ hne) (Nat.succ_le_succ (Nat.le_of_lt hpl)), by rw [← HA.out]; exact sorted_keys HOw.out HRd.out hp, But.set (But.trans HB.out (But.of vB hb10)) 19 _⟩

end Go.Proofs.YtigpbjcmmgdiaaaGreat
