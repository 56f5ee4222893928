/-
 Whether all slots can be taken back, one behind the other, by the program. Conditions: the view lies in memory, with what each slot came of and where it lies.
-/
import Derived.Test.YtigpbjcmmgdiaaaGreatRl
import Derived.Test.YtigpbjcmmgdiaaaGreatRm
import Derived.Test.YtigpbjcmmgdiaaaGreatRc
import Derived.Test.YtigpbjcmmgdiaaaGreatRj
namespace Go.Proofs.YtigpbjcmmgdiaaaGreat
open Go.ChangeShapes Go.WideShapes Go.ChangeAt Go.RowKit
set_option linter.unusedVariables false

/-- The holds of the first y slots, and p of the next. -/
def doneP (y p : Nat) : List (Nat × Nat) := (List.range y).flatMap (fun z => [(z, 0), (z, 1)]) ++ (List.range p).map (fun q => (y, q))
theorem doneP_next (y p : Nat) : doneP y (p + 1) = doneP y p ++ [(y, p)] := by unfold doneP; rw [List.range_succ, List.map_append, List.append_assoc]; rfl
theorem doneP_two (y : Nat) : doneP y 2 = doneP (y + 1) 0 := by
 unfold doneP; rw [List.range_succ (n := y), List.flatMap_append]
 simp [List.range_succ]
theorem mem_doneP {y p : Nat} (hp : p ≤ 2) (z q : Nat) : (z, q) ∈ doneP y p ↔ (z < y ∧ q < 2) ∨ (z = y ∧ q < p) := by
 unfold doneP
 simp only [List.mem_append, List.mem_flatMap, List.mem_range, List.mem_cons, Prod.mk.injEq, List.not_mem_nil, or_false, List.mem_map]
 constructor
 ·rintro (⟨a, h1, (⟨h2, h3⟩ | ⟨h2, h3⟩)⟩ | ⟨a, h1, h2, h3⟩) <;> omega
 ·rintro (⟨h1, h2⟩ | ⟨h1, h2⟩)
  ·left
   refine ⟨z, h1, ?_⟩
   omega
  ·right; exact ⟨q, h2, by omega, rfl⟩
theorem doneP_nodup (y p : Nat) (hp : p ≤ 2) : (doneP y p).Nodup := by
 have key : ∀ y, (doneP y 0).Nodup := by
  intro y
  induction y with
  | zero => exact List.nodup_nil
  | succ y ih =>
   rw [← doneP_two, doneP_next, doneP_next, List.nodup_append, List.nodup_append]
   refine ⟨⟨ih, by simp, fun a ha b hb => ?_⟩, by simp, fun a ha b hb => ?_⟩
   ·simp at hb; subst hb
    rintro rfl
    have := (mem_doneP (y := y) (p := 0) (by omega) y 0).1 ha; omega
   ·simp at hb; subst hb
    rintro rfl
    rw [← doneP_next] at ha
    have := (mem_doneP (y := y) (p := 1) (by omega) y 1).1 ha; omega
 rcases (by omega : p = 0 ∨ p = 1 ∨ p = 2) with e | e | e
 ·subst e; exact key y
 ·subst e
  rw [doneP_next, List.nodup_append]
  refine ⟨key y, by simp, fun a ha b hb => ?_⟩
  simp at hb; subst hb
  rintro rfl
  have := (mem_doneP (y := y) (p := 0) (by omega) y 0).1 ha; omega
 ·subst e; rw [doneP_two]; exact key (y + 1)
/-- How many hold each. -/
def keptRow (n : Nat) (keep : Nat → Nat → Int) (U : List (Nat × Nat)) : List Value := (List.range n).map (fun x => Value.int .i64 (heldN keep U x : Int))
theorem keptRow_at {n : Nat} {keep : Nat → Nat → Int} {U : List (Nat × Nat)} {x : Nat} (hx : x < n) : (keptRow n keep U)[x]? = some (.int .i64 (heldN keep U x : Int)) := by unfold keptRow; simp [hx]
theorem keptRow_len (n : Nat) (keep : Nat → Nat → Int) (U : List (Nat × Nat)) : (keptRow n keep U).length = n := by unfold keptRow; simp
theorem keptRow_set {n : Nat} {keep : Nat → Nat → Int} {U V : List (Nat × Nat)} {x : Nat} (hx : x < n) (h1 : heldN keep V x = heldN keep V x) (ho : ∀ z, z < n → z ≠ x → heldN keep V z = heldN keep U z) : (keptRow n keep U).set x (.int .i64 (heldN keep V x : Int)) = keptRow n keep V := by
 refine List.ext_getElem? fun k => ?_
 rw [List.getElem?_set]
 by_cases hk : k < n
 ·rw [keptRow_at hk, keptRow_at hk]
  by_cases e : x = k
  ·subst e; rw [if_pos rfl, if_pos (by rw [keptRow_len]; exact hx)]
  ·rw [if_neg e, ho k hk (fun h => e h.symm)]
 ·rw [List.getElem?_eq_none (l := keptRow n keep V) (by rw [keptRow_len]; omega), if_neg (by omega)]
  exact List.getElem?_eq_none (by rw [keptRow_len]; omega)
theorem keptRow_same {n : Nat} {keep : Nat → Nat → Int} {U V : List (Nat × Nat)} (h : ∀ z, z < n → heldN keep V z = heldN keep U z) : keptRow n keep U = keptRow n keep V := by
 unfold keptRow
 exact List.map_congr_left fun z hz => by rw [h z (List.mem_range.1 hz)]
theorem heldN_snoc (keep : Nat → Nat → Int) (U : List (Nat × Nat)) (y p x : Nat) : heldN keep (U ++ [(y, p)]) x = heldN keep U x + (if keep y p = (x : Int) then 1 else 0) := by
 unfold heldN
 rw [List.countP_append]
 congr 1
 simp [List.countP_cons]
theorem heldN_le (keep : Nat → Nat → Int) (U : List (Nat × Nat)) (x : Nat) : heldN keep U x ≤ U.length := List.countP_le_length
theorem doneP_len (y p : Nat) : (doneP y p).length = 2 * y + p := by
 unfold doneP
 rw [List.length_append, List.length_map, List.length_range, List.length_flatMap]
 have : ∀ l : List Nat, (l.map (fun z => [(z, 0), (z, 1)].length)).sum = 2 * l.length := by
  intro l; induction l with
  | nil => rfl
  | cons a l ih => simp at ih ⊢; omega
 rw [this]; simp
/-- What each slot keeps is a slot or nobody. -/
def KeepB (n : Nat) (keep : Nat → Nat → Int) : Prop := ∀ y q, y < n → q < 2 → (keep y q = -1 ∨ ∃ x : Nat, x < n ∧ keep y q = (x : Int))
theorem keepN_b {L : List Sl} : KeepB L.length (keepN L) := by
 intro y q hy hq
 rcases (by omega : q = 0 ∨ q = 1) with e | e
 ·subst e
  rcases cameI_or L y hy with ⟨e1, _⟩ | ⟨u, hu, _, e1, _⟩
  ·exact .inl e1
  ·exact .inr ⟨u, hu, e1⟩
 ·subst e
  have e2 : keepN L y 1 = homeI L L[y].t := by unfold keepN; rw [if_neg (by omega), List.getElem?_eq_getElem hy]
  rw [e2]
  rcases home_or L L[y].t with ⟨e, _⟩ | ⟨k, hk, e, _⟩
  ·exact .inl e
  ·exact .inr ⟨k, hk, e⟩
/-- Those whom nobody holds, among the first k. -/
def freeL (keep : Nat → Nat → Int) (U : List (Nat × Nat)) (k : Nat) : List Nat := (List.range k).filter (fun x => heldN keep U x == 0)
theorem freeL_next (keep : Nat → Nat → Int) (U : List (Nat × Nat)) (k : Nat) : freeL keep U (k + 1) = if heldN keep U k = 0 then freeL keep U k ++ [k] else freeL keep U k := by
 unfold freeL
 rw [List.range_succ, List.filter_append]
 by_cases h : heldN keep U k = 0
 ·rw [if_pos h]; simp [h]
 ·rw [if_neg h]; simp [h]
def natI (g : List Nat) : List Int := g.map (fun x : Nat => (x : Int))
theorem taking_start {n : Nat} {keep : Nat → Nat → Int} : Taking n keep (freeL keep (doneP n 0) n) 0 0 (doneP n 0) := by
 refine taking_init (doneP_nodup n 0 (by omega)) (fun y q => ?_) ?_ (fun x => ?_)
 ·rw [mem_doneP (by omega)]; omega
 ·unfold freeL; exact List.Nodup.sublist List.filter_sublist List.nodup_range
 ·unfold freeL; rw [List.mem_filter, List.mem_range, beq_iff_eq]

theorem natI_len (g : List Nat) : (natI g).length = g.length := by unfold natI; simp
theorem natI_snoc (g : List Nat) (x : Nat) : natI (g ++ [x]) = natI g ++ [(x : Int)] := by unfold natI; simp
set_option maxRecDepth 100000 in
theorem idx2 (a b : Int) (keep : Nat → Nat → Int) (y p : Nat) (hp : p < 2) (h0 : keep y 0 = a) (h1 : keep y 1 = b) (W : World) : (Instr.index 174 (.agg #[.int .i64 a, .int .i64 b]) (.int .i64 (p : Int))).run Tryz.prog W = .ok (.int .i64 (keep y p)) W := by
 have hc : p = 0 ∨ p = 1 := by omega
 clear hp
 subst h0 h1
 rcases hc with rfl | rfl
 all_goals (go_simp; try rfl)
structure EmV (w0 : World) (K : QK) (vB uB hB kB : Nat) (fs : List Value) (w : World) (U : List (Nat × Nat)) (W : World) : Prop where
 v : View w0 K vB fs W
 k : Bx W kB 3 (keptRow K.sl.length (keepN K.sl) U)
 u : Bx W uB 3 (upsRow K.sl)
 h : Bx W hB 3 (homesRow K.sl)
 b : Below w.heap.size w W
theorem EmV.below {w0 : World} {K : QK} {vB uB hB kB : Nat} {fs : List Value} {w W W' : World} {U : List (Nat × Nat)} (h : EmV w0 K vB uB hB kB fs w U W) (hb : Below W.heap.size W W') : EmV w0 K vB uB hB kB fs w U W' := ⟨h.v.below hb, h.k.below hb, h.u.below hb, h.h.below hb, h.b.trans (hb.mono h.b.size)⟩
theorem EmV.grown {w0 : World} {K : QK} {vB uB hB kB : Nat} {fs : List Value} {w W W' : World} {U : List (Nat × Nat)} {row : Option Nat} (h : EmV w0 K vB uB hB kB fs w U W) (hg : W.grownBy W' row) (hr : ∀ r, row = some r → kB < r) (h1 : vB < kB) (h2 : uB < kB) (h3 : hB < kB) (h4 : w.heap.size ≤ kB) (h5 : w0.heap.size ≤ kB) : EmV w0 K vB uB hB kB fs w U W' :=
 ⟨h.v.grown hg (fun b e => by have := hr b e; omega), h.k.grown hg (fun e => by have := hr kB e; omega), h.u.grown hg (fun e => by have := hr uB e; omega), h.h.grown hg (fun e => by have := hr hB e; omega), belowRow h.b hg (fun b e => by have := hr b e; omega) h.b.size⟩
theorem EmV.set {w0 : World} {K : QK} {vB uB hB kB : Nat} {fs : List Value} {w W : World} {U V : List (Nat × Nat)} (h : EmV w0 K vB uB hB kB fs w U W) (x : Nat) (z : Value) (e : (keptRow K.sl.length (keepN K.sl) U).set x z = keptRow K.sl.length (keepN K.sl) V) (h1 : vB < kB) (h2 : uB < kB) (h3 : hB < kB) (h4 : w.heap.size ≤ kB) (h5 : w0.heap.size ≤ kB) : EmV w0 K vB uB hB kB fs w V (W.setCell ⟨kB, x, none⟩ z) :=
 ⟨h.v.far (by omega) h5 z, by rw [← e]; exact h.k.set x z, h.u.far z (by omega), h.h.far z (by omega), h.b.setCell (p := ⟨kB, x, none⟩) h4 z⟩
theorem EmV.same {w0 : World} {K : QK} {vB uB hB kB : Nat} {fs : List Value} {w W : World} {U V : List (Nat × Nat)} (h : EmV w0 K vB uB hB kB fs w U W) (e : keptRow K.sl.length (keepN K.sl) U = keptRow K.sl.length (keepN K.sl) V) : EmV w0 K vB uB hB kB fs w V W := ⟨h.v, by rw [← e]; exact h.k, h.u, h.h, h.b⟩
def emIn1 (w0 : World) (K : QK) (vB uB hB kB : Nat) (fs : List Value) (w : World) (v : Value) (W : World) : Prop :=
 ∃ i : Nat, i ≤ K.sl.length ∧ v = .int .i64 (i : Int) ∧ EmV w0 K vB uB hB kB fs w (doneP i 0) W
def emIn2 (w0 : World) (K : QK) (vB uB hB kB : Nat) (fs : List Value) (w : World) (i : Nat) (v : Value) (W : World) : Prop :=
 ∃ p : Nat, p ≤ 2 ∧ v = .int .i64 (p : Int) ∧ EmV w0 K vB uB hB kB fs w (doneP i p) W
def emIn3 (w0 : World) (K : QK) (vB uB hB kB : Nat) (fs : List Value) (w : World) (gv v : Value) (W : World) : Prop :=
 ∃ i : Nat, i ≤ K.sl.length ∧ v = .int .i64 (i : Int) ∧ EmV w0 K vB uB hB kB fs w (doneP K.sl.length 0) W ∧ OwnG fI 3 W (kB + 1) gv (natI (freeL (keepN K.sl) (doneP K.sl.length 0) i))
def emIn4 (w0 : World) (K : QK) (vB uB hB kB : Nat) (fs : List Value) (w : World) (gv v : Value) (W : World) : Prop :=
 ∃ (i : Nat) (g : List Nat) (U : List (Nat × Nat)), i ≤ g.length ∧ v = .int .i64 (i : Int) ∧ Taking K.sl.length (keepN K.sl) g i 0 U ∧ EmV w0 K vB uB hB kB fs w U W ∧ OwnG fI 3 W (kB + 1) gv (natI g)
def emIn5 (w0 : World) (K : QK) (vB uB hB kB : Nat) (fs : List Value) (w : World) (i y : Nat) (gv v : Value) (W : World) : Prop :=
 ∃ (p : Nat) (g : List Nat) (U : List (Nat × Nat)), p ≤ 2 ∧ v = .int .i64 (p : Int) ∧ g[i]? = some y ∧ Taking K.sl.length (keepN K.sl) g i p U ∧ EmV w0 K vB uB hB kB fs w U W ∧ OwnG fI 3 W (kB + 1) gv (natI g)
theorem len_le {n : Nat} {keep : Nat → Nat → Int} {g : List Nat} {i p : Nat} {U : List (Nat × Nat)} (h : Taking n keep g i p U) : g.length ≤ n := by
 have := sub_len g (List.range n) h.nd (fun x hx => List.mem_range.2 (h.lt x hx))
 simpa using this
theorem u_le {n : Nat} {keep : Nat → Nat → Int} {g : List Nat} {i p : Nat} {U : List (Nat × Nat)} (h : Taking n keep g i p U) : U.length ≤ 2 * n := by
 have := sub_len U (doneP n 0) h.un (fun x hx => (mem_doneP (by omega) x.1 x.2).2 (.inl (by have := (h.at_ x.1 x.2).1 hx; exact ⟨this.1, this.2.1⟩)))
 rw [doneP_len] at this; omega
theorem heldN_erase_ne {keep : Nat → Nat → Int} {U : List (Nat × Nat)} {y p x : Nat} (h : keep y p ≠ (x : Int)) : heldN keep (U.erase (y, p)) x = heldN keep U x := by
 by_cases hm : (y, p) ∈ U
 ·unfold heldN
  have hc := countP_out (p := fun e : Nat × Nat => keep e.1 e.2 == (x : Int)) hm
  have : ¬ ((keep y p == (x : Int)) = true) := by simpa using h
  rw [if_neg this] at hc
  omega
 ·rw [List.erase_of_not_mem hm]
theorem natI_at {g : List Nat} {i y : Nat} (h : g[i]? = some y) : ∃ hi : i < (natI g).length, (natI g)[i] = (y : Int) := by
 obtain ⟨hi, e⟩ := List.getElem?_eq_some_iff.1 h
 refine ⟨by rw [natI_len]; exact hi, ?_⟩
 unfold natI
 rw [List.getElem_map, e]
theorem intInfoX : (Tryz.prog.info? 3).map (fun i => (i.zero, i.size, i.bytes)) = some (some (.int .i64 0), 1, 8) := by kernel_rfl
set_option maxRecDepth 100000 in
set_option maxHeartbeats 16000000 in
theorem emptiesOk_any (w0 : World) (K : QK) (vB uB hB : Nat) (fs : List Value) (w : World) (hs : K.Short) (h : View w0 K vB fs w) (hf1 : fs[1]? = some (.slice (some ⟨uB, 0, none⟩) K.sl.length K.sl.length)) (hf2 : fs[2]? = some (.slice (some ⟨hB, 0, none⟩) K.sl.length K.sl.length)) (hu : Bx w uB 3 (upsRow K.sl)) (hh : Bx w hB 3 (homesRow K.sl)) (b : Bool) (hb : b = true ↔ Acyc K.sl.length (Holds (keepN K.sl))) :
  Calls Tryz.prog 70 #[.pointer (some ⟨vB, 0, none⟩)] w fun e w' => e = .returned (.bool b) ∧ Below w.heap.size w w' := by
 have hlen := hs.s
 have HBb : Hid (b = true ↔ Acyc K.sl.length (Holds (keepN K.sl))) := hb
 have HF1 : Hid (fs[1]? = some (.slice (some ⟨uB, 0, none⟩) K.sl.length K.sl.length)) := hf1
 have HF2 : Hid (fs[2]? = some (.slice (some ⟨hB, 0, none⟩) K.sl.length K.sl.length)) := hf2
 have HK : Hid (∀ (y : Nat), y < K.sl.length → ∀ (U : List (Nat × Nat)) (W : World), EmV w0 K vB uB hB w.heap.size fs w U W → _) := fun y hy U W hE => keeps_any w0 K vB uB hB y fs W hE.v hf1 hf2 hE.u hE.h hy hlen
 have HKb : Hid (KeepB K.sl.length (keepN K.sl)) := keepN_b
 have HLt : Hid (vB < w.heap.size ∧ uB < w.heap.size ∧ hB < w.heap.size ∧ w0.heap.size ≤ w.heap.size) := ⟨h.lt, hu.lt, hh.lt, h.bw.size⟩
 have hmk := makeInts K.sl.length (by omega) w
 have g2 := h.cs
 have bA := (Below.refl w.heap.size w).alloc (Nat.le_refl _) (.cells (Array.replicate K.sl.length (Value.int .i64 0)) 3)
 have S0 : EmV w0 K vB uB hB w.heap.size fs w (doneP 0 0) (w.alloc (.cells (Array.replicate K.sl.length (Value.int .i64 0)) 3)) := by
  refine ⟨h.below bA, ?_, hu.below bA, hh.below bA, bA⟩
  have := Bx.new w 3 (List.replicate K.sl.length (Value.int .i64 0))
  have e : keptRow K.sl.length (keepN K.sl) (doneP 0 0) = List.replicate K.sl.length (.int .i64 0) := by
   refine List.ext_getElem? fun m => ?_
   by_cases hm : m < K.sl.length
   ·rw [keptRow_at hm, List.getElem?_replicate_of_lt hm]; rfl
   ·rw [List.getElem?_eq_none (by rw [keptRow_len]; omega), List.getElem?_eq_none (by simp; omega)]
  rw [e]; simpa using this
 clear hs hb hf1 hf2 h hu hh bA
 go_enter Tryz.func70, Tryz.ntmps70
 go_upto_region 2 with fail
 generalize w.alloc (.cells (Array.replicate K.sl.length (Value.int .i64 0)) 3) = W1 at S0 ⊢
 obtain ⟨kB, hkB⟩ : ∃ kB, w.heap.size = kB := ⟨_, rfl⟩
 rw [hkB] at S0 HK HLt ⊢
 have HKB : Hid (w.heap.size = kB) := hkB
 clear hkB hmk g2
 go_wp2
 go_loopw [22] (fun v W => emIn1 w0 K vB uB hB kB fs w v W) (fun v W => K.sl.length - (intOf v).toNat)
 case atStart => exact ⟨0, Nat.zero_le _, rfl, S0⟩
 case round =>
  clear S0
  obtain ⟨i, hi, rfl, S⟩ := hrel
  by_cases hlt : i < K.sl.length
  ·as_aux_lemma =>
   have hk1 : (i : Int) < (K.sl.length : Int) := by omega
   have HC : Hid _ := HK.out i hlt _ _ S
   have HS : Hid _ := S
   clear S
   go_wp2_with (go_at_call 126; refine Calls.mono HC.out ?_; rintro e w5 ⟨rfl, hb5⟩; have S := HS.out.below hb5)
   go_loopw [28] (fun v W => emIn2 w0 K vB uB hB kB fs w i v W) (fun v W => 2 - (intOf v).toNat)
   case atStart => exact ⟨0, by omega, rfl, S⟩
   case round =>
    clear S
    obtain ⟨p, hp, rfl, S⟩ := hrel
    by_cases hlp : p < 2
    ·as_aux_lemma =>
     have hkp : (p : Int) < 2 := by omega
     have hidx := idx2 (keepN K.sl i 0) (keepN K.sl i 1) (keepN K.sl) i p hlp rfl rfl
     obtain ⟨z1, z2, z3, z4⟩ := HLt.out
     rcases HKb.out i p hlt hlp with e | ⟨x, hx, e⟩
     ·rw [e] at hidx
      have HX : Hid (EmV w0 K vB uB hB kB fs w (doneP i (p + 1)) wr) := by
       rw [doneP_next]
       exact S.same (keptRow_same fun z hz => by rw [heldN_snoc, if_neg (by omega)]; rfl)
      clear S e
      go_wp2
      go_roundw
      case rel => exact ⟨p + 1, by omega, by go_num, HX.out⟩
      case measure => simp [intOf]; omega
     ·rw [e] at hidx
      have hxi : (x : Int) < (K.sl.length : Int) := by omega
      have hx0 : decide ((0 : Int) ≤ (x : Int)) = true := by simp
      have c0 := S.k.cell x _ (keptRow_at hx)
      have cz := S.k.frozen x
      have hle := heldN_le (keepN K.sl) (doneP i p) x
      rw [doneP_len] at hle
      have hnx := heldN_snoc (keepN K.sl) (doneP i p) i p x
      rw [if_pos e] at hnx
      have HX : Hid (∀ W', W' = wr.setCell ⟨kB, x, none⟩ (.int .i64 ((heldN (keepN K.sl) (doneP i p) x : Int) + 1)) → EmV w0 K vB uB hB kB fs w (doneP i (p + 1)) W') := by
       rintro W' rfl
       rw [doneP_next]
       refine S.set x _ ?_ z1 z2 z3 (by have := HKB.out; omega) z4
       have := keptRow_set (U := doneP i p) (V := doneP i p ++ [(i, p)]) (keep := keepN K.sl) hx rfl (fun z hz hne => by rw [heldN_snoc, if_neg (by omega)]; rfl)
       rw [hnx] at this
       push_cast at this
       exact this
      generalize heldN (keepN K.sl) (doneP i p) x = hn at c0 hle HX
      have hw1 : IntKind.i64.wrap ((hn : Int) + 1) = (hn : Int) + 1 := by rw [IntKind.wrap_i64]; omega
      clear S e hnx
      go_wp2
      go_roundw
      case rel => exact ⟨p + 1, by omega, by go_num, HX.out _ rfl⟩
      case measure => simp [intOf]; omega
    ·have hkp : ¬ (p : Int) < 2 := by omega
     have hpe : p = 2 := by omega
     rw [hpe, doneP_two] at S
     clear hpe
     go_wp2
     go_roundw
     case rel => exact ⟨i + 1, by omega, by go_num, S⟩
     case measure => simp [intOf]; omega
  ·have hk1 : ¬ (i : Int) < (K.sl.length : Int) := by omega
   have hie : i = K.sl.length := by omega
   rw [hie] at S
   clear hie hi
   have hown := OwnG.nil fI 3 wr (kB + 1)
   have e0 : natI (freeL (keepN K.sl) (doneP K.sl.length 0) 0) = [] := rfl
   rw [← e0] at hown
   clear e0
   go_wp2
   go_loopw [7, 43] (fun gv v W => emIn3 w0 K vB uB hB kB fs w gv v W) (fun gv v W => K.sl.length - (intOf v).toNat)
   case atStart => exact ⟨0, Nat.zero_le _, rfl, S, hown⟩
   case round =>
    clear S hown hk1
    obtain ⟨k, hk, rfl, S, hown0⟩ := hrel
    obtain ⟨gP, gc, rfl, hli, _, _, _, _, hob⟩ := hown0.form
    obtain ⟨z1, z2, z3, z4⟩ := HLt.out
    have hkb := HKB.out
    by_cases hlt : k < K.sl.length
    ·as_aux_lemma =>
     have hk1 : (k : Int) < (K.sl.length : Int) := by omega
     have c0 := S.k.cell k _ (keptRow_at hlt)
     have hfn := freeL_next (keepN K.sl) (doneP K.sl.length 0) k
     obtain ⟨gg, hgg⟩ : ∃ gg, freeL (keepN K.sl) (doneP K.sl.length 0) k = gg := ⟨_, rfl⟩
     have hql : gg.length ≤ k := by rw [← hgg]; unfold freeL; have := List.length_filter_le (fun x => heldN (keepN K.sl) (doneP K.sl.length 0) x == 0) (List.range k); simpa using this
     rw [hgg] at hown0 hfn hli ⊢
     have HFn : Hid _ := hfn
     obtain ⟨hn, hhn⟩ : ∃ hn, heldN (keepN K.sl) (doneP K.sl.length 0) k = hn := ⟨_, rfl⟩
     rw [hhn] at c0
     have HHn : Hid _ := hhn
     have hnl : hn ≤ 2 * K.sl.length := by rw [← hhn]; have := heldN_le (keepN K.sl) (doneP K.sl.length 0) k; rw [doneP_len] at this; omega
     clear hgg hfn hhn
     cases hz : ((hn : Int) == 0)
     ·have HX : Hid (freeL (keepN K.sl) (doneP K.sl.length 0) (k + 1) = gg) := by unfold Hid; rw [HFn.out, if_neg (by rw [HHn.out]; simp at hz; omega)]
      rw [natI_len] at hown0 ⊢
      have HO : Hid _ := hown0
      have HSS : Hid _ := S
      clear hown0 S
      go_wp2
      go_roundw
      case rel => exact ⟨k + 1, by omega, by go_num, HSS.out, by rw [HX.out]; exact HO.out⟩
      case measure => simp [intOf]; omega
     ·have HX : Hid (freeL (keepN K.sl) (doneP K.sl.length 0) (k + 1) = gg ++ [k]) := by unfold Hid; rw [HFn.out, if_pos (by rw [HHn.out]; simp at hz; omega)]
      obtain ⟨i0, hi0, hzz⟩ := Option.map_eq_some_iff.1 intInfoX
      simp only [Prod.mk.injEq] at hzz
      obtain ⟨hy1, hs0, hy0⟩ := hzz
      rw [natI_len] at hown0 hob ⊢
      obtain ⟨q, hq⟩ : ∃ q, gg.length = q := ⟨_, rfl⟩
      have hwl : kB < wr.heap.size := S.k.lt
      have ohA := hown0.below ((Below.refl wr.heap.size wr).alloc (Nat.le_refl _) (.cells #[.int .i64 (k : Int)] 3))
      rw [hq] at ohA hown0 hql ⊢
      have hown : (wr.alloc (.cells #[.int .i64 (k : Int)] 3)).ownsRow (kB + 1) 3 1 (.slice gP q gc) q (cellsG fI (natI gg)) := by
       have := ohA; unfold OwnG at this; rw [natI_len, hq] at this; exact this
      have HQ : Hid (gg.length = q) := hq
      have HSS : Hid _ := S
      clear hq ohA hown0 S hob hli
      go_wp2_with (at_builtin; refine wpList_append_own _ rfl _ _ 27 rfl (kB + 1) 3 i0 (.int .i64 0) 1 8 Tryz.underlying27 hi0 hy1 hs0 hy0 rfl (by decide) (.slice gP q gc) q (cellsG fI (natI gg)) rfl hown ⟨wr.heap.size, 0, none⟩ 1 1 (fI.cel ((k : Int) : Int)) rfl rfl (newsG (F := fI) ((k : Int) : Int) 3) (by simp [fI, Value.oneCell']) (by unfold maxLen; omega) (by omega) (by simp; omega) ?_; intro v2 w5 own2 gr2 _; obtain ⟨g3, cap3, rfl⟩ := own_some own2 (by omega))
      go_roundw
      case rel =>
       have hfar : ∀ b, (Value.slice gP q gc).ownBlock = some b → kB < b := fun b e => by have := (hown.lt b e).1; omega
       refine ⟨k + 1, by omega, by go_num, (HSS.out.below ((Below.refl wr.heap.size wr).alloc (Nat.le_refl _) (.cells #[.int .i64 (k : Int)] 3))).grown gr2 hfar z1 z2 z3 (by omega) z4, ?_⟩
       rw [HX.out, natI_snoc]
       exact OwnG.snoc (F := fI) _ (by rw [natI_len, HQ.out]) own2
      case measure => simp [intOf]; omega
    ·have hk1 : ¬ (k : Int) < (K.sl.length : Int) := by omega
     have hke : k = K.sl.length := by omega
     rw [hke] at hown0 hli ⊢
     have T0 : Taking K.sl.length (keepN K.sl) (freeL (keepN K.sl) (doneP K.sl.length 0) K.sl.length) 0 0 (doneP K.sl.length 0) := taking_start
     clear hke hk hob
     go_wp2
     go_loopw [7, 10] (fun gv v W => emIn4 w0 K vB uB hB kB fs w gv v W) (fun gv v W => K.sl.length + 1 - (intOf v).toNat)
     case atStart => exact ⟨0, _, _, Nat.zero_le _, rfl, T0, S, hown0⟩
     case round =>
      clear T0 S hown0 hk1 hli
      obtain ⟨i, g, U, hig, rfl, T, S, hown0⟩ := hrel
      obtain ⟨gP, gc, rfl, hli, _, _, _, _, hob⟩ := hown0.form
      rw [natI_len]
      have hgl := len_le T
      by_cases hlt : i < g.length
      ·as_aux_lemma =>
       have hk1 : (i : Int) < (g.length : Int) := by omega
       obtain ⟨y, hy⟩ : ∃ y, g[i]? = some y := ⟨_, List.getElem?_eq_getElem hlt⟩
       obtain ⟨hyi, hye⟩ := natI_at hy
       obtain ⟨B, O, hP⟩ := hli.has hyi
       rw [hP] at hli
       have c0 := atI hli hyi
       rw [hye] at c0
       have hix : ∀ W, (Instr.indexAt 27 (.slice gP g.length gc) (.int .i64 (i : Int))).run Tryz.prog W = .ok (.pointer (some ⟨B, O + i, none⟩)) W := fun W => by rw [hP]; go_simp
       have hyn : y < K.sl.length := T.lt y (List.mem_of_getElem? hy)
       have HC : Hid _ := HK.out y hyn _ _ S
       have HS : Hid _ := S
       have HO : Hid (OwnG fI 3 wr (kB + 1) (.slice gP g.length gc) (natI g)) := by rw [natI_len] at hown0; exact hown0
       have HTk : Hid _ := T
       have HYg : Hid (g[i]? = some y) := hy
       have HgN : Hid (i < K.sl.length) := by unfold Hid; omega
       clear hP hli hye hyi hy S T hown0 hob hig
       go_wp2_with (go_at_call 126; refine Calls.mono HC.out ?_; rintro e w5 ⟨rfl, hb5⟩; have S := HS.out.below hb5; have ho5 := HO.out.below hb5)
       go_loopw [7, 67] (fun gv v W => emIn5 w0 K vB uB hB kB fs w i y gv v W) (fun gv v W => 2 - (intOf v).toNat)
       case atStart => exact ⟨0, g, U, by omega, rfl, HYg.out, HTk.out, S, ho5⟩
       case round =>
        clear S ho5 c0 hix hlt hk1 hgl
        clear HO HTk HYg HC HS
        obtain ⟨p, g, U, hp, rfl, hy, T, S, hown0⟩ := hrel
        obtain ⟨gP, gc, rfl, _, _, _, _, _, _⟩ := hown0.form
        rw [natI_len] at hown0 ⊢
        have hgl := len_le T
        have hul := u_le T
        by_cases hlp : p < 2
        ·as_aux_lemma =>
         have hkp : (p : Int) < 2 := by omega
         have hidx := idx2 (keepN K.sl y 0) (keepN K.sl y 1) (keepN K.sl) y p hlp rfl rfl
         obtain ⟨z1, z2, z3, z4⟩ := HLt.out
         have hkb := HKB.out
         rcases HKb.out y p hyn hlp with e | ⟨x, hx, e⟩
         ·rw [e] at hidx
          have HT2 : Hid _ := taking_none T hy hlp (fun x hx => by rw [e]; omega)
          have HX : Hid (EmV w0 K vB uB hB kB fs w (U.erase (y, p)) wr) := S.same (keptRow_same fun z hz => heldN_erase_ne (by rw [e]; omega))
          have HO : Hid _ := hown0
          have HY : Hid _ := hy
          clear S e T hown0 hy
          go_wp2
          go_roundw
          case rel => exact ⟨p + 1, g, _, by omega, by go_num, HY.out, HT2.out, HX.out, HO.out⟩
          case measure => simp [intOf]; omega
         ·rw [e] at hidx
          have hxi : (x : Int) < (K.sl.length : Int) := by omega
          have hx0 : decide ((x : Int) < 0) = false := by simp
          obtain ⟨t1, t2, t3, t4⟩ := taking_some T hy hlp hx e
          have c0 := S.k.cell x _ (keptRow_at hx)
          have cz := S.k.frozen x
          have hle := heldN_le (keepN K.sl) U x
          have HSet : Hid (∀ W', W' = wr.setCell ⟨kB, x, none⟩ (.int .i64 ((heldN (keepN K.sl) U x : Int) - 1)) → EmV w0 K vB uB hB kB fs w (U.erase (y, p)) W') := by
           rintro W' rfl
           refine S.set x _ ?_ z1 z2 z3 (by omega) z4
           have := keptRow_set (U := U) (V := U.erase (y, p)) (keep := keepN K.sl) hx rfl (fun z hz hne => t3 z hne)
           rw [t2] at this
           have e9 : ((heldN (keepN K.sl) U x - 1 : Nat) : Int) = (heldN (keepN K.sl) U x : Int) - 1 := by omega
           rw [e9] at this
           exact this
          have hkl : kB < wr.heap.size := S.k.lt
          have HOs : Hid (∀ v, OwnG fI 3 (wr.setCell ⟨kB, x, none⟩ v) (kB + 1) (.slice gP g.length gc) (natI g)) := fun v => OwnG.farB hown0 v (fun e => by have := (OwnG.lt hown0 kB e).1; omega)
          have HT2 : Hid _ := t4
          have HY : Hid _ := hy
          have c1 : (wr.setCell ⟨kB, x, none⟩ (.int .i64 ((heldN (keepN K.sl) U x : Int) - 1))).cell? ⟨kB, x, none⟩ = some (.int .i64 ((heldN (keepN K.sl) U x : Int) - 1)) := World.cell?_setCell_same' _ _ _ (by rw [c0]; rfl)
          obtain ⟨hn, hhn⟩ : ∃ hn, heldN (keepN K.sl) U x = hn := ⟨_, rfl⟩
          rw [hhn] at c0 c1 t1 hle HSet HT2
          have hw1 : IntKind.i64.wrap ((hn : Int) - 1) = (hn : Int) - 1 := by rw [IntKind.wrap_i64]; omega
          clear S e T hown0 hy t2 t3 t4 hhn
          cases hz : (((hn : Int) - 1) == 0)
          ·have hzz : ¬ hn - 1 = 0 := by simp at hz; omega
           rw [if_neg hzz] at HT2
           clear hzz
           go_wp2
           go_roundw
           case rel => exact ⟨p + 1, g, _, by omega, by go_num, HY.out, HT2.out, HSet.out _ rfl, HOs.out _⟩
           case measure => simp [intOf]; omega
          ·have hzz : hn - 1 = 0 := by simp at hz; omega
           rw [if_pos hzz] at HT2
           clear hzz
           obtain ⟨i0, hi0, hzz⟩ := Option.map_eq_some_iff.1 intInfoX
           simp only [Prod.mk.injEq] at hzz
           obtain ⟨hy1, hs0, hy0⟩ := hzz
           obtain ⟨q, hq⟩ : ∃ q, g.length = q := ⟨_, rfl⟩
           obtain ⟨W2, hW2⟩ : ∃ W2, wr.setCell ⟨kB, x, none⟩ (.int .i64 ((hn : Int) - 1)) = W2 := ⟨_, rfl⟩
           have S2 := HSet.out W2 hW2.symm
           have ho2 := HOs.out (.int .i64 ((hn : Int) - 1))
           rw [hW2] at ho2 c1
           have hwl : kB < W2.heap.size := S2.k.lt
           have ohA := ho2.below ((Below.refl W2.heap.size W2).alloc (Nat.le_refl _) (.cells #[.int .i64 (x : Int)] 3))
           rw [hq] at ohA hgl ⊢
           have hown : (W2.alloc (.cells #[.int .i64 (x : Int)] 3)).ownsRow (kB + 1) 3 1 (.slice gP q gc) q (cellsG fI (natI g)) := by
            have := ohA; unfold OwnG at this; rw [natI_len, hq] at this; exact this
           have HQ : Hid (g.length = q) := hq
           have HW2 : Hid (wr.setCell ⟨kB, x, none⟩ (.int .i64 ((hn : Int) - 1)) = W2) := hW2
           have HS2 : Hid _ := S2
           have HC1 : Hid (W2.cell? ⟨kB, x, none⟩ = some (.int .i64 ((hn : Int) - 1))) := c1
           clear hq ohA ho2 S2 HSet HOs hW2 c1
           go_upto_region 27 with fail
           rw [HW2.out]
           have c1 := HC1.out
           clear c0 HW2
           go_wp2_with (at_builtin; refine wpList_append_own _ rfl _ _ 27 rfl (kB + 1) 3 i0 (.int .i64 0) 1 8 Tryz.underlying27 hi0 hy1 hs0 hy0 rfl (by decide) (.slice gP q gc) q (cellsG fI (natI g)) rfl hown ⟨W2.heap.size, 0, none⟩ 1 1 (fI.cel ((x : Int) : Int)) rfl rfl (newsG (F := fI) ((x : Int) : Int) 3) (by simp [fI, Value.oneCell']) (by unfold maxLen; omega) (by omega) (by simp; omega) ?_; intro v2 w5 own2 gr2 _; obtain ⟨g3, cap3, rfl⟩ := own_some own2 (by omega))
           go_roundw
           case rel =>
            have hfar : ∀ b, (Value.slice gP q gc).ownBlock = some b → kB < b := fun b e => by have := (hown.lt b e).1; omega
            have hyx : (g ++ [x])[i]? = some y := by
             have hy9 := HY.out
             rw [List.getElem?_append_left (List.getElem?_eq_some_iff.1 hy9).1]; exact hy9
            refine ⟨p + 1, g ++ [x], _, by omega, by go_num, hyx, HT2.out, (HS2.out.below ((Below.refl W2.heap.size W2).alloc (Nat.le_refl _) (.cells #[.int .i64 (x : Int)] 3))).grown gr2 hfar z1 z2 z3 (by omega) z4, ?_⟩
            rw [natI_snoc]
            exact OwnG.snoc (F := fI) _ (by rw [natI_len, HQ.out]) own2
           case measure => simp [intOf]; omega
        ·have hkp : ¬ (p : Int) < 2 := by omega
         have hpe : p = 2 := by omega
         rw [hpe] at T
         have HT2 : Hid _ := taking_next T (List.getElem?_eq_some_iff.1 hy).1
         have h9 := HgN.out
         have HLe : Hid (i < g.length) := (List.getElem?_eq_some_iff.1 hy).1
         have HSS : Hid _ := S
         have HO : Hid _ := hown0
         clear hpe T S hown0 hy
         go_wp2
         go_roundw
         case rel => exact ⟨i + 1, g, U, HLe.out, by go_num, HT2.out, HSS.out, HO.out⟩
         case measure => simp [intOf]; omega
      ·have hk1 : ¬ (i : Int) < (g.length : Int) := by omega
       have hie : i = g.length := by omega
       rw [hie] at T
       have hend := taking_end T
       have HX : Hid (b = decide ((g.length : Int) = (K.sl.length : Int))) := by
        unfold Hid
        have := HBb.out
        cases b with
        | false =>
         symm
         simp only [decide_eq_false_iff_not]
         intro e9
         have := this.2 (hend.1 (by omega))
         cases this
        | true =>
         symm
         simp only [decide_eq_true_eq]
         have := hend.2 (this.1 rfl)
         omega
       have g2 := S.v.cs
       have HB : Hid _ := S.b
       clear T hend S hown0 hie hli hob
       go_wp2
       go_ret
       exact ⟨ret_bool HX.out.symm, by have := HB.out; rw [HKB.out] at this; exact this⟩

end Go.Proofs.YtigpbjcmmgdiaaaGreat
