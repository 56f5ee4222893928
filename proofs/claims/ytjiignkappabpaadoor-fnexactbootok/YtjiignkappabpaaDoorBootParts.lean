/-
  The parts of a plan, as the specification lays them.
-/
import Derived.Test.YtjiignkappabpaaDoorBootNext
import Derived.Deep.RegionHeld3
namespace Go.Proofs.YtjiignkappabpaaDoor
open Go.ChangeShapes Go.WideShapes Go.ChangeAt Go.RowKit
set_option linter.unusedVariables false

def sizesS (i : Nat) : List QD → List (Int × Int)
  | [] => []
  | d :: D => (32, ((i + 1 : Nat) : Int)) :: (32, ((i + 1 : Nat) : Int)) :: (sizeI d.bt, ((i + 1 : Nat) : Int)) :: sizesS (i + 1) D
def sizesK (i : Nat) : List LP → List (Int × Int)
  | [] => []
  | x :: L => (szI x.1 x.2.1, ((i + 1 : Nat) : Int)) :: sizesK (i + 1) L
def layP : List QA → List (Int × Int) → List QA
  | A, [] => A
  | A, x :: r => layP (A ++ [⟨upI (lastE A) x.1, x.1, x.2⟩]) r
theorem layP_append : ∀ (r t : List (Int × Int)) (A : List QA), layP A (r ++ t) = layP (layP A r) t
  | [], _, _ => rfl
  | x :: r, t, A => by simp only [List.cons_append, layP, layP_append r t]
theorem layP_length : ∀ (r : List (Int × Int)) (A : List QA), (layP A r).length = A.length + r.length
  | [], A => by simp [layP]
  | x :: r, A => by simp only [layP, layP_length r, List.length_append, List.length_cons, List.length_nil]; omega
theorem sizesS_append : ∀ (D E : List QD) (i : Nat), sizesS i (D ++ E) = sizesS i D ++ sizesS (i + D.length) E
  | [], _, i => by simp [sizesS]
  | d :: D, E, i => by simp only [List.cons_append, sizesS, sizesS_append D E, List.length_cons]; rw [show i + 1 + D.length = i + (D.length + 1) by omega]
theorem sizesK_append : ∀ (D E : List LP) (i : Nat), sizesK i (D ++ E) = sizesK i D ++ sizesK (i + D.length) E
  | [], _, i => by simp [sizesK]
  | d :: D, E, i => by simp only [List.cons_append, sizesK, sizesK_append D E, List.length_cons]; rw [show i + 1 + D.length = i + (D.length + 1) by omega]
theorem sizesS_length : ∀ (D : List QD) (i : Nat), (sizesS i D).length = 3 * D.length
  | [], _ => rfl
  | d :: D, i => by simp only [sizesS, List.length_cons, sizesS_length D]; omega
theorem sizesK_length : ∀ (D : List LP) (i : Nat), (sizesK i D).length = D.length
  | [], _ => rfl
  | d :: D, i => by simp only [sizesK, List.length_cons, sizesK_length D]
/-- The parts. -/
def partsS (D : List QD) (L : List LP) : List QA := layP (layP [] (sizesS 0 D)) (sizesK D.length L)
theorem Tight.snoc {A : List QA} (h : Tight A) (s l : Int) (h0 : 0 ≤ s) (h1 : s ≤ 4096) : Tight (A ++ [⟨upI (lastE A) s, s, l⟩]) := by
  intro x hx
  rcases List.mem_append.1 hx with hx | hx
  · exact h x hx
  · rw [List.mem_singleton.1 hx]
    have := upI_bound (lastE A) s (lastE_bound h).1 h0 h1
    exact ⟨this.1, this.2, h0, h1⟩
theorem partsD_take {D : List QD} {k : Nat} (hk : k < D.length) : layP [] (sizesS 0 (D.take (k + 1))) =
    layP (layP [] (sizesS 0 (D.take k))) [(32, ((k + 1 : Nat) : Int)), (32, ((k + 1 : Nat) : Int)), (sizeI D[k].bt, ((k + 1 : Nat) : Int))] := by
  have : (D.take k).length = k := by simp; omega
  rw [List.take_succ_eq_append_getElem hk, sizesS_append, layP_append, this, Nat.zero_add]
  rfl
theorem partsL_take {L : List QL} {k : Nat} (A : List QA) (i : Nat) (hk : k < L.length) : layP A (sizesK i ((L.take (k + 1)).map QL.pl)) =
    layP (layP A (sizesK i ((L.take k).map QL.pl))) [(szI L[k].kd L[k].bt, ((i + k + 1 : Nat) : Int))] := by
  have : ((L.take k).map QL.pl).length = k := by simp; omega
  rw [List.take_succ_eq_append_getElem hk, List.map_append, sizesK_append, layP_append, this]
  rfl

theorem wrap_small (a : Int) (h0 : 0 ≤ a) (h1 : a ≤ 1000) : IntKind.i64.wrap a = a := by rw [IntKind.wrap_i64]; omega
theorem wrap_two (a b : Nat) (h0 : a ≤ 100) (h1 : b ≤ 100) : IntKind.i64.wrap (IntKind.i64.wrap ((a : Int) + 1) + (b : Int)) = ((a + b + 1 : Nat) : Int) := by
  rw [wrap_small ((a : Int) + 1) (by omega) (by omega), wrap_small _ (by omega) (by omega)]; omega

structure PartI (w : World) (p : List Value) (w' : World) (v : Value) (A : List QA) : Prop where
  b0 : Bx w' w.heap.size 31 p
  own : OwnG fA 47 w' (w.heap.size + 1) v A
  bw : Below w.heap.size w w'
  sz : w.heap.size + 1 ≤ w'.heap.size
  t : Tight A
theorem PartI.next {w W W' : World} {p : List Value} {v v' : Value} {A A' : List QA} (h : PartI w p W v A) (own : OwnG fA 47 W' (w.heap.size + 1) v' A') (hb : Below (w.heap.size + 1) W W') (hs : w.heap.size + 1 ≤ W'.heap.size) (ht : Tight A') : PartI w p W' v' A' :=
  ⟨h.b0.out hb (by omega), own, h.bw.trans (hb.mono (by omega)), hs, ht⟩
def partInv1 (w : World) (p : List Value) (dl : List QD) (v i : Value) (w' : World) : Prop :=
  ∃ k : Nat, k ≤ dl.length ∧ i = .int .i64 k ∧ PartI w p w' v (layP [] (sizesS 0 (dl.take k)))
def partInv2 (w : World) (p : List Value) (dl : List QD) (ll : List QL) (v i : Value) (w' : World) : Prop :=
  ∃ k : Nat, k ≤ ll.length ∧ i = .int .i64 k ∧ PartI w p w' v (layP (layP [] (sizesS 0 dl)) (sizesK dl.length ((ll.take k).map QL.pl)))

set_option maxRecDepth 100000 in
set_option maxHeartbeats 1000000 in
theorem parts_any (bits : Int) (dP : Option Addr) (dc : Nat) (dl : List QD) (lP : Option Addr) (lc : Nat) (ll : List QL) (w : World) (hd0 : LiesG fD w dP dl) (hl0 : LiesG fL w lP ll) (hd : dl.length ≤ 100) (hl : ll.length ≤ 100) :
    Calls Tryd.prog 13 #[.agg #[.int .i64 bits, .slice dP dl.length dc, .slice lP ll.length lc]] w fun e w' => ∃ v, e = .returned v ∧ OwnG fA 47 w' (w.heap.size + 1) v (partsS dl (ll.map QL.pl)) ∧ Tight (partsS dl (ll.map QL.pl)) ∧ Below w.heap.size w w' := by
  have hx := (Bx.new w 31 [.int .i64 bits, .slice dP dl.length dc, .slice lP ll.length lc]).alloc (.cells #[] 47)
  have bw : Below w.heap.size w ((w.alloc (.cells #[.int .i64 bits, .slice dP dl.length dc, .slice lP ll.length lc] 31)).alloc (.cells #[] 47)) := ((Below.refl _ _).alloc (Nat.le_refl _) _).alloc (by simp) _
  go_enter Tryd.func13, Tryd.ntmps13
  go_wp2
  go_loopw [3, 4] (fun v i w' => partInv1 w [.int .i64 bits, .slice dP dl.length dc, .slice lP ll.length lc] dl v i w') (fun v i w' => dl.length - (intOf i).toNat)
  case atStart =>
    refine ⟨0, Nat.zero_le _, rfl, hx, ?_, bw, by simp, fun x hx => by cases hx⟩
    have := OwnG.made fA 47 (w.alloc (.cells #[.int .i64 bits, .slice dP dl.length dc, .slice lP ll.length lc] 31)) (w.heap.size + 1) #[] 0 (by simp) (Nat.zero_le _) rfl
    rw [World.size_alloc] at this
    exact this
  case round =>
    clear hx bw
    obtain ⟨k, hk, rfl, I⟩ := hrel
    have hD := hd0.below I.bw
    have y1 := I.b0.cell 1 _ rfl
    by_cases hlt : k < dl.length
    · obtain ⟨B, O, rfl⟩ := hD.has hlt
      have cc := atD hD hlt
      have hbl := hd0.lt hlt
      have h1 := partsD_take hlt
      generalize dl[k] = d at cc h1
      have H1 : Hid _ := h1
      clear h1
      have hAl : (layP [] (sizesS 0 (dl.take k))).length ≤ 300 := by rw [layP_length, sizesS_length, List.length_take]; simp; omega
      generalize layP [] (sizesS 0 (dl.take k)) = A at *
      obtain ⟨c0, c1, c2⟩ := cc
      have hk1 : (k : Int) < (dl.length : Int) := by omega
      have hsb := sizeI_bd d.bt
      obtain ⟨kk, hkk⟩ : ∃ q : Int, q = ((k + 1 : Nat) : Int) := ⟨_, rfl⟩
      have HK : Hid _ := hkk
      have hk2 : (k : Int) + 1 = kk := by omega
      clear hkk
      go_wp2_with fail
      refine Calls.mono (next_any _ A 32 kk wr (w.heap.size + 1) I.own I.sz (by omega) I.t (by omega) (by omega)) ?_
      rintro e w1 ⟨v1, rfl, own1, hb1, hs1⟩
      have I1 := I.next own1 hb1 hs1 (I.t.snoc 32 kk (by omega) (by omega))
      go_wp2_with fail
      refine Calls.mono (next_any _ _ 32 kk w1 (w.heap.size + 1) I1.own I1.sz (by simp; omega) I1.t (by omega) (by omega)) ?_
      rintro e w2 ⟨v2, rfl, own2, hb2, hs2⟩
      have I2 := I1.next own2 hb2 hs2 (I1.t.snoc 32 kk (by omega) (by omega))
      have hbB : B < w.heap.size + 1 := by omega
      have f1 := I2.b0.cell 1 _ rfl
      have f2 := (hb2.cell (p := ⟨B, O + k * 3 + 2, none⟩) hbB).trans ((hb1.cell (p := ⟨B, O + k * 3 + 2, none⟩) hbB).trans c2)
      go_wp2_with ((go_at_call 14; refine Calls.mono (sizeSpec_any d.bt _) ?_; rintro e w9 ⟨rfl, hw⟩; have hw := hw.symm; subst hw))
      refine Calls.mono (next_any _ _ (sizeI d.bt) kk w2 (w.heap.size + 1) I2.own I2.sz (by simp; omega) I2.t (by omega) (by omega)) ?_
      rintro e w3 ⟨v3, rfl, own3, hb3, hs3⟩
      have I3 := I2.next own3 hb3 hs3 (I2.t.snoc (sizeI d.bt) kk (by omega) (by omega))
      go_wp2_with fail
      go_roundw
      case rel => exact ⟨k + 1, by omega, by have := HK.out; go_num, by rw [H1.out, ← HK.out]; exact I3⟩
      case measure => simp [intOf]; omega
    · have hk1 : ¬ (k : Int) < (dl.length : Int) := by omega
      rw [List.take_of_length_le (by omega)] at I
      go_wp2_with fail
      go_loopw [3, 5] (fun v i w' => partInv2 w [.int .i64 bits, .slice dP dl.length dc, .slice lP ll.length lc] dl ll v i w') (fun v i w' => ll.length - (intOf i).toNat)
      case atStart => exact ⟨0, Nat.zero_le _, rfl, I⟩
      case round =>
        clear I y1
        obtain ⟨k, hk, rfl, I⟩ := hrel
        have hL1 := hl0.below I.bw
        have y2 := I.b0.cell 2 _ rfl
        by_cases hlt : k < ll.length
        · obtain ⟨B, O, rfl⟩ := hL1.has hlt
          have cc := atL hL1 hlt
          have hbl := hl0.lt hlt
          have h1 := partsL_take (layP [] (sizesS 0 dl)) dl.length hlt
          generalize ll[k] = x at cc h1
          obtain ⟨skd, sbt, sP, sc, sl⟩ := x
          simp only at cc h1
          have H1 : Hid _ := h1
          clear h1
          have hAl : (layP (layP [] (sizesS 0 dl)) (sizesK dl.length ((ll.take k).map QL.pl))).length ≤ 900 := by rw [layP_length, layP_length, sizesS_length, sizesK_length, List.length_map, List.length_take]; simp; omega
          generalize layP (layP [] (sizesS 0 dl)) (sizesK dl.length ((ll.take k).map QL.pl)) = A at *
          obtain ⟨c0, c1, c2⟩ := cc
          have hk1 : (k : Int) < (ll.length : Int) := by omega
          have hsb := szI_bound skd sbt
          obtain ⟨kk, hkk⟩ : ∃ q : Int, q = ((dl.length + k + 1 : Nat) : Int) := ⟨_, rfl⟩
          have HK : Hid _ := hkk
          have hk2 : (dl.length : Int) + 1 + (k : Int) = kk := by omega
          clear hkk
          have y1 := I.b0.cell 1 _ rfl
          go_upto_region 11 with fail
          have s0 : (wr.cell? ⟨w.heap.size, 1, none⟩ = some (.slice dP dl.length dc) ∧ wr.cell? ⟨w.heap.size, 2, none⟩ = some (.slice (some ⟨B, O, none⟩) ll.length lc)) ∧ (wr.cell? ⟨B, O + k * 3, none⟩ = some (.int .i64 skd) ∧ wr.cell? ⟨B, O + k * 3 + 1, none⟩ = some (.int .i64 sbt)) := ⟨⟨y1, y2⟩, ⟨c0, c1⟩⟩
          have s0d : (wr.drew.cell? ⟨w.heap.size, 1, none⟩ = some (.slice dP dl.length dc) ∧ wr.drew.cell? ⟨w.heap.size, 2, none⟩ = some (.slice (some ⟨B, O, none⟩) ll.length lc)) ∧ (wr.drew.cell? ⟨B, O + k * 3, none⟩ = some (.int .i64 skd) ∧ wr.drew.cell? ⟨B, O + k * 3 + 1, none⟩ = some (.int .i64 sbt)) := ⟨⟨y1, y2⟩, ⟨c0, c1⟩⟩
          go_region_held3 (fun w' => (w'.cell? ⟨w.heap.size, 1, none⟩ = some (.slice dP dl.length dc) ∧ w'.cell? ⟨w.heap.size, 2, none⟩ = some (.slice (some ⟨B, O, none⟩) ll.length lc)) ∧ (w'.cell? ⟨B, O + k * 3, none⟩ = some (.int .i64 skd) ∧ w'.cell? ⟨B, O + k * 3 + 1, none⟩ = some (.int .i64 sbt))) (first | exact s0 | exact s0d | exact s1)
            (first
              | (go_at_call 25; refine Calls.mono (sizeSpecKind_any skd sbt _) ?_; rintro e w9 ⟨rfl, hw⟩; have hw := hw.symm; subst hw)
              | (go_at_call 24; refine Calls.mono (next_any _ A (szI skd sbt) _ _ (w.heap.size + 1) I.own.drew I.sz (by omega) I.t (by omega) (by omega)) ?_; rintro e w1 ⟨v1, rfl, own1, hb1, hs1⟩; have s1 : (w1.cell? ⟨w.heap.size, 1, none⟩ = some (.slice dP dl.length dc) ∧ w1.cell? ⟨w.heap.size, 2, none⟩ = some (.slice (some ⟨B, O, none⟩) ll.length lc)) ∧ (w1.cell? ⟨B, O + k * 3, none⟩ = some (.int .i64 skd) ∧ w1.cell? ⟨B, O + k * 3 + 1, none⟩ = some (.int .i64 sbt)) := ⟨⟨(hb1.cell (p := ⟨w.heap.size, 1, none⟩) (by simp)).trans y1, (hb1.cell (p := ⟨w.heap.size, 2, none⟩) (by simp)).trans y2⟩, ⟨(hb1.cell (p := ⟨B, O + k * 3, none⟩) (by simp; omega)).trans c0, (hb1.cell (p := ⟨B, O + k * 3 + 1, none⟩) (by simp; omega)).trans c1⟩⟩))
          have I1 : PartI w _ w1 v1 _ := PartI.next ⟨I.b0.drew, I.own.drew, I.bw.drew, I.sz, I.t⟩ own1 hb1 hs1 (I.t.snoc _ _ (by omega) (by omega))
          rw [wrap_two dl.length k (by omega) (by omega)] at I1
          go_wp2_with fail
          go_roundw
          case rel => exact ⟨k + 1, by omega, by go_num, by rw [H1.out]; exact I1⟩
          case measure => simp [intOf]; omega
        · have hk1 : ¬ (k : Int) < (ll.length : Int) := by omega
          rw [List.take_of_length_le (by omega)] at I
          go_wp2_with fail
          go_ret
          exact ⟨_, rfl, I.own, I.t, I.bw⟩

end Go.Proofs.YtjiignkappabpaaDoor
