/-
  How the program lays the parts of a plan.
-/
import Derived.Test.YtjiignkappabpaaDoorBootLayC
import Derived.Deep.RegionHeld3
import Derived.Deep.AppendLies
import Derived.Deep.RegionLaw
import Derived.Deep.CutRange
import Derived.Deep.DeepCutAuto
import Derived.WalkSmall
namespace Go.Proofs.YtjiignkappabpaaDoor
open Go.ChangeShapes Go.WideShapes Go.ChangeAt Go.RowKit
set_option linter.unusedVariables false

/-- The originals of what a domain has of its own: where they lie, and the bits of its region. -/
structure QH where
  n : Int
  t : Int
  r : Int
  b : Int
/-- The original of something shared. -/
structure QC where
  k : Int
  a : Int
  b : Int
theorem capL_len (k a b : Int) : (capL k a b).length = 9 := rfl
def fH : Form QH := ⟨27, fun h => capL 2 h.n 3 ++ capL 3 h.t 0 ++ capL 1 h.r h.b, fun _ => rfl, by decide⟩
def fC : Form QC := ⟨9, fun c => capL c.k c.a c.b, fun _ => rfl, by decide⟩

def homeOf (a : Int) (d : QD) : QH := ⟨upI a 32, upI (layE a 32) 32, upI (layE (layE a 32) 32) (szI 1 d.bt), d.bt⟩
def nextD (a : Int) (d : QD) : Int := layE (layE (layE a 32) 32) (szI 1 d.bt)
def homesOf : Int → List QD → List QH
  | _, [] => []
  | a, d :: D => homeOf a d :: homesOf (nextD a d) D
def sharedOf : Int → List LP → List QC
  | _, [] => []
  | a, x :: L => ⟨x.1, upI a (szI x.1 x.2.1), x.2.1⟩ :: sharedOf (layE a (szI x.1 x.2.1)) L
theorem homesOf_length : ∀ (D : List QD) (a : Int), (homesOf a D).length = D.length
  | [], _ => rfl
  | d :: D, a => by simp [homesOf, homesOf_length D]
theorem sharedOf_length : ∀ (L : List LP) (a : Int), (sharedOf a L).length = L.length
  | [], _ => rfl
  | x :: L, a => by simp [sharedOf, sharedOf_length L]
theorem homesOf_append : ∀ (D E : List QD) (a : Int), homesOf a (D ++ E) = homesOf a D ++ homesOf (endD a D) E
  | [], _, _ => rfl
  | d :: D, E, a => by simp only [List.cons_append, homesOf, endD, homesOf_append D E]; rfl
theorem endD_append : ∀ (D E : List QD) (a : Int), endD a (D ++ E) = endD (endD a D) E
  | [], _, _ => rfl
  | d :: D, E, a => by simp only [List.cons_append, endD, endD_append D E]
theorem sharedOf_append : ∀ (D E : List LP) (a : Int), sharedOf a (D ++ E) = sharedOf a D ++ sharedOf (endL a D) E
  | [], _, _ => rfl
  | d :: D, E, a => by simp only [List.cons_append, sharedOf, endL, sharedOf_append D E]
theorem endL_append : ∀ (D E : List LP) (a : Int), endL a (D ++ E) = endL (endL a D) E
  | [], _, _ => rfl
  | d :: D, E, a => by simp only [List.cons_append, endL, endL_append D E]
theorem homesOf_take {D : List QD} {k : Nat} (a : Int) (hk : k < D.length) : homesOf a (D.take (k + 1)) = homesOf a (D.take k) ++ [homeOf (endD a (D.take k)) D[k]] := by
  rw [List.take_succ_eq_append_getElem hk, homesOf_append]; rfl
theorem endD_take {D : List QD} {k : Nat} (a : Int) (hk : k < D.length) : endD a (D.take (k + 1)) = nextD (endD a (D.take k)) D[k] := by
  rw [List.take_succ_eq_append_getElem hk, endD_append]; rfl
theorem sharedOf_take {L : List QL} {k : Nat} (a : Int) (hk : k < L.length) : sharedOf a ((L.take (k + 1)).map QL.pl) = sharedOf a ((L.take k).map QL.pl) ++ [⟨L[k].kd, upI (endL a ((L.take k).map QL.pl)) (szI L[k].kd L[k].bt), L[k].bt⟩] := by
  rw [List.take_succ_eq_append_getElem hk, List.map_append, sharedOf_append]; rfl
theorem endL_take {L : List QL} {k : Nat} (a : Int) (hk : k < L.length) : endL a ((L.take (k + 1)).map QL.pl) = layE (endL a ((L.take k).map QL.pl)) (szI L[k].kd L[k].bt) := by
  rw [List.take_succ_eq_append_getElem hk, List.map_append, endL_append]; rfl

theorem infoH : (Tryd.prog.info? 114).map (fun i => (i.zero, i.size, i.bytes)) = some (some (.agg #[.int .i64 0, .int .i64 0, .int .i64 0, .int .i64 0, .int .i64 0, .int .i64 0, .int .i64 0, .int .i64 0, .bool false, .int .i64 0, .int .i64 0, .int .i64 0, .int .i64 0, .int .i64 0, .int .i64 0, .int .i64 0, .int .i64 0, .bool false, .int .i64 0, .int .i64 0, .int .i64 0, .int .i64 0, .int .i64 0, .int .i64 0, .int .i64 0, .int .i64 0, .bool false]), 27, 216) := by kernel_rfl
theorem infoC : (Tryd.prog.info? 111).map (fun i => (i.zero, i.size, i.bytes)) = some (some (.agg #[.int .i64 0, .int .i64 0, .int .i64 0, .int .i64 0, .int .i64 0, .int .i64 0, .int .i64 0, .int .i64 0, .bool false]), 9, 72) := by kernel_rfl

/-- What stands between two rounds of the laying. -/
structure LayI (w : World) (p : List Value) (w' : World) (a : Int) (v u : Value) (H : List QH) (C : List QC) : Prop where
  b0 : Bx w' w.heap.size 31 p
  b1 : Bx w' (w.heap.size + 1) 92 [.slice none 0 0, .slice none 0 0, .int .i64 0]
  b2 : Bx w' (w.heap.size + 1 + 1) 3 [.int .i64 a]
  b3 : Bx w' (w.heap.size + 1 + 1 + 1) 92 [v, u, .int .i64 0]
  oh : OwnG fH 114 w' (w.heap.size + 1 + 1 + 1 + 1) v H
  oc : OwnG fC 111 w' (w.heap.size + 1 + 1 + 1 + 1) u C
  bw : Below w.heap.size w w'
  a0 : 0 ≤ a
  a1 : a ≤ 12288

/-- What a cell holds. -/
def fch (w : World) (b o : Nat) : Value := (w.cell? ⟨b, o, none⟩).getD undef
theorem fch_of {w : World} {b o : Nat} {v : Value} (h : w.cell? ⟨b, o, none⟩ = some v) : w.cell? ⟨b, o, none⟩ = some (fch w b o) := by unfold fch; rw [h]; rfl
theorem fch_eq {w : World} {b o : Nat} {v : Value} (h : w.cell? ⟨b, o, none⟩ = some v) : fch w b o = v := by unfold fch; rw [h]; rfl

def layInv1 (w : World) (p : List Value) (dl : List QD) (i : Value) (w' : World) : Prop :=
  ∃ k : Nat, k ≤ dl.length ∧ i = .int .i64 k ∧ ∃ v, LayI w p w' (endD 128 (dl.take k)) v (.slice none 0 0) (homesOf 128 (dl.take k)) []
def layInv2 (w : World) (p : List Value) (dl : List QD) (ll : List QL) (i : Value) (w' : World) : Prop :=
  ∃ k : Nat, k ≤ ll.length ∧ i = .int .i64 k ∧ ∃ v u, LayI w p w' (endL (endD 128 dl) ((ll.take k).map QL.pl)) v u (homesOf 128 dl) (sharedOf (endD 128 dl) ((ll.take k).map QL.pl))

/-- What a round over what is shared leaves. -/
theorem lay_round (w wA w1 w5 : World) (p : List Value) (a a' : Int) (v : Value) (uP : Option Addr) (q uc : Nat) (H : List QH) (C : List QC) (x : QC) (g3 cap3 : Nat)
    (x0 : Bx wA w.heap.size 31 p) (x1 : Bx wA (w.heap.size + 1) 92 [.slice none 0 0, .slice none 0 0, .int .i64 0]) (x3 : Bx wA (w.heap.size + 1 + 1 + 1) 92 [v, .slice uP q uc, .int .i64 0])
    (oh : OwnG fH 114 wA (w.heap.size + 1 + 1 + 1 + 1) v H) (hq : C.length = q) (bwA : Below w.heap.size w wA) (b2 : Bx w1 (w.heap.size + 1 + 1) 3 [.int .i64 a']) (bt : But (w.heap.size + 1 + 1) wA.drew w1)
    (hown : (w1.alloc (.cells (fC.cel x).toArray 111)).ownsRow (w.heap.size + 1 + 1 + 1 + 1) 111 9 (.slice uP q uc) q (cellsG fC C)) (gr : (w1.alloc (.cells (fC.cel x).toArray 111)).grownBy w5 (Value.slice uP q uc).ownBlock)
    (own2 : w5.ownsRow (w.heap.size + 1 + 1 + 1 + 1) 111 9 (.slice (some ⟨g3, 0, none⟩) (q + 1) cap3) (q + 1) (cellsG fC C ++ fC.cel x)) (h0 : 0 ≤ a') (h1 : a' ≤ 12288) :
    LayI w p (w5.setCell ⟨w.heap.size + 1 + 1 + 1, 1, none⟩ (.slice (some ⟨g3, 0, none⟩) (q + 1) cap3)) a' v (.slice (some ⟨g3, 0, none⟩) (q + 1) cap3) H (C ++ [x]) := by
  have hs3 := x3.lt
  have hfar : ∀ b, b < w.heap.size + 1 + 1 + 1 + 1 → (Value.slice uP q uc).ownBlock ≠ some b := fun b hb e => by have := (World.ownsRow.lt hown b e).1; omega
  have own3 : OwnG fC 111 w5 (w.heap.size + 1 + 1 + 1 + 1) (.slice (some ⟨g3, 0, none⟩) (q + 1) cap3) (C ++ [x]) := OwnG.snoc (F := fC) _ (by rw [hq]) own2
  have y3 := ((x3.drew.but bt (by omega)).alloc (.cells (fC.cel x).toArray 111)).grown gr (hfar _ (by omega))
  have hne2 := own3.neB y3 (by decide)
  have oh1 := (oh.drew.but bt (fun e => by have := (oh.lt _ e).1; omega)).below ((Below.refl _ _).alloc (Nat.le_refl _) (.cells (fC.cel x).toArray 111))
  have oh5 := oh1.beside hown gr (by decide)
  have hne3 := oh5.neB y3 (by decide)
  have hz := bwA.size
  have hz1 := bt.size
  refine ⟨?_, ?_, ?_, ?_, ?_, ?_, ?_, h0, h1⟩
  · exact (((x0.drew.but bt (by omega)).alloc _).grown gr (hfar _ (by omega))).far _ (by omega)
  · exact (((x1.drew.but bt (by omega)).alloc _).grown gr (hfar _ (by omega))).far _ (by omega)
  · exact ((b2.alloc _).grown gr (hfar _ (by omega))).far _ (by omega)
  · exact y3.set 1 _
  · exact OwnG.same oh5 (fun g hg => Below.heap_setCell _ ⟨w.heap.size + 1 + 1 + 1, 1, none⟩ _ g (fun e => hne3 (by rw [hg]; exact congrArg some e)))
  · exact OwnG.same own3 (fun g hg => Below.heap_setCell _ ⟨w.heap.size + 1 + 1 + 1, 1, none⟩ _ g (fun e => hne2 (by rw [hg]; exact congrArg some e)))
  · refine Below.setCell ?_ (by simp; omega) _
    have b1 : Below w.heap.size w w1 := But.below bwA.drew bt (by omega) hz
    exact Below.trans (b1.alloc b1.size _) ((Below.refl _ _).grown gr (by have := b1.size; simp; omega) (fun k e => by have := (World.ownsRow.lt hown k e).1; omega))

set_option maxRecDepth 100000 in
set_option maxHeartbeats 4000000 in
theorem lay_any (bits : Int) (dP : Option Addr) (dc : Nat) (dl : List QD) (lP : Option Addr) (lc : Nat) (ll : List QL) (w : World) (hd0 : LiesG fD w dP dl) (hl0 : LiesG fL w lP ll) (hd : dl.length ≤ 1000) (hl : ll.length ≤ 1000) :
    Calls Tryd.prog 46 #[.agg #[.int .i64 bits, .slice dP dl.length dc, .slice lP ll.length lc]] w fun e w' => ∃ v u, e = .returned (.agg #[v, u, .int .i64 (endI dl (ll.map QL.pl))]) ∧ OwnG fH 114 w' (w.heap.size + 1) v (homesOf 128 dl) ∧ OwnG fC 111 w' (w.heap.size + 1) u (sharedOf (endD 128 dl) (ll.map QL.pl)) ∧ Below w.heap.size w w' := by
  go_enter Tryd.func46, Tryd.ntmps46
  go_wp2
  go_loopw [17] (fun i w' => layInv1 w [.int .i64 bits, .slice dP dl.length dc, .slice lP ll.length lc] dl i w') (fun i w' => dl.length - (intOf i).toNat)
  case atStart =>
    refine ⟨0, Nat.zero_le _, rfl, .slice none 0 0, ⟨?_, ?_, ?_, ?_, OwnG.nil _ _ _ _, OwnG.nil _ _ _ _, ?_, by simp [endD], by simp [endD]⟩⟩
    · exact (((Bx.newAt _ _ _ rfl).alloc _).alloc _).alloc _
    · exact ((Bx.newAt _ _ _ (by simp)).alloc _).alloc _
    · exact (Bx.newAt _ _ _ (by simp)).alloc _
    · exact Bx.newAt _ _ _ (by simp)
    · exact ((((Below.refl _ _).alloc (Nat.le_refl _) _).alloc (by simp) _).alloc (by simp; omega) _).alloc (by simp; omega) _
  case round =>
    obtain ⟨k, hk, rfl, v, I⟩ := hrel
    have hD := hd0.below I.bw
    by_cases hlt : k < dl.length
    · obtain ⟨B, O, rfl⟩ := hD.has hlt
      have cc := atD hD hlt
      have h1 := homesOf_take 128 hlt
      have h2 := endD_take 128 hlt
      generalize dl[k] = d at cc h1 h2
      have H1 : Hid _ := h1
      have H2 : Hid _ := h2
      clear h1 h2
      obtain ⟨c0, c1, c2⟩ := cc
      have hk1 : (k : Int) < (dl.length : Int) := by omega
      have ha0 := I.a0
      have ha1 := I.a1
      generalize endD 128 (dl.take k) = a at *
      have hHl : (homesOf 128 (dl.take k)).length ≤ 1000 := by rw [homesOf_length, List.length_take]; omega
      generalize homesOf 128 (dl.take k) = H at *
      have s23 : szI 2 3 = 32 := by decide
      have s30 : szI 3 0 = 32 := by decide
      have q1 := layE_bound a 32 ha0 (by omega) (by omega)
      have q2 := layE_bound (layE a 32) 32 q1.1 (by omega) (by omega)
      have HC1 : Hid _ := fun W (hW : Bx W (w.heap.size + 1 + 1) 3 [.int .i64 a]) => layC_any 2 3 a (w.heap.size + 1 + 1) W hW ha0 (by omega)
      have HC2 : Hid _ := fun W (hW : Bx W (w.heap.size + 1 + 1) 3 [.int .i64 (layE a 32)]) => layC_any 3 0 (layE a 32) (w.heap.size + 1 + 1) W hW q1.1 (by omega)
      have HC3 : Hid _ := fun W (hW : Bx W (w.heap.size + 1 + 1) 3 [.int .i64 (layE (layE a 32) 32)]) => layC_any 1 d.bt (layE (layE a 32) 32) (w.heap.size + 1 + 1) W hW q2.1 (by omega)
      rw [s23] at HC1
      rw [s30] at HC2
      have HO : Hid (homeOf a d = ⟨upI a 32, upI (layE a 32) 32, upI (layE (layE a 32) 32) (szI 1 d.bt), d.bt⟩) := rfl
      have HX : Hid (nextD a d = layE (layE (layE a 32) 32) (szI 1 d.bt)) := rfl
      generalize upI a 32 = n1 at *
      generalize upI (layE a 32) 32 = n2 at *
      generalize upI (layE (layE a 32) 32) (szI 1 d.bt) = n3 at *
      have bA := I.b2.alloc (.cells #[.int .i64 d.pr, .int .i64 d.mx, .int .i64 d.bt] 38)
      have hs3 := I.b3.lt
      obtain ⟨vP, vc, rfl, hvl, hvc⟩ := I.oh.form
      go_upto_region 10 with (first
        | (have _q := b2c; go_at_call 54; refine Calls.mono (HC3.out _ (b2c.alloc _)) ?_; rintro e w3 ⟨rfl, b2d, bt3⟩)
        | (have _q := b2b; go_at_call 54; refine Calls.mono (HC2.out _ (b2b.alloc _)) ?_; rintro e w2 ⟨rfl, b2c, bt2⟩; have xd := (((Bx.new wr 38 [.int .i64 d.pr, .int .i64 d.mx, .int .i64 d.bt]).but bt1 (by omega)).alloc (.cells #[.int .i64 2, .int .i64 n1, .int .i64 3, .int .i64 (maxI 2), .int .i64 0, .int .i64 0, .int .i64 0, .int .i64 0, .bool true] 111)).but bt2 (by omega); have xd2 := (xd.alloc (.cells #[.int .i64 3, .int .i64 n2, .int .i64 0, .int .i64 (maxI 3), .int .i64 0, .int .i64 0, .int .i64 0, .int .i64 0, .bool true] 111)).cell 2 _ rfl)
        | (go_at_call 54; refine Calls.mono (HC1.out _ bA) ?_; rintro e w1 ⟨rfl, b2b, bt1⟩))
      have z1 : wr.heap.size < w1.heap.size := by have := bt1.size; simp at this; omega
      have z2 : w1.heap.size < w2.heap.size := by have := bt2.size; simp at this; omega
      have z3 : w2.heap.size < w3.heap.size := by have := bt3.size; simp at this; omega
      have bt : But (w.heap.size + 1 + 1) wr (w3.alloc (.cells #[.int .i64 1, .int .i64 n3, .int .i64 d.bt, .int .i64 (maxI 1), .int .i64 0, .int .i64 0, .int .i64 0, .int .i64 0, .bool true] 111)) :=
        (((((But.of _ ((Below.refl _ wr).alloc (Nat.le_refl _) _)).trans bt1).trans (But.of _ ((Below.refl _ w1).alloc (Nat.le_refl _) _))).trans bt2).trans (But.of _ ((Below.refl _ w2).alloc (Nat.le_refl _) _))).trans (bt3.trans (But.of _ ((Below.refl _ w3).alloc (Nat.le_refl _) _)))
      have xn : Bx (w3.alloc (.cells #[.int .i64 1, .int .i64 n3, .int .i64 d.bt, .int .i64 (maxI 1), .int .i64 0, .int .i64 0, .int .i64 0, .int .i64 0, .bool true] 111)) w1.heap.size 111 [.int .i64 2, .int .i64 n1, .int .i64 3, .int .i64 (maxI 2), .int .i64 0, .int .i64 0, .int .i64 0, .int .i64 0, .bool true] := ((((Bx.new w1 111 [.int .i64 2, .int .i64 n1, .int .i64 3, .int .i64 (maxI 2), .int .i64 0, .int .i64 0, .int .i64 0, .int .i64 0, .bool true]).but bt2 (by omega)).alloc _).but bt3 (by omega)).alloc _
      have xt : Bx (w3.alloc (.cells #[.int .i64 1, .int .i64 n3, .int .i64 d.bt, .int .i64 (maxI 1), .int .i64 0, .int .i64 0, .int .i64 0, .int .i64 0, .bool true] 111)) w2.heap.size 111 [.int .i64 3, .int .i64 n2, .int .i64 0, .int .i64 (maxI 3), .int .i64 0, .int .i64 0, .int .i64 0, .int .i64 0, .bool true] := ((Bx.new w2 111 [.int .i64 3, .int .i64 n2, .int .i64 0, .int .i64 (maxI 3), .int .i64 0, .int .i64 0, .int .i64 0, .int .i64 0, .bool true]).but bt3 (by omega)).alloc _
      have xr : Bx (w3.alloc (.cells #[.int .i64 1, .int .i64 n3, .int .i64 d.bt, .int .i64 (maxI 1), .int .i64 0, .int .i64 0, .int .i64 0, .int .i64 0, .bool true] 111)) w3.heap.size 111 [.int .i64 1, .int .i64 n3, .int .i64 d.bt, .int .i64 (maxI 1), .int .i64 0, .int .i64 0, .int .i64 0, .int .i64 0, .bool true] := Bx.new w3 111 [.int .i64 1, .int .i64 n3, .int .i64 d.bt, .int .i64 (maxI 1), .int .i64 0, .int .i64 0, .int .i64 0, .int .i64 0, .bool true]
      have x2 := b2d.alloc (.cells #[.int .i64 1, .int .i64 n3, .int .i64 d.bt, .int .i64 (maxI 1), .int .i64 0, .int .i64 0, .int .i64 0, .int .i64 0, .bool true] 111)
      have x0 := I.b0.but bt (by omega)
      have x1 := I.b1.but bt (by omega)
      have x3 := I.b3.but bt (by omega)
      have oh := I.oh.but bt (fun e => by have := (I.oh.lt _ e).1; omega)
      have bw4 := But.below I.bw bt (by omega) I.bw.size
      clear xd xd2 bt1 bt2 bt3 b2b b2c b2d bA hD c0 c1 c2
      generalize hW4 : w3.alloc (.cells #[.int .i64 1, .int .i64 n3, .int .i64 d.bt, .int .i64 (maxI 1), .int .i64 0, .int .i64 0, .int .i64 0, .int .i64 0, .bool true] 111) = w4 at xn xt xr x0 x1 x2 x3 oh bw4 bt ⊢
      have hz4 : wr.heap.size < w4.heap.size := by have := xn.lt; omega
      clear hW4
      have n_0 := xn.cell 0 _ rfl
      have t_0 := xt.cell 0 _ rfl
      have r_0 := xr.cell 0 _ rfl
      have n_1 := xn.cell 1 _ rfl
      have t_1 := xt.cell 1 _ rfl
      have r_1 := xr.cell 1 _ rfl
      have n_2 := xn.cell 2 _ rfl
      have t_2 := xt.cell 2 _ rfl
      have r_2 := xr.cell 2 _ rfl
      have n_3 := xn.cell 3 _ rfl
      have t_3 := xt.cell 3 _ rfl
      have r_3 := xr.cell 3 _ rfl
      have n_4 := xn.cell 4 _ rfl
      have t_4 := xt.cell 4 _ rfl
      have r_4 := xr.cell 4 _ rfl
      have n_5 := xn.cell 5 _ rfl
      have t_5 := xt.cell 5 _ rfl
      have r_5 := xr.cell 5 _ rfl
      have n_6 := xn.cell 6 _ rfl
      have t_6 := xt.cell 6 _ rfl
      have r_6 := xr.cell 6 _ rfl
      have n_7 := xn.cell 7 _ rfl
      have t_7 := xt.cell 7 _ rfl
      have r_7 := xr.cell 7 _ rfl
      have n_8 := xn.cell 8 _ rfl
      have t_8 := xt.cell 8 _ rfl
      have r_8 := xr.cell 8 _ rfl
      have p_0 := x3.cell 0 _ rfl
      have ohA : OwnG fH 114 (w4.alloc (.cells #[.int .i64 2, .int .i64 n1, .int .i64 3, .int .i64 (maxI 2), .int .i64 0, .int .i64 0, .int .i64 0, .int .i64 0, .bool true, .int .i64 3, .int .i64 n2, .int .i64 0, .int .i64 (maxI 3), .int .i64 0, .int .i64 0, .int .i64 0, .int .i64 0, .bool true, .int .i64 1, .int .i64 n3, .int .i64 d.bt, .int .i64 (maxI 1), .int .i64 0, .int .i64 0, .int .i64 0, .int .i64 0, .bool true] 114)) (w.heap.size + 1 + 1 + 1 + 1) (.slice vP H.length vc) H := oh.below ((Below.refl _ _).alloc (Nat.le_refl _) _)
      have hne := oh.neB x3 (by decide)
      have x3A := x3.alloc (.cells #[.int .i64 2, .int .i64 n1, .int .i64 3, .int .i64 (maxI 2), .int .i64 0, .int .i64 0, .int .i64 0, .int .i64 0, .bool true, .int .i64 3, .int .i64 n2, .int .i64 0, .int .i64 (maxI 3), .int .i64 0, .int .i64 0, .int .i64 0, .int .i64 0, .bool true, .int .i64 1, .int .i64 n3, .int .i64 d.bt, .int .i64 (maxI 1), .int .i64 0, .int .i64 0, .int .i64 0, .int .i64 0, .bool true] 114)
      obtain ⟨i0, hi0, hzz⟩ := Option.map_eq_some_iff.1 infoH
      simp only [Prod.mk.injEq] at hzz
      obtain ⟨hy1, hs0, hy0⟩ := hzz
      generalize hq : H.length = q at *
      have hown : (w4.alloc (.cells #[.int .i64 2, .int .i64 n1, .int .i64 3, .int .i64 (maxI 2), .int .i64 0, .int .i64 0, .int .i64 0, .int .i64 0, .bool true, .int .i64 3, .int .i64 n2, .int .i64 0, .int .i64 (maxI 3), .int .i64 0, .int .i64 0, .int .i64 0, .int .i64 0, .bool true, .int .i64 1, .int .i64 n3, .int .i64 d.bt, .int .i64 (maxI 1), .int .i64 0, .int .i64 0, .int .i64 0, .int .i64 0, .bool true] 114)).ownsRow (w.heap.size + 1 + 1 + 1 + 1) 114 27 (.slice vP q vc) q (cellsG fH H) := by have := ohA; unfold OwnG at this; rw [hq] at this; exact this
      have HQ : Hid _ := hq
      clear hq ohA
      go_wp2_with (at_builtin; refine wpList_append_own _ rfl _ _ 89 rfl (w.heap.size + 1 + 1 + 1 + 1) 114 i0 (.agg #[.int .i64 0, .int .i64 0, .int .i64 0, .int .i64 0, .int .i64 0, .int .i64 0, .int .i64 0, .int .i64 0, .bool false, .int .i64 0, .int .i64 0, .int .i64 0, .int .i64 0, .int .i64 0, .int .i64 0, .int .i64 0, .int .i64 0, .bool false, .int .i64 0, .int .i64 0, .int .i64 0, .int .i64 0, .int .i64 0, .int .i64 0, .int .i64 0, .int .i64 0, .bool false]) 27 216 Tryd.underlying89 hi0 hy1 hs0 hy0 rfl (by decide) (.slice vP q vc) q (cellsG fH H) rfl hown ⟨w4.heap.size, 0, none⟩ 1 1 (fH.cel ⟨n1, n2, n3, d.bt⟩) rfl rfl (newsG (F := fH) ⟨n1, n2, n3, d.bt⟩ 114) (by simp [fH, capL, Value.oneCell']) (by unfold maxLen; omega) (by omega) (by simp; omega) ?_; intro v2 w5 own2 gr2 _; obtain ⟨g3, cap3, rfl⟩ := own_some own2 (by omega); have x35 := x3A.grown gr2 hne; have p2 := x35.cell 0 _ rfl; have z2 := x35.frozen 0)
      go_roundw
      case rel =>
        have own3 : OwnG fH 114 w5 (w.heap.size + 1 + 1 + 1 + 1) (.slice (some ⟨g3, 0, none⟩) (q + 1) cap3) (H ++ [⟨n1, n2, n3, d.bt⟩]) := OwnG.snoc (F := fH) _ (by rw [HQ.out]) own2
        have hne2 := own3.neB x35 (by decide)
        have hfar : ∀ b, b < w.heap.size + 1 + 1 + 1 + 1 → (Value.slice vP q vc).ownBlock ≠ some b := fun b hb e => by have := (hown.lt b e).1; omega
        have q3 := layE_bound (layE (layE a 32) 32) (szI 1 d.bt) q2.1 (szI_bound _ _).1 (szI_bound _ _).2
        refine ⟨k + 1, by omega, by go_num, .slice (some ⟨g3, 0, none⟩) (q + 1) cap3, ?_⟩
        rw [H1.out, H2.out, HO.out, HX.out]
        refine ⟨?_, ?_, ?_, ?_, ?_, OwnG.nil _ _ _ _, ?_, q3.1, q3.2⟩
        · exact ((x0.alloc _).grown gr2 (hfar _ (by omega))).far _ (by omega)
        · exact ((x1.alloc _).grown gr2 (hfar _ (by omega))).far _ (by omega)
        · exact ((x2.alloc _).grown gr2 (hfar _ (by omega))).far _ (by omega)
        · exact x35.set 0 _
        · exact OwnG.same own3 (fun g hg => Below.heap_setCell _ ⟨w.heap.size + 1 + 1 + 1, 0, none⟩ _ g (fun e => hne2 (by rw [hg]; exact congrArg some e)))
        · refine Below.setCell ?_ (by simp; omega) _
          exact Below.trans (bw4.alloc bw4.size _) ((Below.refl _ _).grown gr2 (by have := bw4.size; simp; omega) (fun k e => by have := (hown.lt k e).1; omega))
      case measure => simp [intOf]; omega
    · have hk1 : ¬ (k : Int) < (dl.length : Int) := by omega
      rw [List.take_of_length_le (by omega)] at I
      have y0 := I.b0.cell 2 _ rfl
      go_wp2
      go_loopw [42] (fun i w' => layInv2 w [.int .i64 bits, .slice dP dl.length dc, .slice lP ll.length lc] dl ll i w') (fun i w' => ll.length - (intOf i).toNat)
      case atStart => exact ⟨0, Nat.zero_le _, rfl, v, .slice none 0 0, I⟩
      case round =>
        clear I y0
        obtain ⟨k, hk, rfl, v, u, I⟩ := hrel
        have hL1 := hl0.below I.bw
        by_cases hlt : k < ll.length
        · obtain ⟨B, O, rfl⟩ := hL1.has hlt
          have cc := atL hL1 hlt
          have h1 := sharedOf_take (endD 128 dl) hlt
          have h2 := endL_take (endD 128 dl) hlt
          generalize ll[k] = x at cc h1 h2
          obtain ⟨skd, sbt, sP, sc, sl⟩ := x
          simp only at cc h1 h2
          have H1 : Hid _ := h1
          have H2 : Hid _ := h2
          clear h1 h2
          obtain ⟨c0, c1, c2⟩ := cc
          have hk1 : (k : Int) < (ll.length : Int) := by omega
          have ha0 := I.a0
          have ha1 := I.a1
          generalize endL (endD 128 dl) ((ll.take k).map QL.pl) = a at *
          have hCl : (sharedOf (endD 128 dl) ((ll.take k).map QL.pl)).length ≤ 1000 := by rw [sharedOf_length, List.length_map, List.length_take]; omega
          generalize sharedOf (endD 128 dl) ((ll.take k).map QL.pl) = C at *
          have HC1 : Hid _ := fun W (hW : Bx W (w.heap.size + 1 + 1) 3 [.int .i64 a]) => layC_any skd sbt a (w.heap.size + 1 + 1) W hW ha0 (by omega)
          have q3 := layE_bound a (szI skd sbt) ha0 (szI_bound _ _).1 (szI_bound _ _).2
          generalize upI a (szI skd sbt) = u1 at *
          have hs3 := I.b3.lt
          obtain ⟨uP, uc, rfl, hul, huc⟩ := I.oc.form
          go_upto_region 15 with fail
          have xl := Bx.new wr 43 [.int .i64 skd, .int .i64 sbt, .slice sP sl.length sc]
          have x0 := I.b0.alloc (.cells #[.int .i64 skd, .int .i64 sbt, .slice sP sl.length sc] 43)
          have x1 := I.b1.alloc (.cells #[.int .i64 skd, .int .i64 sbt, .slice sP sl.length sc] 43)
          have x2 := I.b2.alloc (.cells #[.int .i64 skd, .int .i64 sbt, .slice sP sl.length sc] 43)
          have x3 := I.b3.alloc (.cells #[.int .i64 skd, .int .i64 sbt, .slice sP sl.length sc] 43)
          have oh := I.oh.below ((Below.refl _ wr).alloc (Nat.le_refl _) (.cells #[.int .i64 skd, .int .i64 sbt, .slice sP sl.length sc] 43))
          have oc := I.oc.below ((Below.refl _ wr).alloc (Nat.le_refl _) (.cells #[.int .i64 skd, .int .i64 sbt, .slice sP sl.length sc] 43))
          have bwA := I.bw.alloc I.bw.size (.cells #[.int .i64 skd, .int .i64 sbt, .slice sP sl.length sc] 43)
          have hzA : wr.heap.size < (wr.alloc (.cells #[.int .i64 skd, .int .i64 sbt, .slice sP sl.length sc] 43)).heap.size := by simp
          clear I hL1 c0 c1 c2
          generalize wr.alloc (.cells #[.int .i64 skd, .int .i64 sbt, .slice sP sl.length sc] 43) = wA at xl x0 x1 x2 x3 oh oc bwA hzA ⊢
          have hne := oc.neB x3 (by decide)
          have hneL := oc.neB xl (by decide)
          obtain ⟨i0, hi0, hzz⟩ := Option.map_eq_some_iff.1 infoC
          simp only [Prod.mk.injEq] at hzz
          obtain ⟨hy1, hs0, hy0⟩ := hzz
          have hoc : OwnG fC 111 wA (w.heap.size + 1 + 1 + 1 + 1) (.slice uP C.length uc) C := oc
          generalize hq : C.length = q at *
          have HQ : Hid _ := hq
          clear hq hul huc oc
          have k1 := x3.cell 1 _ rfl
          have k2 := xl.cell 0 _ rfl
          have k3 := xl.cell 1 _ rfl
          have k1d : wA.drew.cell? ⟨w.heap.size + 1 + 1 + 1, 1, none⟩ = some (.slice uP q uc) := k1
          have k2d : wA.drew.cell? ⟨wr.heap.size, 0, none⟩ = some (.int .i64 skd) := k2
          have k3d : wA.drew.cell? ⟨wr.heap.size, 1, none⟩ = some (.int .i64 sbt) := k3
          have s0 : wA.cell? ⟨wr.heap.size, 0, none⟩ = some (.int .i64 skd) ∧ wA.cell? ⟨wr.heap.size, 1, none⟩ = some (.int .i64 sbt) := ⟨k2, k3⟩
          have s0d : wA.drew.cell? ⟨wr.heap.size, 0, none⟩ = some (.int .i64 skd) ∧ wA.drew.cell? ⟨wr.heap.size, 1, none⟩ = some (.int .i64 sbt) := ⟨k2, k3⟩
          go_region_law
            (first
              | (go_simp; go_at_call 54; refine Calls.mono (HC1.out _ x2.drew) ?_; rintro e w1 ⟨rfl, b2b, bt1⟩; have x31 := x3.drew.but bt1 (by omega); have xl1 := xl.drew.but bt1 (by omega); have hz1 : w.heap.size + 1 + 1 + 1 + 1 ≤ w1.heap.size := (by have := x31.lt; omega); have s1 := x31.cell 1 _ rfl; have t1 : w1.cell? ⟨wr.heap.size, 0, none⟩ = some (.int .i64 skd) ∧ w1.cell? ⟨wr.heap.size, 1, none⟩ = some (.int .i64 sbt) := ⟨xl1.cell 0 _ rfl, xl1.cell 1 _ rfl⟩; have t1a : (w1.alloc (.cells #[.int .i64 skd, .int .i64 u1, .int .i64 sbt, .int .i64 (maxI skd), .int .i64 0, .int .i64 0, .int .i64 0, .int .i64 0, .bool true] 111)).cell? ⟨wr.heap.size, 0, none⟩ = some (.int .i64 skd) ∧ (w1.alloc (.cells #[.int .i64 skd, .int .i64 u1, .int .i64 sbt, .int .i64 (maxI skd), .int .i64 0, .int .i64 0, .int .i64 0, .int .i64 0, .bool true] 111)).cell? ⟨wr.heap.size, 1, none⟩ = some (.int .i64 sbt) := ⟨(xl1.alloc _).cell 0 _ rfl, (xl1.alloc _).cell 1 _ rfl⟩; have s1a := (x31.alloc (.cells #[.int .i64 skd, .int .i64 u1, .int .i64 sbt, .int .i64 (maxI skd), .int .i64 0, .int .i64 0, .int .i64 0, .int .i64 0, .bool true] 111)).cell 1 _ rfl; have hown : (w1.alloc (.cells #[.int .i64 skd, .int .i64 u1, .int .i64 sbt, .int .i64 (maxI skd), .int .i64 0, .int .i64 0, .int .i64 0, .int .i64 0, .bool true] 111)).ownsRow (w.heap.size + 1 + 1 + 1 + 1) 111 9 (.slice uP q uc) q (cellsG fC C) := (by have := (OwnG.but hoc.drew bt1 (fun e => by have := (hoc.lt _ e).1; omega)).below ((Below.refl _ _).alloc (Nat.le_refl _) (.cells #[.int .i64 skd, .int .i64 u1, .int .i64 sbt, .int .i64 (maxI skd), .int .i64 0, .int .i64 0, .int .i64 0, .int .i64 0, .bool true] 111)); unfold OwnG at this; rw [HQ.out] at this; exact this))
              | ((refine step_append_lies _ (by rfl) _ _ 90 (by rfl) (w.heap.size + 1 + 1 + 1 + 1) 111 i0 (.agg #[.int .i64 0, .int .i64 0, .int .i64 0, .int .i64 0, .int .i64 0, .int .i64 0, .int .i64 0, .int .i64 0, .bool false]) 9 72 Tryd.underlying90 hi0 hy1 hs0 hy0 rfl (by decide) (.slice uP q uc) q (cellsG fC C) (by rfl) hown ⟨w1.heap.size, 0, none⟩ 1 1 (fC.cel ⟨skd, u1, sbt⟩) (by rfl) rfl (newsG (F := fC) ⟨skd, u1, sbt⟩ 111) (by simp [fC, capL, Value.oneCell']) (by omega) (by unfold maxLen; omega) (by omega) (by simp; omega) (w1.heap.size + 1) (by simp) ?_; intro g3 cap3 w5 own2 gr2 hat hlt5; have x35 := (x31.alloc (.cells #[.int .i64 skd, .int .i64 u1, .int .i64 sbt, .int .i64 (maxI skd), .int .i64 0, .int .i64 0, .int .i64 0, .int .i64 0, .bool true] 111)).grown gr2 hne; have xl5 := (xl1.alloc (.cells #[.int .i64 skd, .int .i64 u1, .int .i64 sbt, .int .i64 (maxI skd), .int .i64 0, .int .i64 0, .int .i64 0, .int .i64 0, .bool true] 111)).grown gr2 hneL; have z5 := x35.frozen 1; have k5 := x35.cell 1 _ rfl; have x36 := x35.set 1 (.slice (some ⟨g3, 0, none⟩) (q + 1) cap3); have t2 : w5.cell? ⟨wr.heap.size, 0, none⟩ = some (.int .i64 skd) ∧ w5.cell? ⟨wr.heap.size, 1, none⟩ = some (.int .i64 sbt) := ⟨xl5.cell 0 _ rfl, xl5.cell 1 _ rfl⟩; have xl6 := xl5.far (c := w.heap.size + 1 + 1 + 1) (k := 1) (.slice (some ⟨g3, 0, none⟩) (q + 1) cap3) (by omega); have t3 : (w5.setCell ⟨w.heap.size + 1 + 1 + 1, 1, none⟩ (.slice (some ⟨g3, 0, none⟩) (q + 1) cap3)).cell? ⟨wr.heap.size, 0, none⟩ = some (.int .i64 skd) ∧ (w5.setCell ⟨w.heap.size + 1 + 1 + 1, 1, none⟩ (.slice (some ⟨g3, 0, none⟩) (q + 1) cap3)).cell? ⟨wr.heap.size, 1, none⟩ = some (.int .i64 sbt) := ⟨xl6.cell 0 _ rfl, xl6.cell 1 _ rfl⟩)))
          all_goals go_wp2
          all_goals go_roundw
          all_goals (try (simp [intOf]; omega))
          all_goals (refine ⟨k + 1, by omega, by go_num, v, .slice (some ⟨g3, 0, none⟩) (q + 1) cap3, ?_⟩)
          all_goals (rw [H1.out, H2.out])
          all_goals (exact lay_round w wA w1 w5 _ a _ v uP q uc _ C ⟨skd, u1, sbt⟩ g3 cap3 x0 x1 x3 oh HQ.out bwA b2b bt1 hown gr2 own2 q3.1 q3.2)
        · have hk1 : ¬ (k : Int) < (ll.length : Int) := by omega
          rw [List.take_of_length_le (by omega)] at I
          have hend : endL (endD 128 dl) (ll.map QL.pl) = endI dl (ll.map QL.pl) := rfl
          rw [hend] at I
          obtain ⟨vP, vc, rfl, hv1, hv2⟩ := I.oh.form
          obtain ⟨uP, uc, rfl, hu1, hu2⟩ := I.oc.form
          have y2 := I.b2.cell 0 _ rfl
          have y30 := I.b3.cell 0 _ rfl
          have y31 := I.b3.cell 1 _ rfl
          have y32 := I.b3.cell 2 _ rfl
          have z3 := I.b3.frozen
          have y10 := I.b1.cell 0 _ rfl
          have y11 := I.b1.cell 1 _ rfl
          have y12 := I.b1.cell 2 _ rfl
          have z1 := I.b1.frozen
          have n1 : ¬ w.heap.size + 1 = w.heap.size + 1 + 1 + 1 := by omega
          have n2 : ¬ w.heap.size + 1 + 1 + 1 = w.heap.size + 1 := by omega
          go_wp2
          have R : Bx ((((wr.setCell ⟨w.heap.size + 1 + 1 + 1, 2, none⟩ (.int .i64 (endI dl (ll.map QL.pl)))).setCell ⟨w.heap.size + 1, 0, none⟩ (.slice vP (homesOf 128 dl).length vc)).setCell ⟨w.heap.size + 1, 1, none⟩ (.slice uP (sharedOf (endD 128 dl) (ll.map QL.pl)).length uc)).setCell ⟨w.heap.size + 1, 2, none⟩ (.int .i64 (endI dl (ll.map QL.pl)))) (w.heap.size + 1) 92 [.slice vP (homesOf 128 dl).length vc, .slice uP (sharedOf (endD 128 dl) (ll.map QL.pl)).length uc, .int .i64 (endI dl (ll.map QL.pl))] := (((I.b1.far _ (by omega)).set 0 _).set 1 _).set 2 _
          have r0 := R.cell 0 _ rfl
          have r1 := R.cell 1 _ rfl
          have r2 := R.cell 2 _ rfl
          refine bodyPost_ret (show (results Tryd.f46 _).run Tryd.prog _ = .ok (.agg #[.slice vP (homesOf 128 dl).length vc, .slice uP (sharedOf (endD 128 dl) (ll.map QL.pl)).length uc, .int .i64 (endI dl (ll.map QL.pl))]) _ from by simp [results, Tryd.results46, go_sem, r0, r1, r2]) rfl ?_
          refine ⟨_, _, rfl, ?_, ?_, ?_⟩
          · refine OwnG.rebase (base := w.heap.size + 1 + 1 + 1 + 1) ?_ (by omega)
            iterate 4 (refine OwnG.farB ?_ _ (fun e => by have := (I.oh.lt _ e).1; omega))
            exact I.oh
          · refine OwnG.rebase (base := w.heap.size + 1 + 1 + 1 + 1) ?_ (by omega)
            iterate 4 (refine OwnG.farB ?_ _ (fun e => by have := (I.oc.lt _ e).1; omega))
            exact I.oc
          · iterate 4 (refine Below.setCell ?_ (by simp; try omega) _)
            exact I.bw

end Go.Proofs.YtjiignkappabpaaDoor
