/-
  Plans: where they lie; what the laws' copy, size and compare of them answer.
-/
import Derived.Test.YtjiignkappabpaaDoorNestL
import Derived.Test.YtjiignkappabpaaDoorKinds
import Derived.Test.YtjiignkappabpaaDoorBx
namespace Go.Proofs.YtjiignkappabpaaDoor
open Go.ChangeShapes Go.WideShapes Go.ChangeAt Go.RowKit
set_option linter.unusedVariables false

/-- A plan, with where its rows lie. -/
structure QP where
  bits : Int
  dP : Option Addr
  dc : Nat
  dl : List QD
  lP : Option Addr
  lc : Nat
  ll : List QL
/-- What it says. -/
def QP.pl (p : QP) : Int × List QD × List (Int × Int × List QO) := (p.bits, p.dl, p.ll.map QL.pl)
structure PlanIn (W : World) (p : QP) : Prop where
  d : LiesG fD W p.dP p.dl
  l : LiesG fL W p.lP p.ll
  li : InL W p.ll
theorem PlanIn.below {W W' : World} {p : QP} (h : PlanIn W p) (hb : Below W.heap.size W W') : PlanIn W' p := ⟨h.d.below hb, h.l.below hb, h.li.below hb⟩
theorem PlanIn.drew {W : World} {p : QP} (h : PlanIn W p) : PlanIn W.drew p := ⟨h.d.drew, h.l.drew, fun e he => (h.li e he).drew⟩
def QP.sz (p : QP) : Nat := p.dl.length + (p.ll.length + sumL p.ll)
structure QP.Short (p : QP) : Prop where
  d : p.dl.length ≤ 1048576
  l : p.ll.length ≤ 1048576
  li : ∀ x ∈ p.ll, x.l.length ≤ 1048576
theorem QP.short {p : QP} (h : p.sz ≤ 1048576) : p.Short := by
  unfold QP.sz at h
  exact ⟨by omega, by omega, fun x hx => by have := sumL_mem _ x hx; omega⟩
structure QP.Long (p : QP) : Prop where
  d : p.dl.length ≤ 9223372036854775807
  l : p.ll.length ≤ 9223372036854775807
  li : ∀ x ∈ p.ll, x.l.length ≤ 9223372036854775807
theorem QP.pl_d {p q : QP} (h : p.pl = q.pl) : p.dl = q.dl := by simp [QP.pl] at h; exact h.2.1
theorem QP.pl_l {p q : QP} (h : p.pl = q.pl) : p.ll.map QL.pl = q.ll.map QL.pl := by simp [QP.pl] at h; exact h.2.2
theorem QP.pl_b {p q : QP} (h : p.pl = q.pl) : p.bits = q.bits := by simp [QP.pl] at h; exact h.1
theorem QP.short_of {p q : QP} (h : p.pl = q.pl) (hs : p.Short) : q.Short := by
  have h1 := QP.pl_d h
  have h2 := QP.pl_l h
  have h3 : p.ll.length = q.ll.length := by have := congrArg List.length h2; simpa using this
  refine ⟨by rw [← h1]; exact hs.d, by rw [← h3]; exact hs.l, fun x hx => ?_⟩
  have : x.pl ∈ p.ll.map QL.pl := by rw [h2]; exact List.mem_map_of_mem hx
  obtain ⟨y, hy, e⟩ := List.mem_map.1 this
  have := hs.li y hy
  simp [QL.pl] at e
  rw [← e.2.2]; exact this

set_option maxRecDepth 100000 in
set_option maxHeartbeats 2000000 in
theorem toP_any (p : QP) (w : World) (hs : p.Short) (h : PlanIn w p) :
    Calls Tryd.prog 6 #[.agg #[.int .i64 p.bits, .slice p.dP p.dl.length p.dc, .slice p.lP p.ll.length p.lc]] w fun r w' => ∃ q : QP, r = .returned (.agg #[.int .i64 q.bits, .slice q.dP q.dl.length q.dc, .slice q.lP q.ll.length q.lc]) ∧ q.pl = p.pl ∧ PlanIn w' q ∧ Below w.heap.size w w' := by
  go_enter Tryd.func6, Tryd.ntmps6
  go_wp2_with (first
    | (go_at_call 15; refine (toD_any _ _ _ _ hs.d (h.d.below (by repeat (first | exact Below.refl _ _ | (refine Below.setCell ?_ (by simp; try omega) _) | (refine Below.alloc ?_ (by simp; try omega) _))))).mono ?_; rintro r w1 ⟨rfl, hD, hz1, hb1⟩; have bw1 : Below w.heap.size w w1 := (Below.trans (by repeat (first | exact Below.refl _ _ | (refine Below.setCell ?_ (by simp; try omega) _) | (refine Below.alloc ?_ (by simp; try omega) _))) (hb1.mono (by simp; omega))); have hy1 : w.heap.size + 1 + 1 + 1 < w1.heap.size := (by simpa using hz1); have x1 : Bx w1 (w.heap.size + 1 + 1) 31 [.int .i64 p.bits, .slice none 0 0, .slice none 0 0] := (by have := (Bx.new ((w.alloc (.cells #[.int .i64 p.bits, .slice p.dP p.dl.length p.dc, .slice p.lP p.ll.length p.lc] 25)).alloc (.cells #[.int .i64 0, .slice none 0 0, .slice none 0 0] 31)) 31 [.int .i64 p.bits, .slice none 0 0, .slice none 0 0]).below hb1; simpa using this); have y1 : Bx w1 (w.heap.size + 1) 31 [.int .i64 0, .slice none 0 0, .slice none 0 0] := (by have := ((Bx.new (w.alloc (.cells #[.int .i64 p.bits, .slice p.dP p.dl.length p.dc, .slice p.lP p.ll.length p.lc] 25)) 31 [.int .i64 0, .slice none 0 0, .slice none 0 0]).alloc (.cells #[.int .i64 p.bits, .slice none 0 0, .slice none 0 0] 31)).below hb1; simpa using this); have c1 := x1.cell 1 _ rfl; have z1 := x1.frozen 1; have a0 : w1.cell? ⟨w.heap.size, 2, none⟩ = some (.slice p.lP p.ll.length p.lc) := (by have := (((Bx.new w 25 [.int .i64 p.bits, .slice p.dP p.dl.length p.dc, .slice p.lP p.ll.length p.lc]).alloc (.cells #[.int .i64 0, .slice none 0 0, .slice none 0 0] 31)).alloc (.cells #[.int .i64 p.bits, .slice none 0 0, .slice none 0 0] 31)).below hb1; exact this.cell 2 _ rfl); have HB : ∀ v, PlanIn (w1.setCell ⟨w.heap.size + 1 + 1, 1, none⟩ v) p := (fun v => h.below (bw1.setCell (by simp; omega) v)))
    | (go_at_call 16; go_loud (refine (toL_any _ _ _ _ hs.l hs.li (HB _).l (HB _).li).mono ?_); rintro r w2 ⟨M, rfl, hM, hL, hI, hz2, hb2⟩; have x2 := (x1.set 1 (.slice (some ⟨w.heap.size + 1 + 1 + 1, 0, none⟩) p.dl.length p.dl.length)).below hb2; have y2 := (y1.far (c := w.heap.size + 1 + 1) (k := 1) (.slice (some ⟨w.heap.size + 1 + 1 + 1, 0, none⟩) p.dl.length p.dl.length) (by omega)).below hb2; have d0 := x2.cell 0 _ rfl; have d1 := x2.cell 1 _ rfl; have d2 := x2.cell 2 _ rfl; have zx := x2.frozen; have e0 := y2.cell 0 _ rfl; have e1 := y2.cell 1 _ rfl; have e2 := y2.cell 2 _ rfl; have zy := y2.frozen; have bw2 : Below w.heap.size w w2 := ((bw1.setCell (by simp; omega) _).trans (hb2.mono (by simpa using bw1.size))); have hy2 : w1.heap.size < w2.heap.size := (by simpa using hz2)))
  simp only [World.size_alloc, World.size_setCell] at hD hL hI
  have hn1 : ¬ w.heap.size + 1 = w.heap.size + 1 + 1 := by omega
  have hn2 : ¬ w.heap.size + 1 + 1 = w.heap.size + 1 := by omega
  have hz3 : w.heap.size + 1 + 1 < w1.heap.size := by omega
  have hz4 : w.heap.size + 1 < w1.heap.size := by omega
  have hz5 : w.heap.size + 1 + 1 < w2.heap.size := by omega
  have hz6 : w.heap.size + 1 < w2.heap.size := by omega
  refine bodyPost_ret (show (results Tryd.f6 _).run Tryd.prog _ = .ok (.agg #[.int .i64 p.bits, .slice (some ⟨w.heap.size + 1 + 1 + 1, 0, none⟩) p.dl.length p.dl.length, .slice (some ⟨w1.heap.size, 0, none⟩) p.ll.length p.ll.length]) _ from by simp [results, Tryd.results6, go_sem, *]) rfl ?_
  have hMl : M.length = p.ll.length := by have := congrArg List.length hM; simpa using this
  refine ⟨⟨p.bits, some ⟨w.heap.size + 1 + 1 + 1, 0, none⟩, p.dl.length, p.dl, some ⟨w1.heap.size, 0, none⟩, p.ll.length, M⟩, by rw [hMl], by simp [QP.pl, hM], ?_, ?_⟩
  · refine ⟨?_, ?_, ?_⟩
    · repeat (refine LiesG.far ?_ (fun b o e => by injection e with e; injection e with e; omega))
      refine LiesG.below ?_ hb2
      repeat (refine LiesG.far ?_ (fun b o e => by injection e with e; injection e with e; omega))
      exact hD
    · repeat (refine LiesG.far ?_ (fun b o e => by injection e with e; injection e with e; omega))
      exact hL
    · intro x hx
      obtain ⟨q1, q2⟩ := hI x hx
      repeat (refine LiesG.far ?_ (fun b o e => by have := q2 b o e; omega))
      exact q1
  · repeat (refine Below.setCell ?_ (by simp; try omega) _)
    exact bw2

set_option maxRecDepth 100000 in
set_option maxHeartbeats 2000000 in
theorem szP_any (p : QP) (a : Int) (w : World) (ha : 0 ≤ a) (ha2 : a ≤ 1048576) (hl : p.Long) (h : PlanIn w p) :
    Calls Tryd.prog 4 #[.agg #[.int .i64 p.bits, .slice p.dP p.dl.length p.dc, .slice p.lP p.ll.length p.lc], .int .i64 a] w fun r w' => r = .returned (.int .i64 (szR (p.sz : Int) a)) ∧ Below w.heap.size w w' := by
  have HD : Hid _ := (fun w => szD_any p.dP p.dc p.dl.length a w ha ha2 hl.d)
  by_cases h1 : (p.dl.length : Int) ≤ a
  · obtain ⟨q, hq⟩ : ∃ q, a - (p.dl.length : Int) = q := ⟨_, rfl⟩
    rw [szR_pos h1, hq] at HD
    have q0 : 0 ≤ q := by omega
    have q1 : ¬ q < 0 := by omega
    have q2 : q ≤ 1048576 := by omega
    have HL : Hid _ := (fun (W : World) (hb : Below w.heap.size w W) => szL_any p.lP p.lc p.ll q W q0 q2 hl.l hl.li (h.below hb).l)
    by_cases h2 : ((p.ll.length + sumL p.ll : Nat) : Int) ≤ q
    · have hv : szR (p.sz : Int) a = q - ((p.ll.length + sumL p.ll : Nat) : Int) := by rw [szR_pos (by unfold QP.sz; omega)]; unfold QP.sz; omega
      rw [szR_pos h2] at HL
      rw [hv]
      generalize q - ((p.ll.length + sumL p.ll : Nat) : Int) = z at *
      have hz0 : ¬ z < 0 := by rw [← hv, szR_pos (by unfold QP.sz; omega)]; unfold QP.sz; omega
      clear hv hq h1 h2
      go_enter Tryd.func4, Tryd.ntmps4
      go_wp2_with (first
        | (go_at_call 9; refine (HD.out _).mono ?_; rintro r w1 ⟨rfl, rfl⟩)
        | (go_at_call 10; refine (HL.out _ (by repeat (first | exact Below.refl _ _ | (refine Below.setCell ?_ (by simp; try omega) _) | (refine Below.alloc ?_ (by simp; try omega) _)))).mono ?_; rintro r w2 ⟨rfl, hb⟩))
      go_ret
      exact ⟨rfl, Below.trans (by repeat (first | exact Below.refl _ _ | (refine Below.setCell ?_ (by simp; try omega) _) | (refine Below.alloc ?_ (by simp; try omega) _))) (hb.mono (by simp))⟩
    · have hv : szR (p.sz : Int) a = -1 := szR_neg (by unfold QP.sz; omega)
      rw [szR_neg h2] at HL
      rw [hv]
      clear hv hq h1 h2
      go_enter Tryd.func4, Tryd.ntmps4
      go_wp2_with (first
        | (go_at_call 9; refine (HD.out _).mono ?_; rintro r w1 ⟨rfl, rfl⟩)
        | (go_at_call 10; refine (HL.out _ (by repeat (first | exact Below.refl _ _ | (refine Below.setCell ?_ (by simp; try omega) _) | (refine Below.alloc ?_ (by simp; try omega) _)))).mono ?_; rintro r w2 ⟨rfl, hb⟩))
      go_ret
      exact ⟨rfl, Below.trans (by repeat (first | exact Below.refl _ _ | (refine Below.setCell ?_ (by simp; try omega) _) | (refine Below.alloc ?_ (by simp; try omega) _))) (hb.mono (by simp))⟩
  · have hv : szR (p.sz : Int) a = -1 := szR_neg (by unfold QP.sz; omega)
    rw [szR_neg h1] at HD
    rw [hv]
    clear hv h1
    go_enter Tryd.func4, Tryd.ntmps4
    go_wp2_with ((go_at_call 9; refine (HD.out _).mono ?_; rintro r w1 ⟨rfl, rfl⟩))
    go_ret
    exact ⟨rfl, (by repeat (first | exact Below.refl _ _ | (refine Below.setCell ?_ (by simp; try omega) _) | (refine Below.alloc ?_ (by simp; try omega) _)))⟩

set_option maxRecDepth 100000 in
set_option maxHeartbeats 2000000 in
theorem eqP_same (p q : QP) (w : World) (hs : p.Short) (hpq : p.pl = q.pl) (hp : PlanIn w p) (hq : PlanIn w q) :
    Calls Tryd.prog 8 #[.agg #[.int .i64 p.bits, .slice p.dP p.dl.length p.dc, .slice p.lP p.ll.length p.lc], .agg #[.int .i64 q.bits, .slice q.dP q.dl.length q.dc, .slice q.lP q.ll.length q.lc]] w fun r w' => r = .returned (.bool true) ∧ Below w.heap.size w w' := by
  have h1 := QP.pl_d hpq
  have h2 := QP.pl_l hpq
  have h3 := QP.pl_b hpq
  have h4 : p.ll.length = q.ll.length := by have := congrArg List.length h2; simpa using this
  have HD : Hid _ := (fun (W : World) (hb : Below w.heap.size w W) => eqD_same p.dP q.dP p.dc q.dc p.dl W hs.d (hp.below hb).d (by rw [h1]; exact (hq.below hb).d))
  have HL : Hid _ := (fun (W : World) (hb : Below w.heap.size w W) => eqL_same p.lP q.lP p.lc q.lc p.ll q.ll W hs.l h2 hs.li (hp.below hb).l (hq.below hb).l (hp.below hb).li (hq.below hb).li)
  rw [← h1, ← h3, ← h4]
  clear h1 h2 h3 h4
  go_enter Tryd.func8, Tryd.ntmps8
  go_wp2_with (first
    | (go_at_call 18; refine (HD.out _ (by repeat (first | exact Below.refl _ _ | (refine Below.setCell ?_ (by simp; try omega) _) | (refine Below.alloc ?_ (by simp; try omega) _)))).mono ?_; rintro r w1 ⟨rfl, hb1⟩; have bw1 : Below w.heap.size w w1 := (Below.trans (by repeat (first | exact Below.refl _ _ | (refine Below.setCell ?_ (by simp; try omega) _) | (refine Below.alloc ?_ (by simp; try omega) _))) (hb1.mono (by simp; omega))); obtain ⟨hc1, hf1⟩ := bcell hb1)
    | (go_at_call 19; refine (HL.out _ bw1).mono ?_; rintro r w2 ⟨rfl, hb2⟩))
  go_ret
  exact ⟨rfl, bw1.trans (hb2.mono bw1.size)⟩

end Go.Proofs.YtjiignkappabpaaDoor
