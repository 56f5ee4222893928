/-
  Texts of the proof, put together: DrawSlot, DrawPut, DrawTree, HalfDrawn, PairDrawn, DrawHalf, DrawLaws, TreeFacts.
-/
import Derived.Test.YtalncgmncafhjaaCapDrawn
import Derived.Test.YtalncgmncafhjaaToSlots
import Derived.Test.YtalncgmncafhjaaRows3
import Derived.Test.YtalncgmncafhjaaPutBoth
import Derived.Test.YtalncgmncafhjaaSpoilDrawn
import Derived.Test.YtalncgmncafhjaaBundleA
import Derived.Test.YtalncgmncafhjaaPutImpl
/-
  What the drawing of a slot answers: some slot, its numbers small; of what was there the reader's count alone turns. Condition: the reader can read.
-/
namespace Go.Proofs.Ytalncgmncafhjaa
open Go.ChangeShapes Go.WideShapes Go.ChangeAt Go.RowKit
set_option linter.unusedVariables false

/-- The numbers of a slot are small. -/
structure Sl.Tame (s : Sl) : Prop where
  t : -1000000 ≤ s.t ∧ s.t ≤ 1000000
  r : -10 ≤ s.r ∧ s.r ≤ 10
  p : -1000000 ≤ s.p ∧ s.p ≤ 1000000
theorem Sl.Tame.fit {s : Sl} (h : s.Tame) : s.Fit := ⟨by have := h.t; omega, by have := h.r; omega, by have := h.p; omega⟩

theorem slot_res {W : World} {B : Nat} {v0 v1 v2 v3 v4 v5 v6 v7 v8 v9 v10 : Value} {tmps : Array Value} (hp : tmps.getD 2 undef = .pointer (some ⟨B, 0, none⟩)) (h : Holds11 W B v0 v1 v2 v3 v4 v5 v6 v7 v8 v9 v10) :
    (results Try.f22 tmps).run Try.prog W = .ok (.agg #[v0, v1, v2, v3, v4, v5, v6, v7, v8, v9, v10]) W := by
  obtain ⟨h0, h1, h2, h3, h4, h5, h6, h7, h8, h9, h10, hz⟩ := h
  have hp2 : tmps[2]?.getD undef = .pointer (some ⟨B, 0, none⟩) := by simpa [Array.getD_eq_getD_getElem?] using hp
  simp [results, Try.results22, go_sem, *]

theorem Holds11.fr {w w' : World} {p B : Nat} {v0 v1 v2 v3 v4 v5 v6 v7 v8 v9 v10 : Value} (H : Holds11 w B v0 v1 v2 v3 v4 v5 v6 v7 v8 v9 v10) (F : Fr p w w') (hB : B < w.heap.size) (hne : B ≠ p) : Holds11 w' B v0 v1 v2 v3 v4 v5 v6 v7 v8 v9 v10 :=
  ⟨(F.cel _ _ hB hne).trans H.c0, (F.cel _ _ hB hne).trans H.c1, (F.cel _ _ hB hne).trans H.c2, (F.cel _ _ hB hne).trans H.c3, (F.cel _ _ hB hne).trans H.c4, (F.cel _ _ hB hne).trans H.c5, (F.cel _ _ hB hne).trans H.c6, (F.cel _ _ hB hne).trans H.c7, (F.cel _ _ hB hne).trans H.c8, (F.cel _ _ hB hne).trans H.c9, (F.cel _ _ hB hne).trans H.c10, fun i => (F.frz _ _ hB).trans (H.z i)⟩

set_option maxHeartbeats 2000000 in
theorem slot_any (p n k : Nat) (w : World) (h : Reads w p n k) (hk : k ≤ 2800) (hp : p < w.heap.size) :
    Calls Try.prog 22 #[.pointer (some ⟨p, 0, none⟩)] w fun e w' => ∃ s : Sl, e = .returned (.agg #[.int .i64 s.t, .int .i64 s.k, .int .i64 s.e, .int .i64 s.b, .int .i64 s.r, .int .i64 s.d, .int .i64 s.g, .int .i64 s.q, .int .i64 s.f, .bool s.o, .int .i64 s.p]) ∧ s.Tame ∧ (0 ≤ s.p ∧ s.p ≤ 4) ∧ (∃ j, j ≤ k + 10 ∧ Reads w' p n j) ∧ Fr p w w' := by
  go_enter Try.func22, Try.ntmps22
  go_wp2_with fail
  refine (pick_fr p n k _ _ (reads_alloc h hp _) (by omega) (by omega) (by omega)).mono ?_
  rintro e w1 ⟨x, rfl, hx, hr1, F1⟩
  go_wp2_with fail
  refine (cap_any p n (k + 1) _ hr1 (by omega) (by have := F1.siz; simp at this; omega)).mono ?_
  rintro e w2 ⟨k', a, b, r, d, g, q, f, o, rfl, hr, ⟨j, hj, hr2⟩, F2⟩
  go_wp2_with fail
  refine (pick_fr p n j _ _ hr2 (by omega) (by omega) (by omega)).mono ?_
  rintro e w3 ⟨y, rfl, hy, hr3, F3⟩
  have FW := (F1.trans F2).trans F3
  have hsz : w.heap.size < w3.heap.size := by have := FW.siz; simp at this; omega
  have HR := (Holds11.alloc w (.int .i64 0) (.int .i64 0) (.int .i64 0) (.int .i64 0) (.int .i64 0) (.int .i64 0) (.int .i64 0) (.int .i64 0) (.int .i64 0) (.bool false) (.int .i64 0) 27).fr FW (by simp) (by omega)
  have FF := ((Fr.refl p w).alloc (by omega) (.cells #[.int .i64 0, .int .i64 0, .int .i64 0, .int .i64 0, .int .i64 0, .int .i64 0, .int .i64 0, .int .i64 0, .int .i64 0, .bool false, .int .i64 0] 27)).trans FW
  clear hr1 hr2 F1 F2 F3 FW
  obtain ⟨R, hR⟩ : ∃ R, R = w.heap.size := ⟨_, rfl⟩
  rw [← hR] at HR hsz ⊢
  have hRs : w.heap.size ≤ R := by omega
  have hpR : p < R := by omega
  clear hR
  have HR' := HR
  obtain ⟨c0, c1, c2, c3, c4, c5, c6, c7, c8, c9, c10, cz⟩ := HR'
  go_wp2_with fail
  refine bodyPost_ret (slot_res rfl (HR.put11 _ _ _ _ _ _ _ _ _ _ _)) rfl ?_
  refine ⟨⟨_, _, _, _, _, _, _, _, _, _, _⟩, rfl, ⟨by dsimp only; omega, by dsimp only; omega, by dsimp only; omega⟩, by dsimp only; omega, ⟨j + 1, by omega, ?_⟩, ?_⟩
  · repeat (refine reads_put ?_ (by omega) _ _)
    exact hr3
  · repeat (refine Fr.set ?_ (by omega) (by omega) _ _)
    exact FF

set_option maxHeartbeats 1000000 in
theorem place_any (p n k m c : Nat) (P : Option Addr) (w : World) (h : Reads w p n k) (hk : k ≤ 2900) (hm : m ≤ 900) :
    Calls Try.prog 21 #[.pointer (some ⟨p, 0, none⟩), .slice P m c] w fun e w' => ∃ x : Int, e = .returned (.int .i64 x) ∧ (-1 ≤ x ∧ x ≤ (m : Int) + 1) ∧ Reads w' p n (k + 1) ∧ Fr p w w' := by
  go_enter Try.func21, Try.ntmps21
  go_wp2_with (go_at_call 40; refine (pick_fr p n k _ _ h (by omega) (by omega) (by omega)).mono ?_; rintro e w1 ⟨x, rfl, hx, hr, F⟩)
  go_ret
  exact ⟨_, rfl, by omega, hr, F⟩

theorem lies_sameAt {W W' : World} {B : Nat} {L : List Sl} (h : Lies W (some ⟨B, 0, none⟩) L) (hc : ∀ o, W'.cell? ⟨B, o, none⟩ = W.cell? ⟨B, o, none⟩) : Lies W' (some ⟨B, 0, none⟩) L := by
  refine ⟨.inr ⟨B, 0, rfl⟩, fun B' O e i hi => ?_⟩
  cases e
  exact (h.cells B 0 rfl i hi).of fun j => hc _

end Go.Proofs.Ytalncgmncafhjaa
/-
  A list of slots that was drawn: it owns its row, behind the reader; what the putting of one slot makes of it. Conditions: it is a tree of at most thirteen slots, or has small depths.
-/
namespace Go.Proofs.Ytalncgmncafhjaa
open Go.ChangeShapes Go.WideShapes Go.ChangeAt Go.RowKit
set_option linter.unusedVariables false

/-- A list with its row, behind the reader's block. -/
def OwnL (W : World) (q g cap : Nat) (L : List Sl) : Prop := W.ownsRow (q + 1) 27 11 (.slice (some ⟨g, 0, none⟩) L.length cap) L.length (cellsAll L)

theorem OwnL.lies {W : World} {q g cap : Nat} {L : List Sl} (h : OwnL W q g cap L) : Lies W (some ⟨g, 0, none⟩) L := (owns_lies h).1
theorem OwnL.gt {W : World} {q g cap : Nat} {L : List Sl} (h : OwnL W q g cap L) : q < g := (owns_lies h).2.1
theorem OwnL.lt {W : World} {q g cap : Nat} {L : List Sl} (h : OwnL W q g cap L) : g < W.heap.size := (owns_lies h).2.2.2.2
theorem OwnL.cap {W : World} {q g cap : Nat} {L : List Sl} (h : OwnL W q g cap L) : L.length ≤ cap := (owns_cap h).1
theorem OwnL.cm {W : World} {q g cap : Nat} {L : List Sl} (h : OwnL W q g cap L) : cap ≤ 9223372036854775807 := (owns_cap h).2
theorem OwnL.fr {W W' : World} {q g cap : Nat} {L : List Sl} (h : OwnL W q g cap L) (F : Fr q W W') : OwnL W' q g cap L := own_same h (F.obj g h.lt (by have := h.gt; omega))
theorem OwnL.below {W W' : World} {q g cap : Nat} {L : List Sl} (h : OwnL W q g cap L) (hb : Below W.heap.size W W') : OwnL W' q g cap L := own_same h (hb.block g h.lt)
theorem OwnL.of {W : World} {q g cap n B : Nat} {L : List Sl} (h : W.ownsRow B 27 11 (.slice (some ⟨g, 0, none⟩) n cap) n (cellsAll L)) (hq : q < B) : OwnL W q g cap L := by
  have hn := (owns_lies h).2.2.1
  subst hn
  exact own_base h hq

theorem Fr.of_low {p : Nat} {w w' : World} (h : Below w.heap.size w w') (hp : p ≤ w.heap.size) : Fr p w w' := by
  have hb := bcell (W := w) h
  exact ⟨fun b o hl _ => hb.1 b o hl, fun b o hl => hb.2 b o hl, h.size, h.mono hp, fun b hl _ => h.block b hl⟩
theorem Reads.below {w w' : World} {p n k : Nat} (h : Reads w p n k) (hp : p < w.heap.size) (hb : Below w.heap.size w w') : Reads w' p n k := by
  have hc := bcell (W := w) hb
  obtain ⟨a, c, g0, g1, g2, g3, g4⟩ := id h
  exact h.later ((hc.1 _ _ hp).trans g1) ((hc.2 _ _ hp).trans g2) (hc.1 _ _ hp) (fun b o hlt => hc.1 _ _ (by omega))

theorem tame_put {L R : List Sl} {s : Sl} {d : Int} (hL : ∀ x ∈ L, x.Tame) (hs : s.Tame) (hR : ∀ x ∈ R, x ∈ L ∨ x = s.at d) (hd : -1000000 ≤ d ∧ d ≤ 1000000) : ∀ x ∈ R, x.Tame := by
  intro x hx
  rcases hR x hx with h | h
  · exact hL x h
  · subst h; exact ⟨hs.t, hs.r, hd⟩
theorem putAt_mem {L : List Sl} {k : Nat} {s : Sl} {d : Int} : ∀ x ∈ putAt L k s d, x ∈ L ∨ x = s.at d := by
  intro x hx
  simp only [putAt, List.mem_append, List.mem_singleton] at hx
  rcases hx with h | h | h
  · exact .inl (List.mem_of_mem_take h)
  · exact .inr h
  · exact .inl (List.mem_of_mem_drop h)
theorem putAt_len {L : List Sl} {k : Nat} {s : Sl} {d : Int} (hk : k < L.length) : (putAt L k s d).length = L.length + 1 := by
  simp [putAt]; omega

theorem put_any (q g cap : Nat) (L : List Sl) (i : Int) (s : Sl) (w : World) (h : OwnL w q g cap L) (hT : treeB L = true) (hlen : L.length ≤ 13) (hi0 : -1 ≤ i) (hi1 : i < (L.length : Int)) (hL : ∀ x ∈ L, x.Tame) (hs : s.Tame) :
    Calls Try.prog 7 #[.slice (some ⟨g, 0, none⟩) L.length cap, .int .i64 i, .agg #[.int .i64 s.t, .int .i64 s.k, .int .i64 s.e, .int .i64 s.b, .int .i64 s.r, .int .i64 s.d, .int .i64 s.g, .int .i64 s.q, .int .i64 s.f, .bool s.o, .int .i64 s.p]] w fun e w' =>
      (e = .returned (.tuple #[.slice none 0 0, .bool false]) ∧ Below w.heap.size w w') ∨
      (∃ g' cap' R, e = .returned (.tuple #[.slice (some ⟨g', 0, none⟩) R.length cap', .bool true]) ∧ R.length = L.length + 1 ∧ treeB R = true ∧ (∀ x ∈ R, x.Tame) ∧ OwnL w' q g' cap' R ∧ w.heap.size ≤ g' ∧ Below w.heap.size w w') := by
  have hq : q < w.heap.size := Nat.lt_trans h.gt h.lt
  by_cases hi : i = -1
  · subst hi
    refine (treePutSpec_own g 0 cap (-1) L (L ++ [s.at 0]) s w (by omega) h.cap h.cm h.lies hT (by omega) (by omega) (by omega) (by simp)
      (fun W hW h1 => putSpec_last_own g 0 cap (-1) L s W (by omega) h1 (Nat.lt_of_lt_of_le h.lt hW.size) (by omega))).mono ?_
    rintro e w' (⟨_, he, hb⟩ | ⟨hT', g', cap', he, hg, hg', hL', hb, own⟩)
    · exact .inl ⟨he, hb⟩
    · refine .inr ⟨g', cap', L ++ [s.at 0], by rw [he]; simp, by simp, hT', ?_, OwnL.of own hq, hg, hb⟩
      exact tame_put hL hs (d := 0) (fun x hx => by simpa using hx) (by omega)
  · obtain ⟨k, rfl⟩ : ∃ k : Nat, i = k := ⟨i.toNat, by omega⟩
    have hk : k < L.length := by omega
    have hd := treeB_depth hT hk
    refine (treePutSpec_own g 0 cap (k : Int) L (putAt L k s (L[k].p + 1)) s w (by omega) h.cap h.cm h.lies hT (by omega) (by omega) (by omega) (putAt_len hk)
      (fun W hW h1 => putSpec_at_own g 0 cap k L s L[k].p W (by omega) h.cap h.cm h1 hk rfl hd.1 (by omega))).mono ?_
    rintro e w' (⟨_, he, hb⟩ | ⟨hT', g', cap', he, hg, hg', hL', hb, own⟩)
    · exact .inl ⟨he, hb⟩
    · refine .inr ⟨g', cap', putAt L k s (L[k].p + 1), by rw [he, putAt_len hk], putAt_len hk, hT', ?_, OwnL.of own hq, hg, hb⟩
      exact tame_put hL hs (fun x hx => putAt_mem x hx) (by omega)

/-- No slot is deeper than a bound. -/
def lowB (L : List Sl) (m : Int) : Prop := ∀ x ∈ L, 0 ≤ x.p ∧ x.p ≤ m

theorem put2_any (q g cap : Nat) (L : List Sl) (i : Int) (s : Sl) (w : World) (h : OwnL w q g cap L) (hlow : lowB L ((L.length : Int) + 12)) (hlen : L.length ≤ 13) (hi : i = (L.length : Int) - 1) (hL : ∀ x ∈ L, x.Tame) (hs : s.Tame) :
    Calls Try.prog 24 #[.slice (some ⟨g, 0, none⟩) L.length cap, .int .i64 i, .agg #[.int .i64 s.t, .int .i64 s.k, .int .i64 s.e, .int .i64 s.b, .int .i64 s.r, .int .i64 s.d, .int .i64 s.g, .int .i64 s.q, .int .i64 s.f, .bool s.o, .int .i64 s.p]] w fun e w' =>
      ∃ g' cap' R, e = .returned (.slice (some ⟨g', 0, none⟩) R.length cap') ∧ R.length = L.length + 1 ∧ lowB R ((R.length : Int) + 12) ∧ (∀ x ∈ R, x.Tame) ∧ OwnL w' q g' cap' R ∧ w.heap.size ≤ g' ∧ Below w.heap.size w w' := by
  have hq : q < w.heap.size := Nat.lt_trans h.gt h.lt
  by_cases h0 : L = []
  · subst h0
    refine (putSpec_last_own g 0 cap i [] s w (by simp) h.lies h.lt (by simp at hi; omega)).mono ?_
    rintro e w' ⟨g', cap', he, hg, _, _, _, _, hb, own⟩
    refine ⟨g', cap', [] ++ [s.at 0], by rw [he]; simp, by simp, ?_, tame_put hL hs (d := 0) (fun x hx => by simpa using hx) (by omega), OwnL.of own hq, hg, hb⟩
    intro x hx
    simp at hx; subst hx; simp [Sl.at]
  · have hpos : 0 < L.length := List.length_pos_iff.2 h0
    obtain ⟨k, rfl⟩ : ∃ k : Nat, i = k := ⟨i.toNat, by omega⟩
    have hk : k < L.length := by omega
    have hd := hlow L[k] (List.getElem_mem hk)
    refine (putSpec_at_own g 0 cap k L s L[k].p w (by omega) h.cap h.cm h.lies hk rfl hd.1 (by omega)).mono ?_
    rintro e w' ⟨g', cap', he, hg, _, _, _, _, hb, own⟩
    refine ⟨g', cap', putAt L k s (L[k].p + 1), by rw [he, putAt_len hk], putAt_len hk, ?_, tame_put hL hs (fun x hx => putAt_mem x hx) (by omega), OwnL.of own hq, hg, hb⟩
    intro x hx
    rw [putAt_len hk]
    rcases putAt_mem x hx with h1 | h1
    · have := hlow x h1; push_cast; omega
    · subst h1; show 0 ≤ L[k].p + 1 ∧ L[k].p + 1 ≤ _; push_cast; omega

end Go.Proofs.Ytalncgmncafhjaa
/-
  What the drawing of a tree answers: a list of at most fourteen slots in new memory; of what was there the reader's count alone turns. Condition: the reader can read.
-/
namespace Go.Proofs.Ytalncgmncafhjaa
open Go.ChangeShapes Go.WideShapes Go.ChangeAt Go.RowKit
set_option linter.unusedVariables false

def lenV : Value → Nat
  | .slice _ n _ => n
  | _ => 0

/-- Between two rounds of the first loop. -/
def treeInv (w : World) (p n k : Nat) (v i : Value) (w' : World) : Prop :=
  ∃ (g cap t j : Nat) (L : List Sl), v = .slice (some ⟨g, 0, none⟩) L.length cap ∧ i = .int .i64 (t : Int) ∧ L.length + t ≤ 13 ∧ treeB L = true ∧ (∀ s ∈ L, s.Tame) ∧ OwnL w' p g cap L ∧ w.heap.size ≤ g ∧ Reads w' p n j ∧ j + 12 * t ≤ k + 170 ∧ Fr p w w'

/-- Between two rounds of the second loop. -/
def deepInv (w : World) (p n k : Nat) (v : Value) (w' : World) : Prop :=
  ∃ (g cap j : Nat) (L : List Sl), v = .slice (some ⟨g, 0, none⟩) L.length cap ∧ L.length ≤ 13 ∧ lowB L ((L.length : Int) + 12) ∧ (∀ s ∈ L, s.Tame) ∧ OwnL w' p g cap L ∧ w.heap.size ≤ g ∧ Reads w' p n j ∧ j + 10 * (14 - L.length) ≤ k + 330 ∧ Fr p w w'

/-- What is answered. -/
def treeOut (w : World) (p n k : Nat) (v : Value) (w' : World) : Prop :=
  ∃ (g cap : Nat) (L : List Sl), v = .slice (some ⟨g, 0, none⟩) L.length cap ∧ L.length ≤ 13 ∧ (∀ s ∈ L, s.Tame) ∧ lowB L 100 ∧ OwnL w' p g cap L ∧ w.heap.size ≤ g ∧ (∃ j, j ≤ k + 400 ∧ Reads w' p n j) ∧ Fr p w w'

theorem tree_low {L : List Sl} (hT : treeB L = true) : lowB L ((L.length : Int) + 12) := by
  intro x hx
  obtain ⟨i, hi, rfl⟩ := List.mem_iff_getElem.1 hx
  have := treeB_depth hT hi
  omega

set_option maxRecDepth 100000 in
set_option maxHeartbeats 4000000 in
theorem tree_any (p n k : Nat) (w : World) (h : Reads w p n k) (hk : k ≤ 100) (hp : p < w.heap.size) :
    Calls Try.prog 39 #[.pointer (some ⟨p, 0, none⟩)] w fun e w' => ∃ v, e = .returned v ∧ treeOut w p n k v w' := by
  have own0 := World.ownsRow_made (base := p + 1) (e := 27) (size := 11) w #[] 0 (by omega) (Nat.zero_le _) rfl
  have F0 := (Fr.refl p w).alloc (by omega) (.cells #[] 27)
  have hr0 := reads_alloc h hp (.cells #[] 27)
  go_enter Try.func39, Try.ntmps39
  go_wp2_with fail
  refine (pick_fr p n k _ _ hr0 (by omega) (by omega) (by omega)).mono ?_
  rintro e w1 ⟨x, rfl, hx, hr1, F1⟩
  obtain ⟨x, rfl⟩ : ∃ y : Nat, x = y := ⟨x.toNat, by omega⟩
  have ownL : OwnL w1 p w.heap.size 0 [] := OwnL.fr (W := w.alloc (.cells #[] 27)) own0 F1
  have FF := F0.trans F1
  clear own0 F0 hr0 F1
  go_wp2_with fail
  go_loopw [3, 4, 5, 6, 7] (fun v i a b c w' => treeInv w p n k v i w') (fun v i a b c w' => (intOf i).toNat)
  case atStart => exact ⟨w.heap.size, 0, x, k + 1, [], rfl, rfl, by simp; omega, rfl, by simp, ownL, Nat.le_refl _, hr1, by omega, FF⟩
  case round =>
    clear hr1 ownL FF
    obtain ⟨g, cap, t, j, L, rfl, rfl, hlt, hT, hta, own, hgw, hr, hj, F⟩ := hrel
    have hps : p < wr.heap.size := Nat.lt_of_lt_of_le hp F.siz
    cases t with
    | zero =>
      go_wp2_with fail
      refine (pick_fr p n j _ _ hr (by omega) (by omega) (by omega)).mono ?_
      rintro e w1 ⟨y, rfl, hy, hr1, F1⟩
      have own1 := own.fr F1
      have FF := F.trans F1
      clear own hr F F1
      cases hq : (y == 0)
      · go_wp2_with fail
        go_ret
        exact ⟨_, rfl, g, cap, L, rfl, by omega, hta, fun x hx => by have := tree_low hT x hx; omega, own1, hgw, ⟨j + 1, by omega, hr1⟩, FF⟩
      · go_wp2_with fail
        go_loopw [3] (fun v w' => deepInv w p n k v w') (fun v w' => 20 - lenV v)
        case atStart => exact ⟨g, cap, j + 1, L, rfl, by omega, tree_low hT, hta, own1, hgw, hr1, by omega, FF⟩
        case round =>
          clear hr1 own1 FF hq hT hta hlt hj hps hgw
          obtain ⟨g, cap, j, L, rfl, hlt, hlow, hta, own, hgw, hr, hj, F⟩ := hrel
          have hps := Nat.lt_of_lt_of_le hp F.siz
          have hcap := own.cap
          go_wp2_with fail
          refine (pick_fr p n j _ _ hr (by omega) (by omega) (by omega)).mono ?_
          rintro e w1 ⟨z, rfl, hz, hr1, F1⟩
          have own1 := own.fr F1
          have FF := F.trans F1
          have hps1 : p < w1.heap.size := Nat.lt_of_lt_of_le hps F1.siz
          clear own hr F F1
          by_cases hlz : (L.length : Int) < 12 + z
          · go_wp2_with fail
            refine (cap_any p n (j + 1) _ hr1 (by omega) hps1).mono ?_
            rintro e w2 ⟨k', a, b, r, d, g1, q, f, o, rfl, hrr, ⟨j2, hj2, hr2⟩, F2⟩
            have own2 := own1.fr F2
            have FF2 := FF.trans F2
            have hps2 : p < w2.heap.size := Nat.lt_of_lt_of_le hps1 F2.siz
            clear own1 hr1 FF F2
            go_wp2_with fail
            refine (put2_any p g cap L _ ⟨_, _, _, _, _, _, _, _, _, _, _⟩ w2 own2 hlow hlt rfl hta ⟨by dsimp only; omega, by dsimp only; omega, by dsimp only; omega⟩).mono ?_
            rintro e w3 ⟨g', cap', R, rfl, hRl, hRlow, hRta, own3, hgn, hb⟩
            go_wp2_with fail
            go_roundw
            case rel => exact ⟨g', cap', j2, R, by rw [hRl], by omega, hRlow, hRta, own3, Nat.le_trans FF2.siz hgn, hr2.below hps2 hb, by omega, FF2.trans (Fr.of_low hb (by omega))⟩
            case measure => simp [lenV]; omega
          · go_wp2_with fail
            go_ret
            exact ⟨_, rfl, g, cap, L, rfl, hlt, hta, fun x hx => by have := hlow x hx; omega, own1, hgw, ⟨j + 1, by omega, hr1⟩, FF⟩
    | succ t =>
      have hcap := own.cap
      go_wp2_with fail
      refine (pick_fr p n j _ _ hr (by omega) (by omega) (by omega)).mono ?_
      rintro e w1 ⟨x1, rfl, hx1, hr1, F1⟩
      have own1 := own.fr F1
      have FF1 := F.trans F1
      have hps1 : p < w1.heap.size := Nat.lt_of_lt_of_le hps F1.siz
      clear own hr F F1
      go_wp2_with fail
      refine (pick_fr p n (j + 1) _ _ hr1 (by omega) (by omega) (by omega)).mono ?_
      rintro e w2 ⟨y, rfl, hy, hr2, F2⟩
      have own2 := own1.fr F2
      have FF2 := FF1.trans F2
      have hps2 : p < w2.heap.size := Nat.lt_of_lt_of_le hps1 F2.siz
      clear own1 hr1 FF1 F2
      cases hq : (y == 0)
      all_goals
        go_wp2_with fail
        refine (slot_any p n (j + 1 + 1) _ hr2 (by omega) hps2).mono ?_
        rintro e w3 ⟨s, rfl, hs, hs4, ⟨j3, hj3, hr3⟩, F3⟩
        have own3 := own2.fr F3
        have FF3 := FF2.trans F3
        have hps3 : p < w3.heap.size := Nat.lt_of_lt_of_le hps2 F3.siz
        clear own2 hr2 FF2 F3
        go_wp2_with fail
        refine (put_any p g cap L _ s w3 own3 hT (by omega) (by omega) (by omega) hta hs).mono ?_
        rintro e w4 (⟨rfl, hb⟩ | ⟨g', cap', R, rfl, hRl, hRT, hRta, own4, hgn, hb⟩)
        · go_wp2_with fail
          go_roundw
          case rel => exact ⟨g, cap, t, j3, L, rfl, by go_num, by omega, hT, hta, own3.below hb, hgw, hr3.below hps3 hb, by omega, FF3.trans (Fr.of_low hb (by omega))⟩
          case measure => first | (simp [intOf]; done) | (simp [intOf]; omega)
        · go_wp2_with fail
          go_roundw
          case rel => exact ⟨g', cap', t, j3, R, by rw [hRl], by go_num, by omega, hRT, hRta, own4, Nat.le_trans FF3.siz hgn, hr3.below hps3 hb, by omega, FF3.trans (Fr.of_low hb (by omega))⟩
          case measure => first | (simp [intOf]; done) | (simp [intOf]; omega)

end Go.Proofs.Ytalncgmncafhjaa
/-
  What the drawing of a capability, one in three spoilt, answers.
-/
namespace Go.Proofs.Ytalncgmncafhjaa
open Go.ChangeShapes Go.WideShapes Go.ChangeAt Go.RowKit
set_option linter.unusedVariables false

end Go.Proofs.Ytalncgmncafhjaa
/-
  What DrawCapCopy and DrawCapMint answer: nine fields, the rights small, and one or two words.
-/
namespace Go.Proofs.Ytalncgmncafhjaa
open Go.ChangeShapes Go.WideShapes Go.ChangeAt Go.RowKit
set_option linter.unusedVariables false

theorem Bytes.alloc {w : World} {a : Option Addr} {n c : Nat} (h : Bytes w a n c) (o : Obj) : Bytes (w.alloc o) a n c := by
  rcases h with e | ⟨b, x, e, hbl, hnc, hz⟩
  · exact .inl e
  · have hb : Below w.heap.size w (w.alloc o) := (Below.refl _ _).alloc (Nat.le_refl _) _
    exact .inr ⟨b, x, e, by simp; omega, hnc, fun j hj => by rw [hb.cell (p := ⟨b, x + j, none⟩) hbl]; exact hz j hj⟩

theorem Fr.of_below {p : Nat} {w w' : World} (h : Below p w w') (hp : w.heap.size ≤ p) : Fr p w w' := by
  have hb := bcell (W := w) (h.mono hp)
  exact ⟨fun b o hl _ => hb.1 b o hl, fun b o hl => hb.2 b o hl, h.size, h, fun b hl _ => (h.mono hp).block b hl⟩

end Go.Proofs.Ytalncgmncafhjaa
/-
  What the drawing of a list of slots answers, one in eight no tree: a list of at most 301 slots in new memory; of what was there the reader's count alone turns. Condition: the reader can read.
-/
namespace Go.Proofs.Ytalncgmncafhjaa
open Go.ChangeShapes Go.WideShapes Go.ChangeAt Go.RowKit
set_option linter.unusedVariables false

/-- What is answered. -/
def halfOut (w : World) (p n k : Nat) (v : Value) (w' : World) : Prop :=
  ∃ (g cap : Nat) (L : List Sl), v = .slice (some ⟨g, 0, none⟩) L.length cap ∧ L.length ≤ 301 ∧ (∀ s ∈ L, s.Tame) ∧ L.length ≤ cap ∧ cap ≤ 9223372036854775807 ∧ Lies w' (some ⟨g, 0, none⟩) L ∧ p < g ∧ g < w'.heap.size ∧ (∃ j, j ≤ k + 800 ∧ Reads w' p n j) ∧ Fr p w w'

theorem lies_put {W W' : World} {B k : Nat} {L : List Sl} (h : Lies W (some ⟨B, 0, none⟩) L) (hk : k < L.length) (s' : Sl) (hW : ∀ o, (o < k * 11 ∨ k * 11 + 11 ≤ o) → W'.cell? ⟨B, o, none⟩ = W.cell? ⟨B, o, none⟩) (hs : At11 W' B (k * 11) s') : Lies W' (some ⟨B, 0, none⟩) (L.set k s') := by
  refine ⟨.inr ⟨B, 0, rfl⟩, fun B' O e i hi => ?_⟩
  cases e
  have hi' : i < L.length := by simpa using hi
  by_cases hik : i = k
  · subst hik
    rw [List.getElem_set_self, Nat.zero_add]; exact hs
  · rw [List.getElem_set_ne (by omega)]
    obtain ⟨c0, c1, c2, c3, c4, c5, c6, c7, c8, c9, c10⟩ := h.cells B 0 rfl i hi'
    rw [Nat.zero_add] at c0 c1 c2 c3 c4 c5 c6 c7 c8 c9 c10 ⊢
    exact ⟨(hW _ (by omega)).trans c0, (hW _ (by omega)).trans c1, (hW _ (by omega)).trans c2, (hW _ (by omega)).trans c3, (hW _ (by omega)).trans c4, (hW _ (by omega)).trans c5, (hW _ (by omega)).trans c6, (hW _ (by omega)).trans c7, (hW _ (by omega)).trans c8, (hW _ (by omega)).trans c9, (hW _ (by omega)).trans c10⟩

theorem tame_set {L : List Sl} {k : Nat} {s : Sl} (hL : ∀ x ∈ L, x.Tame) (hs : s.Tame) : ∀ x ∈ L.set k s, x.Tame := by
  intro x hx
  rcases List.mem_or_eq_of_mem_set hx with h | h
  · exact hL x h
  · subst h; exact hs

/-- Between two rounds of the loop that makes the list too long. -/
def growInv (w : World) (p n k C : Nat) (s : Sl) (v : Value) (w' : World) : Prop :=
  ∃ (g cap j : Nat) (L : List Sl) (a b : Int), v = .slice (some ⟨g, 0, none⟩) L.length cap ∧ L.length ≤ 301 ∧ (∀ s ∈ L, s.Tame) ∧ OwnL w' p g cap L ∧ w.heap.size ≤ g ∧ g ≠ C ∧ 1 ≤ L.length ∧ w'.cell? ⟨C, 11, none⟩ = none ∧ At11 w' C 0 { s with t := a, p := b } ∧ (∀ i, w'.frozen? ⟨C, i, none⟩ = false) ∧ Reads w' p n j ∧ j + (310 - L.length) ≤ k + 750 ∧ Fr p w w' ∧ C < w'.heap.size

theorem own_at {W : World} {base base' e n g cap : Nat} {xs : List Value} (h : W.ownsRow base e 11 (.slice (some ⟨g, 0, none⟩) n cap) n xs) (hb : base' ≤ g) : W.ownsRow base' e 11 (.slice (some ⟨g, 0, none⟩) n cap) n xs := by
  refine ⟨h.1, ?_⟩
  rcases h.2 with ⟨h2, _⟩ | ⟨g', cap', cur, h3, h4, h5⟩
  · cases h2
  · cases h3; exact .inr ⟨g, cap, cur, rfl, hb, h5⟩
theorem Fr.low {p : Nat} {w W w2 : World} (F : Fr p w W) (hb : Below w.heap.size W w2) (hp : p ≤ w.heap.size) : Fr p w w2 :=
  ⟨fun b o hl hn => (hb.cell (p := ⟨b, o, none⟩) hl).trans (F.cel b o hl hn), fun b o hl => (hb.frozen (p := ⟨b, o, none⟩) hl).trans (F.frz b o hl), Nat.le_trans F.siz hb.size, F.bel.trans (hb.mono hp), fun b hl hn => (hb.block b hl).trans (F.obj b hl hn)⟩
theorem Reads.low {B : Nat} {w w' : World} {p n k : Nat} (h : Reads w p n k) (hp : p < B) (hb : Below B w w') : Reads w' p n k := by
  obtain ⟨a, c, g0, g1, g2, g3, g4⟩ := id h
  exact h.later ((hb.cell (p := ⟨p, 1, none⟩) hp).trans g1) ((hb.frozen (p := ⟨p, 1, none⟩) hp).trans g2) (hb.cell (p := ⟨p, 0, none⟩) hp) (fun b o hlt => hb.cell (p := ⟨b, o, none⟩) (Nat.lt_trans hlt hp))

theorem reads_drew {w : World} {p n k : Nat} (h : Reads w p n k) : Reads w.drew p n k := h
theorem Fr.drew {w w' : World} {p : Nat} (h : Fr p w w') : Fr p w w'.drew := ⟨h.cel, h.frz, h.siz, h.bel.drew, h.obj⟩

set_option maxRecDepth 100000 in
set_option maxHeartbeats 4000000 in
theorem half3_any (p n k : Nat) (w : World) (h : Reads w p n k) (hk : k ≤ 100) (hp : p < w.heap.size) :
    Calls Try.prog 20 #[.pointer (some ⟨p, 0, none⟩)] w fun e w' => ∃ v, e = .returned v ∧ halfOut w p n k v w' := by
  go_enter Try.func20, Try.ntmps20
  go_wp2_with fail
  refine (tree_any p n k w h hk hp).mono ?_
  rintro e w1 ⟨v, rfl, g, cap, L, rfl, hlen, hta, hlow, own, hgw, ⟨j, hj, hr⟩, F⟩
  have hps := Nat.lt_of_lt_of_le hp F.siz
  have hcap := own.cap
  have hcm := own.cm
  clear h
  by_cases hL0 : L = []
  · subst hL0
    go_wp2_with fail
    go_ret
    exact ⟨_, rfl, g, cap, [], rfl, by simp, hta, hcap, hcm, own.lies, own.gt, own.lt, ⟨j, by omega, hr⟩, F⟩
  · have hpos : 0 < L.length := List.length_pos_iff.2 hL0
    have hne : ((L.length : Int) == 0) = false := by simp; omega
    clear hL0
    go_wp2_with fail
    refine (pick_fr p n j _ _ hr (by omega) (by omega) (by omega)).mono ?_
    rintro e w2 ⟨y, rfl, hy, hr2, F2⟩
    have own2 := own.fr F2
    have FF2 := F.trans F2
    have hps2 := Nat.lt_of_lt_of_le hps F2.siz
    clear own hr F F2 hps
    by_cases hy0 : 0 < y
    · go_wp2_with fail
      go_ret
      exact ⟨_, rfl, g, cap, L, rfl, by omega, hta, hcap, hcm, own2.lies, own2.gt, own2.lt, ⟨j + 1, by omega, hr2⟩, FF2⟩
    · go_wp2_with fail
      refine (pick_fr p n (j + 1) _ _ hr2 (by omega) (by omega) (by omega)).mono ?_
      rintro e w3 ⟨kk, rfl, hkk, hr3, F3⟩
      have own3 := own2.fr F3
      have FF3 := FF2.trans F3
      have hps3 := Nat.lt_of_lt_of_le hps2 F3.siz
      clear own2 hr2 FF2 F3 hps2
      obtain ⟨kk, rfl⟩ : ∃ m : Nat, kk = m := ⟨kk.toNat, by omega⟩
      have hkl : kk < L.length := by omega
      go_wp2_with fail
      refine (pick_fr p n (j + 1 + 1) _ _ hr3 (by omega) (by omega) (by omega)).mono ?_
      rintro e w4 ⟨m, rfl, hm, hr4, F4⟩
      have own4 := own3.fr F4
      have FF4 := FF3.trans F4
      have hps4 := Nat.lt_of_lt_of_le hps3 F4.siz
      clear own3 hr3 FF3 F4 hps3
      have hLi := own4.lies
      have hfz := fun i => own_frozen own4 i
      have hg1 := own4.gt
      have hg2 := own4.lt
      have hc := hLi.cells g 0 rfl kk hkl
      rw [Nat.zero_add] at hc
      have hct := hta L[kk] (List.getElem_mem hkl)
      have hcl := hlow L[kk] (List.getElem_mem hkl)
      obtain ⟨c0, c1, c2, c3, c4, c5, c6, c7, c8, c9, c10⟩ := id hc
      have hm4 : m = 0 ∨ m = 1 ∨ m = 2 ∨ m = 3 := by omega
      clear hm
      have z0 : w4.cell? ⟨g, 0, none⟩ = some (.int .i64 L[0].t) := by simpa using (hLi.cells g 0 rfl 0 hpos).c0
      have hzt := hta L[0] (List.getElem_mem hpos)
      rcases hm4 with e | e | e | e <;> subst e
      · go_upto_region 12 with fail
        go_region_with (go_at_call 40; refine (pick_fr p n _ _ _ (reads_drew hr4) (by omega) (by omega) (by omega)).mono ?_; rintro e w5 ⟨x, rfl, hx, hr5, F5⟩; have d10 := (F5.cel g (kk * 11 + 10) hg2 (by omega)).trans c10; have fz10 := (F5.frz g (kk * 11 + 10) hg2).trans (hfz _))
        all_goals
          go_wp2_with fail
          go_ret
          have hLi5 := (OwnL.fr (W := w4.drew) own4 F5).lies
          obtain ⟨e0, e1, e2, e3, e4, e5, e6, e7, e8, e9, e10⟩ := hLi5.cells g 0 rfl kk hkl
          rw [Nat.zero_add] at e0 e1 e2 e3 e4 e5 e6 e7 e8 e9 e10
          refine ⟨_, rfl, g, cap, L.set kk { L[kk] with p := L[kk].p + x - 1 }, by simp, by simp; omega, tame_set hta ⟨hct.t, hct.r, by dsimp only; omega⟩, by simpa using hcap, hcm, lies_put hLi5 hkl _ (fun o ho => ?_) ⟨?_, ?_, ?_, ?_, ?_, ?_, ?_, ?_, ?_, ?_, ?_⟩, hg1, ?_, ⟨j + 4, by omega, reads_put hr5 hg1 _ _⟩, ((FF4.drew).trans F5).set hgw (by omega) _ _⟩
          · have : o ≠ kk * 11 + 10 := by omega
            go_simp
          all_goals first | (go_simp; done) | (have : w4.heap.size ≤ w5.heap.size := F5.siz; simp; omega) | (go_simp; simp [IntKind.wrap, IntKind.bits, IntKind.signed]; omega)
      · go_wp2_with fail
        refine (num_fr p n _ _ _ _ (-1000000) (1000000) _ (reads_alloc hr4 hps4 _) (by omega) (by omega) (by omega) (by omega) (fun j hj => by have := made_cells w4 3 [0, 60, 66, 4096, L[0].t] (-1000000) (1000000) (by intro z hz; have := hzt.t; simp at hz; omega) j (by simpa using hj); simpa using this)).mono ?_
        rintro e w5 ⟨x, rfl, hx, hr5, F5⟩
        have F45 := (((Fr.refl p w4).alloc (by omega) _).trans F5)
        have hLi5 := (own4.fr F45).lies
        have hfz5 := fun i => own_frozen (own4.fr F45) i
        obtain ⟨e0, e1, e2, e3, e4, e5, e6, e7, e8, e9, e10⟩ := hLi5.cells g 0 rfl kk hkl
        rw [Nat.zero_add] at e0 e1 e2 e3 e4 e5 e6 e7 e8 e9 e10
        clear c0 c1 c2 c3 c4 c5 c6 c7 c8 c9 c10 z0
        go_wp2_with fail
        go_ret
        refine ⟨_, rfl, g, cap, L.set kk { L[kk] with t := x }, by simp, by simp; omega, tame_set hta ⟨by dsimp only; omega, hct.r, hct.p⟩, by simpa using hcap, hcm, lies_put hLi5 hkl _ (fun o ho => ?_) ⟨?_, ?_, ?_, ?_, ?_, ?_, ?_, ?_, ?_, ?_, ?_⟩, hg1, ?_, ⟨j + 4, by omega, reads_put hr5 hg1 _ _⟩, ((FF4.trans F45)).set hgw (by omega) _ _⟩
        · have : o ≠ kk * 11 := by omega
          go_simp
        all_goals first | (go_simp; done) | (have := F45.siz; simp at this ⊢; omega)
      · go_wp2_with fail
        refine (spoil_any p n _ w4 _ _ _ _ _ _ _ _ _ hr4 (by omega) hps4 (by have := hct.r; omega)).mono ?_
        rintro e w5 ⟨k', a, b, r, d, gg, q, f, o, rfl, hrr, ⟨j5, hj5, hr5⟩, F5⟩
        have hLi5 := (own4.fr F5).lies
        have hfz5 := fun i => own_frozen (own4.fr F5) i
        obtain ⟨e0, e1, e2, e3, e4, e5, e6, e7, e8, e9, e10⟩ := hLi5.cells g 0 rfl kk hkl
        rw [Nat.zero_add] at e0 e1 e2 e3 e4 e5 e6 e7 e8 e9 e10
        clear c0 c1 c2 c3 c4 c5 c6 c7 c8 c9 c10 z0
        go_wp2_with fail
        go_ret
        refine ⟨_, rfl, g, cap, L.set kk ⟨L[kk].t, k', a, b, r, d, gg, q, f, o, L[kk].p⟩, by simp, by simp; omega, tame_set hta ⟨hct.t, hrr, hct.p⟩, by simpa using hcap, hcm, lies_put hLi5 hkl _ (fun oo ho => ?_) ⟨?_, ?_, ?_, ?_, ?_, ?_, ?_, ?_, ?_, ?_, ?_⟩, hg1, ?_, ⟨j5, by omega, ?_⟩, ?_⟩
        · have o1 : oo ≠ kk * 11 + 1 := by omega
          have o2 : oo ≠ kk * 11 + 2 := by omega
          have o3 : oo ≠ kk * 11 + 3 := by omega
          have o4 : oo ≠ kk * 11 + 4 := by omega
          have o5 : oo ≠ kk * 11 + 5 := by omega
          have o6 : oo ≠ kk * 11 + 6 := by omega
          have o7 : oo ≠ kk * 11 + 7 := by omega
          have o8 : oo ≠ kk * 11 + 8 := by omega
          have o9 : oo ≠ kk * 11 + 9 := by omega
          go_simp
        rotate_right 2
        · repeat (refine reads_put ?_ hg1 _ _)
          exact hr5
        · repeat (refine Fr.set ?_ hgw (by omega) _ _)
          exact FF4.trans F5
        all_goals first | (go_simp; done) | (have := F5.siz; simp at this ⊢; omega)
      · go_wp2_with fail
        have hS0 := At11.alloc w4 L[kk] 27
        have F0 := FF4.alloc (by omega) (.cells #[.int .i64 L[kk].t, .int .i64 L[kk].k, .int .i64 L[kk].e, .int .i64 L[kk].b, .int .i64 L[kk].r, .int .i64 L[kk].d, .int .i64 L[kk].g, .int .i64 L[kk].q, .int .i64 L[kk].f, .bool L[kk].o, .int .i64 L[kk].p] 27)
        have hr0 := reads_alloc hr4 hps4 (.cells #[.int .i64 L[kk].t, .int .i64 L[kk].k, .int .i64 L[kk].e, .int .i64 L[kk].b, .int .i64 L[kk].r, .int .i64 L[kk].d, .int .i64 L[kk].g, .int .i64 L[kk].q, .int .i64 L[kk].f, .bool L[kk].o, .int .i64 L[kk].p] 27)
        have own0 : OwnL (w4.alloc (.cells #[.int .i64 L[kk].t, .int .i64 L[kk].k, .int .i64 L[kk].e, .int .i64 L[kk].b, .int .i64 L[kk].r, .int .i64 L[kk].d, .int .i64 L[kk].g, .int .i64 L[kk].q, .int .i64 L[kk].f, .bool L[kk].o, .int .i64 L[kk].p] 27)) p g cap L := World.ownsRow.alloc own4 _
        have hz0 : ∀ i, (w4.alloc (.cells #[.int .i64 L[kk].t, .int .i64 L[kk].k, .int .i64 L[kk].e, .int .i64 L[kk].b, .int .i64 L[kk].r, .int .i64 L[kk].d, .int .i64 L[kk].g, .int .i64 L[kk].q, .int .i64 L[kk].f, .bool L[kk].o, .int .i64 L[kk].p] 27)).frozen? ⟨w4.heap.size, i, none⟩ = false := fun i => by go_simp
        have hC0 : w.heap.size ≤ w4.heap.size := FF4.siz
        have hn0 : (w4.alloc (.cells #[.int .i64 L[kk].t, .int .i64 L[kk].k, .int .i64 L[kk].e, .int .i64 L[kk].b, .int .i64 L[kk].r, .int .i64 L[kk].d, .int .i64 L[kk].g, .int .i64 L[kk].q, .int .i64 L[kk].f, .bool L[kk].o, .int .i64 L[kk].p] 27)).cell? ⟨w4.heap.size, 11, none⟩ = none := by go_simp
        clear c0 c1 c2 c3 c4 c5 c6 c7 c8 c9 c10 z0 hc
        obtain ⟨s, hs⟩ : ∃ s, s = L[kk] := ⟨_, rfl⟩
        rw [← hs] at hct hS0 F0 hr0 own0 hz0 hn0 ⊢
        obtain ⟨C, hC⟩ : ∃ C, C = w4.heap.size := ⟨_, rfl⟩
        have hCs : C < (w4.alloc (.cells #[.int .i64 s.t, .int .i64 s.k, .int .i64 s.e, .int .i64 s.b, .int .i64 s.r, .int .i64 s.d, .int .i64 s.g, .int .i64 s.q, .int .i64 s.f, .bool s.o, .int .i64 s.p] 27)).heap.size := by simp; omega
        have hgC : g ≠ C := by omega
        rw [← hC] at hS0 hz0 hC0 hn0 ⊢
        generalize w4.alloc (.cells #[.int .i64 s.t, .int .i64 s.k, .int .i64 s.e, .int .i64 s.b, .int .i64 s.r, .int .i64 s.d, .int .i64 s.g, .int .i64 s.q, .int .i64 s.f, .bool s.o, .int .i64 s.p] 27) = W0 at hS0 F0 hr0 own0 hz0 hCs hn0 ⊢
        clear hs hC hg2 hfz hLi own4 FF4 hr4 hcl hzt
        go_loopw [3] (fun v w' => growInv w p n k C s v w') (fun v w' => 310 - lenV v)
        case atStart => exact ⟨g, cap, j + 3, L, s.t, s.p, rfl, by omega, hta, own0, hgw, hgC, hpos, hn0, hS0, hz0, hr0, by omega, F0, hCs⟩
        case round =>
          clear hS0 F0 hr0 own0 hz0 hCs hgC hgw hta hcap hcm hlow hpos hne hkk hkl hlen hj hn0
          obtain ⟨g, cap, j, L, a, b, rfl, hlen, hta, own, hgw, hgC, hpos, hn, hS, hz, hr, hj, F, hCs⟩ := hrel
          have hcap := own.cap
          have hps := Nat.lt_of_lt_of_le hp F.siz
          go_wp2_with fail
          refine (pick_fr p n j _ _ hr (by omega) (by omega) (by omega)).mono ?_
          rintro e w5 ⟨z, rfl, hz2, hr5, F5⟩
          have own5 := own.fr F5
          have hz5 : ∀ i, w5.frozen? ⟨C, i, none⟩ = false := fun i => (F5.frz _ _ hCs).trans (hz i)
          have hS5 : At11 w5 C 0 { s with t := a, p := b } := hS.of fun jj => F5.cel _ _ hCs (by omega)
          have FF5 := F.trans F5
          have hCs5 : C < w5.heap.size := Nat.lt_of_lt_of_le hCs F5.siz
          have hn5 : w5.cell? ⟨C, 11, none⟩ = none := (F5.cel _ _ hCs (by omega)).trans hn
          have hC1 : p < C := by omega
          clear own hr F F5 hz hS hn
          by_cases hlz : (L.length : Int) < 300 + z
          · obtain ⟨c0, c1, c2, c3, c4, c5, c6, c7, c8, c9, c10⟩ := id hS5
            simp only [Nat.zero_add] at c0 c1 c2 c3 c4 c5 c6 c7 c8 c9 c10
            go_upto_region 10 with fail
            have own6 : OwnL ((w5.setCell ⟨C, 0, none⟩ (.int .i64 (64 + 4 * (L.length : Int)))).setCell ⟨C, 10, none⟩ (.int .i64 0)) p g cap L := own_same own5 ((Below.heap_setCell _ ⟨C, 10, none⟩ _ g hgC).trans (Below.heap_setCell _ ⟨C, 0, none⟩ _ g hgC))
            have hS6 : At11 ((w5.setCell ⟨C, 0, none⟩ (.int .i64 (64 + 4 * (L.length : Int)))).setCell ⟨C, 10, none⟩ (.int .i64 0)) C 0 { s with t := 64 + 4 * (L.length : Int), p := 0 } := by
              constructor
              all_goals go_simp
            have hz6 : ∀ i, ((w5.setCell ⟨C, 0, none⟩ (.int .i64 (64 + 4 * (L.length : Int)))).setCell ⟨C, 10, none⟩ (.int .i64 0)).frozen? ⟨C, i, none⟩ = false := fun i => by rw [World.frozen?_setCell, World.frozen?_setCell]; exact hz5 i
            have hn6 : ((w5.setCell ⟨C, 0, none⟩ (.int .i64 (64 + 4 * (L.length : Int)))).setCell ⟨C, 10, none⟩ (.int .i64 0)).cell? ⟨C, 11, none⟩ = none := by go_simp
            have hr6 := reads_put (reads_put hr5 hC1 0 (.int .i64 (64 + 4 * (L.length : Int)))) hC1 10 (.int .i64 0)
            have F6 := (FF5.set hC0 (by omega) 0 (.int .i64 (64 + 4 * (L.length : Int)))).set hC0 (by omega) 10 (.int .i64 0)
            have hCs6 : C < ((w5.setCell ⟨C, 0, none⟩ (.int .i64 (64 + 4 * (L.length : Int)))).setCell ⟨C, 10, none⟩ (.int .i64 0)).heap.size := by simp; omega
            clear own5 hS5 hz5 hn5 hr5 FF5 hCs5 c0 c1 c2 c3 c4 c5 c6 c7 c8 c9 c10
            generalize (w5.setCell ⟨C, 0, none⟩ (.int .i64 (64 + 4 * (L.length : Int)))).setCell ⟨C, 10, none⟩ (.int .i64 0) = W6 at own6 hS6 hz6 hn6 hr6 F6 hCs6 ⊢
            obtain ⟨t', ht'⟩ : ∃ t' : Int, t' = 64 + 4 * (L.length : Int) := ⟨_, rfl⟩
            rw [← ht'] at hS6
            have hnew := At11.alloc W6 { s with t := t', p := 0 } 27
            have ownA : (W6.alloc (.cells #[.int .i64 t', .int .i64 s.k, .int .i64 s.e, .int .i64 s.b, .int .i64 s.r, .int .i64 s.d, .int .i64 s.g, .int .i64 s.q, .int .i64 s.f, .bool s.o, .int .i64 0] 27)).ownsRow w.heap.size 27 11 (.slice (some ⟨g, 0, none⟩) L.length cap) L.length (cellsAll L) := own_at (World.ownsRow.alloc own6 _) hgw
            obtain ⟨c0, c1, c2, c3, c4, c5, c6, c7, c8, c9, c10⟩ := id hS6
            simp only [Nat.zero_add] at c0 c1 c2 c3 c4 c5 c6 c7 c8 c9 c10
            have htt : -1000000 ≤ t' ∧ t' ≤ 1000000 := by omega
            have hsz6 : w.heap.size ≤ W6.heap.size := F6.siz
            clear ht'
            obtain ⟨i0, hi0, hzz⟩ := Option.map_eq_some_iff.1 slotInfo
            simp only [Prod.mk.injEq] at hzz
            obtain ⟨hy1, hs0, hy0⟩ := hzz
            go_wp2_with (at_builtin; refine wpList_append_own _ rfl _ _ 23 rfl w.heap.size 27 i0 (.agg #[.int .i64 0, .int .i64 0, .int .i64 0, .int .i64 0, .int .i64 0, .int .i64 0, .int .i64 0, .int .i64 0, .int .i64 0, .bool false, .int .i64 0]) 11 88 Try.underlying23 hi0 hy1 hs0 hy0 rfl (by decide) (.slice (some ⟨g, 0, none⟩) L.length cap) L.length (cellsAll L) rfl ownA ⟨W6.heap.size, 0, none⟩ 1 1 (cellsOf { s with t := t', p := 0 }) rfl rfl (at11_news hnew) (by rw [← cellsAll_one]; exact cellsAll_one' _) (by unfold maxLen; omega) (by omega) (by simp; omega) ?_; intro v2 w2 own2 gr2 _)
            obtain ⟨g2, cap2, rfl, hg2, hg2'⟩ := owns_slice own2 (by omega)
            have own3 : OwnL w2 p g2 cap2 (L ++ [{ s with t := t', p := 0 }]) := by
              refine OwnL.of (n := L.length + 1) ?_ hp
              rw [cellsAll_append, cellsAll_one]; exact own2
            have hb2 : Below w.heap.size (W6.alloc (.cells #[.int .i64 t', .int .i64 s.k, .int .i64 s.e, .int .i64 s.b, .int .i64 s.r, .int .i64 s.d, .int .i64 s.g, .int .i64 s.q, .int .i64 s.f, .bool s.o, .int .i64 0] 27)) w2 := (Below.refl _ _).grown gr2 (by simp; omega) (fun k e => by simp [Value.ownBlock] at e; omega)
            have hblk : w2.heap[C]? = W6.heap[C]? := (gr2.block C (by simp; omega) (by simp [Value.ownBlock]; omega)).trans (Below.heap_alloc W6 _ C hCs6)
            go_roundw
            case rel =>
              have hcell : ∀ i, w2.cell? ⟨C, i, none⟩ = W6.cell? ⟨C, i, none⟩ := fun i => by simp [World.cell?, hblk]
              refine ⟨g2, cap2, j + 1, L ++ [{ s with t := t', p := 0 }], t', 0, by simp, by simp; omega, ?_, own3, hg2, ?_, by simp, (hcell _).trans hn6, hS6.of (fun i => hcell _), fun i => ?_, ?_, by simp; omega, ?_, ?_⟩
              · intro x hx
                rcases List.mem_append.1 hx with h1 | h1
                · exact hta x h1
                · simp at h1; subst h1; exact ⟨htt, hct.r, by dsimp only; omega⟩
              · intro e
                have h1 := (own3.lies.cells g2 0 rfl 1 (by simp; omega)).c0
                rw [e, hcell, show 0 + 1 * 11 = 11 from rfl, hn6] at h1
                cases h1
              · have := hz6 i
                simp [World.frozen?, hblk] at this ⊢; exact this
              · exact (reads_alloc hr6 (by omega) _).low hp hb2
              · exact (F6.alloc (by omega) _).low hb2 (by omega)
              · exact (Array.getElem?_eq_some_iff.1 (show w2.heap[C]? = some _ from hblk.trans (Array.getElem?_eq_getElem hCs6))).1
            case measure => simp [lenV]; omega
          · go_wp2_with fail
            go_ret
            exact ⟨_, rfl, g, cap, L, rfl, by omega, hta, hcap, own5.cm, own5.lies, own5.gt, own5.lt, ⟨j + 1, by omega, hr5⟩, FF5⟩

end Go.Proofs.Ytalncgmncafhjaa
/-
  What the drawings of a list of slots with two places, and of a list with a place and a slot, answer. Condition: the bytes can be read.
-/
namespace Go.Proofs.Ytalncgmncafhjaa
open Go.ChangeShapes Go.WideShapes Go.ChangeAt Go.RowKit
set_option linter.unusedVariables false

/-- A list that was drawn lies in new memory. -/
structure NewL (w w' : World) (g cap : Nat) (L : List Sl) : Prop where
  len : L.length ≤ 301
  tame : ∀ s ∈ L, s.Tame
  lcap : L.length ≤ cap
  cm : cap ≤ 9223372036854775807
  lies : Lies w' (some ⟨g, 0, none⟩) L
  ge : w.heap.size ≤ g
  lt : g < w'.heap.size

set_option maxHeartbeats 2000000 in
theorem drawAbove_any (a : Option Addr) (n c : Nat) (w : World) (h : Bytes w a n c) (hn : n ≤ 1048576) :
    Calls Try.prog 15 #[.slice a n c] w fun e w' => ∃ (g cap : Nat) (L : List Sl) (i k : Int), e = .returned (.tuple #[.slice (some ⟨g, 0, none⟩) L.length cap, .int .i64 i, .int .i64 k]) ∧ NewL w w' g cap L ∧ (-1 ≤ i ∧ i ≤ 1000) ∧ (-1 ≤ k ∧ k ≤ 1000) ∧ Below w.heap.size w w' := by
  go_enter Try.func15, Try.ntmps15
  go_wp2_with fail
  refine (open_any a n c w h hn).mono ?_
  rintro e w1 ⟨rfl, ⟨l, hr⟩, hb, hsz⟩
  obtain ⟨p, hp⟩ : ∃ p, p = w.heap.size := ⟨_, rfl⟩
  rw [← hp] at hr ⊢
  have hpw : p < w1.heap.size := by omega
  have hB : Below w.heap.size w w1 := hb
  have hpw0 : w.heap.size ≤ p := by omega
  clear hp hb
  go_wp2_with fail
  refine (half3_any p l 0 w1 hr (by omega) hpw).mono ?_
  rintro e w2 ⟨v, rfl, g, cap, L, rfl, hlen, hta, hcap, hcm, hL, hg, hg2, ⟨j, hj, hr2⟩, F2⟩
  go_wp2_with fail
  refine (place_any p l j L.length cap (some ⟨g, 0, none⟩) w2 hr2 (by omega) (by omega)).mono ?_
  rintro e w3 ⟨x, rfl, hx, hr3, F3⟩
  have hL3 : Lies w3 (some ⟨g, 0, none⟩) L := lies_sameAt hL (fun o => F3.cel g o hg2 (by omega))
  go_wp2_with fail
  refine (place_any p l (j + 1) L.length cap (some ⟨g, 0, none⟩) w3 hr3 (by omega) (by omega)).mono ?_
  rintro e w4 ⟨y, rfl, hy, hr4, F4⟩
  have hg3 : g < w3.heap.size := Nat.lt_of_lt_of_le hg2 F3.siz
  have hL4 : Lies w4 (some ⟨g, 0, none⟩) L := lies_sameAt hL3 (fun o => F4.cel g o hg3 (by omega))
  go_wp2_with fail
  refine bodyPost_ret (v := .tuple #[.slice (some ⟨g, 0, none⟩) L.length cap, .int .i64 x, .int .i64 y]) (by simp [results, Try.results15, go_sem]) rfl ?_
  refine ⟨g, cap, L, x, y, rfl, ⟨hlen, hta, hcap, hcm, hL4, by omega, Nat.lt_of_lt_of_le hg3 F4.siz⟩, by omega, by omega, ?_⟩
  exact hB.trans ((((F2.bel.trans F3.bel).trans F4.bel)).mono hpw0)

set_option maxHeartbeats 2000000 in
theorem drawPut_any (a : Option Addr) (n c : Nat) (w : World) (h : Bytes w a n c) (hn : n ≤ 1048576) :
    Calls Try.prog 5 #[.slice a n c] w fun e w' => ∃ (g cap : Nat) (L : List Sl) (i : Int) (s : Sl), e = .returned (.tuple #[.slice (some ⟨g, 0, none⟩) L.length cap, .int .i64 i, .agg #[.int .i64 s.t, .int .i64 s.k, .int .i64 s.e, .int .i64 s.b, .int .i64 s.r, .int .i64 s.d, .int .i64 s.g, .int .i64 s.q, .int .i64 s.f, .bool s.o, .int .i64 s.p]]) ∧ NewL w w' g cap L ∧ (-1 ≤ i ∧ i ≤ 1000) ∧ s.Tame ∧ Below w.heap.size w w' := by
  have hB0 : Below w.heap.size w (w.alloc (.cells #[.int .i64 0, .int .i64 0, .int .i64 0, .int .i64 0, .int .i64 0, .int .i64 0, .int .i64 0, .int .i64 0, .int .i64 0, .bool false, .int .i64 0] 27)) := (Below.refl _ _).alloc (Nat.le_refl _) _
  go_enter Try.func5, Try.ntmps5
  go_wp2_with fail
  refine (open_any a n c _ (h.alloc _) hn).mono ?_
  rintro e w1 ⟨rfl, ⟨l, hr⟩, hb, hsz⟩
  have HR := (Holds11.alloc w (.int .i64 0) (.int .i64 0) (.int .i64 0) (.int .i64 0) (.int .i64 0) (.int .i64 0) (.int .i64 0) (.int .i64 0) (.int .i64 0) (.bool false) (.int .i64 0) 27).below hb (by simp)
  have hB : Below w.heap.size w w1 := hB0.trans (hb.mono (by simp))
  obtain ⟨R, hR⟩ : ∃ R, R = w.heap.size := ⟨_, rfl⟩
  obtain ⟨p, hp⟩ : ∃ p, p = R + 1 := ⟨_, rfl⟩
  simp only [World.size_alloc] at hr hsz ⊢
  rw [← hR, ← hp] at hr ⊢
  rw [← hR] at HR
  have hpw : p < w1.heap.size := by omega
  have hRw : w.heap.size ≤ R := by omega
  have hRp : R < p := by omega
  clear hp hb hB0 hR hsz
  go_wp2_with fail
  refine (half3_any p l 0 w1 hr (by omega) hpw).mono ?_
  rintro e w2 ⟨v, rfl, g, cap, L, rfl, hlen, hta, hcap, hcm, hL, hg, hg2, ⟨j, hj, hr2⟩, F2⟩
  have hpw2 : p < w2.heap.size := Nat.lt_of_lt_of_le hpw F2.siz
  go_wp2_with fail
  refine (place_any p l j L.length cap (some ⟨g, 0, none⟩) w2 hr2 (by omega) (by omega)).mono ?_
  rintro e w3 ⟨x, rfl, hx, hr3, F3⟩
  have hL3 : Lies w3 (some ⟨g, 0, none⟩) L := lies_sameAt hL (fun o => F3.cel g o hg2 (by omega))
  have hpw3 : p < w3.heap.size := Nat.lt_of_lt_of_le hpw2 F3.siz
  go_wp2_with fail
  refine (slot_any p l (j + 1) w3 hr3 (by omega) hpw3).mono ?_
  rintro e w4 ⟨s, rfl, hs, hs4, ⟨j4, hj4, hr4⟩, F4⟩
  have hg3 : g < w3.heap.size := Nat.lt_of_lt_of_le hg2 F3.siz
  have hL4 : Lies w4 (some ⟨g, 0, none⟩) L := lies_sameAt hL3 (fun o => F4.cel g o hg3 (by omega))
  have FF := (F2.trans F3).trans F4
  have HR4 := HR.fr FF (by omega) (by omega)
  have hB4 := hB.trans (FF.bel.mono (by omega))
  have hg4 : g < w4.heap.size := Nat.lt_of_lt_of_le hg3 F4.siz
  clear HR FF F2 F3 F4 hr hr2 hr3 hL hL3 hB
  obtain ⟨z0, z1, z2, z3, z4, z5, z6, z7, z8, z9, z10, zz⟩ := id HR4
  go_wp2_with fail
  obtain ⟨y0, y1, y2, y3, y4, y5, y6, y7, y8, y9, y10, yz⟩ := HR4.put11 (.int .i64 s.t) (.int .i64 s.k) (.int .i64 s.e) (.int .i64 s.b) (.int .i64 s.r) (.int .i64 s.d) (.int .i64 s.g) (.int .i64 s.q) (.int .i64 s.f) (.bool s.o) (.int .i64 s.p)
  refine bodyPost_ret (v := .tuple #[.slice (some ⟨g, 0, none⟩) L.length cap, .int .i64 x, .agg #[.int .i64 s.t, .int .i64 s.k, .int .i64 s.e, .int .i64 s.b, .int .i64 s.r, .int .i64 s.d, .int .i64 s.g, .int .i64 s.q, .int .i64 s.f, .bool s.o, .int .i64 s.p]]) (by simp [results, Try.results5, go_sem, *]) rfl ?_
  refine ⟨g, cap, L, x, s, rfl, ⟨hlen, hta, hcap, hcm, lies_sameAt hL4 (fun o => ?_), by omega, ?_⟩, by omega, hs, ?_⟩
  · have hgR : g ≠ R := by omega
    go_simp
  · simp; omega
  · repeat (refine Below.setCell (p := ⟨R, _, none⟩) ?_ hRw _)
    exact hB4

end Go.Proofs.Ytalncgmncafhjaa
/-
  Plain facts on trees: what a slot came of is what stands ahead of it; what is put changes nothing of what the others came of. No conditions.
-/
namespace Go.Proofs.Ytalncgmncafhjaa
set_option linter.unusedVariables false

/-- What is found is the first, if the addresses are told apart. -/
theorem findI_lt {pre : List Sl} {x : Int} (h : findI pre x < 0) : ∀ s ∈ pre, s.t ≠ x := by
  induction pre with
  | nil => intro s hs; simp at hs
  | cons a L ih =>
    intro s hs
    have hg := findI_ge L x
    by_cases e : a.t = x
    · simp [findI, e] at h
    · by_cases e2 : findI L x < 0
      · rcases List.mem_cons.1 hs with rfl | h1
        · exact e
        · exact ih e2 s h1
      · simp [findI, e, e2] at h; omega

theorem findI_place : ∀ (L : List Sl) (k : Nat) (h : k < L.length), (∀ j (hj : j < k), L[j].t ≠ L[k].t) → findI L L[k].t = (k : Int)
  | [], k, h, _ => absurd h (Nat.not_lt_zero _)
  | a :: L, 0, h, _ => by simp [findI]
  | a :: L, k + 1, h, hd => by
    have hk : k < L.length := by simpa using h
    have h0 := hd 0 (by omega)
    have ih := findI_place L k hk (fun j hj => by simpa using hd (j + 1) (by omega))
    simp only [List.getElem_cons_succ, List.getElem_cons_zero] at h0 ⊢
    rw [findI, if_neg h0, ih, if_neg (by omega)]; push_cast; rfl

theorem goB_drop : ∀ (rest pre : List Sl) (was : Int), goB was pre rest = true → ∀ k (hk : k < rest.length), slotB (if h : k = 0 then was else (rest[k - 1]).p) (pre ++ rest.take k) rest[k] = true
  | [], _, _, _, k, hk => absurd hk (Nat.not_lt_zero _)
  | s :: rest, pre, was, h, 0, hk => by
    simp only [goB, Bool.and_eq_true] at h
    simpa using h.1
  | s :: rest, pre, was, h, k + 1, hk => by
    simp only [goB, Bool.and_eq_true] at h
    have hk' : k < rest.length := by simpa using hk
    have ih := goB_drop rest (pre ++ [s]) s.p h.2 k hk'
    simp only [List.append_assoc, List.singleton_append] at ih
    have e : (if h : k + 1 = 0 then was else ((s :: rest)[k + 1 - 1]).p) = (if h : k = 0 then s.p else (rest[k - 1]).p) := by
      cases k with
      | zero => simp
      | succ m => simp
    rw [e]
    simpa using ih

/-- A slot of a tree. -/
theorem tree_slot {L : List Sl} (hT : treeB L = true) (k : Nat) (hk : k < L.length) : 0 ≤ depN L k ∧ (k = 0 → depN L k ≤ 0) ∧ (∀ j, j + 1 = k → depN L k ≤ depN L j + 1) ∧ depN L k ≤ 12 ∧ ∀ j (hj : j < k), (L[j]'(by omega)).t ≠ L[k].t := by
  have h := hT
  simp only [treeB, Bool.and_eq_true] at h
  have hs := goB_drop L [] (-1) h.2 k hk
  have := slotB_parts.1 hs
  obtain ⟨h1, h2, h3, _, _, _, _, h4⟩ := this
  rw [depN_at hk]
  refine ⟨h1, ?_, ?_, h3, ?_⟩
  · intro e; subst e; simpa using h2
  · intro j hj; subst hj
    rw [depN_at (by omega)]
    simpa using h2
  · intro j hj
    refine findI_lt h4 _ ?_
    simp only [List.nil_append]
    exact List.mem_take_iff_getElem.2 ⟨j, by omega, rfl⟩

theorem find_tree {L : List Sl} (hT : treeB L = true) (k : Nat) (hk : k < L.length) : findT L L[k].t = (k : Int) := by
  rw [findT, if_pos hT]
  exact findI_place L k hk (tree_slot hT k hk).2.2.2.2

/-- What is told first of those above. -/
theorem ups_first (f : Nat → Int) (d : Int) : ∀ k, (ups f d k = [] ∧ ∀ j, j < k → ¬ f j < d) ∨ ∃ u, u < k ∧ f u < d ∧ (∀ j, u < j → j < k → ¬ f j < d) ∧ ups f d k = u :: ups f (f u) u
  | 0 => .inl ⟨rfl, fun j hj => absurd hj (Nat.not_lt_zero _)⟩
  | k + 1 => by
    by_cases h : f k < d
    · exact .inr ⟨k, by omega, h, fun j h1 h2 => by omega, ups_yes h⟩
    · rw [ups_no h]
      rcases ups_first f d k with ⟨e, hj⟩ | ⟨u, hu, hf, hj, e⟩
      · refine .inl ⟨e, fun j hlt => ?_⟩
        by_cases hjk : j = k
        · subst hjk; exact h
        · exact hj j (by omega)
      · refine .inr ⟨u, by omega, hf, fun j h1 h2 => ?_, e⟩
        by_cases hjk : j = k
        · subst hjk; exact h
        · exact hj j h1 (by omega)

/-- A slot came of another one just if all from behind that one up to it are deeper than that one. -/
theorem mem_ups (f : Nat → Int) (i : Nat) : ∀ k, i < k → (i ∈ ups f (f k) k ↔ ∀ j, i < j → j ≤ k → f i < f j) := by
  intro k
  induction k using Nat.strongRecOn with
  | _ k ih =>
    intro hik
    rcases ups_first f (f k) k with ⟨e, hj⟩ | ⟨u, hu, hf, hj, e⟩
    · rw [e]
      constructor
      · intro h; simp at h
      · intro h; exact absurd (h k hik (Nat.le_refl _)) (hj i hik)
    · rw [e, List.mem_cons]
      constructor
      · rintro (h1 | h1)
        · subst h1
          intro j h2 h3
          by_cases hjk : j = k
          · subst hjk; exact hf
          · have := hj j h2 (by omega); omega
        · have hlt := ups_lt f u _ i h1
          have := (ih u hu hlt).1 h1
          intro j h2 h3
          by_cases hju : j ≤ u
          · exact this j h2 hju
          · have hu' := this u hlt (Nat.le_refl _)
            by_cases hjk : j = k
            · subst hjk; omega
            · have := hj j (by omega) (by omega); omega
      · intro h
        by_cases hiu : i = u
        · exact .inl hiu
        · have hlt : i < u := by
            rcases Nat.lt_or_ge u i with h1 | h1
            · exact absurd (h k hik (Nat.le_refl _)) (hj i h1 hik)
            · omega
          exact .inr ((ih u hu hlt).2 fun j h2 h3 => h j h2 (by omega))

/-- How many behind a place are deeper. -/
theorem run_iff {L : List Sl} {i r : Nat} (hi : i < L.length) (hr : runN L[i].p (L.drop (i + 1)) = r) (k : Nat) (hk : k < L.length) (hik : i < k) : (k < i + r + 1 ↔ ∀ j, i < j → j ≤ k → depN L i < depN L j) := by
  subst hr
  constructor
  · intro h j h1 h2
    obtain ⟨hl, hp⟩ := runN_in L[i].p (L.drop (i + 1)) (j - (i + 1)) (by omega)
    rw [depN_at hi, depN_at (by omega)]
    simp only [List.getElem_drop] at hp
    have e : i + 1 + (j - (i + 1)) = j := by omega
    simpa [e] using hp
  · intro h
    rcases Nat.lt_or_ge (runN L[i].p (L.drop (i + 1))) (k - i) with h1 | h1
    · have hl : runN L[i].p (L.drop (i + 1)) < (L.drop (i + 1)).length := by simp; omega
      have hs := runN_stop L[i].p (L.drop (i + 1)) hl
      simp only [List.getElem_drop] at hs
      have := h (i + 1 + runN L[i].p (L.drop (i + 1))) (by omega) (by omega)
      rw [depN_at hi, depN_at (by omega)] at this
      omega
    · omega

/-- The law's own words: above just if within the run. -/
theorem above_run {L : List Sl} {i k r : Nat} (hi : i < L.length) (hk : k < L.length) (hr : runN L[i].p (L.drop (i + 1)) = r) : inUps L i k = (decide (i ≤ k) && decide (k < i + r + 1)) := by
  rcases Nat.lt_trichotomy i k with h | h | h
  · have h1 := mem_ups (depN L) i k h
    have h2 := run_iff hi hr k hk h
    rw [Bool.eq_iff_iff]
    simp only [inUps, Bool.or_eq_true, Bool.and_eq_true, decide_eq_true_eq]
    rw [h1, ← h2]
    constructor
    · rintro (e | e)
      · omega
      · exact ⟨by omega, e⟩
    · rintro ⟨_, e⟩; exact .inr e
  · subst h; simp [inUps]; omega
  · rw [Bool.eq_iff_iff]
    simp only [inUps, Bool.or_eq_true, Bool.and_eq_true, decide_eq_true_eq]
    constructor
    · rintro (e | e)
      · omega
      · have := ups_lt _ _ _ _ e; omega
    · rintro ⟨e, _⟩; omega

theorem leaf_above {L : List Sl} {i k : Nat} (h : IsLeaf L i k) : inUps L i (i + k) = true := by
  by_cases hk : k = 0
  · subst hk; simp [inUps]
  · simp only [inUps, Bool.or_eq_true, decide_eq_true_eq]
    refine .inr ((mem_ups (depN L) i (i + k) (by omega)).2 fun j h1 h2 => ?_)
    have := climb_trans (f := depN L) (i := i) (k := j - i) (fun t ht => h.up t (by omega)) (by omega)
    have e : i + (j - i) = j := by omega
    rw [e] at this; exact this

theorem leaf_run {L : List Sl} {i k : Nat} (h : IsLeaf L i k) : runN (L[i + k]'h.inn).p (L.drop (i + k + 1)) = 0 := by
  by_cases hl : i + k + 1 < L.length
  · have := h.top hl
    rw [depN_at h.inn, depN_at hl] at this
    rw [List.drop_eq_getElem_cons hl, runN, if_neg (by omega)]
  · rw [List.drop_eq_nil_of_le (by omega)]; rfl

/-- A slot with nothing behind it that is deeper is its own leaf. -/
theorem leaf_self {L : List Sl} {i : Nat} (hi : i < L.length) (h : runN L[i].p (L.drop (i + 1)) = 0) : IsLeaf L i 0 := by
  refine ⟨fun t ht => absurd ht (Nat.not_lt_zero _), hi, fun hl => ?_⟩
  have hl' : i + 1 < L.length := hl
  rw [List.drop_eq_getElem_cons hl', runN] at h
  show depN L (i + 1) ≤ depN L i
  rw [depN_at hl', depN_at hi]
  by_cases e : L[i].p < L[i + 1].p
  · rw [if_pos e] at h; omega
  · omega

theorem up_above {L : List Sl} {i u : Nat} (h : headI (ups (depN L) (depN L i) i) = (u : Int)) : u < i ∧ inUps L u i = true ∧ inUps L i u = false := by
  rcases ups_first (depN L) (depN L i) i with ⟨e, _⟩ | ⟨v, hv, _, _, e⟩
  · rw [e] at h; simp [headI] at h
  · rw [e] at h
    have : v = u := by have h' : (v : Int) = (u : Int) := h; omega
    subst this
    refine ⟨hv, by simp [inUps, e], ?_⟩
    simp only [inUps, Bool.or_eq_false_iff, decide_eq_false_iff_not]
    exact ⟨by omega, fun h => by have := ups_lt _ _ _ _ h; omega⟩
theorem headI_ge (l : List Nat) : -1 ≤ headI l := by cases l <;> simp [headI] <;> omega

/- A slot more. -/
theorem putJ_len (L : List Sl) (J : Nat) (x : Sl) (hJ : J ≤ L.length) : (putJ L J x).length = L.length + 1 := by
  simp [putJ]; omega
theorem putJ_lt {L : List Sl} {J j : Nat} {x : Sl} (hJ : J ≤ L.length) (hj : j < J) : (putJ L J x)[j]? = L[j]? := by
  rw [putJ, List.getElem?_append_left (by simp; omega), List.getElem?_take_of_lt hj]
theorem putJ_at {L : List Sl} {J : Nat} {x : Sl} (hJ : J ≤ L.length) : (putJ L J x)[J]? = some x := by
  rw [putJ, List.getElem?_append_right (by simp; omega)]; simp [Nat.min_eq_left hJ]
theorem putJ_gt {L : List Sl} {J j : Nat} {x : Sl} (hJ : J ≤ L.length) (hj : J ≤ j) : (putJ L J x)[j + 1]? = L[j]? := by
  rw [putJ, List.getElem?_append_right (by simp; omega)]
  simp only [List.length_take, Nat.min_eq_left hJ]
  rw [show j + 1 - J = (j - J) + 1 by omega, List.singleton_append, List.getElem?_cons_succ, List.getElem?_drop]
  congr 1; omega
theorem putJ_dlt {L : List Sl} {J j : Nat} {x : Sl} (hJ : J ≤ L.length) (hj : j < J) : depN (putJ L J x) j = depN L j := by rw [depN, depN, putJ_lt hJ hj]
theorem putJ_dat {L : List Sl} {J : Nat} {x : Sl} (hJ : J ≤ L.length) : depN (putJ L J x) J = x.p := by rw [depN, putJ_at hJ]; rfl
theorem putJ_dgt {L : List Sl} {J j : Nat} {x : Sl} (hJ : J ≤ L.length) (hj : J ≤ j) : depN (putJ L J x) (j + 1) = depN L j := by rw [depN, depN, putJ_gt hJ hj]

/-- Nothing came of what was put: what stands behind it is no deeper. -/
theorem put_run {L : List Sl} {J : Nat} {x : Sl} (hJ : J ≤ L.length) (hd : J < L.length → depN L J ≤ x.p) : ∀ h : J < (putJ L J x).length, runN ((putJ L J x)[J]).p ((putJ L J x).drop (J + 1)) = 0 := by
  intro h
  have e : (putJ L J x)[J] = x := by have := putJ_at (x := x) hJ; rw [List.getElem?_eq_getElem h] at this; exact Option.some.inj this
  rw [e]
  have e2 : (putJ L J x).drop (J + 1) = L.drop J := by
    apply List.ext_getElem?; intro n
    rw [List.getElem?_drop, List.getElem?_drop, show J + 1 + n = (J + n) + 1 by omega, putJ_gt hJ (by omega)]
  rw [e2]
  by_cases hl : J < L.length
  · have := hd hl
    rw [depN_at hl] at this
    rw [List.drop_eq_getElem_cons hl, runN, if_neg (by omega)]
  · rw [List.drop_eq_nil_of_le (by omega)]; rfl

/-- Cut again it is as it was. -/
theorem put_cut {L : List Sl} {J : Nat} {x : Sl} (hJ : J ≤ L.length) : (putJ L J x).take J ++ (putJ L J x).drop (J + 1) = L := by
  have e2 : (putJ L J x).drop (J + 1) = L.drop J := by
    apply List.ext_getElem?; intro n
    rw [List.getElem?_drop, List.getElem?_drop, show J + 1 + n = (J + n) + 1 by omega, putJ_gt hJ (by omega)]
  have e1 : (putJ L J x).take J = L.take J := by
    apply List.ext_getElem?; intro n
    by_cases hn : n < J
    · rw [List.getElem?_take_of_lt hn, List.getElem?_take_of_lt hn, putJ_lt hJ hn]
    · rw [List.getElem?_take_eq_none (by omega), List.getElem?_take_eq_none (by omega)]
  rw [e1, e2, List.take_append_drop]

/-- Where a slot of before stands now. -/
def shiftN (J k : Nat) : Nat := if k < J then k else k + 1

theorem shift_at {L : List Sl} {J k : Nat} {x : Sl} (hJ : J ≤ L.length) : (putJ L J x)[shiftN J k]? = L[k]? := by
  unfold shiftN; split
  · exact putJ_lt hJ (by assumption)
  · exact putJ_gt hJ (by omega)
theorem shift_dep {L : List Sl} {J k : Nat} {x : Sl} (hJ : J ≤ L.length) : depN (putJ L J x) (shiftN J k) = depN L k := by rw [depN, depN, shift_at hJ]

/-- The others came of what they came of. -/
theorem put_up {L : List Sl} {J k : Nat} {x : Sl} (hJ : J ≤ L.length) (hd : J < L.length → depN L J ≤ x.p) (hk : k < L.length) :
    (headI (ups (depN L) (depN L k) k) < 0 ∧ headI (ups (depN (putJ L J x)) (depN (putJ L J x) (shiftN J k)) (shiftN J k)) < 0) ∨
    ∃ u, u < k ∧ headI (ups (depN L) (depN L k) k) = (u : Int) ∧ headI (ups (depN (putJ L J x)) (depN (putJ L J x) (shiftN J k)) (shiftN J k)) = (shiftN J u : Int) := by
  have hs := shift_dep (x := x) (k := k) hJ
  have hput : k < J ∨ ¬ depN (putJ L J x) J < depN L k ∨ ∃ v, J ≤ v ∧ v < k ∧ depN L v < depN L k := by
    by_cases h : k < J
    · exact .inl h
    · have hJl : J < L.length := by omega
      have hd' := hd hJl
      by_cases hkJ : k = J
      · subst hkJ; rw [putJ_dat hJ]; exact .inr (.inl (by omega))
      · by_cases hv : depN L J < depN L k
        · exact .inr (.inr ⟨J, Nat.le_refl _, by omega, hv⟩)
        · rw [putJ_dat hJ]; exact .inr (.inl (by omega))
  rcases ups_first (depN L) (depN L k) k with ⟨e, hj⟩ | ⟨u, hu, hf, hj, e⟩
  · refine .inl ⟨by rw [e]; simp [headI], ?_⟩
    rcases ups_first (depN (putJ L J x)) (depN (putJ L J x) (shiftN J k)) (shiftN J k) with ⟨e', _⟩ | ⟨v, hv, hfv, _, e'⟩
    · rw [e']; simp [headI]
    · exfalso
      rw [hs] at hfv
      rcases Nat.lt_trichotomy v J with h | h | h
      · rw [putJ_dlt hJ h] at hfv
        refine hj v ?_ hfv
        unfold shiftN at hv; split at hv <;> omega
      · subst h
        rcases hput with h1 | h1 | ⟨w, _, hw, hw2⟩
        · unfold shiftN at hv; rw [if_pos h1] at hv; omega
        · exact h1 hfv
        · exact hj w hw hw2
      · obtain ⟨v', rfl⟩ : ∃ v', v = v' + 1 := ⟨v - 1, by omega⟩
        rw [putJ_dgt hJ (by omega)] at hfv
        refine hj v' ?_ hfv
        unfold shiftN at hv; split at hv <;> omega
  · refine .inr ⟨u, hu, by rw [e]; rfl, ?_⟩
    rcases ups_first (depN (putJ L J x)) (depN (putJ L J x) (shiftN J k)) (shiftN J k) with ⟨e', h'⟩ | ⟨v, hv, hfv, hj', e'⟩
    · exfalso
      refine h' (shiftN J u) ?_ ?_
      · unfold shiftN; split <;> split <;> omega
      · rw [hs, shift_dep hJ]; exact hf
    · rw [e']
      show (v : Int) = _
      rw [hs] at hfv hj'
      have hle : ¬ v < shiftN J u := fun h => hj' (shiftN J u) h (by unfold shiftN; split <;> split <;> omega) (by rw [shift_dep hJ]; exact hf)
      rcases Nat.lt_trichotomy v J with h | h | h
      · rw [putJ_dlt hJ h] at hfv
        have hvk : v < k := by unfold shiftN at hv; split at hv <;> omega
        by_cases huv : u < v
        · exact absurd hfv (hj v huv hvk)
        · have : v = u := by
            rcases Nat.lt_or_ge u J with h1 | h1
            · rw [shiftN, if_pos h1] at hle; omega
            · rw [shiftN, if_neg (by omega)] at hle; omega
          subst this; rw [shiftN, if_pos h]
      · subst h
        rcases hput with h1 | h1 | ⟨w, hw1, hw, hw2⟩
        · unfold shiftN at hv; rw [if_pos h1] at hv; omega
        · exact absurd hfv h1
        · have : w ≤ u := by
            rcases Nat.lt_or_ge u w with h | h
            · exact absurd hw2 (hj w h hw)
            · exact h
          exfalso; refine hle ?_; unfold shiftN; rw [if_neg (by omega)]; omega
      · obtain ⟨v', rfl⟩ : ∃ v', v = v' + 1 := ⟨v - 1, by omega⟩
        rw [putJ_dgt hJ (by omega)] at hfv
        have hvk : v' < k := by unfold shiftN at hv; split at hv <;> omega
        by_cases huv : u < v'
        · exact absurd hfv (hj v' huv hvk)
        · have : v' = u := by
            rcases Nat.lt_or_ge u J with h1 | h1
            · rw [shiftN, if_pos h1] at hle; omega
            · rw [shiftN, if_neg (by omega)] at hle; omega
          subst this; rw [shiftN, if_neg (by omega)]

end Go.Proofs.Ytalncgmncafhjaa
