/-
  A list of slots that was drawn: it owns its row, behind the reader; what the putting of one slot makes of it. Conditions: it is a tree of at most thirteen slots, or has small depths.
-/
import Derived.Test.YtalncgmncafhjaaDrawSlot
import Derived.Test.YtalncgmncafhjaaPutBoth
namespace Go.Proofs.Ytalncgmncafhjaa
open Go.ChangeShapes Go.WideShapes Go.ChangeAt Go.RowKit
set_option linter.unusedVariables false

/-- A list with its row, behind the reader's block. -/
def OwnL (W : World) (q g cap : Nat) (L : List Sl) : Prop := W.ownsRow (q + 1) 27 11 (.slice (some ⟨g, 0, none⟩) L.length cap) L.length (cellsAll L)

theorem OwnL.lies {W : World} {q g cap : Nat} {L : List Sl} (h : OwnL W q g cap L) : Lies W (some ⟨g, 0, none⟩) L := (owns_lies h).1
theorem OwnL.gt {W : World} {q g cap : Nat} {L : List Sl} (h : OwnL W q g cap L) : q < g := (owns_lies h).2.1
theorem OwnL.lt {W : World} {q g cap : Nat} {L : List Sl} (h : OwnL W q g cap L) : g < W.heap.size := (owns_lies h).2.2.2.2
theorem OwnL.cap {W : World} {q g cap : Nat} {L : List Sl} (h : OwnL W q g cap L) : L.length ≤ cap := (owns_cap h).1
theorem OwnL.cm {W : World} {q g cap : Nat} {L : List Sl} (h : OwnL W q g cap L) : cap ≤ 9223372036854775807 := (owns_cap h).2
theorem OwnL.fr {W W' : World} {q g cap : Nat} {L : List Sl} (h : OwnL W q g cap L) (F : Fr q W W') : OwnL W' q g cap L := own_same h (F.obj g h.lt (by have := h.gt; omega))
theorem OwnL.below {W W' : World} {q g cap : Nat} {L : List Sl} (h : OwnL W q g cap L) (hb : Below W.heap.size W W') : OwnL W' q g cap L := own_same h (hb.block g h.lt)
theorem OwnL.of {W : World} {q g cap n B : Nat} {L : List Sl} (h : W.ownsRow B 27 11 (.slice (some ⟨g, 0, none⟩) n cap) n (cellsAll L)) (hq : q < B) : OwnL W q g cap L := by
  have hn := (owns_lies h).2.2.1
  subst hn
  exact own_base h hq

theorem Fr.of_low {p : Nat} {w w' : World} (h : Below w.heap.size w w') (hp : p ≤ w.heap.size) : Fr p w w' := by
  have hb := bcell (W := w) h
  exact ⟨fun b o hl _ => hb.1 b o hl, fun b o hl => hb.2 b o hl, h.size, h.mono hp, fun b hl _ => h.block b hl⟩
theorem Reads.below {w w' : World} {p n k : Nat} (h : Reads w p n k) (hp : p < w.heap.size) (hb : Below w.heap.size w w') : Reads w' p n k := by
  have hc := bcell (W := w) hb
  obtain ⟨a, c, g0, g1, g2, g3, g4⟩ := id h
  exact h.later ((hc.1 _ _ hp).trans g1) ((hc.2 _ _ hp).trans g2) (hc.1 _ _ hp) (fun b o hlt => hc.1 _ _ (by omega))

theorem tame_put {L R : List Sl} {s : Sl} {d : Int} (hL : ∀ x ∈ L, x.Tame) (hs : s.Tame) (hR : ∀ x ∈ R, x ∈ L ∨ x = s.at d) (hd : -1000000 ≤ d ∧ d ≤ 1000000) : ∀ x ∈ R, x.Tame := by
  intro x hx
  rcases hR x hx with h | h
  · exact hL x h
  · subst h; exact ⟨hs.t, hs.r, hd⟩
theorem putAt_mem {L : List Sl} {k : Nat} {s : Sl} {d : Int} : ∀ x ∈ putAt L k s d, x ∈ L ∨ x = s.at d := by
  intro x hx
  simp only [putAt, List.mem_append, List.mem_singleton] at hx
  rcases hx with h | h | h
  · exact .inl (List.mem_of_mem_take h)
  · exact .inr h
  · exact .inl (List.mem_of_mem_drop h)
theorem putAt_len {L : List Sl} {k : Nat} {s : Sl} {d : Int} (hk : k < L.length) : (putAt L k s d).length = L.length + 1 := by
  simp [putAt]; omega

theorem put_any (q g cap : Nat) (L : List Sl) (i : Int) (s : Sl) (w : World) (h : OwnL w q g cap L) (hT : treeB L = true) (hlen : L.length ≤ 13) (hi0 : -1 ≤ i) (hi1 : i < (L.length : Int)) (hL : ∀ x ∈ L, x.Tame) (hs : s.Tame) :
    Calls Try.prog 7 #[.slice (some ⟨g, 0, none⟩) L.length cap, .int .i64 i, .agg #[.int .i64 s.t, .int .i64 s.k, .int .i64 s.e, .int .i64 s.b, .int .i64 s.r, .int .i64 s.d, .int .i64 s.g, .int .i64 s.q, .int .i64 s.f, .bool s.o, .int .i64 s.p]] w fun e w' =>
      (e = .returned (.tuple #[.slice none 0 0, .bool false]) ∧ Below w.heap.size w w') ∨
      (∃ g' cap' R, e = .returned (.tuple #[.slice (some ⟨g', 0, none⟩) R.length cap', .bool true]) ∧ R.length = L.length + 1 ∧ treeB R = true ∧ (∀ x ∈ R, x.Tame) ∧ OwnL w' q g' cap' R ∧ w.heap.size ≤ g' ∧ Below w.heap.size w w') := by
  have hq : q < w.heap.size := Nat.lt_trans h.gt h.lt
  by_cases hi : i = -1
  · subst hi
    refine (treePutSpec_own g 0 cap (-1) L (L ++ [s.at 0]) s w (by omega) h.cap h.cm h.lies hT (by omega) (by omega) (by omega) (by simp)
      (fun W hW h1 => putSpec_last_own g 0 cap (-1) L s W (by omega) h1 (Nat.lt_of_lt_of_le h.lt hW.size) (by omega))).mono ?_
    rintro e w' (⟨_, he, hb⟩ | ⟨hT', g', cap', he, hg, hg', hL', hb, own⟩)
    · exact .inl ⟨he, hb⟩
    · refine .inr ⟨g', cap', L ++ [s.at 0], by rw [he]; simp, by simp, hT', ?_, OwnL.of own hq, hg, hb⟩
      exact tame_put hL hs (d := 0) (fun x hx => by simpa using hx) (by omega)
  · obtain ⟨k, rfl⟩ : ∃ k : Nat, i = k := ⟨i.toNat, by omega⟩
    have hk : k < L.length := by omega
    have hd := treeB_depth hT hk
    refine (treePutSpec_own g 0 cap (k : Int) L (putAt L k s (L[k].p + 1)) s w (by omega) h.cap h.cm h.lies hT (by omega) (by omega) (by omega) (putAt_len hk)
      (fun W hW h1 => putSpec_at_own g 0 cap k L s L[k].p W (by omega) h.cap h.cm h1 hk rfl hd.1 (by omega))).mono ?_
    rintro e w' (⟨_, he, hb⟩ | ⟨hT', g', cap', he, hg, hg', hL', hb, own⟩)
    · exact .inl ⟨he, hb⟩
    · refine .inr ⟨g', cap', putAt L k s (L[k].p + 1), by rw [he, putAt_len hk], putAt_len hk, hT', ?_, OwnL.of own hq, hg, hb⟩
      exact tame_put hL hs (fun x hx => putAt_mem x hx) (by omega)

/-- No slot is deeper than a bound. -/
def lowB (L : List Sl) (m : Int) : Prop := ∀ x ∈ L, 0 ≤ x.p ∧ x.p ≤ m

theorem put2_any (q g cap : Nat) (L : List Sl) (i : Int) (s : Sl) (w : World) (h : OwnL w q g cap L) (hlow : lowB L ((L.length : Int) + 12)) (hlen : L.length ≤ 13) (hi : i = (L.length : Int) - 1) (hL : ∀ x ∈ L, x.Tame) (hs : s.Tame) :
    Calls Try.prog 24 #[.slice (some ⟨g, 0, none⟩) L.length cap, .int .i64 i, .agg #[.int .i64 s.t, .int .i64 s.k, .int .i64 s.e, .int .i64 s.b, .int .i64 s.r, .int .i64 s.d, .int .i64 s.g, .int .i64 s.q, .int .i64 s.f, .bool s.o, .int .i64 s.p]] w fun e w' =>
      ∃ g' cap' R, e = .returned (.slice (some ⟨g', 0, none⟩) R.length cap') ∧ R.length = L.length + 1 ∧ lowB R ((R.length : Int) + 12) ∧ (∀ x ∈ R, x.Tame) ∧ OwnL w' q g' cap' R ∧ w.heap.size ≤ g' ∧ Below w.heap.size w w' := by
  have hq : q < w.heap.size := Nat.lt_trans h.gt h.lt
  by_cases h0 : L = []
  · subst h0
    refine (putSpec_last_own g 0 cap i [] s w (by simp) h.lies h.lt (by simp at hi; omega)).mono ?_
    rintro e w' ⟨g', cap', he, hg, _, _, _, _, hb, own⟩
    refine ⟨g', cap', [] ++ [s.at 0], by rw [he]; simp, by simp, ?_, tame_put hL hs (d := 0) (fun x hx => by simpa using hx) (by omega), OwnL.of own hq, hg, hb⟩
    intro x hx
    simp at hx; subst hx; simp [Sl.at]
  · have hpos : 0 < L.length := List.length_pos_iff.2 h0
    obtain ⟨k, rfl⟩ : ∃ k : Nat, i = k := ⟨i.toNat, by omega⟩
    have hk : k < L.length := by omega
    have hd := hlow L[k] (List.getElem_mem hk)
    refine (putSpec_at_own g 0 cap k L s L[k].p w (by omega) h.cap h.cm h.lies hk rfl hd.1 (by omega)).mono ?_
    rintro e w' ⟨g', cap', he, hg, _, _, _, _, hb, own⟩
    refine ⟨g', cap', putAt L k s (L[k].p + 1), by rw [he, putAt_len hk], putAt_len hk, ?_, tame_put hL hs (fun x hx => putAt_mem x hx) (by omega), OwnL.of own hq, hg, hb⟩
    intro x hx
    rw [putAt_len hk]
    rcases putAt_mem x hx with h1 | h1
    · have := hlow x h1; push_cast; omega
    · subst h1; show 0 ≤ L[k].p + 1 ∧ L[k].p + 1 ≤ _; push_cast; omega

end Go.Proofs.Ytalncgmncafhjaa
