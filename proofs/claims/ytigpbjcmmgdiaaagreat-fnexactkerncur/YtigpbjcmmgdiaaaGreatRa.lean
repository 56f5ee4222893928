/-
  Texts of the proof, put together: OwnG, Bx, But, View, MapI, MapV, ThrF.
-/
import Derived.Test.YtigpbjcmmgdiaaaGreatBb
import Derived.Laws.AppendOwn
import Derived.Test.YtigpbjcmmgdiaaaGreatBk
import Derived.Maps.OwnSet
import Derived.Maps.Ext
import Derived.WalkArith
/-
 Rows of elements of any form that their function owns: what an append leaves.
-/
namespace Go.Proofs.YtigpbjcmmgdiaaaGreat
open Go.ChangeShapes Go.WideShapes Go.ChangeAt Go.RowKit
set_option linter.unusedVariables false

/-- The cells of all elements, one behind the other. -/
def cellsG {α : Type} (F : Form α) : List α → List Value
 | [] => []
 | x :: L => F.cel x ++ cellsG F L
section
variable {α : Type} {F : Form α}
theorem cellsG_append : ∀ (L M : List α), cellsG F (L ++ M) = cellsG F L ++ cellsG F M
 | [], _ => rfl
 | x :: L, M => by simp [cellsG, cellsG_append L M]
theorem cellsG_one (x : α) : cellsG F [x] = F.cel x := by simp [cellsG]
theorem cellsG_get : ∀ (L : List α) (i j : Nat) (hi : i < L.length), j < F.n → (cellsG F L)[i * F.n + j]? = (F.cel L[i])[j]?
 | x :: L, 0, j, hi, hj => by
  simp only [cellsG, Nat.zero_mul, Nat.zero_add, List.getElem_cons_zero]
  rw [List.getElem?_append_left (by rw [F.len]; exact hj)]
 | x :: L, i + 1, j, hi, hj => by
  simp only [cellsG, List.getElem_cons_succ]
  rw [List.getElem?_append_right (by rw [F.len, Nat.add_mul]; omega), F.len]
  have e : (i + 1) * F.n + j - F.n = i * F.n + j := by rw [Nat.add_mul]; omega
  rw [e]
  exact cellsG_get L i j (by simpa using hi) hj

/-- A row that is owned. -/
def OwnG (F : Form α) (e : TypeId) (W : World) (base : Nat) (v : Value) (L : List α) : Prop := W.ownsRow base e F.n v L.length (cellsG F L)

variable {e : TypeId} {W W' : World} {base : Nat} {v : Value} {L : List α}
/-- It is a slice of that length: nil, or from a block's beginning on. -/
theorem OwnG.form (h : OwnG F e W base v L) : ∃ P cap, v = .slice P L.length cap ∧ LiesG F W P L ∧ L.length ≤ cap ∧ cap ≤ 9223372036854775807 ∧ (∀ B O, P = some ⟨B, O, none⟩ → base ≤ B ∧ B < W.heap.size ∧ O = 0 ∧ ∀ j, W.frozen? ⟨B, j, none⟩ = false) ∧ (P = none → L = []) ∧ v.ownBlock = P.map (·.block) := by
 obtain ⟨h1, h2 | ⟨g, cap, cur, rfl, hb, hg, hc, hm, hs, ht⟩⟩ := h
 ·obtain ⟨rfl, hn⟩ := h2
  have : L = [] := List.eq_nil_of_length_eq_zero hn
  subst this
  exact ⟨none, 0, rfl, LiesG.nil _ _ _, Nat.le_refl _, Nat.zero_le _, fun B O e => (by cases e), fun _ => rfl, rfl⟩
 ·refine ⟨some ⟨g, 0, none⟩, cap, rfl, ⟨.inr ⟨g, 0, rfl⟩, ?_⟩, hc, hm, ?_, fun e => (by cases e), rfl⟩
  ·intro B O e i hi j hj
   cases e
   have hget := cellsG_get (F := F) L i j hi hj
   have hlt : i * F.n + j < L.length * F.n := by
    have := Nat.mul_le_mul_right F.n (Nat.succ_le_of_lt hi)
    rw [Nat.succ_mul] at this; omega
   rw [← ht, List.getElem?_take, if_pos hlt] at hget
   rw [World.cell?]
   simp only [hg, Nat.zero_add]
   simpa using hget
  ·intro B O e
   cases e
   exact ⟨hb, (Array.getElem?_eq_some_iff.1 hg).1, rfl, fun j => by simp [World.frozen?, hg]⟩
theorem OwnG.same (h : OwnG F e W base v L) (hs : ∀ g, v.ownBlock = some g → W'.heap[g]? = W.heap[g]?) : OwnG F e W' base v L := by
 refine ⟨h.1, ?_⟩
 rcases h.2 with h2 | ⟨g, cap, cur, rfl, h4, h5, h6⟩
 ·exact .inl h2
 ·exact .inr ⟨g, cap, cur, rfl, h4, (hs g rfl).trans h5, h6⟩
theorem own_some {s n : Nat} {xs : List Value} (h : W.ownsRow base e s v n xs) (hn : 0 < n) : ∃ g cap, v = .slice (some ⟨g, 0, none⟩) n cap := by
 rcases h.2 with ⟨_, h0⟩ | ⟨g, cap, cur, h3, _⟩
 ·omega
 ·exact ⟨g, cap, h3⟩
theorem OwnG.lt (h : OwnG F e W base v L) : ∀ g, v.ownBlock = some g → base ≤ g ∧ g < W.heap.size := World.ownsRow.lt h
theorem OwnG.below (h : OwnG F e W base v L) (hb : Below W.heap.size W W') : OwnG F e W' base v L := h.same fun g hg => hb.block g (h.lt g hg).2
theorem OwnG.out {n : Nat} (h : OwnG F e W base v L) (hb : Below n W W') (hn : ∀ g, v.ownBlock = some g → g < n) : OwnG F e W' base v L := h.same fun g hg => hb.block g (hn g hg)
theorem OwnG.rebase (h : OwnG F e W base v L) {base' : Nat} (hb : base' ≤ base) : OwnG F e W base' v L := by
 refine ⟨h.1, ?_⟩
 rcases h.2 with h2 | ⟨g, cap, cur, h3, h4, h5⟩
 ·exact .inl h2
 ·exact .inr ⟨g, cap, cur, h3, Nat.le_trans hb h4, h5⟩
theorem OwnG.beside {e' : TypeId} {base' s n : Nat} {u : Value} {xs : List Value} (h : OwnG F e W base v L) (hu : W.ownsRow base' e' s u n xs) (hg : W.grownBy W' u.ownBlock) (he : e ≠ e') : OwnG F e W' base v L := by
 refine h.same fun g hv => ?_
 refine hg.block g (h.lt g hv).2 (fun hug => ?_)
 rcases h.2 with ⟨rfl, _⟩ | ⟨g1, cap, cur, rfl, _, h5, _⟩
 ·cases hv
 ·rcases hu.2 with ⟨rfl, _⟩ | ⟨g2, cap2, cur2, rfl, _, h7, _⟩
  ·cases hug
  ·simp [Value.ownBlock] at hv hug
   subst hv
   subst hug
   rw [h5] at h7
   injection h7 with h7
   injection h7 with _ h7
   exact he h7
theorem OwnG.drew (h : OwnG F e W base v L) : OwnG F e W.drew base v L := h.same fun g _ => rfl
theorem OwnG.nil (F : Form α) (e : TypeId) (W : World) (base : Nat) : OwnG F e W base (.slice none 0 0) [] := World.ownsRow_nil W base e F.n
theorem OwnG.made (F : Form α) (e : TypeId) (w : World) (base : Nat) (cur : Array Value) (cap : Nat) (hb : base ≤ w.heap.size) (hm : cap ≤ maxLen) (hs : cur.size = cap * F.n) : OwnG F e (w.alloc (.cells cur e)) base (.slice (some ⟨w.heap.size, 0, none⟩) 0 cap) [] :=
 World.ownsRow_made w cur cap hb hm hs
theorem OwnG.snoc (x : α) {n : Nat} (hn : n = L.length + 1) (h : W.ownsRow base e F.n v n (cellsG F L ++ F.cel x)) : OwnG F e W base v (L ++ [x]) := by
 subst hn
 unfold OwnG
 rw [cellsG_append, cellsG_one, List.length_append]
 exact h
/-- The cells of an element that lies in a block of its own. -/
theorem newsG {w : World} (x : α) (T : TypeId) : ∀ j u, (F.cel x)[j]? = some u → (w.alloc (.cells (F.cel x).toArray T)).cell? ((⟨w.heap.size, 0, none⟩ : Addr).add j) = some u := by
 intro j u hu
 have hj := (List.getElem?_eq_some_iff.1 hu).1
 have e : (⟨w.heap.size, 0, none⟩ : Addr).add j = ⟨w.heap.size, j, none⟩ := by
  unfold Addr.add; by_cases h : j = 0
  ·subst h; rfl
  ·rw [if_neg h]; simp
 rw [e, World.cell?_alloc_at _ _ _ _ rfl]
 simpa using hu
end

end Go.Proofs.YtigpbjcmmgdiaaaGreat
/-
 Whole blocks: what lies in one, cell by cell, and that it may be written.
-/
namespace Go.Proofs.YtigpbjcmmgdiaaaGreat
open Go.ChangeShapes Go.WideShapes Go.ChangeAt Go.RowKit
set_option linter.unusedVariables false

/-- A block with just these cells. -/
def Bx (W : World) (b : Nat) (T : TypeId) (L : List Value) : Prop := W.heap[b]? = some (.cells L.toArray T (0, 0))
section
variable {W W' : World} {b : Nat} {T : TypeId} {L : List Value}
theorem Bx.lt (h : Bx W b T L) : b < W.heap.size := (Array.getElem?_eq_some_iff.1 h).1
theorem Bx.cell (h : Bx W b T L) (k : Nat) (v : Value) (hk : L[k]? = some v) : W.cell? ⟨b, k, none⟩ = some v := by
 have h' : W.heap[b]? = some (.cells L.toArray T (0, 0)) := h
 simp [World.cell?, h', hk]
theorem Bx.frozen (h : Bx W b T L) (k : Nat) : W.frozen? ⟨b, k, none⟩ = false := by
 have h' : W.heap[b]? = some (.cells L.toArray T (0, 0)) := h
 simp [World.frozen?, h']
theorem Bx.same (h : Bx W b T L) (hs : W'.heap[b]? = W.heap[b]?) : Bx W' b T L := Eq.trans hs h
theorem Bx.below (h : Bx W b T L) (hb : Below W.heap.size W W') : Bx W' b T L := h.same (hb.block b h.lt)
theorem Bx.out {n : Nat} (h : Bx W b T L) (hb : Below n W W') (hn : b < n) : Bx W' b T L := h.same (hb.block b hn)
theorem Bx.drew (h : Bx W b T L) : Bx W.drew b T L := h
theorem Bx.new (w : World) (T : TypeId) (L : List Value) : Bx (w.alloc (.cells L.toArray T)) w.heap.size T L := heap_alloc_new w _
theorem Bx.newAt (w : World) (T : TypeId) (L : List Value) {c : Nat} (hc : c = w.heap.size) : Bx (w.alloc (.cells L.toArray T)) c T L := by subst hc; exact Bx.new w T L
theorem Bx.alloc (h : Bx W b T L) (o : Obj) : Bx (W.alloc o) b T L := h.same (Below.heap_alloc W o b h.lt)
theorem Bx.set (h : Bx W b T L) (k : Nat) (v : Value) : Bx (W.setCell ⟨b, k, none⟩ v) b T (L.set k v) := by
 have h' : W.heap[b]? = some (.cells L.toArray T (0, 0)) := h
 unfold Bx
 simp [World.setCell, Array.getElem?_modify, h']
theorem Bx.far (h : Bx W b T L) {c k : Nat} (v : Value) (hc : b ≠ c) : Bx (W.setCell ⟨c, k, none⟩ v) b T L := h.same (Below.heap_setCell _ ⟨c, k, none⟩ _ b hc)
theorem Bx.grown {row : Option Nat} (h : Bx W b T L) (hg : W.grownBy W' row) (hne : row ≠ some b) : Bx W' b T L := h.same (hg.block b h.lt (fun e => hne e.symm))
theorem Bx.lies (h : Bx W b T L) : LiesG fV W (some ⟨b, 0, none⟩) L := mkV fun k v hk => h.cell k v hk
end
theorem OwnG.farB {α : Type} {F : Form α} {e : TypeId} {W : World} {base : Nat} {v : Value} {L : List α} (h : OwnG F e W base v L) {c k : Nat} (u : Value) (hc : v.ownBlock ≠ some c) : OwnG F e (W.setCell ⟨c, k, none⟩ u) base v L :=
 h.same fun g hg => Below.heap_setCell _ ⟨c, k, none⟩ _ g (fun e => hc (by rw [hg]; exact congrArg some e))
end Go.Proofs.YtigpbjcmmgdiaaaGreat
/-
 Worlds that differ in one block alone, and in new ones.
-/
namespace Go.Proofs.YtigpbjcmmgdiaaaGreat
open Go.ChangeShapes Go.WideShapes Go.ChangeAt Go.RowKit
set_option linter.unusedVariables false

/-- All but block g is as it was; there may be new ones. -/
def But (g : Nat) (w w' : World) : Prop := w.grownBy w' (some g)
theorem But.of {w w' : World} (g : Nat) (h : Below w.heap.size w w') : But g w w' := ⟨h.os, h.tape, h.output, h.size, fun k hk _ => h.block k hk⟩
theorem But.trans {g : Nat} {a b c : World} (h1 : But g a b) (h2 : But g b c) : But g a c :=
 ⟨h2.os.trans h1.os, h2.tape.trans h1.tape, h2.output.trans h1.output, Nat.le_trans h1.size h2.size, fun k hk hn => (h2.block k (Nat.lt_of_lt_of_le hk h1.size) hn).trans (h1.block k hk hn)⟩
theorem But.set {g : Nat} {w w' : World} (h : But g w w') (j : Nat) (v : Value) : But g w (w'.setCell ⟨g, j, none⟩ v) :=
 ⟨h.os, h.tape, h.output, by simpa using h.size, fun k hk hn => (Below.heap_setCell _ ⟨g, j, none⟩ _ k (fun e => hn (by rw [e]))).trans (h.block k hk hn)⟩
theorem But.out {g : Nat} {w w' : World} (h : But g w w') {b : Nat} (hb : w.heap.size ≤ b) (j : Nat) (v : Value) : But g w (w'.setCell ⟨b, j, none⟩ v) :=
 ⟨h.os, h.tape, h.output, by simpa using h.size, fun k hk hn => (Below.heap_setCell _ ⟨b, j, none⟩ _ k (fun e => by simp only at e; omega)).trans (h.block k hk hn)⟩
theorem But.below {g n : Nat} {a w w' : World} (h : Below n a w) (hb : But g w w') (hg : n ≤ g) (hn : n ≤ w.heap.size) : Below n a w' :=
 h.trans ⟨hb.os, hb.tape, hb.output, hb.size, fun k hk => hb.block k (by omega) (fun e => by injection e with e; omega)⟩
theorem Bx.but {g b : Nat} {w w' : World} {T : TypeId} {L : List Value} (h : Bx w b T L) (hb : But g w w') (hn : b ≠ g) : Bx w' b T L := h.same (hb.block b h.lt (fun e => hn (by injection e)))
theorem OwnG.but {α : Type} {F : Form α} {e : TypeId} {w w' : World} {base g : Nat} {v : Value} {L : List α} (h : OwnG F e w base v L) (hb : But g w w') (hn : v.ownBlock ≠ some g) : OwnG F e w' base v L :=
 h.same fun k hk => hb.block k (h.lt k hk).2 (fun e => hn (by rw [hk, ← e]))

end Go.Proofs.YtigpbjcmmgdiaaaGreat
/-
 A view of a state in a block of its own: what its fields are. No conditions.
-/
namespace Go.Proofs.YtigpbjcmmgdiaaaGreat
open Go.ChangeShapes Go.WideShapes Go.ChangeAt Go.RowKit
set_option linter.unusedVariables false

/-- The cells of a state. -/
def kcells (K : QK) : List Value := [.int .i64 K.bits, .int .i64 K.ticks, .slice K.sP K.sl.length K.sc, .slice K.tP K.tl.length K.tc, .slice K.eP K.el.length K.ec, .slice K.nP K.nl.length K.nc, .slice K.fP K.fl.length K.fc, .slice K.r0.P K.r0.l.length K.r0.c, .slice K.r1.P K.r1.l.length K.r1.c, .slice K.r2.P K.r2.l.length K.r2.c, .slice K.r3.P K.r3.l.length K.r3.c, .slice K.r4.P K.r4.l.length K.r4.c, .slice K.r5.P K.r5.l.length K.r5.c, .slice K.r6.P K.r6.l.length K.r6.c, .slice K.r7.P K.r7.l.length K.r7.c]
/-- A view in block vB, of a state that lies in an elder world; fs: what it has beside the state. -/
structure View (w0 : World) (K : QK) (vB : Nat) (fs : List Value) (W : World) : Prop where
 x : Bx W vB 92 (kcells K ++ fs)
 h0 : KernIn w0 K
 bw : Below w0.heap.size w0 W
 le : w0.heap.size ≤ vB
namespace View
variable {w0 W W' : World} {K : QK} {vB : Nat} {fs : List Value}
theorem b (h : View w0 K vB fs W) : KernIn W K := h.h0.below h.bw
theorem below (h : View w0 K vB fs W) (hb : Below W.heap.size W W') : View w0 K vB fs W' := ⟨h.x.below hb, h.h0, h.bw.trans (hb.mono h.bw.size), h.le⟩
theorem drew (h : View w0 K vB fs W) : View w0 K vB fs W.drew := h.below (Below.refl _ _).drew
theorem lt (h : View w0 K vB fs W) : vB < W.heap.size := h.x.lt
theorem frozen (h : View w0 K vB fs W) (k : Nat) : W.frozen? ⟨vB, k, none⟩ = false := h.x.frozen k
/-- A field that is no part of the state is written. -/
theorem set (h : View w0 K vB fs W) (j : Nat) (v : Value) : View w0 K vB (fs.set j v) (W.setCell ⟨vB, 15 + j, none⟩ v) := by
 refine ⟨?_, h.h0, h.bw.setCell (p := ⟨vB, 15 + j, none⟩) h.le v, h.le⟩
 have := h.x.set (15 + j) v
 have e : (kcells K ++ fs).set (15 + j) v = kcells K ++ fs.set j v := by
  rw [List.set_append_right _ _ (by simp [kcells])]; simp [kcells]
 rw [e] at this; exact this
/-- A store into another block. -/
theorem far (h : View w0 K vB fs W) {c k : Nat} (hc : vB ≠ c) (hl : w0.heap.size ≤ c) (v : Value) : View w0 K vB fs (W.setCell ⟨c, k, none⟩ v) :=
 ⟨h.x.far v hc, h.h0, h.bw.setCell (p := ⟨c, k, none⟩) hl v, h.le⟩
theorem but {g : Nat} (h : View w0 K vB fs W) (hb : But g W W') (hg : vB ≠ g) (hl : w0.heap.size ≤ g) : View w0 K vB fs W' :=
 ⟨h.x.but hb hg, h.h0, But.below h.bw hb hl h.bw.size, h.le⟩
theorem fst (h : View w0 K vB fs W) (k : Nat) (v : Value) (hk : (kcells K)[k]? = some v) : W.cell? ⟨vB, k, none⟩ = some v := by
 refine h.x.cell k v ?_
 rw [List.getElem?_append_left (List.getElem?_eq_some_iff.1 hk).1]; exact hk
theorem snd (h : View w0 K vB fs W) (k : Nat) (v : Value) (hk : fs[k]? = some v) : W.cell? ⟨vB, 15 + k, none⟩ = some v := by
 refine h.x.cell (15 + k) v ?_
 rw [List.getElem?_append_right (by simp [kcells])]; simpa [kcells] using hk

theorem bits (h : View w0 K vB fs W) : W.cell? ⟨vB, 0, none⟩ = some (.int .i64 K.bits) := h.fst 0 _ rfl
theorem ticks (h : View w0 K vB fs W) : W.cell? ⟨vB, 1, none⟩ = some (.int .i64 K.ticks) := h.fst 1 _ rfl
theorem cs (h : View w0 K vB fs W) : W.cell? ⟨vB, 2, none⟩ = some (.slice K.sP K.sl.length K.sc) := h.fst 2 _ rfl
theorem ct (h : View w0 K vB fs W) : W.cell? ⟨vB, 3, none⟩ = some (.slice K.tP K.tl.length K.tc) := h.fst 3 _ rfl
theorem ce (h : View w0 K vB fs W) : W.cell? ⟨vB, 4, none⟩ = some (.slice K.eP K.el.length K.ec) := h.fst 4 _ rfl
theorem cn (h : View w0 K vB fs W) : W.cell? ⟨vB, 5, none⟩ = some (.slice K.nP K.nl.length K.nc) := h.fst 5 _ rfl
theorem cf (h : View w0 K vB fs W) : W.cell? ⟨vB, 6, none⟩ = some (.slice K.fP K.fl.length K.fc) := h.fst 6 _ rfl
theorem cr0 (h : View w0 K vB fs W) : W.cell? ⟨vB, 7, none⟩ = some (.slice K.r0.P K.r0.l.length K.r0.c) := h.fst 7 _ rfl
theorem cr1 (h : View w0 K vB fs W) : W.cell? ⟨vB, 8, none⟩ = some (.slice K.r1.P K.r1.l.length K.r1.c) := h.fst 8 _ rfl
theorem cr2 (h : View w0 K vB fs W) : W.cell? ⟨vB, 9, none⟩ = some (.slice K.r2.P K.r2.l.length K.r2.c) := h.fst 9 _ rfl
theorem cr3 (h : View w0 K vB fs W) : W.cell? ⟨vB, 10, none⟩ = some (.slice K.r3.P K.r3.l.length K.r3.c) := h.fst 10 _ rfl
theorem cr4 (h : View w0 K vB fs W) : W.cell? ⟨vB, 11, none⟩ = some (.slice K.r4.P K.r4.l.length K.r4.c) := h.fst 11 _ rfl
theorem cr5 (h : View w0 K vB fs W) : W.cell? ⟨vB, 12, none⟩ = some (.slice K.r5.P K.r5.l.length K.r5.c) := h.fst 12 _ rfl
theorem cr6 (h : View w0 K vB fs W) : W.cell? ⟨vB, 13, none⟩ = some (.slice K.r6.P K.r6.l.length K.r6.c) := h.fst 13 _ rfl
theorem cr7 (h : View w0 K vB fs W) : W.cell? ⟨vB, 14, none⟩ = some (.slice K.r7.P K.r7.l.length K.r7.c) := h.fst 14 _ rfl
end View

end Go.Proofs.YtigpbjcmmgdiaaaGreat
/-
 A map from numbers to numbers in a block: looked at, written. No conditions, but that a number fits its kind.
-/
namespace Go.Proofs.YtigpbjcmmgdiaaaGreat
open Go.ChangeShapes Go.WideShapes Go.ChangeAt Go.RowKit Go.Maps
set_option linter.unusedVariables false

def FitI (x : Int) : Prop := -9223372036854775808 ≤ x ∧ x ≤ 9223372036854775807
theorem keyedInt : Keyed Tryz.prog 3 := int_keyed Tryz.underlying3
theorem FitI.wf {x : Int} (h : FitI x) : (Lit.int .i64 x).wf = true := WalkArith.wf_i64 h
theorem FitI.key {x : Int} (h : FitI x) : keyOf Tryz.prog 3 (.int .i64 x) = some (.int .i64 x) := keyOf_int_mk Tryz.underlying3 h.wf
theorem zeroI (w : World) : (zeroValue 3).run Tryz.prog w = .ok (.int .i64 0) w := by kernel_rfl
theorem isKey (x : Int) : WideAt.IsKeyLit (.int .i64 x) := trivial
/-- A map reads as f. -/
def ReadsI (D : DataW Unit) (f : Int → Option Int) : Prop := ∀ x, FitI x → has D (.int .i64 x) = (f x).isSome ∧ ∀ y, f x = some y → D.atKey (.int .i64 x) (.lit (.int .i64 0)) = .lit (.int .i64 y)
def MapI (W : World) (b n : Nat) (f : Int → Option Int) : Prop := ∃ D : DataW Unit, W.ownsMap Tryz.prog 3 (plainElem Tryz.prog 3) b n D ∧ ReadsI D f
theorem MapI.new (w : World) : MapI (w.alloc (.map #[] 0)) w.heap.size 0 (fun _ => none) :=
 ⟨_, World.ownsMap_made w _ _ _, fun x hx => ⟨rfl, fun y e => by cases e⟩⟩
theorem MapI.lt {W : World} {b n : Nat} {f : Int → Option Int} (h : MapI W b n f) : b < W.heap.size := by obtain ⟨D, h, _⟩ := h; exact h.lt
theorem MapI.grown {W W' : World} {b n : Nat} {f : Int → Option Int} {row : Option Nat} (h : MapI W b n f) (hg : W.grownBy W' row) (hne : some b ≠ row) : MapI W' b n f := by
 obtain ⟨D, h, hr⟩ := h
 exact ⟨D, h.kept hg hne, hr⟩
theorem MapI.below {W W' : World} {b n : Nat} {f : Int → Option Int} (h : MapI W b n f) (hb : Below W.heap.size W W') : MapI W' b n f :=
 h.grown (row := none) ⟨hb.os, hb.tape, hb.output, hb.size, fun k hk _ => hb.block k hk⟩ (by simp)
theorem MapI.setCell {W : World} {b n : Nat} {f : Int → Option Int} (h : MapI W b n f) {a : Addr} (ha : b ≠ a.block) (u : Value) : MapI (W.setCell a u) b n f := by
 obtain ⟨D, h, hr⟩ := h
 exact ⟨D, h.setCell ha u, hr⟩
theorem MapI.look {W : World} {b n : Nat} {f : Int → Option Int} (h : MapI W b n f) {x : Int} (hx : FitI x) : (Instr.lookup 88 (.map (some b)) (.int .i64 x) false).run Tryz.prog W = .ok (.int .i64 ((f x).getD 0)) W := by
 obtain ⟨D, h, hr⟩ := h
 obtain ⟨c, hrun, hat, _⟩ := h.lookup_int keyedInt Tryz.underlying88 Tryz.underlying3 (zeroI W) hx.key
 rw [hrun]
 obtain ⟨h1, h2⟩ := hr x hx
 cases hf : f x with
 | none =>
  rw [hf] at h1
  have := atKey_of_not_has h1 (.lit (.int .i64 0))
  rw [this] at hat
  simp only [DataW.lit.injEq, Lit.int.injEq, true_and] at hat
  rw [← hat]; rfl
 | some y =>
  have := h2 y hf
  rw [this] at hat
  simp only [DataW.lit.injEq, Lit.int.injEq, true_and] at hat
  rw [← hat]; rfl
theorem MapI.look_ok {W : World} {b n : Nat} {f : Int → Option Int} (h : MapI W b n f) {x : Int} (hx : FitI x) : (Instr.lookup 88 (.map (some b)) (.int .i64 x) true).run Tryz.prog W = .ok (.tuple #[.int .i64 ((f x).getD 0), .bool (f x).isSome]) W := by
 obtain ⟨D, h, hr⟩ := h
 obtain ⟨v, ps, hrun, hv⟩ := h.look_ok keyedInt Tryz.underlying88 (zeroI W) (plainElem_int Tryz.underlying3 (by decide)) hx.key
 obtain ⟨c, rfl, hc, _⟩ := plainElem_int_inv Tryz.underlying3 hv
 have hat : D.atKey (.int .i64 x) (.lit (.int .i64 0)) = .lit (.int .i64 c) := congrArg Prod.fst hc
 obtain ⟨h1, h2⟩ := hr x hx
 rw [hrun, h1]
 cases hf : f x with
 | none =>
  rw [hf] at h1
  have := atKey_of_not_has h1 (.lit (.int .i64 0))
  rw [this] at hat
  simp only [DataW.lit.injEq, Lit.int.injEq, true_and] at hat
  rw [← hat]; rfl
 | some y =>
  have := h2 y hf
  rw [this] at hat
  simp only [DataW.lit.injEq, Lit.int.injEq, true_and] at hat
  rw [← hat]; rfl
def putF (f : Int → Option Int) (x y : Int) : Int → Option Int := fun z => if z = x then some y else f z
theorem ReadsI.put {D : DataW Unit} {f : Int → Option Int} (h : ReadsI D f) (hm : IsMap D) (x y : Int) : ReadsI (D.put (.int .i64 x) (.lit (.int .i64 y))) (putF f x y) := by
 intro z hz
 unfold putF
 by_cases e : z = x
 ·subst e
  rw [if_pos rfl]
  refine ⟨has_put_same hm (isKey z) _, fun y' e => ?_⟩
  injection e with e; subst e
  exact atKey_put_same hm (isKey z) _ _
 ·rw [if_neg e]
  have hne : (Lit.int .i64 z) ≠ .int .i64 x := fun h => by injection h with _ h; exact e h
  refine ⟨?_, fun y' e' => ?_⟩
  ·rw [has_put_other hne]; exact (h z hz).1
  ·rw [atKey_put_other hne]; exact (h z hz).2 y' e'
theorem MapI.put {W : World} {b n : Nat} {f : Int → Option Int} (h : MapI W b n f) (hn : n < maxLen) {x y : Int} (hx : FitI x) (hy : FitI y) : ∃ W', (Instr.mapUpdate 88 (.map (some b)) (.int .i64 x) (.int .i64 y)).run Tryz.prog W = .ok () W' ∧ MapI W' b (n + 1) (putF f x y) ∧ W.grownBy W' (some b) := by
 obtain ⟨D, h, hr⟩ := h
 obtain ⟨W', hrun, hown, hg⟩ := h.update keyedInt Tryz.underlying88 hn hx.key (plainElem_int Tryz.underlying3 hy.wf)
 exact ⟨W', hrun, ⟨_, hown, hr.put h.isMap x y⟩, hg⟩
theorem makeMap_hint (n : Nat) (hn : n ≤ 1048577) (w : World) : (Instr.makeMap 88 (some (.int .i64 (n : Int)))).run Tryz.prog w = .ok (.map (some w.heap.size)) (w.alloc (.map #[] 0)) := by
 simp [Instr.makeMap, run_underlying Tryz.underlying88, asInt, asIntOf, Result.andThen]

end Go.Proofs.YtigpbjcmmgdiaaaGreat
/-
 A map from numbers to values of any type, in a block: looked at, written. No conditions, but that a number fits its kind.
-/
namespace Go.Proofs.YtigpbjcmmgdiaaaGreat
open Go.ChangeShapes Go.WideShapes Go.ChangeAt Go.RowKit Go.Maps
set_option linter.unusedVariables false

def heldR (v : Value) : Option (DataW Value × List MemPlace) := some (.held v, [])
def ReadsV (D : DataW Value) (f : Int → Option Value) : Prop := ∀ x, FitI x → has D (.int .i64 x) = (f x).isSome ∧ ∀ y, f x = some y → ∀ z, D.atKey (.int .i64 x) z = .held y
def MapV (W : World) (b n : Nat) (f : Int → Option Value) : Prop := ∃ D : DataW Value, W.ownsMap Tryz.prog 3 heldR b n D ∧ ReadsV D f
theorem MapV.new (w : World) : MapV (w.alloc (.map #[] 0)) w.heap.size 0 (fun _ => none) :=
 ⟨_, World.ownsMap_made w _ _ _, fun x hx => ⟨rfl, fun y e => by cases e⟩⟩
theorem MapV.lt {W : World} {b n : Nat} {f : Int → Option Value} (h : MapV W b n f) : b < W.heap.size := by obtain ⟨D, h, _⟩ := h; exact h.lt
theorem MapV.grown {W W' : World} {b n : Nat} {f : Int → Option Value} {row : Option Nat} (h : MapV W b n f) (hg : W.grownBy W' row) (hne : some b ≠ row) : MapV W' b n f := by
 obtain ⟨D, h, hr⟩ := h
 exact ⟨D, h.kept hg hne, hr⟩
theorem MapV.below {W W' : World} {b n : Nat} {f : Int → Option Value} (h : MapV W b n f) (hb : Below W.heap.size W W') : MapV W' b n f :=
 h.grown (row := none) ⟨hb.os, hb.tape, hb.output, hb.size, fun k hk _ => hb.block k hk⟩ (by simp)
theorem MapV.setCell {W : World} {b n : Nat} {f : Int → Option Value} (h : MapV W b n f) {a : Addr} (ha : b ≠ a.block) (u : Value) : MapV (W.setCell a u) b n f := by
 obtain ⟨D, h, hr⟩ := h
 exact ⟨D, h.setCell ha u, hr⟩
theorem heldR_inv {v : Value} {d : DataW Value} {ps : List MemPlace} (h : heldR v = some (d, ps)) : d = .held v := by
 unfold heldR at h; injection h with h; injection h with h _; exact h.symm
theorem held_inj {a b : Value} (h : (DataW.held a : DataW Value) = .held b) : a = b := by injection h
section
variable {T E : TypeId} {z : Value} {W : World} {b n : Nat} {f : Int → Option Value}
theorem MapV.look (h : MapV W b n f) (ht : Tryz.prog.underlying T = some (.map 3 E)) (hz : (zeroValue E).run Tryz.prog W = .ok z W) {x : Int} (hx : FitI x) : (Instr.lookup T (.map (some b)) (.int .i64 x) false).run Tryz.prog W = .ok ((f x).getD z) W := by
 obtain ⟨D, h, hr⟩ := h
 obtain ⟨v, ps, hrun, hv⟩ := h.lookup keyedInt ht hz (zd := .held z) (zp := []) rfl hx.key
 have hd := heldR_inv hv
 rw [hrun]
 obtain ⟨h1, h2⟩ := hr x hx
 cases hf : f x with
 | none =>
  rw [hf] at h1
  rw [atKey_of_not_has h1] at hd
  rw [held_inj hd]; rfl
 | some y =>
  rw [h2 y hf] at hd
  rw [← held_inj hd]; rfl
theorem MapV.look_ok (h : MapV W b n f) (ht : Tryz.prog.underlying T = some (.map 3 E)) (hz : (zeroValue E).run Tryz.prog W = .ok z W) {x : Int} (hx : FitI x) : (Instr.lookup T (.map (some b)) (.int .i64 x) true).run Tryz.prog W = .ok (.tuple #[(f x).getD z, .bool (f x).isSome]) W := by
 obtain ⟨D, h, hr⟩ := h
 obtain ⟨v, ps, hrun, hv⟩ := h.look_ok keyedInt ht hz (zd := .held z) (zp := []) rfl hx.key
 have hd := heldR_inv hv
 obtain ⟨h1, h2⟩ := hr x hx
 rw [hrun, h1]
 cases hf : f x with
 | none =>
  rw [hf] at h1
  rw [atKey_of_not_has h1] at hd
  rw [held_inj hd]; rfl
 | some y =>
  rw [h2 y hf] at hd
  rw [← held_inj hd]; rfl
def putV (f : Int → Option Value) (x : Int) (y : Value) : Int → Option Value := fun z => if z = x then some y else f z
theorem MapV.put (h : MapV W b n f) (ht : Tryz.prog.underlying T = some (.map 3 E)) (hn : n < maxLen) {x : Int} (hx : FitI x) (y : Value) : ∃ W', (Instr.mapUpdate T (.map (some b)) (.int .i64 x) y).run Tryz.prog W = .ok () W' ∧ MapV W' b (n + 1) (putV f x y) ∧ W.grownBy W' (some b) := by
 obtain ⟨D, h, hr⟩ := h
 obtain ⟨W', hrun, hown, hg⟩ := h.update keyedInt ht hn hx.key (val := y) (d := .held y) (ps := []) rfl
 refine ⟨W', hrun, ⟨_, hown, fun q hq => ?_⟩, hg⟩
 unfold putV
 by_cases e : q = x
 ·subst e
  rw [if_pos rfl]
  refine ⟨has_put_same h.isMap (isKey q) _, fun y' e z => ?_⟩
  have e := Option.some.inj e
  subst e
  exact atKey_put_same h.isMap (isKey q) _ _
 ·rw [if_neg e]
  have hne : (Lit.int .i64 q) ≠ .int .i64 x := fun h => by injection h with _ h; exact e h
  refine ⟨?_, fun y' e' z => ?_⟩
  ·rw [has_put_other hne]; exact (hr q hq).1
  ·rw [atKey_put_other hne]; exact (hr q hq).2 y' e' z
end
theorem makeMapV (T E : TypeId) (ht : Tryz.prog.underlying T = some (.map 3 E)) (n : Nat) (w : World) : (Instr.makeMap T (some (.int .i64 (n : Int)))).run Tryz.prog w = .ok (.map (some w.heap.size)) (w.alloc (.map #[] 0)) := by
 simp [Instr.makeMap, run_underlying ht, asInt, asIntOf, Result.andThen]

end Go.Proofs.YtigpbjcmmgdiaaaGreat
/-
 The threads of a state as they are in the map of the view, each with the head of its queue.
-/
namespace Go.Proofs.YtigpbjcmmgdiaaaGreat
open Go.ChangeShapes Go.WideShapes Go.ChangeAt Go.RowKit
set_option linter.unusedVariables false

/-- A thread with the head of the queue in which it was found. -/
def memH (h : Int × Int) (t : QT) : Value := .agg #[.int .i64 h.1, .int .i64 h.2, .int .i64 t.a0, .int .i64 t.a1, .int .i64 t.a2, .int .i64 t.a3, .int .i64 t.a4, .int .i64 t.a5, .int .i64 t.a6, .int .u32 t.a7, .int .i64 t.a8, .int .u32 t.a9, .int .u32 t.a10, .int .u32 t.a11, .int .u32 t.a12, .int .i64 t.a13, .int .u32 t.a14]
/-- The first k threads, by their addresses. -/
def thrF (L : List QT) : Nat → Int → Option Value
 | 0, _ => none
 | k + 1, x => if some x = (L[k]?).map QT.a0 then (L[k]?).map (memH (0, 0)) else thrF L k x

end Go.Proofs.YtigpbjcmmgdiaaaGreat
