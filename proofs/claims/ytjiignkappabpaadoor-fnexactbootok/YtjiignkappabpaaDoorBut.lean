/-
  Worlds that differ in one block alone, and in new ones.
-/
import Derived.Test.YtjiignkappabpaaDoorBx
namespace Go.Proofs.YtjiignkappabpaaDoor
open Go.ChangeShapes Go.WideShapes Go.ChangeAt Go.RowKit
set_option linter.unusedVariables false

/-- All but block g is as it was; there may be new ones. -/
def But (g : Nat) (w w' : World) : Prop := w.grownBy w' (some g)
theorem But.of {w w' : World} (g : Nat) (h : Below w.heap.size w w') : But g w w' := ⟨h.os, h.tape, h.output, h.size, fun k hk _ => h.block k hk⟩
theorem But.trans {g : Nat} {a b c : World} (h1 : But g a b) (h2 : But g b c) : But g a c :=
  ⟨h2.os.trans h1.os, h2.tape.trans h1.tape, h2.output.trans h1.output, Nat.le_trans h1.size h2.size, fun k hk hn => (h2.block k (Nat.lt_of_lt_of_le hk h1.size) hn).trans (h1.block k hk hn)⟩
theorem But.set {g : Nat} {w w' : World} (h : But g w w') (j : Nat) (v : Value) : But g w (w'.setCell ⟨g, j, none⟩ v) :=
  ⟨h.os, h.tape, h.output, by simpa using h.size, fun k hk hn => (Below.heap_setCell _ ⟨g, j, none⟩ _ k (fun e => hn (by rw [e]))).trans (h.block k hk hn)⟩
theorem But.out {g : Nat} {w w' : World} (h : But g w w') {b : Nat} (hb : w.heap.size ≤ b) (j : Nat) (v : Value) : But g w (w'.setCell ⟨b, j, none⟩ v) :=
  ⟨h.os, h.tape, h.output, by simpa using h.size, fun k hk hn => (Below.heap_setCell _ ⟨b, j, none⟩ _ k (fun e => by simp only at e; omega)).trans (h.block k hk hn)⟩
theorem But.below {g n : Nat} {a w w' : World} (h : Below n a w) (hb : But g w w') (hg : n ≤ g) (hn : n ≤ w.heap.size) : Below n a w' :=
  h.trans ⟨hb.os, hb.tape, hb.output, hb.size, fun k hk => hb.block k (by omega) (fun e => by injection e with e; omega)⟩
theorem Bx.but {g b : Nat} {w w' : World} {T : TypeId} {L : List Value} (h : Bx w b T L) (hb : But g w w') (hn : b ≠ g) : Bx w' b T L := h.same (hb.block b h.lt (fun e => hn (by injection e)))
theorem OwnG.but {α : Type} {F : Form α} {e : TypeId} {w w' : World} {base g : Nat} {v : Value} {L : List α} (h : OwnG F e w base v L) (hb : But g w w') (hn : v.ownBlock ≠ some g) : OwnG F e w' base v L :=
  h.same fun k hk => hb.block k (h.lt k hk).2 (fun e => hn (by rw [hk, ← e]))

end Go.Proofs.YtjiignkappabpaaDoor
