/-
  Whole blocks: what lies in one, cell by cell, and that it may be written.
-/
import Derived.Test.YthmambhagheocaaGreatDoorOwnG
import Derived.Test.YthmambhagheocaaGreatDoorValRow
namespace Go.Proofs.YthmambhagheocaaGreatDoor
open Go.ChangeShapes Go.WideShapes Go.ChangeAt Go.RowKit
set_option linter.unusedVariables false

/-- A block with just these cells. -/
def Bx (W : World) (b : Nat) (T : TypeId) (L : List Value) : Prop := W.heap[b]? = some (.cells L.toArray T (0, 0))
section
variable {W W' : World} {b : Nat} {T : TypeId} {L : List Value}
theorem Bx.lt (h : Bx W b T L) : b < W.heap.size := (Array.getElem?_eq_some_iff.1 h).1
theorem Bx.cell (h : Bx W b T L) (k : Nat) (v : Value) (hk : L[k]? = some v) : W.cell? ⟨b, k, none⟩ = some v := by
  have h' : W.heap[b]? = some (.cells L.toArray T (0, 0)) := h
  simp [World.cell?, h', hk]
theorem Bx.frozen (h : Bx W b T L) (k : Nat) : W.frozen? ⟨b, k, none⟩ = false := by
  have h' : W.heap[b]? = some (.cells L.toArray T (0, 0)) := h
  simp [World.frozen?, h']
theorem Bx.same (h : Bx W b T L) (hs : W'.heap[b]? = W.heap[b]?) : Bx W' b T L := Eq.trans hs h
theorem Bx.below (h : Bx W b T L) (hb : Below W.heap.size W W') : Bx W' b T L := h.same (hb.block b h.lt)
theorem Bx.out {n : Nat} (h : Bx W b T L) (hb : Below n W W') (hn : b < n) : Bx W' b T L := h.same (hb.block b hn)
theorem Bx.drew (h : Bx W b T L) : Bx W.drew b T L := h
theorem Bx.new (w : World) (T : TypeId) (L : List Value) : Bx (w.alloc (.cells L.toArray T)) w.heap.size T L := heap_alloc_new w _
theorem Bx.newAt (w : World) (T : TypeId) (L : List Value) {c : Nat} (hc : c = w.heap.size) : Bx (w.alloc (.cells L.toArray T)) c T L := by subst hc; exact Bx.new w T L
theorem Bx.alloc (h : Bx W b T L) (o : Obj) : Bx (W.alloc o) b T L := h.same (Below.heap_alloc W o b h.lt)
theorem Bx.set (h : Bx W b T L) (k : Nat) (v : Value) : Bx (W.setCell ⟨b, k, none⟩ v) b T (L.set k v) := by
  have h' : W.heap[b]? = some (.cells L.toArray T (0, 0)) := h
  unfold Bx
  simp [World.setCell, Array.getElem?_modify, h']
theorem Bx.far (h : Bx W b T L) {c k : Nat} (v : Value) (hc : b ≠ c) : Bx (W.setCell ⟨c, k, none⟩ v) b T L := h.same (Below.heap_setCell _ ⟨c, k, none⟩ _ b hc)
theorem Bx.grown {row : Option Nat} (h : Bx W b T L) (hg : W.grownBy W' row) (hne : row ≠ some b) : Bx W' b T L := h.same (hg.block b h.lt (fun e => hne e.symm))
theorem Bx.lies (h : Bx W b T L) : LiesG fV W (some ⟨b, 0, none⟩) L := mkV fun k v hk => h.cell k v hk
end
theorem OwnG.farB {α : Type} {F : Form α} {e : TypeId} {W : World} {base : Nat} {v : Value} {L : List α} (h : OwnG F e W base v L) {c k : Nat} (u : Value) (hc : v.ownBlock ≠ some c) : OwnG F e (W.setCell ⟨c, k, none⟩ u) base v L :=
  h.same fun g hg => Below.heap_setCell _ ⟨c, k, none⟩ _ g (fun e => hc (by rw [hg]; exact congrArg some e))
theorem OwnG.neB {α : Type} {F : Form α} {e : TypeId} {W : World} {base : Nat} {v : Value} {L : List α} (h : OwnG F e W base v L) {b : Nat} {T : TypeId} {M : List Value} (hb : Bx W b T M) (hT : T ≠ e) : v.ownBlock ≠ some b := h.ne hb hT

end Go.Proofs.YthmambhagheocaaGreatDoor
