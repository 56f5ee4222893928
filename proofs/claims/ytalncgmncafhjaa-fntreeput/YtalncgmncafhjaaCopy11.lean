/-
  copy of slots: the law at the call, and what lies behind it.
-/
import Derived.Test.YtalncgmncafhjaaMarks3
import Derived.Laws.CopyOwn
namespace Go.Proofs.Ytalncgmncafhjaa
open Go.ChangeShapes Go.WideShapes Go.ChangeAt Go.RowKit
set_option linter.unusedVariables false

theorem run_copy11 (w : World) (ty : TypeId) (b o dLen dCap : Nat) (a : Addr) (sLen sCap n : Nat) (cs : List Value)
    (hn : n = Nat.min sLen dLen) (hlen : cs.length = n * 11) (hsrc : ∀ j v, cs[j]? = some v → w.cell? (a.add j) = some v) (hc : ∀ j, j < cs.length → (w.cell? ⟨b, o + j, none⟩).isSome = true) (hf : ∀ j, j < cs.length → w.frozen? ⟨b, o + j, none⟩ = false) (h1 : ∀ v ∈ cs, v.oneCell' = true) :
    (Builtin.copy_ #[23, 23] ty #[.slice (some ⟨b, o, none⟩) dLen dCap, .slice (some a) sLen sCap]).run Try.prog w = .ok (goInt n) (w.setCells b o cs) := by
  have hl := run_loadCells_list (P := Try.prog) w a cs hsrc
  have hst := run_storeCells_cells (P := Try.prog) b o cs 0 w (by simpa using hc) (by simpa using hf) h1
  obtain ⟨i, hi, hzz⟩ := Option.map_eq_some_iff.1 slotInfo
  simp only [Prod.mk.injEq] at hzz
  rw [hlen] at hl
  simp [Builtin.copy_, run_underlying Try.underlying23, Builtin.lenOf, Builtin.firstCells, sizeOf, typeInfo, hi, hzz.2.1, ← hn, hl, hst]

theorem wpList_copy11 {w : World} {ops : Array Oper} {rest : List Oper} {o : Oper} {a : Act} {Q : Exit → Act → World → Prop} (hgd : o.guard = none) (d s : Operand)
    (ho : o.op = .call { callee := .builtin .copy, args := #[d, s], argTypes := #[23, 23] })
    (b off dLen dCap : Nat) (ad : Addr) (sLen sCap n : Nat) (cs : List Value) (hd : a.eval d = .slice (some ⟨b, off, none⟩) dLen dCap) (hs : a.eval s = .slice (some ad) sLen sCap)
    (hn : n = Nat.min sLen dLen) (hlen : cs.length = n * 11) (hsrc : ∀ j v, cs[j]? = some v → w.cell? (ad.add j) = some v) (hc : ∀ j, j < cs.length → (w.cell? ⟨b, off + j, none⟩).isSome = true) (hf : ∀ j, j < cs.length → w.frozen? ⟨b, off + j, none⟩ = false) (h1 : ∀ v ∈ cs, v.oneCell' = true)
    (h : wpList Try.prog ops Q rest (a.put o.dst (goInt n)) (w.setCells b off cs)) : wpList Try.prog ops Q (o :: rest) a w := by
  refine wpList_plain hgd fun K hK => ?_
  have hrun := run_copy11 w o.type b off dLen dCap ad sLen sCap n cs hn hlen hsrc hc hf h1
  unfold Oper.wp
  simp [execOp, ho, resolve, invoke, builtin, hd, hs, hrun, Result.andThen]
  exact hK _ _ h

theorem size_setCells (W : World) (B O : Nat) (vs : List Value) : (W.setCells B O vs).heap.size = W.heap.size := by
  induction vs generalizing O W with
  | nil => rfl
  | cons v vs ih => simp [World.setCells, ih]

theorem room_setAll {W : World} {B n O : Nat} {vs : List Value} (h : Room W B n) (hO : O + vs.length ≤ n * 11) : Room (W.setCells B O vs) B n := by
  refine ⟨fun j hj => ?_, fun j => by rw [World.frozen?_setCells]; exact h.z j, by rw [size_setCells]; exact h.lt⟩
  by_cases e : O ≤ j ∧ j < O + vs.length
  · obtain ⟨i, rfl⟩ : ∃ i, j = O + i := ⟨j - O, by omega⟩
    rw [World.cell?_setCells_in B vs O W (fun i hi => h.c _ (by omega)) i (by omega)]
    rfl
  · rw [World.cell?_setCells_out B vs O W ⟨B, j, none⟩ (fun _ _ => by simp; omega)]
    exact h.c j hj

/-- What is copied behind what lies there. -/
theorem lies_copy {W : World} {G n : Nat} {A C : List Sl} (hA : Lies W (some ⟨G, 0, none⟩) A) (hR : Room W G n) (hn : A.length + C.length ≤ n) :
    Lies (W.setCells G (A.length * 11) (cellsAll C)) (some ⟨G, 0, none⟩) (A ++ C) := by
  refine ⟨.inr ⟨G, 0, rfl⟩, fun B O e i hi => ?_⟩
  cases e
  have hcl := cellsAll_length C
  apply At11.mk'
  intro j hj
  by_cases e : i < A.length
  · rw [List.getElem_append_left e, World.cell?_setCells_out G (cellsAll C) (A.length * 11) W ⟨G, 0 + i * 11 + j, none⟩ (fun _ _ => by simp; omega)]
    exact (hA.cells G 0 rfl i e).get j hj
  · rw [List.length_append] at hi
    rw [List.getElem_append_right (by omega)]
    have hg := cellsAll_get C (i - A.length) j (by omega) hj
    have hidx : (i - A.length) * 11 + j < (cellsAll C).length := by omega
    have hx := World.cell?_setCells_in G (cellsAll C) (A.length * 11) W (fun t ht => hR.c _ (by omega)) ((i - A.length) * 11 + j) hidx
    rw [show 0 + i * 11 + j = A.length * 11 + ((i - A.length) * 11 + j) by omega, hx, ← hg, List.getElem?_eq_getElem hidx]

theorem lies_far {W : World} {B O G X : Nat} {L : List Sl} {vs : List Value} (h : Lies W (some ⟨B, O, none⟩) L) (hne : B ≠ G) : Lies (W.setCells G X vs) (some ⟨B, O, none⟩) L :=
  ⟨h.place, fun B' O' e i hi => by
    cases e
    exact (h.cells B O rfl i hi).of fun j => World.cell?_setCells_out G vs X W ⟨B, O + i * 11 + j, none⟩ (fun e => absurd e hne)⟩

theorem below_setAll {w W : World} {B O : Nat} {vs : List Value} (h : Below w.heap.size w W) (hB : w.heap.size ≤ B) : Below w.heap.size w (W.setCells B O vs) :=
  h.grown (grownBy_setCells W B O vs) h.size (fun k e => by cases e; exact hB)

end Go.Proofs.Ytalncgmncafhjaa
