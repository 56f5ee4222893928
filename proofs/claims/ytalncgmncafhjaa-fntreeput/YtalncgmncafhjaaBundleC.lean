/-
  Texts of the proof, put together: RowG, Ints, SlotsEq.
-/
import Derived.Test.YtalncgmncafhjaaWords
import Derived.Deep.QuietTactic
import Derived.BigQuiet
import Derived.Test.YtalncgmncafhjaaQuietFast
import Derived.Test.YtalncgmncafhjaaLawSlots
/-
  Rows of elements of n cells each, of any type: where they lie, and what writing one leaves.
-/
namespace Go.Proofs.Ytalncgmncafhjaa
open Go.ChangeShapes Go.WideShapes Go.ChangeAt Go.RowKit
set_option linter.unusedVariables false

/-- How an element is laid: so many cells, which ones. -/
structure Form (α : Type) where
  n : Nat
  cel : α → List Value
  len : ∀ x, (cel x).length = n
  pos : 0 < n

/-- Elements one behind the other. -/
structure LiesG {α : Type} (F : Form α) (W : World) (P : Option Addr) (L : List α) : Prop where
  place : L = [] ∨ ∃ B O, P = some ⟨B, O, none⟩
  cells : ∀ B O, P = some ⟨B, O, none⟩ → ∀ i (hi : i < L.length) j, j < F.n → W.cell? ⟨B, O + i * F.n + j, none⟩ = (F.cel L[i])[j]?

section
variable {α : Type} {F : Form α} {W W' : World} {P : Option Addr} {L : List α}

theorem LiesG.has (h : LiesG F W P L) {i : Nat} (hi : i < L.length) : ∃ B O, P = some ⟨B, O, none⟩ := by
  rcases h.place with e | e
  · subst e; exact absurd hi (by simp)
  · exact e
theorem LiesG.lt {B O : Nat} (h : LiesG F W (some ⟨B, O, none⟩) L) {i : Nat} (hi : i < L.length) : B < W.heap.size := by
  have h1 := h.cells B O rfl i hi 0 F.pos
  have h2 : 0 < (F.cel L[i]).length := by rw [F.len]; exact F.pos
  rw [List.getElem?_eq_getElem h2] at h1
  exact block_lt_of_cell h1
theorem LiesG.nil (F : Form α) (W : World) (P : Option Addr) : LiesG F W P [] := ⟨.inl rfl, fun _ _ _ i hi => absurd hi (Nat.not_lt_zero _)⟩
theorem LiesG.below (h : LiesG F W P L) (hb : Below W.heap.size W W') : LiesG F W' P L :=
  ⟨h.place, fun B O e i hi j hj => by
    subst e
    rw [(bcell hb).1 _ _ (h.lt hi)]; exact h.cells B O rfl i hi j hj⟩
theorem LiesG.out {n : Nat} (h : LiesG F W P L) (hb : Below n W W') (hn : ∀ B O, P = some ⟨B, O, none⟩ → B < n) : LiesG F W' P L :=
  ⟨h.place, fun B O e i hi j hj => (hb.cell (p := ⟨B, _, none⟩) (hn B O e)).trans (h.cells B O e i hi j hj)⟩
theorem LiesG.drew (h : LiesG F W P L) : LiesG F W.drew P L := ⟨h.place, fun B O e i hi j hj => h.cells B O e i hi j hj⟩
/-- The j-th cell of the i-th element. -/
theorem LiesG.at {B O : Nat} (h : LiesG F W (some ⟨B, O, none⟩) L) {i : Nat} (hi : i < L.length) (j : Nat) (v : Value) (hj : (F.cel L[i])[j]? = some v) : W.cell? ⟨B, O + i * F.n + j, none⟩ = some v := by
  have hlt : j < F.n := by rw [← F.len L[i]]; exact (List.getElem?_eq_some_iff.1 hj).1
  rw [h.cells B O rfl i hi j hlt]; exact hj

/-- Room for m elements. -/
structure RoomG (F : Form α) (W : World) (B m : Nat) : Prop where
  c : ∀ j, j < m * F.n → (W.cell? ⟨B, j, none⟩).isSome = true
  z : ∀ j, W.frozen? ⟨B, j, none⟩ = false
  lt : B < W.heap.size
theorem RoomG.below {B m : Nat} (h : RoomG F W B m) (hb : Below W.heap.size W W') : RoomG F W' B m :=
  ⟨fun j hj => by rw [(bcell hb).1 _ _ h.lt]; exact h.c j hj, fun j => by rw [(bcell hb).2 _ _ h.lt]; exact h.z j, Nat.lt_of_lt_of_le h.lt hb.size⟩
theorem RoomG.new (F : Form α) (w : World) (m T : Nat) (z : Array Value) : RoomG F (w.alloc (.cells (madeCells z (m * F.n)) T)) w.heap.size m := by
  refine ⟨fun j hj => ?_, fun j => by go_simp, by simp⟩
  rw [World.cell?_alloc_at _ _ _ _ rfl]
  have : (madeCells z (m * F.n)).size = m * F.n := size_madeCells _ _
  simp [this, hj]

theorem sizeG_setCells (W : World) (B O : Nat) (vs : List Value) : (W.setCells B O vs).heap.size = W.heap.size := by
  induction vs generalizing O W with
  | nil => rfl
  | cons v vs ih => simp [World.setCells, ih]

theorem RoomG.set {B m O : Nat} (h : RoomG F W B m) (vs : List Value) (hO : O + vs.length ≤ m * F.n) : RoomG F (W.setCells B O vs) B m := by
  refine ⟨fun j hj => ?_, fun j => by rw [World.frozen?_setCells]; exact h.z j, by rw [sizeG_setCells]; exact h.lt⟩
  by_cases e : O ≤ j ∧ j < O + vs.length
  · obtain ⟨i, rfl⟩ : ∃ i, j = O + i := ⟨j - O, by omega⟩
    rw [World.cell?_setCells_in B vs O W (fun i hi => h.c _ (by omega)) i (by omega)]
    rfl
  · rw [World.cell?_setCells_out B vs O W ⟨B, j, none⟩ (fun _ _ => by simp; omega)]
    exact h.c j hj

/-- One more element behind those that lie there. -/
theorem LiesG.snoc {G m : Nat} (hL : LiesG F W (some ⟨G, 0, none⟩) L) (hR : RoomG F W G m) (x : α) (hm : L.length < m) :
    LiesG F (W.setCells G (L.length * F.n) (F.cel x)) (some ⟨G, 0, none⟩) (L ++ [x]) := by
  have hmul : (L.length + 1) * F.n ≤ m * F.n := Nat.mul_le_mul_right _ hm
  rw [Nat.add_mul, Nat.one_mul] at hmul
  refine ⟨.inr ⟨G, 0, rfl⟩, fun B O e i hi j hj => ?_⟩
  cases e
  by_cases e : i < L.length
  · have h1 : (i + 1) * F.n ≤ L.length * F.n := Nat.mul_le_mul_right _ e
    rw [Nat.add_mul, Nat.one_mul] at h1
    rw [World.cell?_setCells_out G (F.cel x) (L.length * F.n) W ⟨G, 0 + i * F.n + j, none⟩ (fun _ _ => by simp; omega), List.getElem_append_left e]
    exact hL.cells G 0 rfl i e j hj
  · obtain rfl : i = L.length := by simp at hi; omega
    have hlt : j < (F.cel x).length := by rw [F.len]; exact hj
    have hx := World.cell?_setCells_in G (F.cel x) (L.length * F.n) W (fun t ht => hR.c _ (by rw [F.len] at ht; omega)) j hlt
    rw [Nat.zero_add, hx]
    simp [List.getElem?_eq_getElem hlt]

theorem LiesG.apart {G O : Nat} (h : LiesG F W P L) (vs : List Value) (hB : ∀ b o, P = some ⟨b, o, none⟩ → b ≠ G) : LiesG F (W.setCells G O vs) P L :=
  ⟨h.place, fun b o e i hi j hj => by
    rw [World.cell?_setCells_out G vs O W ⟨b, o + i * F.n + j, none⟩ (fun e' => absurd e' (hB b o e))]
    exact h.cells b o e i hi j hj⟩
theorem LiesG.far {G O : Nat} {v : Value} (h : LiesG F W P L) (hB : ∀ b o, P = some ⟨b, o, none⟩ → b ≠ G) : LiesG F (W.setCell ⟨G, O, none⟩ v) P L := h.apart [v] hB
end

theorem belowG_set {w W : World} {B O : Nat} (h : Below w.heap.size w W) (hB : w.heap.size ≤ B) : ∀ (vs : List Value) (O : Nat) (W : World), Below w.heap.size w W → Below w.heap.size w (W.setCells B O vs)
  | [], _, _, h => h
  | v :: vs, O, W, h => by
    simp only [World.setCells]
    exact belowG_set (O := O) h hB vs _ _ (h.setCell hB _)

theorem belowG_drewN {B : Nat} {a w : World} (h : Below B a w) (n : Nat) : Below B a (w.drewN n) := h.trans ⟨rfl, rfl, rfl, Nat.le_refl _, fun _ _ => rfl⟩

end Go.Proofs.Ytalncgmncafhjaa
/-
  Rows of numbers: what the laws' copy, size and compare of them answer, and the compares of the program and of the specification.
-/
namespace Go.Proofs.Ytalncgmncafhjaa
open Go.ChangeShapes Go.WideShapes Go.ChangeAt Go.RowKit
set_option linter.unusedVariables false

/-- How far two rows are the same. -/
def sameTo {α : Type} (L M : List α) (k : Nat) : Prop := L.take k = M.take k
theorem sameTo_next {α : Type} {L M : List α} {k : Nat} (h : sameTo L M k) (h1 : k < L.length) (h2 : k < M.length) (e : L[k] = M[k]) : sameTo L M (k + 1) := by
  unfold sameTo at *
  rw [List.take_succ_eq_append_getElem h1, List.take_succ_eq_append_getElem h2, h, e]
theorem sameTo_end {α : Type} {L M : List α} {k : Nat} (h : sameTo L M k) (h1 : L.length ≤ k) (h2 : L.length = M.length) : L = M := by
  unfold sameTo at h
  rwa [List.take_of_length_le h1, List.take_of_length_le (by omega)] at h
theorem ne_at {α : Type} {L M : List α} {k : Nat} (h1 : k < L.length) (h2 : k < M.length) (e : L[k] ≠ M[k]) : L ≠ M := fun h => e (by subst h; rfl)

/-- What is left of a number, or -1. -/
def szR (t a : Int) : Int := if t ≤ a then a - t else -1
theorem szR_pos {t a : Int} (h : t ≤ a) : szR t a = a - t := if_pos h
theorem szR_neg {t a : Int} (h : ¬ t ≤ a) : szR t a = -1 := if_neg h

/-- Numbers, one cell each. -/
def fI : Form Int := ⟨1, fun a => [.int .i64 a], fun _ => rfl, by decide⟩
theorem atI {W : World} {B O : Nat} {L : List Int} (h : LiesG fI W (some ⟨B, O, none⟩) L) {k : Nat} (hk : k < L.length) : W.cell? ⟨B, O + k, none⟩ = some (.int .i64 L[k]) := by
  have := h.at hk 0 _ rfl
  simpa [fI] using this
theorem infoI : (Try.prog.info? 3).map (fun i => (i.zero, i.size, i.bytes)) = some (some (.int .i64 0), 1, 8) := by kernel_rfl
theorem makeI (n : Nat) (hn : n ≤ 1048577) (w : World) :
    (Instr.makeSlice 69 (.int .i64 (n : Int)) (.int .i64 (n : Int))).run Try.prog w = .ok (.slice (some ⟨w.heap.size, 0, none⟩) n n) (w.alloc (.cells (madeCells #[.int .i64 0] (n * fI.n)) 3)) := by
  obtain ⟨i, hi, hzz⟩ := Option.map_eq_some_iff.1 infoI
  simp only [Prod.mk.injEq] at hzz
  obtain ⟨hz, hs, hb⟩ := hzz
  have := run_make (P := Try.prog) w 69 3 i _ Try.underlying69 hi hz .i64 .i64 n n (by omega) (Int.le_refl _) (by rw [hb]; omega) (by omega)
  rw [hs] at this
  exact this

/-- What stands between two rounds: the first k are copied. -/
def toIInv (w : World) (L : List Int) (i : Value) (w' : World) : Prop :=
  ∃ k : Nat, k ≤ L.length ∧ i = .int .i64 k ∧ LiesG fI w' (some ⟨w.heap.size, 0, none⟩) (L.take k) ∧ RoomG fI w' w.heap.size L.length ∧ Below w.heap.size w w'

def eqIspecInv (w : World) (L M : List Int) (i : Value) (w' : World) : Prop :=
  ∃ k : Nat, k ≤ L.length ∧ i = .int .i64 k ∧ sameTo L M k ∧ Below w.heap.size w w'

def eqIimplInv (w : World) (L M : List Int) (i : Value) (w' : World) : Prop :=
  ∃ k : Nat, k ≤ L.length ∧ i = .int .i64 k ∧ sameTo L M k ∧ Below w.heap.size w w'

def eqIlawInv (w : World) (L M : List Int) (i : Value) (w' : World) : Prop :=
  ∃ k : Nat, k ≤ L.length ∧ i = .int .i64 k ∧ sameTo L M k ∧ Below w.heap.size w w'

/-- Numbers, one cell each. -/
def fU : Form Int := ⟨1, fun a => [.int .u32 a], fun _ => rfl, by decide⟩
theorem atU {W : World} {B O : Nat} {L : List Int} (h : LiesG fU W (some ⟨B, O, none⟩) L) {k : Nat} (hk : k < L.length) : W.cell? ⟨B, O + k, none⟩ = some (.int .u32 L[k]) := by
  have := h.at hk 0 _ rfl
  simpa [fU] using this
theorem infoU : (Try.prog.info? 82).map (fun i => (i.zero, i.size, i.bytes)) = some (some (.int .u32 0), 1, 4) := by kernel_rfl
/-- What stands between two rounds: the first k are copied. -/
def toUInv (w : World) (L : List Int) (i : Value) (w' : World) : Prop :=
  ∃ k : Nat, k ≤ L.length ∧ i = .int .i64 k ∧ LiesG fU w' (some ⟨w.heap.size, 0, none⟩) (L.take k) ∧ RoomG fU w' w.heap.size L.length ∧ Below w.heap.size w w'

def eqUspecInv (w : World) (L M : List Int) (i : Value) (w' : World) : Prop :=
  ∃ k : Nat, k ≤ L.length ∧ i = .int .i64 k ∧ sameTo L M k ∧ Below w.heap.size w w'

def eqUimplInv (w : World) (L M : List Int) (i : Value) (w' : World) : Prop :=
  ∃ k : Nat, k ≤ L.length ∧ i = .int .i64 k ∧ sameTo L M k ∧ Below w.heap.size w w'

def eqUlawInv (w : World) (L M : List Int) (i : Value) (w' : World) : Prop :=
  ∃ k : Nat, k ≤ L.length ∧ i = .int .i64 k ∧ sameTo L M k ∧ Below w.heap.size w w'

end Go.Proofs.Ytalncgmncafhjaa
/-
  Rows of slots compared by the program.
-/
namespace Go.Proofs.Ytalncgmncafhjaa
open Go.ChangeShapes Go.WideShapes Go.ChangeAt Go.RowKit
set_option linter.unusedVariables false

instance : DecidableEq Sl := fun x y => decidable_of_iff (x.t = y.t ∧ x.k = y.k ∧ x.e = y.e ∧ x.b = y.b ∧ x.r = y.r ∧ x.d = y.d ∧ x.g = y.g ∧ x.q = y.q ∧ x.f = y.f ∧ x.o = y.o ∧ x.p = y.p) ⟨fun h => by cases x; cases y; simp_all, fun h => by subst h; simp⟩

theorem eqCap_in (xk xe xb xr xd xg xq xf : Int) (xo : Bool) (yk ye yb yr yd yg yq yf : Int) (yo : Bool) (w : World) : (Op.equalIn 9999 25 (.agg #[.int .i64 xk, .int .i64 xe, .int .i64 xb, .int .i64 xr, .int .i64 xd, .int .i64 xg, .int .i64 xq, .int .i64 xf, .bool xo]) (.agg #[.int .i64 yk, .int .i64 ye, .int .i64 yb, .int .i64 yr, .int .i64 yd, .int .i64 yg, .int .i64 yq, .int .i64 yf, .bool yo])).run Try.prog w = .ok (decide (xk = yk) && decide (xe = ye) && decide (xb = yb) && decide (xr = yr) && decide (xd = yd) && decide (xg = yg) && decide (xq = yq) && decide (xf = yf) && decide (xo = yo)) w := by
  go_simp
  by_cases h0 : xk = yk
  · skip
    by_cases h1 : xe = ye
    · skip
      by_cases h2 : xb = yb
      · skip
        by_cases h3 : xr = yr
        · skip
          by_cases h4 : xd = yd
          · skip
            by_cases h5 : xg = yg
            · skip
              by_cases h6 : xq = yq
              · skip
                by_cases h7 : xf = yf
                · skip
                  by_cases h8 : xo = yo
                  · skip
                    simp [h0, h1, h2, h3, h4, h5, h6, h7, h8]
                  · simp [h0, h1, h2, h3, h4, h5, h6, h7, h8]
                · simp [h0, h1, h2, h3, h4, h5, h6, h7]
              · simp [h0, h1, h2, h3, h4, h5, h6]
            · simp [h0, h1, h2, h3, h4, h5]
          · simp [h0, h1, h2, h3, h4]
        · simp [h0, h1, h2, h3]
      · simp [h0, h1, h2]
    · simp [h0, h1]
  · simp [h0]

theorem eqS_in (x y : Sl) (w : World) : (Op.equalIn 10000 27 (.agg #[.int .i64 x.t, .int .i64 x.k, .int .i64 x.e, .int .i64 x.b, .int .i64 x.r, .int .i64 x.d, .int .i64 x.g, .int .i64 x.q, .int .i64 x.f, .bool x.o, .int .i64 x.p]) (.agg #[.int .i64 y.t, .int .i64 y.k, .int .i64 y.e, .int .i64 y.b, .int .i64 y.r, .int .i64 y.d, .int .i64 y.g, .int .i64 y.q, .int .i64 y.f, .bool y.o, .int .i64 y.p])).run Try.prog w = .ok (decide (x = y)) w := by
  obtain ⟨xt, xk, xe, xb, xr, xd, xg, xq, xf, xo, xp⟩ := x
  obtain ⟨yt, yk, ye, yb, yr, yd, yg, yq, yf, yo, yp⟩ := y
  have h3 := eqCap_in xk xe xb xr xd xg xq xf xo yk ye yb yr yd yg yq yf yo w
  go_simp
  by_cases h0 : xt = yt
  · skip
    by_cases h1 : xk = yk
    · skip
      by_cases h2 : xe = ye
      · skip
        by_cases h3 : xb = yb
        · skip
          by_cases h4 : xr = yr
          · skip
            by_cases h5 : xd = yd
            · skip
              by_cases h6 : xg = yg
              · skip
                by_cases h7 : xq = yq
                · skip
                  by_cases h8 : xf = yf
                  · skip
                    by_cases h9 : xo = yo
                    · skip
                      by_cases h10 : xp = yp
                      · skip
                        simp [h0, h1, h2, h3, h4, h5, h6, h7, h8, h9, h10]
                      · simp [h0, h1, h2, h3, h4, h5, h6, h7, h8, h9, h10]
                    · simp [h0, h1, h2, h3, h4, h5, h6, h7, h8, h9]
                  · simp [h0, h1, h2, h3, h4, h5, h6, h7, h8]
                · simp [h0, h1, h2, h3, h4, h5, h6, h7]
              · simp [h0, h1, h2, h3, h4, h5, h6]
            · simp [h0, h1, h2, h3, h4, h5]
          · simp [h0, h1, h2, h3, h4]
        · simp [h0, h1, h2, h3]
      · simp [h0, h1, h2]
    · simp [h0, h1]
  · simp [h0]

theorem neqS_run (x y : Sl) (w : World) : (binOp .neq 27 (.agg #[.int .i64 x.t, .int .i64 x.k, .int .i64 x.e, .int .i64 x.b, .int .i64 x.r, .int .i64 x.d, .int .i64 x.g, .int .i64 x.q, .int .i64 x.f, .bool x.o, .int .i64 x.p]) (.agg #[.int .i64 y.t, .int .i64 y.k, .int .i64 y.e, .int .i64 y.b, .int .i64 y.r, .int .i64 y.d, .int .i64 y.g, .int .i64 y.q, .int .i64 y.f, .bool y.o, .int .i64 y.p])).run Try.prog w = .ok (.bool (!decide (x = y))) w := by
  rw [run_neq_struct, eqS_in]; rfl

def eqSInv (w : World) (L M : List Sl) (i : Value) (w' : World) : Prop :=
  ∃ k : Nat, k ≤ L.length ∧ i = .int .i64 k ∧ sameTo L M k ∧ Below w.heap.size w w'

end Go.Proofs.Ytalncgmncafhjaa
