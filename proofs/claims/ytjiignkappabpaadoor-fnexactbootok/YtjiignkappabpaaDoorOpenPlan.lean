/-
  Plans that came in, opened.
-/
import Derived.Test.YtjiignkappabpaaDoorBootPlan
import Derived.Test.YtjiignkappabpaaDoorCapIn
import Derived.OpenShut
namespace Go.Proofs.YtjiignkappabpaaDoor
open Go.ChangeShapes Go.WideShapes Go.ChangeAt Go.RowKit
set_option linter.unusedVariables false

/-- A row of any elements, opened. -/
theorem open_rowP {α : Type} (F : Form α) (Good : α → Prop) {H : Type} {enc : TypeId × Value → H} {W : World} {base fuel : Nat} {spare : Nat → Bool} {held : Bool} {cs : List Value} {x : DataW H × List MemPlace} {T E : TypeId} (hu : Tryd.prog.underlying T = some (.slice E)) (hc : Tryd.prog.cellsOf E = F.n)
    (one : ∀ (n : Nat) (cs : List Value) (x : DataW H × List MemPlace), DataW.trod enc Tryd.prog W base spare held n E cs = some x → ∃ a, cs = F.cel a ∧ Good a)
    (h : DataW.trod enc Tryd.prog W base spare held fuel T cs = some x) :
    ∃ (P : Option Addr) (cap : Nat) (L : List α), cs = [.slice P L.length cap] ∧ L.length ≤ 9223372036854775807 ∧ LiesG F W P L ∧ ∀ a ∈ L, Good a := by
  rcases Deep.open_slice hu h with ⟨hcs, _⟩ | ⟨a, len, cap, m, n, D, Pl, hcs, hb, hl, hm, hmm, _, hx⟩
  · exact ⟨none, 0, [], hcs, Nat.zero_le _, LiesG.nil _ _ _, fun a ha => absurd ha (by simp)⟩
  · have hlm : len ≤ m := by rw [hmm]; split <;> omega
    rw [hc] at hx
    have each : ∀ i, i < len → ∃ s : α, (∀ j, j < F.n → W.cell? (a.add (i * F.n + j)) = (F.cel s)[j]?) ∧ Good s := by
      intro i hi
      obtain ⟨cs', h1, h2⟩ := hx i (by omega)
      obtain ⟨s, rfl, hs⟩ := one _ _ _ h2
      obtain ⟨_, _, hcc⟩ := World.cells?_some h1
      exact ⟨s, fun j hj => by have := hcc j hj; rwa [Deep.add_add] at this, hs⟩
    have hlist : ∃ L : List α, L.length = len ∧ ∀ i (hi : i < L.length), (∀ j, j < F.n → W.cell? (a.add (i * F.n + j)) = (F.cel L[i])[j]?) ∧ Good L[i] := by
      by_cases h0 : len = 0
      · exact ⟨[], h0.symm, fun i hi => absurd hi (by simp)⟩
      · obtain ⟨s0, _⟩ := each 0 (by omega)
        have : Inhabited α := ⟨s0⟩
        obtain ⟨G, hG⟩ := Deep.choose_lt each
        exact ⟨(List.range len).map G, by simp, fun i hi => by simp at hi; simpa using hG i hi⟩
    obtain ⟨L, hlen, hL⟩ := hlist
    have hmx : len ≤ 9223372036854775807 := Nat.le_trans hl hm
    refine ⟨some a, cap, L, by rw [hlen]; exact hcs, by omega, ⟨?_, ?_⟩, fun y hy => ?_⟩
    · by_cases h0 : len = 0
      · left; exact List.length_eq_zero_iff.1 (by omega)
      · right
        have h1 := (hL 0 (by omega)).1 0 F.pos
        have hsp : a.spot = none := by
          have h2 : 0 < (F.cel L[0]).length := by rw [F.len]; exact F.pos
          rw [List.getElem?_eq_getElem h2] at h1
          simp [Addr.add] at h1
          cases e : a.spot with
          | none => rfl
          | some x => simp [World.cell?, e] at h1; split at h1 <;> simp at h1
        exact ⟨a.block, a.off, by cases a; simp at hsp; simp [hsp]⟩
    · intro B O e i hi j hj
      obtain rfl : a = ⟨B, O, none⟩ := by simpa using e
      have := (hL i hi).1 j hj
      unfold Addr.add at this
      by_cases hz : i * F.n + j = 0
      · rw [if_pos hz] at this
        have e1 : O + i * F.n + j = O := by omega
        rw [e1]; exact this
      · rw [if_neg hz] at this
        rw [Nat.add_assoc]; exact this
    · obtain ⟨i, hi, rfl⟩ := List.getElem_of_mem hy
      exact (hL i hi).2

set_option maxRecDepth 100000 in
theorem open_D1 {H : Type} {enc : TypeId × Value → H} {W : World} {base fuel : Nat} {spare : Nat → Bool} {held : Bool} {cs : List Value} {x : DataW H × List MemPlace} (h : DataW.trod enc Tryd.prog W base spare held fuel 66 cs = some x) : ∃ s : QD, cs = fD.cel s ∧ True := by
  obtain ⟨xs, n, _, _, hlen, hl, hx⟩ := DataW.trod_struct Tryd.underlying66 h
  have e0 : Tryd.prog.cellsOf 66 = 3 := by kernel_rfl
  rw [e0] at hlen
  have hl3 : xs.length = 3 := hl
  have ex : ∀ i, i < 3 → ∃ y, xs[i]? = some y := fun i hi => ⟨_, List.getElem?_eq_getElem (by omega)⟩
  match cs, hlen with
  | [c0, c1, c2], _ =>
    obtain ⟨y0, hy0⟩ := ex 0 (by omega)
    have h0 : DataW.trod enc Tryd.prog W base spare held n 3 [c0] = some y0 := by
      have := hx 0 _ rfl
      rw [hy0] at this
      have ez : Tryd.prog.cellsOf 3 = 1 := by kernel_rfl
      simpa [ez] using this
    obtain ⟨y1, hy1⟩ := ex 1 (by omega)
    have h1 : DataW.trod enc Tryd.prog W base spare held n 3 [c1] = some y1 := by
      have := hx 1 _ rfl
      rw [hy1] at this
      have ez : Tryd.prog.cellsOf 3 = 1 := by kernel_rfl
      simpa [ez] using this
    obtain ⟨y2, hy2⟩ := ex 2 (by omega)
    have h2 : DataW.trod enc Tryd.prog W base spare held n 3 [c2] = some y2 := by
      have := hx 2 _ rfl
      rw [hy2] at this
      have ez : Tryd.prog.cellsOf 3 = 1 := by kernel_rfl
      simpa [ez] using this
    obtain ⟨a0, rfl, _⟩ := cell_int h0
    obtain ⟨a1, rfl, _⟩ := cell_int h1
    obtain ⟨a2, rfl, _⟩ := cell_int h2
    exact ⟨⟨a0, a1, a2⟩, rfl, trivial⟩

set_option maxRecDepth 100000 in
theorem open_O1 {H : Type} {enc : TypeId × Value → H} {W : World} {base fuel : Nat} {spare : Nat → Bool} {held : Bool} {cs : List Value} {x : DataW H × List MemPlace} (h : DataW.trod enc Tryd.prog W base spare held fuel 96 cs = some x) : ∃ s : QO, cs = fO.cel s ∧ (-9223372036854775808 ≤ s.rt ∧ s.rt ≤ 9223372036854775807) := by
  obtain ⟨xs, n, _, _, hlen, hl, hx⟩ := DataW.trod_struct Tryd.underlying96 h
  have e0 : Tryd.prog.cellsOf 96 = 3 := by kernel_rfl
  rw [e0] at hlen
  have hl3 : xs.length = 3 := hl
  have ex : ∀ i, i < 3 → ∃ y, xs[i]? = some y := fun i hi => ⟨_, List.getElem?_eq_getElem (by omega)⟩
  match cs, hlen with
  | [c0, c1, c2], _ =>
    obtain ⟨y0, hy0⟩ := ex 0 (by omega)
    have h0 : DataW.trod enc Tryd.prog W base spare held n 3 [c0] = some y0 := by
      have := hx 0 _ rfl
      rw [hy0] at this
      have ez : Tryd.prog.cellsOf 3 = 1 := by kernel_rfl
      simpa [ez] using this
    obtain ⟨y1, hy1⟩ := ex 1 (by omega)
    have h1 : DataW.trod enc Tryd.prog W base spare held n 3 [c1] = some y1 := by
      have := hx 1 _ rfl
      rw [hy1] at this
      have ez : Tryd.prog.cellsOf 3 = 1 := by kernel_rfl
      simpa [ez] using this
    obtain ⟨y2, hy2⟩ := ex 2 (by omega)
    have h2 : DataW.trod enc Tryd.prog W base spare held n 3 [c2] = some y2 := by
      have := hx 2 _ rfl
      rw [hy2] at this
      have ez : Tryd.prog.cellsOf 3 = 1 := by kernel_rfl
      simpa [ez] using this
    obtain ⟨a0, rfl, _⟩ := cell_int h0
    obtain ⟨a1, rfl, w1⟩ := cell_int h1
    obtain ⟨a2, rfl, _⟩ := cell_int h2
    exact ⟨⟨a0, a1, a2⟩, rfl, bounds_i64 w1⟩

theorem open_D {H : Type} {enc : TypeId × Value → H} {W : World} {base fuel : Nat} {spare : Nat → Bool} {held : Bool} {cs : List Value} {x : DataW H × List MemPlace} (h : DataW.trod enc Tryd.prog W base spare held fuel 22 cs = some x) : ∃ (P : Option Addr) (cap : Nat) (L : List QD), cs = [.slice P L.length cap] ∧ L.length ≤ 9223372036854775807 ∧ LiesG fD W P L := by
  obtain ⟨P, c, L, h1, h2, h3, _⟩ := open_rowP fD (fun _ => True) Tryd.underlying22 (by kernel_rfl) (fun n cs x h => open_D1 h) h
  exact ⟨P, c, L, h1, h2, h3⟩
theorem open_O {H : Type} {enc : TypeId × Value → H} {W : World} {base fuel : Nat} {spare : Nat → Bool} {held : Bool} {cs : List Value} {x : DataW H × List MemPlace} (h : DataW.trod enc Tryd.prog W base spare held fuel 57 cs = some x) : ∃ (P : Option Addr) (cap : Nat) (L : List QO), cs = [.slice P L.length cap] ∧ L.length ≤ 9223372036854775807 ∧ LiesG fO W P L ∧ ∀ t ∈ L, -9223372036854775808 ≤ t.rt ∧ t.rt ≤ 9223372036854775807 :=
  open_rowP fO (fun t => -9223372036854775808 ≤ t.rt ∧ t.rt ≤ 9223372036854775807) Tryd.underlying57 (by kernel_rfl) (fun n cs x h => open_O1 h) h
set_option maxRecDepth 100000 in
theorem open_L1 {H : Type} {enc : TypeId × Value → H} {W : World} {base fuel : Nat} {spare : Nat → Bool} {held : Bool} {cs : List Value} {x : DataW H × List MemPlace} (h : DataW.trod enc Tryd.prog W base spare held fuel 59 cs = some x) : ∃ s : QL, cs = fL.cel s ∧ (LiesG fO W s.P s.l ∧ s.l.length ≤ 9223372036854775807 ∧ ∀ t ∈ s.l, -9223372036854775808 ≤ t.rt ∧ t.rt ≤ 9223372036854775807) := by
  obtain ⟨xs, n, _, _, hlen, hl, hx⟩ := DataW.trod_struct Tryd.underlying59 h
  have e0 : Tryd.prog.cellsOf 59 = 3 := by kernel_rfl
  rw [e0] at hlen
  have hl3 : xs.length = 3 := hl
  have ex : ∀ i, i < 3 → ∃ y, xs[i]? = some y := fun i hi => ⟨_, List.getElem?_eq_getElem (by omega)⟩
  match cs, hlen with
  | [c0, c1, c2], _ =>
    obtain ⟨y0, hy0⟩ := ex 0 (by omega)
    have h0 : DataW.trod enc Tryd.prog W base spare held n 3 [c0] = some y0 := by
      have := hx 0 _ rfl
      rw [hy0] at this
      have ez : Tryd.prog.cellsOf 3 = 1 := by kernel_rfl
      simpa [ez] using this
    obtain ⟨y1, hy1⟩ := ex 1 (by omega)
    have h1 : DataW.trod enc Tryd.prog W base spare held n 3 [c1] = some y1 := by
      have := hx 1 _ rfl
      rw [hy1] at this
      have ez : Tryd.prog.cellsOf 3 = 1 := by kernel_rfl
      simpa [ez] using this
    obtain ⟨y2, hy2⟩ := ex 2 (by omega)
    have h2 : DataW.trod enc Tryd.prog W base spare held n 57 [c2] = some y2 := by
      have := hx 2 _ rfl
      rw [hy2] at this
      have ez : Tryd.prog.cellsOf 57 = 1 := by kernel_rfl
      simpa [ez] using this
    obtain ⟨a0, rfl, _⟩ := cell_int h0
    obtain ⟨a1, rfl, _⟩ := cell_int h1
    obtain ⟨P, c, l, hc, hm, hr, hf⟩ := open_O h2
    simp only [List.cons.injEq, and_true] at hc
    subst hc
    exact ⟨⟨a0, a1, P, c, l⟩, rfl, hr, hm, hf⟩

theorem open_L {H : Type} {enc : TypeId × Value → H} {W : World} {base fuel : Nat} {spare : Nat → Bool} {held : Bool} {cs : List Value} {x : DataW H × List MemPlace} (h : DataW.trod enc Tryd.prog W base spare held fuel 23 cs = some x) : ∃ (P : Option Addr) (cap : Nat) (L : List QL), cs = [.slice P L.length cap] ∧ L.length ≤ 9223372036854775807 ∧ LiesG fL W P L ∧ ∀ s ∈ L, LiesG fO W s.P s.l ∧ s.l.length ≤ 9223372036854775807 ∧ ∀ t ∈ s.l, -9223372036854775808 ≤ t.rt ∧ t.rt ≤ 9223372036854775807 :=
  open_rowP fL (fun s => LiesG fO W s.P s.l ∧ s.l.length ≤ 9223372036854775807 ∧ ∀ t ∈ s.l, -9223372036854775808 ≤ t.rt ∧ t.rt ≤ 9223372036854775807) Tryd.underlying23 (by kernel_rfl) (fun n cs x h => open_L1 h) h
/-- The rights of all are numbers of 64 bits. -/
def QP.Fit (p : QP) : Prop := ∀ x ∈ p.ll, ∀ t ∈ x.l, -9223372036854775808 ≤ t.rt ∧ t.rt ≤ 9223372036854775807
set_option maxRecDepth 100000 in
theorem open_P1 {H : Type} {enc : TypeId × Value → H} {W : World} {base fuel : Nat} {spare : Nat → Bool} {held : Bool} {cs : List Value} {x : DataW H × List MemPlace} (h : DataW.trod enc Tryd.prog W base spare held fuel 25 cs = some x) : ∃ p : QP, cs = [.int .i64 p.bits, .slice p.dP p.dl.length p.dc, .slice p.lP p.ll.length p.lc] ∧ PlanIn W p ∧ p.Long ∧ p.Fit := by
  obtain ⟨xs, n, _, _, hlen, hl, hx⟩ := DataW.trod_struct Tryd.underlying25 h
  have e0 : Tryd.prog.cellsOf 25 = 3 := by kernel_rfl
  rw [e0] at hlen
  have hl3 : xs.length = 3 := hl
  have ex : ∀ i, i < 3 → ∃ y, xs[i]? = some y := fun i hi => ⟨_, List.getElem?_eq_getElem (by omega)⟩
  match cs, hlen with
  | [c0, c1, c2], _ =>
    obtain ⟨y0, hy0⟩ := ex 0 (by omega)
    have h0 : DataW.trod enc Tryd.prog W base spare held n 3 [c0] = some y0 := by
      have := hx 0 _ rfl
      rw [hy0] at this
      have ez : Tryd.prog.cellsOf 3 = 1 := by kernel_rfl
      simpa [ez] using this
    obtain ⟨y1, hy1⟩ := ex 1 (by omega)
    have h1 : DataW.trod enc Tryd.prog W base spare held n 22 [c1] = some y1 := by
      have := hx 1 _ rfl
      rw [hy1] at this
      have ez : Tryd.prog.cellsOf 22 = 1 := by kernel_rfl
      simpa [ez] using this
    obtain ⟨y2, hy2⟩ := ex 2 (by omega)
    have h2 : DataW.trod enc Tryd.prog W base spare held n 23 [c2] = some y2 := by
      have := hx 2 _ rfl
      rw [hy2] at this
      have ez : Tryd.prog.cellsOf 23 = 1 := by kernel_rfl
      simpa [ez] using this
    obtain ⟨bits, rfl, _⟩ := cell_int h0
    obtain ⟨dP, dc, dl, hc1, dm, dL⟩ := open_D h1
    obtain ⟨lP, lc, ll, hc2, lm, lL, lI⟩ := open_L h2
    simp only [List.cons.injEq, and_true] at hc1 hc2
    subst hc1 hc2
    exact ⟨⟨bits, dP, dc, dl, lP, lc, ll⟩, rfl, ⟨dL, lL, fun s hs => (lI s hs).1⟩, ⟨dm, lm, fun s hs => (lI s hs).2.1⟩, fun s hs => (lI s hs).2.2⟩

set_option maxRecDepth 100000 in
theorem open_plan {H : Type} {enc : TypeId × Value → H} {W : World} {base b0 : Nat} {spare : Nat → Bool} {held : Bool} {rc : Reach} {v : Value} {d : DataW H} {p : List MemPlace}
    (hv : Value.okWide Tryd.prog W rc b0 25 v) (h : DataW.Trod enc Tryd.prog W base spare held 25 v d p) :
    ∃ p : QP, v = .agg #[.int .i64 p.bits, .slice p.dP p.dl.length p.dc, .slice p.lP p.ll.length p.lc] ∧ PlanIn W p ∧ p.Long ∧ p.Fit := by
  obtain ⟨cs, rfl, hsz⟩ := okWide_struct Tryd.underlying25 hv
  obtain ⟨fuel, hf⟩ := h
  obtain ⟨p, hs, h1, h2, h3⟩ := open_P1 hf
  refine ⟨p, ?_, h1, h2, h3⟩
  have e : cs.toList = [.int .i64 p.bits, .slice p.dP p.dl.length p.dc, .slice p.lP p.ll.length p.lc] := by simpa [Value.cells] using hs
  have e2 : cs = #[.int .i64 p.bits, .slice p.dP p.dl.length p.dc, .slice p.lP p.ll.length p.lc] := by apply Array.ext'; rw [e]
  rw [e2]

end Go.Proofs.YtjiignkappabpaaDoor
