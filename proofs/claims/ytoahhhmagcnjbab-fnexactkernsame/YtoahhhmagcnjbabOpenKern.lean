/-
  Rows and states that came in, opened.
-/
import Derived.Test.YtoahhhmagcnjbabKernData
import Derived.Test.YtoahhhmagcnjbabOpenSlots
import Derived.OpenShut
namespace Go.Proofs.Ytoahhhmagcnjbab
open Go.ChangeShapes Go.WideShapes Go.ChangeAt Go.RowKit
set_option linter.unusedVariables false

theorem cell_u32 {H : Type} {enc : TypeId × Value → H} {W : World} {base n : Nat} {spare : Nat → Bool} {held : Bool} {v : Value} {y : DataW H × List MemPlace}
    (h : DataW.trod enc Try.prog W base spare held n 52 [v] = some y) : ∃ a, v = .int .u32 a ∧ (Lit.int .u32 a).wf = true := by
  obtain ⟨a, e, _, wa⟩ := DataW.trod_int Try.underlying52 h
  simp at e
  exact ⟨a, e, wa⟩

/-- A row of any elements, opened. -/
theorem open_rowG {α : Type} (F : Form α) (Good : α → Prop) {H : Type} {enc : TypeId × Value → H} {W : World} {base fuel : Nat} {spare : Nat → Bool} {held : Bool} {cs : List Value} {x : DataW H × List MemPlace} {T E : TypeId} (hu : Try.prog.underlying T = some (.slice E)) (hc : Try.prog.cellsOf E = F.n)
    (one : ∀ (n : Nat) (cs : List Value) (x : DataW H × List MemPlace), DataW.trod enc Try.prog W base spare held n E cs = some x → ∃ a, cs = F.cel a ∧ Good a)
    (h : DataW.trod enc Try.prog W base spare held fuel T cs = some x) :
    ∃ (P : Option Addr) (cap : Nat) (L : List α), cs = [.slice P L.length cap] ∧ L.length ≤ 9223372036854775807 ∧ LiesG F W P L ∧ ∀ a ∈ L, Good a := by
  rcases Deep.open_slice hu h with ⟨hcs, _⟩ | ⟨a, len, cap, m, n, D, Pl, hcs, hb, hl, hm, hmm, _, hx⟩
  · exact ⟨none, 0, [], hcs, Nat.zero_le _, LiesG.nil _ _ _, fun a ha => absurd ha (by simp)⟩
  · have hlm : len ≤ m := by rw [hmm]; split <;> omega
    rw [hc] at hx
    have each : ∀ i, i < len → ∃ s : α, (∀ j, j < F.n → W.cell? (a.add (i * F.n + j)) = (F.cel s)[j]?) ∧ Good s := by
      intro i hi
      obtain ⟨cs', h1, h2⟩ := hx i (by omega)
      obtain ⟨s, rfl, hs⟩ := one _ _ _ h2
      obtain ⟨_, _, hcc⟩ := World.cells?_some h1
      exact ⟨s, fun j hj => by have := hcc j hj; rwa [Deep.add_add] at this, hs⟩
    have hlist : ∃ L : List α, L.length = len ∧ ∀ i (hi : i < L.length), (∀ j, j < F.n → W.cell? (a.add (i * F.n + j)) = (F.cel L[i])[j]?) ∧ Good L[i] := by
      by_cases h0 : len = 0
      · exact ⟨[], h0.symm, fun i hi => absurd hi (by simp)⟩
      · obtain ⟨s0, _⟩ := each 0 (by omega)
        have : Inhabited α := ⟨s0⟩
        obtain ⟨G, hG⟩ := Deep.choose_lt each
        exact ⟨(List.range len).map G, by simp, fun i hi => by simp at hi; simpa using hG i hi⟩
    obtain ⟨L, hlen, hL⟩ := hlist
    have hmx : len ≤ 9223372036854775807 := Nat.le_trans hl hm
    refine ⟨some a, cap, L, by rw [hlen]; exact hcs, by omega, ⟨?_, ?_⟩, fun y hy => ?_⟩
    · by_cases h0 : len = 0
      · left; exact List.length_eq_zero_iff.1 (by omega)
      · right
        have h1 := (hL 0 (by omega)).1 0 F.pos
        have hsp : a.spot = none := by
          have h2 : 0 < (F.cel L[0]).length := by rw [F.len]; exact F.pos
          rw [List.getElem?_eq_getElem h2] at h1
          simp [Addr.add] at h1
          cases e : a.spot with
          | none => rfl
          | some x => simp [World.cell?, e] at h1; split at h1 <;> simp at h1
        exact ⟨a.block, a.off, by cases a; simp at hsp; simp [hsp]⟩
    · intro B O e i hi j hj
      obtain rfl : a = ⟨B, O, none⟩ := by simpa using e
      have := (hL i hi).1 j hj
      unfold Addr.add at this
      by_cases hz : i * F.n + j = 0
      · rw [if_pos hz] at this
        have e1 : O + i * F.n + j = O := by omega
        rw [e1]; exact this
      · rw [if_neg hz] at this
        rw [Nat.add_assoc]; exact this
    · obtain ⟨i, hi, rfl⟩ := List.getElem_of_mem hy
      exact (hL i hi).2

theorem open_I {H : Type} {enc : TypeId × Value → H} {W : World} {base fuel : Nat} {spare : Nat → Bool} {held : Bool} {cs : List Value} {x : DataW H × List MemPlace} (h : DataW.trod enc Try.prog W base spare held fuel 27 cs = some x) : ∃ (P : Option Addr) (cap : Nat) (L : List Int), cs = [.slice P L.length cap] ∧ L.length ≤ 9223372036854775807 ∧ LiesG fI W P L := by
  obtain ⟨P, c, L, h1, h2, h3, _⟩ := open_rowG fI (fun _ => True) Try.underlying27 (by kernel_rfl) (fun n cs x h => by
    have hl : cs.length = 1 := by
      obtain ⟨a, e, _, _⟩ := DataW.trod_int Try.underlying3 h
      rw [e]; rfl
    match cs, hl with
    | [v], _ => obtain ⟨a, rfl, _⟩ := cell_int h; exact ⟨a, rfl, trivial⟩) h
  exact ⟨P, c, L, h1, h2, h3⟩
theorem open_U {H : Type} {enc : TypeId × Value → H} {W : World} {base fuel : Nat} {spare : Nat → Bool} {held : Bool} {cs : List Value} {x : DataW H × List MemPlace} (h : DataW.trod enc Try.prog W base spare held fuel 61 cs = some x) : ∃ (P : Option Addr) (cap : Nat) (L : List Int), cs = [.slice P L.length cap] ∧ L.length ≤ 9223372036854775807 ∧ LiesG fU W P L := by
  obtain ⟨P, c, L, h1, h2, h3, _⟩ := open_rowG fU (fun _ => True) Try.underlying61 (by kernel_rfl) (fun n cs x h => by
    have hl : cs.length = 1 := by
      obtain ⟨a, e, _, _⟩ := DataW.trod_int Try.underlying52 h
      rw [e]; rfl
    match cs, hl with
    | [v], _ => obtain ⟨a, rfl, _⟩ := cell_u32 h; exact ⟨a, rfl, trivial⟩) h
  exact ⟨P, c, L, h1, h2, h3⟩

theorem open_A3 {H : Type} {enc : TypeId × Value → H} {W : World} {base fuel : Nat} {spare : Nat → Bool} {held : Bool} {c0 c1 c2 : Value} {x : DataW H × List MemPlace} (h : DataW.trod enc Try.prog W base spare held fuel 53 [c0, c1, c2] = some x) : ∃ a b c, c0 = .int .u32 a ∧ c1 = .int .u32 b ∧ c2 = .int .u32 c := by
  obtain ⟨xs, m, _, _, _, hl, hx⟩ := DataW.trod_array Try.underlying53 h
  have e5 : Try.prog.cellsOf 52 = 1 := by kernel_rfl
  have ex : ∀ i, i < 3 → ∃ y, xs[i]? = some y := fun i hi => ⟨_, List.getElem?_eq_getElem (by omega)⟩
  obtain ⟨y0, hy0⟩ := ex 0 (by omega)
  have h0 : DataW.trod enc Try.prog W base spare held m 52 [c0] = some y0 := by
    have := hx 0 (by omega)
    rw [hy0] at this
    simpa [e5] using this
  obtain ⟨a0, rfl, _⟩ := cell_u32 h0
  obtain ⟨y1, hy1⟩ := ex 1 (by omega)
  have h1 : DataW.trod enc Try.prog W base spare held m 52 [c1] = some y1 := by
    have := hx 1 (by omega)
    rw [hy1] at this
    simpa [e5] using this
  obtain ⟨a1, rfl, _⟩ := cell_u32 h1
  obtain ⟨y2, hy2⟩ := ex 2 (by omega)
  have h2 : DataW.trod enc Try.prog W base spare held m 52 [c2] = some y2 := by
    have := hx 2 (by omega)
    rw [hy2] at this
    simpa [e5] using this
  obtain ⟨a2, rfl, _⟩ := cell_u32 h2
  exact ⟨a0, a1, a2, rfl, rfl, rfl⟩

set_option maxRecDepth 100000 in
theorem open_T1 {H : Type} {enc : TypeId × Value → H} {W : World} {base fuel : Nat} {spare : Nat → Bool} {held : Bool} {cs : List Value} {x : DataW H × List MemPlace} (h : DataW.trod enc Try.prog W base spare held fuel 95 cs = some x) : ∃ s : QT, cs = fT.cel s ∧ True := by
  obtain ⟨xs, n, _, _, hlen, hl, hx⟩ := DataW.trod_struct Try.underlying95 h
  have e3 : Try.prog.cellsOf 3 = 1 := by kernel_rfl
  have e4 : Try.prog.cellsOf 4 = 1 := by kernel_rfl
  have e5 : Try.prog.cellsOf 52 = 1 := by kernel_rfl
  have e6 : Try.prog.cellsOf 27 = 1 := by kernel_rfl
  have e7 : Try.prog.cellsOf 61 = 1 := by kernel_rfl
  have e8 : Try.prog.cellsOf 53 = 3 := by kernel_rfl
  have e9 : Try.prog.cellsOf 28 = 8 := by kernel_rfl
  have e0 : Try.prog.cellsOf 95 = 15 := by kernel_rfl
  rw [e0] at hlen
  have hl3 : xs.length = 13 := hl
  have ex : ∀ i, i < 13 → ∃ y, xs[i]? = some y := fun i hi => ⟨_, List.getElem?_eq_getElem (by omega)⟩
  match cs, hlen with
  | [c0, c1, c2, c3, c4, c5, c6, c7, c8, c9, c10, c11, c12, c13, c14], _ =>
    obtain ⟨y0, hy0⟩ := ex 0 (by omega)
    have h0 : DataW.trod enc Try.prog W base spare held n 3 [c0] = some y0 := by
      have := hx 0 _ rfl
      rw [hy0] at this
      simpa [e3] using this
    obtain ⟨y1, hy1⟩ := ex 1 (by omega)
    have h1 : DataW.trod enc Try.prog W base spare held n 3 [c1] = some y1 := by
      have := hx 1 _ rfl
      rw [hy1] at this
      simpa [e3] using this
    obtain ⟨y2, hy2⟩ := ex 2 (by omega)
    have h2 : DataW.trod enc Try.prog W base spare held n 3 [c2] = some y2 := by
      have := hx 2 _ rfl
      rw [hy2] at this
      simpa [e3] using this
    obtain ⟨y3, hy3⟩ := ex 3 (by omega)
    have h3 : DataW.trod enc Try.prog W base spare held n 3 [c3] = some y3 := by
      have := hx 3 _ rfl
      rw [hy3] at this
      simpa [e3] using this
    obtain ⟨y4, hy4⟩ := ex 4 (by omega)
    have h4 : DataW.trod enc Try.prog W base spare held n 3 [c4] = some y4 := by
      have := hx 4 _ rfl
      rw [hy4] at this
      simpa [e3] using this
    obtain ⟨y5, hy5⟩ := ex 5 (by omega)
    have h5 : DataW.trod enc Try.prog W base spare held n 3 [c5] = some y5 := by
      have := hx 5 _ rfl
      rw [hy5] at this
      simpa [e3] using this
    obtain ⟨y6, hy6⟩ := ex 6 (by omega)
    have h6 : DataW.trod enc Try.prog W base spare held n 3 [c6] = some y6 := by
      have := hx 6 _ rfl
      rw [hy6] at this
      simpa [e3] using this
    obtain ⟨y7, hy7⟩ := ex 7 (by omega)
    have h7 : DataW.trod enc Try.prog W base spare held n 52 [c7] = some y7 := by
      have := hx 7 _ rfl
      rw [hy7] at this
      simpa [e5] using this
    obtain ⟨y8, hy8⟩ := ex 8 (by omega)
    have h8 : DataW.trod enc Try.prog W base spare held n 3 [c8] = some y8 := by
      have := hx 8 _ rfl
      rw [hy8] at this
      simpa [e3] using this
    obtain ⟨y9, hy9⟩ := ex 9 (by omega)
    have h9 : DataW.trod enc Try.prog W base spare held n 52 [c9] = some y9 := by
      have := hx 9 _ rfl
      rw [hy9] at this
      simpa [e5] using this
    obtain ⟨y10, hy10⟩ := ex 10 (by omega)
    have h10 : DataW.trod enc Try.prog W base spare held n 53 [c10, c11, c12] = some y10 := by
      have := hx 10 _ rfl
      rw [hy10] at this
      simpa [e8] using this
    obtain ⟨y11, hy11⟩ := ex 11 (by omega)
    have h11 : DataW.trod enc Try.prog W base spare held n 3 [c13] = some y11 := by
      have := hx 11 _ rfl
      rw [hy11] at this
      simpa [e3] using this
    obtain ⟨y12, hy12⟩ := ex 12 (by omega)
    have h12 : DataW.trod enc Try.prog W base spare held n 52 [c14] = some y12 := by
      have := hx 12 _ rfl
      rw [hy12] at this
      simpa [e5] using this
    obtain ⟨a0, rfl, _⟩ := cell_int h0
    obtain ⟨a1, rfl, _⟩ := cell_int h1
    obtain ⟨a2, rfl, _⟩ := cell_int h2
    obtain ⟨a3, rfl, _⟩ := cell_int h3
    obtain ⟨a4, rfl, _⟩ := cell_int h4
    obtain ⟨a5, rfl, _⟩ := cell_int h5
    obtain ⟨a6, rfl, _⟩ := cell_int h6
    obtain ⟨a7, rfl, _⟩ := cell_u32 h7
    obtain ⟨a8, rfl, _⟩ := cell_int h8
    obtain ⟨a9, rfl, _⟩ := cell_u32 h9
    obtain ⟨a10, a11, a12, rfl, rfl, rfl⟩ := open_A3 h10
    obtain ⟨a13, rfl, _⟩ := cell_int h11
    obtain ⟨a14, rfl, _⟩ := cell_u32 h12
    exact ⟨⟨a0, a1, a2, a3, a4, a5, a6, a7, a8, a9, a10, a11, a12, a13, a14⟩, rfl, trivial⟩

set_option maxRecDepth 100000 in
theorem open_E1 {H : Type} {enc : TypeId × Value → H} {W : World} {base fuel : Nat} {spare : Nat → Bool} {held : Bool} {cs : List Value} {x : DataW H × List MemPlace} (h : DataW.trod enc Try.prog W base spare held fuel 84 cs = some x) : ∃ s : QE, cs = fE.cel s ∧ (LiesG fI W s.P s.l ∧ s.l.length ≤ 9223372036854775807) := by
  obtain ⟨xs, n, _, _, hlen, hl, hx⟩ := DataW.trod_struct Try.underlying84 h
  have e3 : Try.prog.cellsOf 3 = 1 := by kernel_rfl
  have e4 : Try.prog.cellsOf 4 = 1 := by kernel_rfl
  have e5 : Try.prog.cellsOf 52 = 1 := by kernel_rfl
  have e6 : Try.prog.cellsOf 27 = 1 := by kernel_rfl
  have e7 : Try.prog.cellsOf 61 = 1 := by kernel_rfl
  have e8 : Try.prog.cellsOf 53 = 3 := by kernel_rfl
  have e9 : Try.prog.cellsOf 28 = 8 := by kernel_rfl
  have e0 : Try.prog.cellsOf 84 = 3 := by kernel_rfl
  rw [e0] at hlen
  have hl3 : xs.length = 3 := hl
  have ex : ∀ i, i < 3 → ∃ y, xs[i]? = some y := fun i hi => ⟨_, List.getElem?_eq_getElem (by omega)⟩
  match cs, hlen with
  | [c0, c1, c2], _ =>
    obtain ⟨y0, hy0⟩ := ex 0 (by omega)
    have h0 : DataW.trod enc Try.prog W base spare held n 3 [c0] = some y0 := by
      have := hx 0 _ rfl
      rw [hy0] at this
      simpa [e3] using this
    obtain ⟨y1, hy1⟩ := ex 1 (by omega)
    have h1 : DataW.trod enc Try.prog W base spare held n 3 [c1] = some y1 := by
      have := hx 1 _ rfl
      rw [hy1] at this
      simpa [e3] using this
    obtain ⟨y2, hy2⟩ := ex 2 (by omega)
    have h2 : DataW.trod enc Try.prog W base spare held n 27 [c2] = some y2 := by
      have := hx 2 _ rfl
      rw [hy2] at this
      simpa [e6] using this
    obtain ⟨ad, rfl, _⟩ := cell_int h0
    obtain ⟨kd, rfl, _⟩ := cell_int h1
    obtain ⟨P, c, l, hc, hm, hr⟩ := open_I h2
    simp only [List.cons.injEq, and_true] at hc
    subst hc
    exact ⟨⟨ad, kd, P, c, l⟩, rfl, hr, hm⟩

set_option maxRecDepth 100000 in
theorem open_N1 {H : Type} {enc : TypeId × Value → H} {W : World} {base fuel : Nat} {spare : Nat → Bool} {held : Bool} {cs : List Value} {x : DataW H × List MemPlace} (h : DataW.trod enc Try.prog W base spare held fuel 86 cs = some x) : ∃ s : QN, cs = fN.cel s ∧ (LiesG fI W s.P s.l ∧ s.l.length ≤ 9223372036854775807) := by
  obtain ⟨xs, n, _, _, hlen, hl, hx⟩ := DataW.trod_struct Try.underlying86 h
  have e3 : Try.prog.cellsOf 3 = 1 := by kernel_rfl
  have e4 : Try.prog.cellsOf 4 = 1 := by kernel_rfl
  have e5 : Try.prog.cellsOf 52 = 1 := by kernel_rfl
  have e6 : Try.prog.cellsOf 27 = 1 := by kernel_rfl
  have e7 : Try.prog.cellsOf 61 = 1 := by kernel_rfl
  have e8 : Try.prog.cellsOf 53 = 3 := by kernel_rfl
  have e9 : Try.prog.cellsOf 28 = 8 := by kernel_rfl
  have e0 : Try.prog.cellsOf 86 = 4 := by kernel_rfl
  rw [e0] at hlen
  have hl3 : xs.length = 4 := hl
  have ex : ∀ i, i < 4 → ∃ y, xs[i]? = some y := fun i hi => ⟨_, List.getElem?_eq_getElem (by omega)⟩
  match cs, hlen with
  | [c0, c1, c2, c3], _ =>
    obtain ⟨y0, hy0⟩ := ex 0 (by omega)
    have h0 : DataW.trod enc Try.prog W base spare held n 3 [c0] = some y0 := by
      have := hx 0 _ rfl
      rw [hy0] at this
      simpa [e3] using this
    obtain ⟨y1, hy1⟩ := ex 1 (by omega)
    have h1 : DataW.trod enc Try.prog W base spare held n 4 [c1] = some y1 := by
      have := hx 1 _ rfl
      rw [hy1] at this
      simpa [e4] using this
    obtain ⟨y2, hy2⟩ := ex 2 (by omega)
    have h2 : DataW.trod enc Try.prog W base spare held n 3 [c2] = some y2 := by
      have := hx 2 _ rfl
      rw [hy2] at this
      simpa [e3] using this
    obtain ⟨y3, hy3⟩ := ex 3 (by omega)
    have h3 : DataW.trod enc Try.prog W base spare held n 27 [c3] = some y3 := by
      have := hx 3 _ rfl
      rw [hy3] at this
      simpa [e6] using this
    obtain ⟨ad, rfl, _⟩ := cell_int h0
    obtain ⟨ac, rfl⟩ := cell_bool h1
    obtain ⟨wd, rfl, _⟩ := cell_int h2
    obtain ⟨P, c, l, hc, hm, hr⟩ := open_I h3
    simp only [List.cons.injEq, and_true] at hc
    subst hc
    exact ⟨⟨ad, ac, wd, P, c, l⟩, rfl, hr, hm⟩

set_option maxRecDepth 100000 in
theorem open_F1 {H : Type} {enc : TypeId × Value → H} {W : World} {base fuel : Nat} {spare : Nat → Bool} {held : Bool} {cs : List Value} {x : DataW H × List MemPlace} (h : DataW.trod enc Try.prog W base spare held fuel 88 cs = some x) : ∃ s : QF, cs = fF.cel s ∧ (LiesG fU W s.P s.l ∧ s.l.length ≤ 9223372036854775807) := by
  obtain ⟨xs, n, _, _, hlen, hl, hx⟩ := DataW.trod_struct Try.underlying88 h
  have e3 : Try.prog.cellsOf 3 = 1 := by kernel_rfl
  have e4 : Try.prog.cellsOf 4 = 1 := by kernel_rfl
  have e5 : Try.prog.cellsOf 52 = 1 := by kernel_rfl
  have e6 : Try.prog.cellsOf 27 = 1 := by kernel_rfl
  have e7 : Try.prog.cellsOf 61 = 1 := by kernel_rfl
  have e8 : Try.prog.cellsOf 53 = 3 := by kernel_rfl
  have e9 : Try.prog.cellsOf 28 = 8 := by kernel_rfl
  have e0 : Try.prog.cellsOf 88 = 2 := by kernel_rfl
  rw [e0] at hlen
  have hl3 : xs.length = 2 := hl
  have ex : ∀ i, i < 2 → ∃ y, xs[i]? = some y := fun i hi => ⟨_, List.getElem?_eq_getElem (by omega)⟩
  match cs, hlen with
  | [c0, c1], _ =>
    obtain ⟨y0, hy0⟩ := ex 0 (by omega)
    have h0 : DataW.trod enc Try.prog W base spare held n 3 [c0] = some y0 := by
      have := hx 0 _ rfl
      rw [hy0] at this
      simpa [e3] using this
    obtain ⟨y1, hy1⟩ := ex 1 (by omega)
    have h1 : DataW.trod enc Try.prog W base spare held n 61 [c1] = some y1 := by
      have := hx 1 _ rfl
      rw [hy1] at this
      simpa [e7] using this
    obtain ⟨ad, rfl, _⟩ := cell_int h0
    obtain ⟨P, c, l, hc, hm, hr⟩ := open_U h1
    simp only [List.cons.injEq, and_true] at hc
    subst hc
    exact ⟨⟨ad, P, c, l⟩, rfl, hr, hm⟩

theorem open_T {H : Type} {enc : TypeId × Value → H} {W : World} {base fuel : Nat} {spare : Nat → Bool} {held : Bool} {cs : List Value} {x : DataW H × List MemPlace} (h : DataW.trod enc Try.prog W base spare held fuel 23 cs = some x) : ∃ (P : Option Addr) (cap : Nat) (L : List QT), cs = [.slice P L.length cap] ∧ L.length ≤ 9223372036854775807 ∧ LiesG fT W P L := by
  obtain ⟨P, c, L, h1, h2, h3, _⟩ := open_rowG fT (fun _ => True) Try.underlying23 (by kernel_rfl) (fun n cs x h => open_T1 h) h
  exact ⟨P, c, L, h1, h2, h3⟩
theorem open_E {H : Type} {enc : TypeId × Value → H} {W : World} {base fuel : Nat} {spare : Nat → Bool} {held : Bool} {cs : List Value} {x : DataW H × List MemPlace} (h : DataW.trod enc Try.prog W base spare held fuel 24 cs = some x) : ∃ (P : Option Addr) (cap : Nat) (L : List QE), cs = [.slice P L.length cap] ∧ L.length ≤ 9223372036854775807 ∧ LiesG fE W P L ∧ ∀ a ∈ L, LiesG fI W a.P a.l ∧ a.l.length ≤ 9223372036854775807 :=
  open_rowG fE (fun a => LiesG fI W a.P a.l ∧ a.l.length ≤ 9223372036854775807) Try.underlying24 (by kernel_rfl) (fun n cs x h => open_E1 h) h
theorem open_N {H : Type} {enc : TypeId × Value → H} {W : World} {base fuel : Nat} {spare : Nat → Bool} {held : Bool} {cs : List Value} {x : DataW H × List MemPlace} (h : DataW.trod enc Try.prog W base spare held fuel 25 cs = some x) : ∃ (P : Option Addr) (cap : Nat) (L : List QN), cs = [.slice P L.length cap] ∧ L.length ≤ 9223372036854775807 ∧ LiesG fN W P L ∧ ∀ a ∈ L, LiesG fI W a.P a.l ∧ a.l.length ≤ 9223372036854775807 :=
  open_rowG fN (fun a => LiesG fI W a.P a.l ∧ a.l.length ≤ 9223372036854775807) Try.underlying25 (by kernel_rfl) (fun n cs x h => open_N1 h) h
theorem open_F {H : Type} {enc : TypeId × Value → H} {W : World} {base fuel : Nat} {spare : Nat → Bool} {held : Bool} {cs : List Value} {x : DataW H × List MemPlace} (h : DataW.trod enc Try.prog W base spare held fuel 26 cs = some x) : ∃ (P : Option Addr) (cap : Nat) (L : List QF), cs = [.slice P L.length cap] ∧ L.length ≤ 9223372036854775807 ∧ LiesG fF W P L ∧ ∀ a ∈ L, LiesG fU W a.P a.l ∧ a.l.length ≤ 9223372036854775807 :=
  open_rowG fF (fun a => LiesG fU W a.P a.l ∧ a.l.length ≤ 9223372036854775807) Try.underlying26 (by kernel_rfl) (fun n cs x h => open_F1 h) h

theorem open_S {H : Type} {enc : TypeId × Value → H} {W : World} {base fuel : Nat} {spare : Nat → Bool} {held : Bool} {cs : List Value} {x : DataW H × List MemPlace} (h : DataW.trod enc Try.prog W base spare held fuel 22 cs = some x) : ∃ (P : Option Addr) (cap : Nat) (L : List Sl), cs = [.slice P L.length cap] ∧ L.length ≤ 9223372036854775807 ∧ Lies W P L ∧ ∀ s ∈ L, s.Fit := by
  have hs : ∃ P len cap, cs = [.slice P len cap] := by
    rcases Deep.open_slice Try.underlying22 h with ⟨hcs, _⟩ | ⟨a, len, cap, m, n, D, Pl, hcs, _⟩
    · exact ⟨none, 0, 0, hcs⟩
    · exact ⟨some a, len, cap, hcs⟩
  obtain ⟨P, len, cap, rfl⟩ := hs
  obtain ⟨d, p⟩ := x
  obtain ⟨L, h1, h2, h3, h4⟩ := open_slots (d := d) (p := p) ⟨fuel, h⟩
  subst h1
  exact ⟨P, cap, L, rfl, h2, h3, h4⟩

theorem open_R8 {H : Type} {enc : TypeId × Value → H} {W : World} {base fuel : Nat} {spare : Nat → Bool} {held : Bool} {c0 c1 c2 c3 c4 c5 c6 c7 : Value} {x : DataW H × List MemPlace} (h : DataW.trod enc Try.prog W base spare held fuel 28 [c0, c1, c2, c3, c4, c5, c6, c7] = some x) :
    ∃ r0 r1 r2 r3 r4 r5 r6 r7 : QR, c0 = .slice r0.P r0.l.length r0.c ∧ c1 = .slice r1.P r1.l.length r1.c ∧ c2 = .slice r2.P r2.l.length r2.c ∧ c3 = .slice r3.P r3.l.length r3.c ∧ c4 = .slice r4.P r4.l.length r4.c ∧ c5 = .slice r5.P r5.l.length r5.c ∧ c6 = .slice r6.P r6.l.length r6.c ∧ c7 = .slice r7.P r7.l.length r7.c ∧ (LiesG fI W r0.P r0.l ∧ r0.l.length ≤ 9223372036854775807) ∧ (LiesG fI W r1.P r1.l ∧ r1.l.length ≤ 9223372036854775807) ∧ (LiesG fI W r2.P r2.l ∧ r2.l.length ≤ 9223372036854775807) ∧ (LiesG fI W r3.P r3.l ∧ r3.l.length ≤ 9223372036854775807) ∧ (LiesG fI W r4.P r4.l ∧ r4.l.length ≤ 9223372036854775807) ∧ (LiesG fI W r5.P r5.l ∧ r5.l.length ≤ 9223372036854775807) ∧ (LiesG fI W r6.P r6.l ∧ r6.l.length ≤ 9223372036854775807) ∧ (LiesG fI W r7.P r7.l ∧ r7.l.length ≤ 9223372036854775807) := by
  obtain ⟨xs, m, _, _, _, hl, hx⟩ := DataW.trod_array Try.underlying28 h
  have e6 : Try.prog.cellsOf 27 = 1 := by kernel_rfl
  have ex : ∀ i, i < 8 → ∃ y, xs[i]? = some y := fun i hi => ⟨_, List.getElem?_eq_getElem (by omega)⟩
  obtain ⟨y0, hy0⟩ := ex 0 (by omega)
  have h0 : DataW.trod enc Try.prog W base spare held m 27 [c0] = some y0 := by
    have := hx 0 (by omega)
    rw [hy0] at this
    simpa [e6] using this
  obtain ⟨P0, k0, l0, q0, m0, r0⟩ := open_I h0
  simp only [List.cons.injEq, and_true] at q0
  obtain ⟨y1, hy1⟩ := ex 1 (by omega)
  have h1 : DataW.trod enc Try.prog W base spare held m 27 [c1] = some y1 := by
    have := hx 1 (by omega)
    rw [hy1] at this
    simpa [e6] using this
  obtain ⟨P1, k1, l1, q1, m1, r1⟩ := open_I h1
  simp only [List.cons.injEq, and_true] at q1
  obtain ⟨y2, hy2⟩ := ex 2 (by omega)
  have h2 : DataW.trod enc Try.prog W base spare held m 27 [c2] = some y2 := by
    have := hx 2 (by omega)
    rw [hy2] at this
    simpa [e6] using this
  obtain ⟨P2, k2, l2, q2, m2, r2⟩ := open_I h2
  simp only [List.cons.injEq, and_true] at q2
  obtain ⟨y3, hy3⟩ := ex 3 (by omega)
  have h3 : DataW.trod enc Try.prog W base spare held m 27 [c3] = some y3 := by
    have := hx 3 (by omega)
    rw [hy3] at this
    simpa [e6] using this
  obtain ⟨P3, k3, l3, q3, m3, r3⟩ := open_I h3
  simp only [List.cons.injEq, and_true] at q3
  obtain ⟨y4, hy4⟩ := ex 4 (by omega)
  have h4 : DataW.trod enc Try.prog W base spare held m 27 [c4] = some y4 := by
    have := hx 4 (by omega)
    rw [hy4] at this
    simpa [e6] using this
  obtain ⟨P4, k4, l4, q4, m4, r4⟩ := open_I h4
  simp only [List.cons.injEq, and_true] at q4
  obtain ⟨y5, hy5⟩ := ex 5 (by omega)
  have h5 : DataW.trod enc Try.prog W base spare held m 27 [c5] = some y5 := by
    have := hx 5 (by omega)
    rw [hy5] at this
    simpa [e6] using this
  obtain ⟨P5, k5, l5, q5, m5, r5⟩ := open_I h5
  simp only [List.cons.injEq, and_true] at q5
  obtain ⟨y6, hy6⟩ := ex 6 (by omega)
  have h6 : DataW.trod enc Try.prog W base spare held m 27 [c6] = some y6 := by
    have := hx 6 (by omega)
    rw [hy6] at this
    simpa [e6] using this
  obtain ⟨P6, k6, l6, q6, m6, r6⟩ := open_I h6
  simp only [List.cons.injEq, and_true] at q6
  obtain ⟨y7, hy7⟩ := ex 7 (by omega)
  have h7 : DataW.trod enc Try.prog W base spare held m 27 [c7] = some y7 := by
    have := hx 7 (by omega)
    rw [hy7] at this
    simpa [e6] using this
  obtain ⟨P7, k7, l7, q7, m7, r7⟩ := open_I h7
  simp only [List.cons.injEq, and_true] at q7
  exact ⟨⟨P0, k0, l0⟩, ⟨P1, k1, l1⟩, ⟨P2, k2, l2⟩, ⟨P3, k3, l3⟩, ⟨P4, k4, l4⟩, ⟨P5, k5, l5⟩, ⟨P6, k6, l6⟩, ⟨P7, k7, l7⟩, q0, q1, q2, q3, q4, q5, q6, q7, ⟨r0, m0⟩, ⟨r1, m1⟩, ⟨r2, m2⟩, ⟨r3, m3⟩, ⟨r4, m4⟩, ⟨r5, m5⟩, ⟨r6, m6⟩, ⟨r7, m7⟩⟩

set_option maxRecDepth 100000 in
theorem open_K1 {H : Type} {enc : TypeId × Value → H} {W : World} {base fuel : Nat} {spare : Nat → Bool} {held : Bool} {cs : List Value} {x : DataW H × List MemPlace} (h : DataW.trod enc Try.prog W base spare held fuel 30 cs = some x) : ∃ K : QK, cs = [.int .i64 K.bits, .int .i64 K.ticks, .slice K.sP K.sl.length K.sc, .slice K.tP K.tl.length K.tc, .slice K.eP K.el.length K.ec, .slice K.nP K.nl.length K.nc, .slice K.fP K.fl.length K.fc, .slice K.r0.P K.r0.l.length K.r0.c, .slice K.r1.P K.r1.l.length K.r1.c, .slice K.r2.P K.r2.l.length K.r2.c, .slice K.r3.P K.r3.l.length K.r3.c, .slice K.r4.P K.r4.l.length K.r4.c, .slice K.r5.P K.r5.l.length K.r5.c, .slice K.r6.P K.r6.l.length K.r6.c, .slice K.r7.P K.r7.l.length K.r7.c] ∧ KernIn W K ∧ K.Long := by
  obtain ⟨xs, n, _, _, hlen, hl, hx⟩ := DataW.trod_struct Try.underlying30 h
  have e3 : Try.prog.cellsOf 3 = 1 := by kernel_rfl
  have e4 : Try.prog.cellsOf 4 = 1 := by kernel_rfl
  have e5 : Try.prog.cellsOf 52 = 1 := by kernel_rfl
  have e6 : Try.prog.cellsOf 27 = 1 := by kernel_rfl
  have e7 : Try.prog.cellsOf 61 = 1 := by kernel_rfl
  have e8 : Try.prog.cellsOf 53 = 3 := by kernel_rfl
  have e9 : Try.prog.cellsOf 28 = 8 := by kernel_rfl
  have e0 : Try.prog.cellsOf 30 = 15 := by kernel_rfl
  rw [e0] at hlen
  have hl3 : xs.length = 8 := hl
  have ex : ∀ i, i < 8 → ∃ y, xs[i]? = some y := fun i hi => ⟨_, List.getElem?_eq_getElem (by omega)⟩
  match cs, hlen with
  | [c0, c1, c2, c3, c4, c5, c6, c7, c8, c9, c10, c11, c12, c13, c14], _ =>
    obtain ⟨y0, hy0⟩ := ex 0 (by omega)
    have h0 : DataW.trod enc Try.prog W base spare held n 3 [c0] = some y0 := by
      have := hx 0 _ rfl
      rw [hy0] at this
      simpa [e3] using this
    obtain ⟨y1, hy1⟩ := ex 1 (by omega)
    have h1 : DataW.trod enc Try.prog W base spare held n 3 [c1] = some y1 := by
      have := hx 1 _ rfl
      rw [hy1] at this
      simpa [e3] using this
    obtain ⟨y2, hy2⟩ := ex 2 (by omega)
    have h2 : DataW.trod enc Try.prog W base spare held n 22 [c2] = some y2 := by
      have := hx 2 _ rfl
      rw [hy2] at this
      have ez : Try.prog.cellsOf 22 = 1 := by kernel_rfl
      simpa [ez] using this
    obtain ⟨y3, hy3⟩ := ex 3 (by omega)
    have h3 : DataW.trod enc Try.prog W base spare held n 23 [c3] = some y3 := by
      have := hx 3 _ rfl
      rw [hy3] at this
      have ez : Try.prog.cellsOf 23 = 1 := by kernel_rfl
      simpa [ez] using this
    obtain ⟨y4, hy4⟩ := ex 4 (by omega)
    have h4 : DataW.trod enc Try.prog W base spare held n 24 [c4] = some y4 := by
      have := hx 4 _ rfl
      rw [hy4] at this
      have ez : Try.prog.cellsOf 24 = 1 := by kernel_rfl
      simpa [ez] using this
    obtain ⟨y5, hy5⟩ := ex 5 (by omega)
    have h5 : DataW.trod enc Try.prog W base spare held n 25 [c5] = some y5 := by
      have := hx 5 _ rfl
      rw [hy5] at this
      have ez : Try.prog.cellsOf 25 = 1 := by kernel_rfl
      simpa [ez] using this
    obtain ⟨y6, hy6⟩ := ex 6 (by omega)
    have h6 : DataW.trod enc Try.prog W base spare held n 26 [c6] = some y6 := by
      have := hx 6 _ rfl
      rw [hy6] at this
      have ez : Try.prog.cellsOf 26 = 1 := by kernel_rfl
      simpa [ez] using this
    obtain ⟨y7, hy7⟩ := ex 7 (by omega)
    have h7 : DataW.trod enc Try.prog W base spare held n 28 [c7, c8, c9, c10, c11, c12, c13, c14] = some y7 := by
      have := hx 7 _ rfl
      rw [hy7] at this
      simpa [e9] using this
    obtain ⟨bits, rfl, _⟩ := cell_int h0
    obtain ⟨ticks, rfl, _⟩ := cell_int h1
    obtain ⟨sP, sc, sl, hc2, sm, sL, sf⟩ := open_S h2
    obtain ⟨tP, tc, tl, hc3, tm, tL⟩ := open_T h3
    obtain ⟨eP, ec, el, hc4, em, eL, eI⟩ := open_E h4
    obtain ⟨nP, nc, nl, hc5, nm, nL, nI⟩ := open_N h5
    obtain ⟨fP, fc, fl, hc6, fm, fL, fI⟩ := open_F h6
    obtain ⟨r0, r1, r2, r3, r4, r5, r6, r7, rfl, rfl, rfl, rfl, rfl, rfl, rfl, rfl, ⟨i0, j0⟩, ⟨i1, j1⟩, ⟨i2, j2⟩, ⟨i3, j3⟩, ⟨i4, j4⟩, ⟨i5, j5⟩, ⟨i6, j6⟩, ⟨i7, j7⟩⟩ := open_R8 h7
    simp only [List.cons.injEq, and_true] at hc2 hc3 hc4 hc5 hc6
    subst hc2 hc3 hc4 hc5 hc6
    refine ⟨⟨bits, ticks, sP, sc, sl, tP, tc, tl, eP, ec, el, nP, nc, nl, fP, fc, fl, r0, r1, r2, r3, r4, r5, r6, r7⟩, rfl, ⟨sL, tL, eL, fun e he => (eI e he).1, nL, fun e he => (nI e he).1, fL, fun e he => (fI e he).1, ?_⟩, ⟨sm, tm, em, fun e he => (eI e he).2, nm, fun e he => (nI e he).2, fm, fun e he => (fI e he).2, ?_⟩⟩
    · intro e he
      simp only [List.mem_cons, List.not_mem_nil, or_false] at he
      rcases he with rfl | rfl | rfl | rfl | rfl | rfl | rfl | rfl <;> assumption
    · intro e he
      simp only [List.mem_cons, List.not_mem_nil, or_false] at he
      rcases he with rfl | rfl | rfl | rfl | rfl | rfl | rfl | rfl <;> assumption

set_option maxRecDepth 100000 in
theorem open_kern {H : Type} {enc : TypeId × Value → H} {W : World} {base b0 : Nat} {spare : Nat → Bool} {held : Bool} {rc : Reach} {v : Value} {d : DataW H} {p : List MemPlace}
    (hv : Value.okWide Try.prog W rc b0 30 v) (h : DataW.Trod enc Try.prog W base spare held 30 v d p) :
    ∃ K : QK, v = .agg #[.int .i64 K.bits, .int .i64 K.ticks, .slice K.sP K.sl.length K.sc, .slice K.tP K.tl.length K.tc, .slice K.eP K.el.length K.ec, .slice K.nP K.nl.length K.nc, .slice K.fP K.fl.length K.fc, .slice K.r0.P K.r0.l.length K.r0.c, .slice K.r1.P K.r1.l.length K.r1.c, .slice K.r2.P K.r2.l.length K.r2.c, .slice K.r3.P K.r3.l.length K.r3.c, .slice K.r4.P K.r4.l.length K.r4.c, .slice K.r5.P K.r5.l.length K.r5.c, .slice K.r6.P K.r6.l.length K.r6.c, .slice K.r7.P K.r7.l.length K.r7.c] ∧ KernIn W K ∧ K.Long := by
  obtain ⟨cs, rfl, hsz⟩ := okWide_struct Try.underlying30 hv
  obtain ⟨fuel, hf⟩ := h
  obtain ⟨K, hs, h1, h2⟩ := open_K1 hf
  refine ⟨K, ?_, h1, h2⟩
  have e : cs.toList = [.int .i64 K.bits, .int .i64 K.ticks, .slice K.sP K.sl.length K.sc, .slice K.tP K.tl.length K.tc, .slice K.eP K.el.length K.ec, .slice K.nP K.nl.length K.nc, .slice K.fP K.fl.length K.fc, .slice K.r0.P K.r0.l.length K.r0.c, .slice K.r1.P K.r1.l.length K.r1.c, .slice K.r2.P K.r2.l.length K.r2.c, .slice K.r3.P K.r3.l.length K.r3.c, .slice K.r4.P K.r4.l.length K.r4.c, .slice K.r5.P K.r5.l.length K.r5.c, .slice K.r6.P K.r6.l.length K.r6.c, .slice K.r7.P K.r7.l.length K.r7.c] := by simpa [Value.cells] using hs
  have e2 : cs = #[.int .i64 K.bits, .int .i64 K.ticks, .slice K.sP K.sl.length K.sc, .slice K.tP K.tl.length K.tc, .slice K.eP K.el.length K.ec, .slice K.nP K.nl.length K.nc, .slice K.fP K.fl.length K.fc, .slice K.r0.P K.r0.l.length K.r0.c, .slice K.r1.P K.r1.l.length K.r1.c, .slice K.r2.P K.r2.l.length K.r2.c, .slice K.r3.P K.r3.l.length K.r3.c, .slice K.r4.P K.r4.l.length K.r4.c, .slice K.r5.P K.r5.l.length K.r5.c, .slice K.r6.P K.r6.l.length K.r6.c, .slice K.r7.P K.r7.l.length K.r7.c] := by apply Array.ext'; rw [e]
  rw [e2]

end Go.Proofs.Ytoahhhmagcnjbab
