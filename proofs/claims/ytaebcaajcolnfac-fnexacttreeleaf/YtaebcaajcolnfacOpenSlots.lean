/-
  A list of slots that came in, opened.
-/
import Derived.Test.YtaebcaajcolnfacLawSlots
import Derived.Deep.Slices
namespace Go.Proofs.Ytaebcaajcolnfac
open Go.ChangeShapes Go.WideShapes Go.ChangeAt Go.RowKit
set_option linter.unusedVariables false

theorem fit_of {a : Int} (h : (Lit.int .i64 a).wf = true) : -9223372036854775808 ≤ a ∧ a ≤ 9223372036854775807 := bounds_i64 h

set_option maxRecDepth 100000 in
theorem open_slot {H : Type} {enc : TypeId × Value → H} {W : World} {base fuel : Nat} {spare : Nat → Bool} {held : Bool} {cs : List Value} {x : DataW H × List MemPlace}
    (h : DataW.trod enc Try.prog W base spare held fuel 41 cs = some x) : ∃ s : Sl, cs = cellsOf s ∧ s.Fit := by
  obtain ⟨xs, n, _, _, hlen, hl, hx⟩ := DataW.trod_struct Try.underlying41 h
  have e72 : Try.prog.cellsOf 41 = 11 := by kernel_rfl
  have e70 : Try.prog.cellsOf 39 = 9 := by kernel_rfl
  have e3 : Try.prog.cellsOf 3 = 1 := by kernel_rfl
  have e4 : Try.prog.cellsOf 4 = 1 := by kernel_rfl
  rw [e72] at hlen
  have hl3 : xs.length = 3 := hl
  match cs, hlen with
  | [c0, c1, c2, c3, c4, c5, c6, c7, c8, c9, c10], _ =>
    have ex : ∀ i, i < 3 → ∃ y, xs[i]? = some y := fun i hi => ⟨_, List.getElem?_eq_getElem (by omega)⟩
    obtain ⟨y0, hy0⟩ := ex 0 (by omega)
    obtain ⟨y1, hy1⟩ := ex 1 (by omega)
    obtain ⟨y2, hy2⟩ := ex 2 (by omega)
    have h0 : DataW.trod enc Try.prog W base spare held n 3 [c0] = some y0 := by
      have := hx 0 _ rfl
      rw [hy0] at this
      simpa [e3] using this
    have h2 : DataW.trod enc Try.prog W base spare held n 3 [c10] = some y2 := by
      have := hx 2 _ rfl
      rw [hy2] at this
      simpa [e3] using this
    have h1 : DataW.trod enc Try.prog W base spare held n 39 [c1, c2, c3, c4, c5, c6, c7, c8, c9] = some y1 := by
      have := hx 1 _ rfl
      rw [hy1] at this
      simpa [e70] using this
    obtain ⟨t, rfl, wt⟩ := cell_int h0
    obtain ⟨p, rfl, wp⟩ := cell_int h2
    obtain ⟨zs, m, _, _, _, hz, hv⟩ := DataW.trod_struct Try.underlying39 h1
    have hz9 : zs.length = 9 := hz
    have ez : ∀ i, i < 9 → ∃ y, zs[i]? = some y := fun i hi => ⟨_, List.getElem?_eq_getElem (by omega)⟩
    obtain ⟨w0, hw0⟩ := ez 0 (by omega)
    obtain ⟨w1, hw1⟩ := ez 1 (by omega)
    obtain ⟨w2, hw2⟩ := ez 2 (by omega)
    obtain ⟨w3, hw3⟩ := ez 3 (by omega)
    obtain ⟨w4, hw4⟩ := ez 4 (by omega)
    obtain ⟨w5, hw5⟩ := ez 5 (by omega)
    obtain ⟨w6, hw6⟩ := ez 6 (by omega)
    obtain ⟨w7, hw7⟩ := ez 7 (by omega)
    obtain ⟨w8, hw8⟩ := ez 8 (by omega)
    have g0 : DataW.trod enc Try.prog W base spare held m 3 [c1] = some w0 := by
      have := hv 0 _ rfl
      rw [hw0] at this
      simpa [e3] using this
    have g1 : DataW.trod enc Try.prog W base spare held m 3 [c2] = some w1 := by
      have := hv 1 _ rfl
      rw [hw1] at this
      simpa [e3] using this
    have g2 : DataW.trod enc Try.prog W base spare held m 3 [c3] = some w2 := by
      have := hv 2 _ rfl
      rw [hw2] at this
      simpa [e3] using this
    have g3 : DataW.trod enc Try.prog W base spare held m 3 [c4] = some w3 := by
      have := hv 3 _ rfl
      rw [hw3] at this
      simpa [e3] using this
    have g4 : DataW.trod enc Try.prog W base spare held m 3 [c5] = some w4 := by
      have := hv 4 _ rfl
      rw [hw4] at this
      simpa [e3] using this
    have g5 : DataW.trod enc Try.prog W base spare held m 3 [c6] = some w5 := by
      have := hv 5 _ rfl
      rw [hw5] at this
      simpa [e3] using this
    have g6 : DataW.trod enc Try.prog W base spare held m 3 [c7] = some w6 := by
      have := hv 6 _ rfl
      rw [hw6] at this
      simpa [e3] using this
    have g7 : DataW.trod enc Try.prog W base spare held m 3 [c8] = some w7 := by
      have := hv 7 _ rfl
      rw [hw7] at this
      simpa [e3] using this
    have g8 : DataW.trod enc Try.prog W base spare held m 4 [c9] = some w8 := by
      have := hv 8 _ rfl
      rw [hw8] at this
      simpa [e4] using this
    obtain ⟨k, rfl, wk⟩ := cell_int g0
    obtain ⟨e, rfl, we⟩ := cell_int g1
    obtain ⟨b, rfl, wb⟩ := cell_int g2
    obtain ⟨r, rfl, wr⟩ := cell_int g3
    obtain ⟨d, rfl, wd⟩ := cell_int g4
    obtain ⟨g, rfl, wg⟩ := cell_int g5
    obtain ⟨q, rfl, wq⟩ := cell_int g6
    obtain ⟨f, rfl, wf⟩ := cell_int g7
    obtain ⟨o, rfl⟩ := cell_bool g8
    exact ⟨⟨t, k, e, b, r, d, g, q, f, o, p⟩, rfl, ⟨fit_of wt, fit_of wr, fit_of wp⟩⟩

theorem at11_of {W : World} {B O : Nat} {s : Sl} (h : ∀ j, j < 11 → W.cell? ⟨B, O + j, none⟩ = (cellsOf s)[j]?) : At11 W B O s :=
  ⟨h 0 (by omega), h 1 (by omega), h 2 (by omega), h 3 (by omega), h 4 (by omega), h 5 (by omega), h 6 (by omega), h 7 (by omega), h 8 (by omega), h 9 (by omega), h 10 (by omega)⟩

theorem open_slots {H : Type} {enc : TypeId × Value → H} {W : World} {base : Nat} {spare : Nat → Bool} {held : Bool} {P : Option Addr} {len cap : Nat} {d : DataW H} {p : List MemPlace}
    (h : DataW.Trod enc Try.prog W base spare held 22 (.slice P len cap) d p) : ∃ L : List Sl, L.length = len ∧ len ≤ maxLen ∧ Lies W P L ∧ ∀ s ∈ L, s.Fit := by
  obtain ⟨fuel, hf⟩ := h
  have e72 : Try.prog.cellsOf 41 = 11 := by kernel_rfl
  rcases Deep.open_slice Try.underlying22 hf with ⟨hcs, _⟩ | ⟨a, len', cap', m, n, D, Pl, hcs, hb, hl, hm, hmm, _, hx⟩
  · simp [Value.cells] at hcs
    obtain ⟨rfl, rfl, rfl⟩ := hcs
    exact ⟨[], rfl, Nat.zero_le _, Lies.nil _ _, fun s hs => absurd hs (by simp)⟩
  · simp [Value.cells] at hcs
    obtain ⟨rfl, rfl, rfl⟩ := hcs
    have hlm : len ≤ m := by rw [hmm]; split <;> omega
    rw [e72] at hx
    have each : ∀ i, i < len → ∃ s : Sl, (∀ j, j < 11 → W.cell? (a.add (i * 11 + j)) = (cellsOf s)[j]?) ∧ s.Fit := by
      intro i hi
      obtain ⟨cs', h1, h2⟩ := hx i (by omega)
      obtain ⟨s, rfl, hs⟩ := open_slot h2
      obtain ⟨_, _, hc⟩ := World.cells?_some h1
      exact ⟨s, fun j hj => by have := hc j hj; rwa [Deep.add_add] at this, hs⟩
    obtain ⟨F, hF⟩ := Deep.choose_lt each
    refine ⟨(List.range len).map F, by simp, Nat.le_trans hl hm, ⟨?_, ?_⟩, ?_⟩
    · by_cases h0 : len = 0
      · left; simp [h0]
      · right
        have h1 := (hF 0 (by omega)).1 0 (by omega)
        have hsp : a.spot = none := by
          simp [Addr.add, cellsOf] at h1
          cases e : a.spot with
          | none => rfl
          | some x => simp [World.cell?, e] at h1; split at h1 <;> simp at h1
        exact ⟨a.block, a.off, by cases a; simp at hsp; simp [hsp]⟩
    · intro B O e i hi
      simp at hi
      obtain rfl : a = ⟨B, O, none⟩ := by simpa using e
      rw [List.getElem_map, List.getElem_range]
      apply at11_of
      intro j hj
      have := (hF i hi).1 j hj
      rw [Nat.add_assoc]
      rw [← this]
      unfold Addr.add
      by_cases hz : i * 11 + j = 0
      · rw [if_pos hz, hz, Nat.add_zero]
      · rw [if_neg hz]
    · intro s hs
      simp at hs
      obtain ⟨i, hi, rfl⟩ := hs
      exact (hF i hi).2

set_option maxRecDepth 100000 in
/-- One slot that came in by value. -/
theorem open_slotV {H : Type} {enc : TypeId × Value → H} {W : World} {base b0 : Nat} {spare : Nat → Bool} {held : Bool} {rc : Reach} {v : Value} {d : DataW H} {p : List MemPlace}
    (hv : Value.okWide Try.prog W rc b0 41 v) (h : DataW.Trod enc Try.prog W base spare held 41 v d p) :
    ∃ s : Sl, v = .agg #[.int .i64 s.t, .int .i64 s.k, .int .i64 s.e, .int .i64 s.b, .int .i64 s.r, .int .i64 s.d, .int .i64 s.g, .int .i64 s.q, .int .i64 s.f, .bool s.o, .int .i64 s.p] ∧ s.Fit := by
  obtain ⟨cs, rfl, hsz⟩ := okWide_struct Try.underlying41 hv
  obtain ⟨fuel, hf⟩ := h
  obtain ⟨s, hs, fit⟩ := open_slot hf
  refine ⟨s, ?_, fit⟩
  have e : cs.toList = cellsOf s := by simpa [Value.cells] using hs
  have e2 : cs = (cellsOf s).toArray := by rw [← e]
  rw [e2]; rfl

end Go.Proofs.Ytaebcaajcolnfac
