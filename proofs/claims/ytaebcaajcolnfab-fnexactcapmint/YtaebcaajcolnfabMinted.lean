/-
  What CapMint answers, in two cases: it is given, or not.
-/
import Derived.Test.YtaebcaajcolnfabMint
namespace Go.Proofs.Ytaebcaajcolnfab
open Go.ChangeShapes Go.WideShapes Go.ChangeAt Go.RowKit
set_option linter.unusedVariables false

/-- A mint is given. -/
def mintB (k a b r d g q f : Int) (o : Bool) (m x : Int) : Bool :=
  copyB k a b r d g q f o && (((k == 4) || (k == 5)) && (!(d != 0) && !(decide (65535 < x))) || (k == 2) && okB 2 a b (bothI r (m % 8)) d (x % 65536) (x / 65536) f false)
def mintD (k d x : Int) : Int := if k = 2 then d else x
def mintG (k g x : Int) : Int := if k = 2 then x % 65536 else g
def mintQ (k q x : Int) : Int := if k = 2 then x / 65536 else q

theorem copy_kind {k a b r d g q f : Int} {o : Bool} (h : copyB k a b r d g q f o = true) : (k = 2 ∨ k = 3 ∨ k = 4 ∨ k = 5 ∨ k = 6) ∧ 0 ≤ d := by
  have h' : (okB k a b r d g q f o = true ∧ (k == 1) = false) ∧ (k == 7) = false := by simpa [copyB] using h
  obtain ⟨⟨k0, k1⟩, _, _, _, ⟨d0, _⟩, _⟩ := ok_bounds h'.1.1
  have e1 : ¬ k = 1 := by simpa using h'.1.2
  have e7 : ¬ k = 7 := by simpa using h'.2
  exact ⟨by omega, d0⟩

theorem mintImpl_not (k a b r d g q f m x : Int) (o : Bool) (w : World) (h0 : -9223372036854775808 ≤ r) (h1 : r ≤ 9223372036854775807) (hm0 : 0 ≤ m) (hm1 : m ≤ 4294967295) (hx0 : 0 ≤ x) (hx1 : x ≤ 4294967295) (h : mintB k a b r d g q f o m x = false) :
    Calls Try.prog 14 #[.agg #[.int .i64 k, .int .i64 a, .int .i64 b, .int .i64 r, .int .i64 d, .int .i64 g, .int .i64 q, .int .i64 f, .bool o], .int .u32 m, .int .u32 x] w fun e w' => e = .returned (.tuple #[.agg #[.int .i64 0, .int .i64 0, .int .i64 0, .int .i64 0, .int .i64 0, .int .i64 0, .int .i64 0, .int .i64 0, .bool false], .bool false]) ∧ Below w.heap.size w w' := by
  cases hc : copyB k a b r d g q f o
  · exact mintImpl_no k a b r d g q f m x o w h0 h1 hc
  · obtain ⟨hk, hd0⟩ := copy_kind hc
    rcases hk with e | e | e | e | e <;> subst e
    · have : okB 2 a b (bothI r (m % 8)) d (x % 65536) (x / 65536) f false = false := by simpa [mintB, hc] using h
      exact mintImpl_2n a b r d g q f m x o w hm0 hm1 hx0 hx1 hc this
    · exact mintImpl_3 a b r d g q f m x o w hm0 hm1 hx0 hx1 hc
    · cases hd : (d != 0)
      · have hd' : d = 0 := by simpa using hd
        have hx : 65535 < x := by simpa [mintB, hc, hd] using h
        exact mintImpl_4b a b r d g q f m x o w hm0 hm1 hx0 hx1 hc hd (by omega) hx
      · have hd' : ¬ d = 0 := by simpa using hd
        exact mintImpl_4a a b r d g q f m x o w hm0 hm1 hx0 hx1 hc hd (by omega)
    · cases hd : (d != 0)
      · have hd' : d = 0 := by simpa using hd
        have hx : 65535 < x := by simpa [mintB, hc, hd] using h
        exact mintImpl_5b a b r d g q f m x o w hm0 hm1 hx0 hx1 hc hd (by omega) hx
      · have hd' : ¬ d = 0 := by simpa using hd
        exact mintImpl_5a a b r d g q f m x o w hm0 hm1 hx0 hx1 hc hd (by omega)
    · exact mintImpl_6 a b r d g q f m x o w hm0 hm1 hx0 hx1 hc

theorem mintImpl_given (k a b r d g q f m x : Int) (o : Bool) (w : World) (hm0 : 0 ≤ m) (hm1 : m ≤ 4294967295) (hx0 : 0 ≤ x) (hx1 : x ≤ 4294967295) (h : mintB k a b r d g q f o m x = true) :
    Calls Try.prog 14 #[.agg #[.int .i64 k, .int .i64 a, .int .i64 b, .int .i64 r, .int .i64 d, .int .i64 g, .int .i64 q, .int .i64 f, .bool o], .int .u32 m, .int .u32 x] w fun e w' => e = .returned (.tuple #[.agg #[.int .i64 k, .int .i64 a, .int .i64 b, .int .i64 (bothI r (m % 8)), .int .i64 (mintD k d x), .int .i64 (mintG k g x), .int .i64 (mintQ k q x), .int .i64 f, .bool false], .bool true]) ∧ Below w.heap.size w w' := by
  cases hc : copyB k a b r d g q f o
  · simp [mintB, hc] at h
  · obtain ⟨hk, hd0⟩ := copy_kind hc
    rcases hk with e | e | e | e | e <;> subst e
    · have : okB 2 a b (bothI r (m % 8)) d (x % 65536) (x / 65536) f false = true := by simpa [mintB, hc] using h
      exact mintImpl_2y a b r d g q f m x o w hm0 hm1 hx0 hx1 hc this
    · simp [mintB, hc] at h
    · have h' : d = 0 ∧ x ≤ 65535 := by simpa [mintB, hc] using h
      exact mintImpl_4c a b r d g q f m x o w hm0 hm1 hx0 hx1 hc (by simp [h'.1]) (by omega) (by omega)
    · have h' : d = 0 ∧ x ≤ 65535 := by simpa [mintB, hc] using h
      exact mintImpl_5c a b r d g q f m x o w hm0 hm1 hx0 hx1 hc (by simp [h'.1]) (by omega) (by omega)
    · simp [mintB, hc] at h

theorem mintSpec_not (k a b r d g q f m x : Int) (o : Bool) (w : World) (h0 : -9223372036854775808 ≤ r) (h1 : r ≤ 9223372036854775807) (hm0 : 0 ≤ m) (hm1 : m ≤ 4294967295) (hx0 : 0 ≤ x) (hx1 : x ≤ 4294967295) (h : mintB k a b r d g q f o m x = false) :
    Calls Try.prog 13 #[.agg #[.int .i64 k, .int .i64 a, .int .i64 b, .int .i64 r, .int .i64 d, .int .i64 g, .int .i64 q, .int .i64 f, .bool o], .int .u32 m, .int .u32 x] w fun e w' => e = .returned (.tuple #[.agg #[.int .i64 0, .int .i64 0, .int .i64 0, .int .i64 0, .int .i64 0, .int .i64 0, .int .i64 0, .int .i64 0, .bool false], .bool false]) ∧ Below w.heap.size w w' := by
  cases hc : copyB k a b r d g q f o
  · exact mintSpec_no k a b r d g q f m x o w h0 h1 hc
  · obtain ⟨hk, hd0⟩ := copy_kind hc
    rcases hk with e | e | e | e | e <;> subst e
    · have : okB 2 a b (bothI r (m % 8)) d (x % 65536) (x / 65536) f false = false := by simpa [mintB, hc] using h
      exact mintSpec_2n a b r d g q f m x o w hm0 hm1 hx0 hx1 hc this
    · exact mintSpec_3 a b r d g q f m x o w hm0 hm1 hx0 hx1 hc
    · cases hd : (d != 0)
      · have hd' : d = 0 := by simpa using hd
        have hx : 65535 < x := by simpa [mintB, hc, hd] using h
        exact mintSpec_4b a b r d g q f m x o w hm0 hm1 hx0 hx1 hc hd (by omega) hx
      · have hd' : ¬ d = 0 := by simpa using hd
        exact mintSpec_4a a b r d g q f m x o w hm0 hm1 hx0 hx1 hc hd (by omega)
    · cases hd : (d != 0)
      · have hd' : d = 0 := by simpa using hd
        have hx : 65535 < x := by simpa [mintB, hc, hd] using h
        exact mintSpec_5b a b r d g q f m x o w hm0 hm1 hx0 hx1 hc hd (by omega) hx
      · have hd' : ¬ d = 0 := by simpa using hd
        exact mintSpec_5a a b r d g q f m x o w hm0 hm1 hx0 hx1 hc hd (by omega)
    · exact mintSpec_6 a b r d g q f m x o w hm0 hm1 hx0 hx1 hc

theorem mintSpec_given (k a b r d g q f m x : Int) (o : Bool) (w : World) (hm0 : 0 ≤ m) (hm1 : m ≤ 4294967295) (hx0 : 0 ≤ x) (hx1 : x ≤ 4294967295) (h : mintB k a b r d g q f o m x = true) :
    Calls Try.prog 13 #[.agg #[.int .i64 k, .int .i64 a, .int .i64 b, .int .i64 r, .int .i64 d, .int .i64 g, .int .i64 q, .int .i64 f, .bool o], .int .u32 m, .int .u32 x] w fun e w' => e = .returned (.tuple #[.agg #[.int .i64 k, .int .i64 a, .int .i64 b, .int .i64 (bothI r (m % 8)), .int .i64 (mintD k d x), .int .i64 (mintG k g x), .int .i64 (mintQ k q x), .int .i64 f, .bool false], .bool true]) ∧ Below w.heap.size w w' := by
  cases hc : copyB k a b r d g q f o
  · simp [mintB, hc] at h
  · obtain ⟨hk, hd0⟩ := copy_kind hc
    rcases hk with e | e | e | e | e <;> subst e
    · have : okB 2 a b (bothI r (m % 8)) d (x % 65536) (x / 65536) f false = true := by simpa [mintB, hc] using h
      exact mintSpec_2y a b r d g q f m x o w hm0 hm1 hx0 hx1 hc this
    · simp [mintB, hc] at h
    · have h' : d = 0 ∧ x ≤ 65535 := by simpa [mintB, hc] using h
      exact mintSpec_4c a b r d g q f m x o w hm0 hm1 hx0 hx1 hc (by simp [h'.1]) (by omega) (by omega)
    · have h' : d = 0 ∧ x ≤ 65535 := by simpa [mintB, hc] using h
      exact mintSpec_5c a b r d g q f m x o w hm0 hm1 hx0 hx1 hc (by simp [h'.1]) (by omega) (by omega)
    · simp [mintB, hc] at h

end Go.Proofs.Ytaebcaajcolnfab
