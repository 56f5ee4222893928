/-
  States that say the same: both short, both compared alike.
-/
import Derived.Test.YtoahhhmagcnjbabKernEq
namespace Go.Proofs.Ytoahhhmagcnjbab
open Go.ChangeShapes Go.WideShapes Go.ChangeAt Go.RowKit
set_option linter.unusedVariables false

theorem short_of {K K' : QK} (h : K'.pl = K.pl) (s : K.Short) : K'.Short := by
  have p3 : K'.sl = K.sl := congrArg (fun p => p.2.1) h
  have p4 : K'.tl = K.tl := congrArg (fun p => p.2.2.1) h
  have p5 : K'.el.map QE.pl = K.el.map QE.pl := congrArg (fun p => p.2.2.2.1) h
  have p6 : K'.nl.map QN.pl = K.nl.map QN.pl := congrArg (fun p => p.2.2.2.2.1) h
  have p7 : K'.fl.map QF.pl = K.fl.map QF.pl := congrArg (fun p => p.2.2.2.2.2.1) h
  have p8 : [K'.r0, K'.r1, K'.r2, K'.r3, K'.r4, K'.r5, K'.r6, K'.r7].map QR.l = [K.r0, K.r1, K.r2, K.r3, K.r4, K.r5, K.r6, K.r7].map QR.l := congrArg (fun p => p.2.2.2.2.2.2) h
  have l5 : K'.el.length = K.el.length := by have := congrArg List.length p5; simpa using this
  have l6 : K'.nl.length = K.nl.length := by have := congrArg List.length p6; simpa using this
  have l7 : K'.fl.length = K.fl.length := by have := congrArg List.length p7; simpa using this
  refine ⟨by rw [p3]; exact s.s, by rw [p4]; exact s.t, by rw [l5]; exact s.e, fun x hx => ?_, by rw [l6]; exact s.n, fun x hx => ?_, by rw [l7]; exact s.f, fun x hx => ?_, fun x hx => ?_⟩
  · have h1 : x.pl ∈ K.el.map QE.pl := by rw [← p5]; exact List.mem_map_of_mem hx
    obtain ⟨y, hy, e⟩ := List.mem_map.1 h1
    have e2 : y.l = x.l := congrArg (fun p => p.2.2) e
    rw [← e2]; exact s.ei y hy
  · have h1 : x.pl ∈ K.nl.map QN.pl := by rw [← p6]; exact List.mem_map_of_mem hx
    obtain ⟨y, hy, e⟩ := List.mem_map.1 h1
    have e2 : y.l = x.l := congrArg (fun p => p.2.2.2) e
    rw [← e2]; exact s.ni y hy
  · have h1 : x.pl ∈ K.fl.map QF.pl := by rw [← p7]; exact List.mem_map_of_mem hx
    obtain ⟨y, hy, e⟩ := List.mem_map.1 h1
    have e2 : y.l = x.l := congrArg (fun p => p.2) e
    rw [← e2]; exact s.fi y hy
  · have h1 : x.l ∈ [K.r0, K.r1, K.r2, K.r3, K.r4, K.r5, K.r6, K.r7].map QR.l := by rw [← p8]; exact List.mem_map_of_mem hx
    obtain ⟨y, hy, e⟩ := List.mem_map.1 h1
    rw [← e]; exact s.r y hy

theorem dec_of {A D A1 D1 : QK} (h1 : A1.pl = A.pl) (h2 : D1.pl = D.pl) : decide (A1.pl = D1.pl) = decide (A.pl = D.pl) := by rw [h1, h2]

end Go.Proofs.Ytoahhhmagcnjbab
