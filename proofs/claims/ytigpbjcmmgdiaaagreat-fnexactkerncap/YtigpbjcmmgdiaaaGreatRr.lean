/-
  Texts of the proof, put together: KernBoth, KernPl, KernFit.
-/
import Derived.Test.YtigpbjcmmgdiaaaGreatRk
import Derived.Test.YtigpbjcmmgdiaaaGreatRc
import Derived.Test.YtigpbjcmmgdiaaaGreatRf
import Derived.Test.YtigpbjcmmgdiaaaGreatSpec4M
import Derived.Test.YtigpbjcmmgdiaaaGreatRg
import Derived.Test.YtigpbjcmmgdiaaaGreatRu
import Derived.Test.YtigpbjcmmgdiaaaGreatRa
/-
 When a state is ok, told both ways: the specification's and the program's say the same. Plain facts. No conditions.
-/
namespace Go.Proofs.YtigpbjcmmgdiaaaGreat
open Go.ChangeShapes Go.WideShapes Go.ChangeAt Go.RowKit
set_option linter.unusedVariables false

/-- A state is ok, by the specification. -/
structure SpecP (K : QK) : Prop where
 bounds : boundsB K = true
 tree : treeB K.sl = true
 objs : objectsB K = true
 queues : queuesB K = true
 slots : SlotsP K

/-- A state is ok, by the program. -/
structure ProgP (K : QK) : Prop where
 bounds : boundsB K = true
 tree : treeB K.sl = true
 mem : K.sl.all (memI K.bits) = true
 der : ∀ i (h : i < K.sl.length), derP K.sl i h = true
 apart : ApartP K.sl
 objs : ObjsP K
 homes : ∀ i, i < K.sl.length → homeOkB K.sl i = true
 empt : Acyc K.sl.length (Holds (keepN K.sl))
 thr : ∀ t ∈ K.tl, threadB t = true
 que : QueuesP K
 rep : RepliesP K
theorem bounds_bits {K : QK} (h : boundsB K = true) : 9 ≤ K.bits := by
 unfold boundsB withinB at h; simp only [Bool.and_eq_true, decide_eq_true_eq] at h; omega
theorem slotAt_parts {bits : Int} {L : List Sl} (i : Nat) : slotAtB bits L i = (liesB L i && bornB bits L i) := by
 unfold slotAtB liesB
 cases hs : L[i]? with
 | none => rfl
 | some s =>
  show (fitsB L s (slotN s) && bornB bits L i && _) = ((fitsB L s (slotN s) && _) && bornB bits L i)
  cases fitsB L s (slotN s) <;> cases bornB bits L i <;> simp
theorem spec_prog (K : QK) : SpecP K ↔ ProgP K := by
 constructor
 ·intro h
  have hb : ∀ i, i < K.sl.length → liesB K.sl i = true ∧ bornB K.bits K.sl i = true := by
   intro i hi
   have := h.slots.1 i hi
   rw [slotAt_parts, Bool.and_eq_true] at this
   exact this
  have S : Sound K.bits K.sl := (born_all h.tree).1 (fun i hi => (hb i hi).2)
  have O := (objects_iff S).1 h.objs
  have hh : ∀ i, i < K.sl.length → homeOkB K.sl i = true := fun i hi => by rw [← home_lies S hi]; exact (hb i hi).1
  obtain ⟨q1, q2, q3⟩ := queues_to O.1.1 O.2.1.1 O.2.2.1.1 h.queues
  refine ⟨h.bounds, h.tree, ?_, fun i hi => S.der i hi, S.apart, O, hh, (acyc_both (bounds_bits h.bounds) S hh).1 h.slots.2, q1, q2, q3⟩
  rw [List.all_eq_true]
  intro s hs
  obtain ⟨i, hi, rfl⟩ := List.mem_iff_getElem.1 hs
  rw [memI_same]; exact S.mem i hi
 ·intro h
  have S : Sound K.bits K.sl := ⟨h.tree, fun i hi => by rw [← memI_same]; exact List.all_eq_true.1 h.mem _ (List.getElem_mem hi), fun i hi => h.der i hi, h.apart⟩
  refine ⟨h.bounds, h.tree, (objects_iff S).2 h.objs, queues_from h.objs.1.1 h.objs.2.1.1 h.objs.2.2.1.1 h.thr h.que h.rep, fun i hi => ?_, (acyc_both (bounds_bits h.bounds) S h.homes).2 h.empt⟩
  rw [slotAt_parts, home_lies S hi, h.homes i hi, (born_all h.tree).2 S i hi]; rfl

end Go.Proofs.YtigpbjcmmgdiaaaGreat
/-
 States that say the same: both short, both compared alike.
-/
namespace Go.Proofs.YtigpbjcmmgdiaaaGreat
open Go.ChangeShapes Go.WideShapes Go.ChangeAt Go.RowKit
set_option linter.unusedVariables false

theorem short_of {K K' : QK} (h : K'.pl = K.pl) (s : K.Short) : K'.Short := by
 have p3 : K'.sl = K.sl := congrArg (fun p => p.2.1) h
 have p4 : K'.tl = K.tl := congrArg (fun p => p.2.2.1) h
 have p5 : K'.el.map QE.pl = K.el.map QE.pl := congrArg (fun p => p.2.2.2.1) h
 have p6 : K'.nl.map QN.pl = K.nl.map QN.pl := congrArg (fun p => p.2.2.2.2.1) h
 have p7 : K'.fl.map QF.pl = K.fl.map QF.pl := congrArg (fun p => p.2.2.2.2.2.1) h
 have p8 : [K'.r0, K'.r1, K'.r2, K'.r3, K'.r4, K'.r5, K'.r6, K'.r7].map QR.l = [K.r0, K.r1, K.r2, K.r3, K.r4, K.r5, K.r6, K.r7].map QR.l := congrArg (fun p => p.2.2.2.2.2.2) h
 have l5 : K'.el.length = K.el.length := by have := congrArg List.length p5; simpa using this
 have l6 : K'.nl.length = K.nl.length := by have := congrArg List.length p6; simpa using this
 have l7 : K'.fl.length = K.fl.length := by have := congrArg List.length p7; simpa using this
 refine ⟨by rw [p3]; exact s.s, by rw [p4]; exact s.t, by rw [l5]; exact s.e, fun x hx => ?_, by rw [l6]; exact s.n, fun x hx => ?_, by rw [l7]; exact s.f, fun x hx => ?_, fun x hx => ?_⟩
 ·have h1 : x.pl ∈ K.el.map QE.pl := by rw [← p5]; exact List.mem_map_of_mem hx
  obtain ⟨y, hy, e⟩ := List.mem_map.1 h1
  have e2 : y.l = x.l := congrArg (fun p => p.2.2) e
  rw [← e2]; exact s.ei y hy
 ·have h1 : x.pl ∈ K.nl.map QN.pl := by rw [← p6]; exact List.mem_map_of_mem hx
  obtain ⟨y, hy, e⟩ := List.mem_map.1 h1
  have e2 : y.l = x.l := congrArg (fun p => p.2.2.2) e
  rw [← e2]; exact s.ni y hy
 ·have h1 : x.pl ∈ K.fl.map QF.pl := by rw [← p7]; exact List.mem_map_of_mem hx
  obtain ⟨y, hy, e⟩ := List.mem_map.1 h1
  have e2 : y.l = x.l := congrArg (fun p => p.2) e
  rw [← e2]; exact s.fi y hy
 ·have h1 : x.l ∈ [K.r0, K.r1, K.r2, K.r3, K.r4, K.r5, K.r6, K.r7].map QR.l := by rw [← p8]; exact List.mem_map_of_mem hx
  obtain ⟨y, hy, e⟩ := List.mem_map.1 h1
  rw [← e]; exact s.r y hy

end Go.Proofs.YtigpbjcmmgdiaaaGreat
/-
 The integers of a state are such of 64 bits.
-/
namespace Go.Proofs.YtigpbjcmmgdiaaaGreat
open Go.ChangeShapes Go.WideShapes Go.ChangeAt Go.RowKit
set_option linter.unusedVariables false

structure QK.Fits (K : QK) : Prop where
 s : ∀ s ∈ K.sl, s.Fit
 t : ∀ t ∈ K.tl, FitI t.a0
 e : ∀ e ∈ K.el, ∀ a ∈ e.l, FitI a
 n : ∀ n ∈ K.nl, ∀ a ∈ n.l, FitI a
 r : ∀ q ∈ [K.r0, K.r1, K.r2, K.r3, K.r4, K.r5, K.r6, K.r7], ∀ a ∈ q.l, FitI a
theorem fits_of {K K' : QK} (h : K'.pl = K.pl) (s : K.Fits) : K'.Fits := by
 have p3 : K'.sl = K.sl := congrArg (fun p => p.2.1) h
 have p4 : K'.tl = K.tl := congrArg (fun p => p.2.2.1) h
 have p5 : K'.el.map QE.pl = K.el.map QE.pl := congrArg (fun p => p.2.2.2.1) h
 have p6 : K'.nl.map QN.pl = K.nl.map QN.pl := congrArg (fun p => p.2.2.2.2.1) h
 have p8 : [K'.r0, K'.r1, K'.r2, K'.r3, K'.r4, K'.r5, K'.r6, K'.r7].map QR.l = [K.r0, K.r1, K.r2, K.r3, K.r4, K.r5, K.r6, K.r7].map QR.l := congrArg (fun p => p.2.2.2.2.2.2) h
 refine ⟨by rw [p3]; exact s.s, by rw [p4]; exact s.t, fun x hx => ?_, fun x hx => ?_, fun x hx => ?_⟩
 ·have h1 : x.pl ∈ K.el.map QE.pl := by rw [← p5]; exact List.mem_map_of_mem hx
  obtain ⟨y, hy, e⟩ := List.mem_map.1 h1
  have e2 : y.l = x.l := congrArg (fun p => p.2.2) e
  rw [← e2]; exact s.e y hy
 ·have h1 : x.pl ∈ K.nl.map QN.pl := by rw [← p6]; exact List.mem_map_of_mem hx
  obtain ⟨y, hy, e⟩ := List.mem_map.1 h1
  have e2 : y.l = x.l := congrArg (fun p => p.2.2.2) e
  rw [← e2]; exact s.n y hy
 ·have h1 : x.l ∈ [K.r0, K.r1, K.r2, K.r3, K.r4, K.r5, K.r6, K.r7].map QR.l := by rw [← p8]; exact List.mem_map_of_mem hx
  obtain ⟨y, hy, e⟩ := List.mem_map.1 h1
  rw [← e]; exact s.r y hy

end Go.Proofs.YtigpbjcmmgdiaaaGreat
