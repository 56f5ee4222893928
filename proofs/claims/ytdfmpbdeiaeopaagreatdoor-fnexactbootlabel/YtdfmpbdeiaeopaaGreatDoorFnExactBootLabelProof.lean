/-
  Proved: BootLabel of the program answers, at every plan, what BootLabel of the specification answers, and writes nothing into it; the law FnExactBootLabel returns true at every argument. Conditions: the five errors of the package that the row lists read as the program's own text lays them; the card ties that.
-/
import Derived.Test.YtdfmpbdeiaeopaaGreatDoorCards
import Derived.Test.YtdfmpbdeiaeopaaGreatDoorTie
import Derived.Test.YtdfmpbdeiaeopaaGreatDoorBootLabelAll
import Derived.Test.YtdfmpbdeiaeopaaGreatDoorBootSents
import Derived.WalkKit
import Derived.ProofKit
import Derived.OpenShut
import Derived.ChangeOld
import Derived.Below
import Derived.Deep.DeepHandedRow
import Derived.LaidSub
import Derived.LaidMore
import Derived.Lay
import Derived.OpenVars
namespace Go.Proofs.YtdfmpbdeiaeopaaGreatDoor.fnExactBootLabel
open Go.ChangeShapes Go.WideShapes Go.ChangeAt Go.RowKit
set_option linter.unusedVariables false

theorem own : ownKnob Tryz.prog.godebug = none := by kernel_rfl
theorem laidOut : laidOutB Tryz.prog = true := by kernel_rfl
theorem star : "*" ++ "errors.errorString" = "*errors.errorString" := by decide
theorem rowE (u : TypeId) (h : Tryz.prog.typeName? 3 u = some "*errors.errorString") : u = 219 :=
  typeName_ptr_named (nm := "errors.errorString") (by rw [star]; kernel_rfl) (by kernel_rfl) (by decide) u (by rw [star]; exact h)
theorem only_errBootCount : Rows.fnExactBootLabelRow.laid.filter (fun x => x.1 == "loop.example/donjon/impl.errBootCount") = [("loop.example/donjon/impl.errBootCount", Rows.laid_loop_example_donjon_impl_errBootCount)] := by kernel_rfl
theorem is_errBootCount {W : World} (h : laidMetH Tryz.prog Rows.fnExactBootLabelRow.laid W) : ∃ a : Addr, W.cell? ⟨0, 0, none⟩ = some (eV a) ∧ IsE W (eV a) := by
  have h2 := laidMetH.filter (fun x => x.1 == "loop.example/donjon/impl.errBootCount") h
  rw [only_errBootCount] at h2
  exact sentinel1 h2 (by kernel_rfl) (by kernel_rfl) rowE
theorem only_errBootSize : Rows.fnExactBootLabelRow.laid.filter (fun x => x.1 == "loop.example/donjon/impl.errBootSize") = [("loop.example/donjon/impl.errBootSize", Rows.laid_loop_example_donjon_impl_errBootSize)] := by kernel_rfl
theorem is_errBootSize {W : World} (h : laidMetH Tryz.prog Rows.fnExactBootLabelRow.laid W) : ∃ a : Addr, W.cell? ⟨1, 0, none⟩ = some (eV a) ∧ IsE W (eV a) := by
  have h2 := laidMetH.filter (fun x => x.1 == "loop.example/donjon/impl.errBootSize") h
  rw [only_errBootSize] at h2
  exact sentinel1 h2 (by kernel_rfl) (by kernel_rfl) rowE
theorem only_errBootNumber : Rows.fnExactBootLabelRow.laid.filter (fun x => x.1 == "loop.example/donjon/impl.errBootNumber") = [("loop.example/donjon/impl.errBootNumber", Rows.laid_loop_example_donjon_impl_errBootNumber)] := by kernel_rfl
theorem is_errBootNumber {W : World} (h : laidMetH Tryz.prog Rows.fnExactBootLabelRow.laid W) : ∃ a : Addr, W.cell? ⟨2, 0, none⟩ = some (eV a) ∧ IsE W (eV a) := by
  have h2 := laidMetH.filter (fun x => x.1 == "loop.example/donjon/impl.errBootNumber") h
  rw [only_errBootNumber] at h2
  exact sentinel1 h2 (by kernel_rfl) (by kernel_rfl) rowE
theorem only_errBootNamed : Rows.fnExactBootLabelRow.laid.filter (fun x => x.1 == "loop.example/donjon/impl.errBootNamed") = [("loop.example/donjon/impl.errBootNamed", Rows.laid_loop_example_donjon_impl_errBootNamed)] := by kernel_rfl
theorem is_errBootNamed {W : World} (h : laidMetH Tryz.prog Rows.fnExactBootLabelRow.laid W) : ∃ a : Addr, W.cell? ⟨3, 0, none⟩ = some (eV a) ∧ IsE W (eV a) := by
  have h2 := laidMetH.filter (fun x => x.1 == "loop.example/donjon/impl.errBootNamed") h
  rw [only_errBootNamed] at h2
  exact sentinel1 h2 (by kernel_rfl) (by kernel_rfl) rowE
theorem only_errBootRoom : Rows.fnExactBootLabelRow.laid.filter (fun x => x.1 == "loop.example/donjon/impl.errBootRoom") = [("loop.example/donjon/impl.errBootRoom", Rows.laid_loop_example_donjon_impl_errBootRoom)] := by kernel_rfl
theorem is_errBootRoom {W : World} (h : laidMetH Tryz.prog Rows.fnExactBootLabelRow.laid W) : ∃ a : Addr, W.cell? ⟨4, 0, none⟩ = some (eV a) ∧ IsE W (eV a) := by
  have h2 := laidMetH.filter (fun x => x.1 == "loop.example/donjon/impl.errBootRoom") h
  rw [only_errBootRoom] at h2
  exact sentinel1 h2 (by kernel_rfl) (by kernel_rfl) rowE
theorem trodVars_len {H : Type} {enc : TypeId × Value → H} {P : Program} {W : World} {sp : Nat → Bool} : ∀ {ns : List String} {gs : List (DataW H)} {ps : List MemPlace}, DataW.TrodVars enc P W sp ns gs ps → gs.length = ns.length
  | [], [], _, _ => rfl
  | [], _ :: _, _, h => h.elim
  | _ :: _, [], _, h => h.elim
  | _ :: _, _ :: _, _, h => by obtain ⟨_, _, _, _, _, _, _, _, _, _, hs, _⟩ := h; simp [trodVars_len hs]
theorem five {α : Type} : ∀ {L : List α}, L.length = 5 → ∃ a b c d e, L = [a, b, c, d, e]
  | [a, b, c, d, e], _ => ⟨a, b, c, d, e, rfl⟩
theorem sents {W : World} (h : laidMetH Tryz.prog Rows.fnExactBootLabelRow.laid W) : ∃ e0 e1 e2 e3 e4, Sents W e0 e1 e2 e3 e4 := by
  obtain ⟨e0, c0, i0⟩ := is_errBootCount h
  obtain ⟨e1, c1, i1⟩ := is_errBootSize h
  obtain ⟨e2, c2, i2⟩ := is_errBootNumber h
  obtain ⟨e3, c3, i3⟩ := is_errBootNamed h
  obtain ⟨e4, c4, i4⟩ := is_errBootRoom h
  exact ⟨e0, e1, e2, e3, e4, c0, c1, c2, c3, c4, i0, i1, i2, i3, i4⟩

theorem walk (w : World) (p : QP) (a : Int) (hP : PlanIn w p) (lP : p.Long) (fP : p.Fit) (e0 e1 e2 e3 e4 : Addr) (hS : Sents w e0 e1 e2 e3 e4) :
    Calls Tryz.prog 4 #[.agg #[.int .i64 p.bits, .slice p.dP p.dl.length p.dc, .slice p.lP p.ll.length p.lc], .int .i64 a] w fun e w' => e = .returned (.bool true) ∧ Below w.heap.size w w' := by
  by_cases hsz : (p.sz : Int) ≤ 1048576
  · exact bootLabLaw_any p a w e0 e1 e2 e3 e4 hS hP lP fP hsz _ rfl
  · exact bootLabLaw_great p a w hP lP hsz

set_option maxRecDepth 100000 in
set_option maxHeartbeats 2000000 in
theorem contract (H : Type) (enc : TypeId × Value → H) (W : World) (base : Nat) (args : Array Value) (ds gs : List (DataW H)) (before : List MemPlace)
    (hval : ∀ (j : Nat) t v, Tryz.f4.params[j]? = some t → args[j]? = some v → Value.okWide Tryz.prog W .any base t v)
    (hW : DataW.Whole enc Tryz.prog Tryz.f4.params.toList Rows.fnExactBootLabelSpec.vars false W args.toList ds gs before) (hL : laidMetH Tryz.prog Rows.fnExactBootLabelRow.laid W) :
    Calls Tryz.prog 4 args W fun e W' => ∃ v, e = .returned v ∧ Rows.fnExactBootLabelSpec.post enc Tryz.prog Tryz.f4 false true false false W args v W' := by
  have hW' := hW
  obtain ⟨p, q, hA0, hV, rfl, hfz, hnd⟩ := hW
  have hA : DataW.TrodAll enc Tryz.prog W 0 (fun _ => true) true Tryz.f4.params.toList args.toList ds p := hA0
  rw [Tryz.params4] at hA hval
  obtain ⟨v0, vs0, D0, Ds0, P0, Q0, hargs, rfl, rfl, h0, R0⟩ := trodAll_cons hA
  obtain ⟨v1, vs1, D1, Ds1, P1, Q1, rfl, rfl, rfl, h1, R1⟩ := trodAll_cons R0
  obtain ⟨rfl, rfl, rfl⟩ := trodAll_nil R1
  obtain rfl : args = #[v0, v1] := by cases args; simp_all
  obtain ⟨g1, g2, g3, g4, g5, rfl⟩ := five (trodVars_len hV)
  have t0 := h0
  have lt0 : ∀ x ∈ P0, x.block < W.heap.size := by obtain ⟨m, hm⟩ := t0; exact DataW.trod_lt m _ _ _ hm
  obtain ⟨p, rfl, hP, lP, fP⟩ := open_plan (hval 0 25 v0 rfl rfl) h0
  obtain ⟨e0, e1, e2, e3, e4, hS⟩ := sents hL
  obtain ⟨a1, rfl, rfl, rfl, wf1⟩ := open_int Tryz.underlying3 (hval 1 3 v1 rfl rfl) h1
  clear hA0
  refine (walk W p a1 hP lP fP e0 e1 e2 e3 e4 hS).mono fun e W' ⟨he, bel⟩ => ?_
  subst he
  exact ⟨_, rfl, _, _, _, [], _, _, hW', trodAll_mk1 (shut_bool Tryz.underlying4 _), (trodAll_cons_mk (Below.trod laidOut (by kernel_rfl) (of_decide_eq_true (by kernel_rfl)) t0 bel lt0) (trodAll_cons_mk (shut_int Tryz.underlying3 wf1) trodAll_mk0)), Below.trodVars laidOut bel (by kernel_rfl) hV, bel.frame _, fun h => by cases h⟩

theorem laid_met (os : Os) : laidMet Tryz.prog Rows.fnExactBootLabelRow.laid ((World.laidAll Tryz.prog os Rows.fnExactBootLabelRow.laid).forCall (fun _ _ => 0) ⟨#[], #[.agg #[.int .i64 0, .slice none 0 0, .slice none 0 0], .int .i64 0], []⟩).memory :=
  laidMet_laidAll _ (by kernel_rfl) (by kernel_rfl)
theorem reads_some (os : Os) {H : Type} (enc : TypeId × Value → H) : (DataW.whole enc Tryz.prog ((World.laidAll Tryz.prog os Rows.fnExactBootLabelRow.laid).forCall (fun _ _ => 0) ⟨#[], #[.agg #[.int .i64 0, .slice none 0 0, .slice none 0 0], .int .i64 0], []⟩).memory Tryz.f4.params.toList Rows.fnExactBootLabelSpec.vars false #[Value.agg #[.int .i64 0, .slice none 0 0, .slice none 0 0], .int .i64 0].toList 8).isSome = true := by kernel_rfl
theorem reads (os : Os) {H : Type} (enc : TypeId × Value → H) : ∃ x, DataW.whole enc Tryz.prog ((World.laidAll Tryz.prog os Rows.fnExactBootLabelRow.laid).forCall (fun _ _ => 0) ⟨#[], #[.agg #[.int .i64 0, .slice none 0 0, .slice none 0 0], .int .i64 0], []⟩).memory Tryz.f4.params.toList Rows.fnExactBootLabelSpec.vars false #[Value.agg #[.int .i64 0, .slice none 0 0, .slice none 0 0], .int .i64 0].toList 8 = some x :=
  Option.isSome_iff_exists.1 (reads_some os enc)

set_option maxRecDepth 100000 in
theorem lifted (os : Os) (started : os.Started) (H : Type) (enc : TypeId × Value → H) (F : Stop.Interp) :
    ReturnsInHanded {} Tryz.checked os 4 .any ((OpenSpec.ofChange Rows.fnExactBootLabelSpec).preRow enc Tryz.prog Tryz.f4 Rows.fnExactBootLabelRow.domain false Rows.fnExactBootLabelRow.laid) (((OpenSpec.ofChange Rows.fnExactBootLabelSpec).at F).post enc Tryz.prog Tryz.f4 false true false false) := by
  obtain ⟨places, hx⟩ := reads os enc
  refine returnsInHanded_of_row (C := Tryz.checked) (s := OpenSpec.ofChange Rows.fnExactBootLabelSpec) own started (by kernel_rfl) Tryz.func4
    (witness_row_at (enc := enc) (C := Tryz.checked) false (World.laidAll Tryz.prog os Rows.fnExactBootLabelRow.laid) #[.agg #[.int .i64 0, .slice none 0 0, .slice none 0 0], .int .i64 0] (World.laidAll_os _ _ _) (by kernel_rfl) (by kernel_rfl) (by kernel_rfl)
      (OpenSpec.preRow_of_cond 8 hx (by kernel_rfl) (fun k hk => by cases hk) (by kernel_rfl) (laid_met os))) ?_
  intro W base args ds gs before hval hW _ _ _ hL _ _
  exact contract H enc W base args ds gs before hval hW hL

theorem said : Rows.FnExactBootLabelSaid :=
  OpenClaim.holds_of_cond 4 Tryz.f4 rfl rfl rfl rfl rfl rfl rfl ⟨rfl, rfl, rfl, rfl, rfl⟩ rfl rfl rfl rfl rfl (by kernel_rfl) Tryz.func4 (by kernel_rfl)
    (of_decide_eq_true (by kernel_rfl)) (by unfold Func.isWrapper; first | (rw [if_pos (by decide +kernel)]; kernel_rfl) | (rw [if_neg (by decide +kernel)]; exact ⟨rfl, rfl⟩))
    (fun os started H enc _ F => by rw [OpenClaim.pre_eq_preRow]; exact lifted os started H enc F)

theorem plain (f : FuncId) (fn : Func) (hf : Tryz.pinned.checked.prog.funcNamed "loop.example/donjon/laws.FnExactBootLabel" = some f) (hfn : Tryz.pinned.checked.prog.funcs[f]? = some fn) :
    true = Tryz.pinned.checked.prog.looks [] ∧ ∀ (j : Nat) t, fn.params[j]? = some t → Tryz.pinned.checked.prog.wantsStandIn t = false := by
  obtain rfl : f = 4 := Option.some.inj ((show Tryz.prog.funcNamed "loop.example/donjon/laws.FnExactBootLabel" = some 4 by kernel_rfl).symm.trans hf) |>.symm
  obtain rfl : fn = Tryz.f4 := (Option.some.inj (Tryz.func4.symm.trans hfn)).symm
  refine ⟨by kernel_rfl, fun j t ht => ?_⟩
  rw [Tryz.params4] at ht
  have h2 := Array.mem_of_getElem? ht
  simp at h2
  rcases h2 with h2 | h2
  · subst h2; exact (show Tryz.prog.wantsStandIn 25 = false by kernel_rfl)
  · subst h2; exact (show Tryz.prog.wantsStandIn 3 = false by kernel_rfl)

/-- The card. -/
theorem proved : Rows.FnExactBootLabelCardSaid :=
  Claim7.holds_tied_plain_at .later [] _ _ _ _ said (fun _ h => by cases h) (by kernel_rfl) (fun _ h => by cases h) fnExactBootLabel_row_tie rfl ⟨rfl, rfl⟩ (by kernel_rfl) rfl plain (by kernel_rfl)
#print axioms proved
end Go.Proofs.YtdfmpbdeiaeopaaGreatDoor.fnExactBootLabel
