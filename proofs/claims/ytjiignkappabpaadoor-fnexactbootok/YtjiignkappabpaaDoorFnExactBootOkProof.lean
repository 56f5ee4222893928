/-
  Proved: BootOk of the program answers, at every plan, what BootOk of the specification answers, and writes nothing into it; the law FnExactBootOk returns true at every argument. Conditions: the five errors of the package that the row lists read as the program's own text lays them; the card ties that.
-/
import Derived.Test.YtjiignkappabpaaDoorCards
import Derived.Test.YtjiignkappabpaaDoorTie
import Derived.Test.YtjiignkappabpaaDoorBootLawOk
import Derived.Test.YtjiignkappabpaaDoorBootSents
import Derived.WalkKit
import Derived.ProofKit
import Derived.OpenShut
import Derived.ChangeOld
import Derived.Below
import Derived.Deep.DeepHandedRow
import Derived.LaidSub
import Derived.LaidMore
import Derived.Lay
import Derived.OpenVars
namespace Go.Proofs.YtjiignkappabpaaDoor.fnExactBootOk
open Go.ChangeShapes Go.WideShapes Go.ChangeAt Go.RowKit
set_option linter.unusedVariables false

theorem own : ownKnob Tryd.prog.godebug = none := by kernel_rfl
theorem laidOut : laidOutB Tryd.prog = true := by kernel_rfl
theorem star : "*" ++ "errors.errorString" = "*errors.errorString" := by decide
theorem rowE (u : TypeId) (h : Tryd.prog.typeName? 3 u = some "*errors.errorString") : u = 131 :=
  typeName_ptr_named (nm := "errors.errorString") (by rw [star]; kernel_rfl) (by kernel_rfl) (by decide) u (by rw [star]; exact h)
theorem only_errBootCount : Rows.fnExactBootOkRow.laid.filter (fun x => x.1 == "loop.example/donjon/impl.errBootCount") = [("loop.example/donjon/impl.errBootCount", Rows.laid_loop_example_donjon_impl_errBootCount)] := by kernel_rfl
theorem is_errBootCount {W : World} (h : laidMetH Tryd.prog Rows.fnExactBootOkRow.laid W) : ∃ a : Addr, W.cell? ⟨0, 0, none⟩ = some (eV a) ∧ IsE W (eV a) := by
  have h2 := laidMetH.filter (fun x => x.1 == "loop.example/donjon/impl.errBootCount") h
  rw [only_errBootCount] at h2
  exact sentinel1 h2 (by kernel_rfl) (by kernel_rfl) rowE
theorem only_errBootSize : Rows.fnExactBootOkRow.laid.filter (fun x => x.1 == "loop.example/donjon/impl.errBootSize") = [("loop.example/donjon/impl.errBootSize", Rows.laid_loop_example_donjon_impl_errBootSize)] := by kernel_rfl
theorem is_errBootSize {W : World} (h : laidMetH Tryd.prog Rows.fnExactBootOkRow.laid W) : ∃ a : Addr, W.cell? ⟨1, 0, none⟩ = some (eV a) ∧ IsE W (eV a) := by
  have h2 := laidMetH.filter (fun x => x.1 == "loop.example/donjon/impl.errBootSize") h
  rw [only_errBootSize] at h2
  exact sentinel1 h2 (by kernel_rfl) (by kernel_rfl) rowE
theorem only_errBootNumber : Rows.fnExactBootOkRow.laid.filter (fun x => x.1 == "loop.example/donjon/impl.errBootNumber") = [("loop.example/donjon/impl.errBootNumber", Rows.laid_loop_example_donjon_impl_errBootNumber)] := by kernel_rfl
theorem is_errBootNumber {W : World} (h : laidMetH Tryd.prog Rows.fnExactBootOkRow.laid W) : ∃ a : Addr, W.cell? ⟨2, 0, none⟩ = some (eV a) ∧ IsE W (eV a) := by
  have h2 := laidMetH.filter (fun x => x.1 == "loop.example/donjon/impl.errBootNumber") h
  rw [only_errBootNumber] at h2
  exact sentinel1 h2 (by kernel_rfl) (by kernel_rfl) rowE
theorem only_errBootNamed : Rows.fnExactBootOkRow.laid.filter (fun x => x.1 == "loop.example/donjon/impl.errBootNamed") = [("loop.example/donjon/impl.errBootNamed", Rows.laid_loop_example_donjon_impl_errBootNamed)] := by kernel_rfl
theorem is_errBootNamed {W : World} (h : laidMetH Tryd.prog Rows.fnExactBootOkRow.laid W) : ∃ a : Addr, W.cell? ⟨3, 0, none⟩ = some (eV a) ∧ IsE W (eV a) := by
  have h2 := laidMetH.filter (fun x => x.1 == "loop.example/donjon/impl.errBootNamed") h
  rw [only_errBootNamed] at h2
  exact sentinel1 h2 (by kernel_rfl) (by kernel_rfl) rowE
theorem only_errBootRoom : Rows.fnExactBootOkRow.laid.filter (fun x => x.1 == "loop.example/donjon/impl.errBootRoom") = [("loop.example/donjon/impl.errBootRoom", Rows.laid_loop_example_donjon_impl_errBootRoom)] := by kernel_rfl
theorem is_errBootRoom {W : World} (h : laidMetH Tryd.prog Rows.fnExactBootOkRow.laid W) : ∃ a : Addr, W.cell? ⟨4, 0, none⟩ = some (eV a) ∧ IsE W (eV a) := by
  have h2 := laidMetH.filter (fun x => x.1 == "loop.example/donjon/impl.errBootRoom") h
  rw [only_errBootRoom] at h2
  exact sentinel1 h2 (by kernel_rfl) (by kernel_rfl) rowE
theorem trodVars_len {H : Type} {enc : TypeId × Value → H} {P : Program} {W : World} {sp : Nat → Bool} : ∀ {ns : List String} {gs : List (DataW H)} {ps : List MemPlace}, DataW.TrodVars enc P W sp ns gs ps → gs.length = ns.length
  | [], [], _, _ => rfl
  | [], _ :: _, _, h => h.elim
  | _ :: _, [], _, h => h.elim
  | _ :: _, _ :: _, _, h => by obtain ⟨_, _, _, _, _, _, _, _, _, _, hs, _⟩ := h; simp [trodVars_len hs]
theorem five {α : Type} : ∀ {L : List α}, L.length = 5 → ∃ a b c d e, L = [a, b, c, d, e]
  | [a, b, c, d, e], _ => ⟨a, b, c, d, e, rfl⟩
theorem sents {W : World} (h : laidMetH Tryd.prog Rows.fnExactBootOkRow.laid W) : ∃ e0 e1 e2 e3 e4, Sents W e0 e1 e2 e3 e4 := by
  obtain ⟨e0, c0, i0⟩ := is_errBootCount h
  obtain ⟨e1, c1, i1⟩ := is_errBootSize h
  obtain ⟨e2, c2, i2⟩ := is_errBootNumber h
  obtain ⟨e3, c3, i3⟩ := is_errBootNamed h
  obtain ⟨e4, c4, i4⟩ := is_errBootRoom h
  exact ⟨e0, e1, e2, e3, e4, c0, c1, c2, c3, c4, i0, i1, i2, i3, i4⟩

theorem walk (w : World) (p : QP) (hP : PlanIn w p) (lP : p.Long) (fP : p.Fit) (e0 e1 e2 e3 e4 : Addr) (hS : Sents w e0 e1 e2 e3 e4) :
    Calls Tryd.prog 3 #[.agg #[.int .i64 p.bits, .slice p.dP p.dl.length p.dc, .slice p.lP p.ll.length p.lc]] w fun e w' => e = .returned (.bool true) ∧ Below w.heap.size w w' := by
  by_cases hsz : (p.sz : Int) ≤ 1048576
  · cases hb : planB p.pl
    · exact bootOkLaw_false p w e0 e1 e2 e3 e4 hS hP lP fP hsz hb
    · exact bootOkLaw_true p w e0 e1 e2 e3 e4 hS hP lP fP hsz hb
  · exact bootOkLaw_great p w hP lP hsz

set_option maxRecDepth 100000 in
set_option maxHeartbeats 2000000 in
theorem contract (H : Type) (enc : TypeId × Value → H) (W : World) (base : Nat) (args : Array Value) (ds gs : List (DataW H)) (before : List MemPlace)
    (hval : ∀ (j : Nat) t v, Tryd.f3.params[j]? = some t → args[j]? = some v → Value.okWide Tryd.prog W .any base t v)
    (hW : DataW.Whole enc Tryd.prog Tryd.f3.params.toList Rows.fnExactBootOkSpec.vars false W args.toList ds gs before) (hL : laidMetH Tryd.prog Rows.fnExactBootOkRow.laid W) :
    Calls Tryd.prog 3 args W fun e W' => ∃ v, e = .returned v ∧ Rows.fnExactBootOkSpec.post enc Tryd.prog Tryd.f3 false true false false W args v W' := by
  have hW' := hW
  obtain ⟨p, q, hA0, hV, rfl, hfz, hnd⟩ := hW
  have hA : DataW.TrodAll enc Tryd.prog W 0 (fun _ => true) true Tryd.f3.params.toList args.toList ds p := hA0
  rw [Tryd.params3] at hA hval
  obtain ⟨v0, vs0, D0, Ds0, P0, Q0, hargs, rfl, rfl, h0, R0⟩ := trodAll_cons hA
  obtain ⟨rfl, rfl, rfl⟩ := trodAll_nil R0
  obtain rfl : args = #[v0] := by cases args; simp_all
  obtain ⟨g1, g2, g3, g4, g5, rfl⟩ := five (trodVars_len hV)
  have t0 := h0
  have lt0 : ∀ x ∈ P0, x.block < W.heap.size := by obtain ⟨m, hm⟩ := t0; exact DataW.trod_lt m _ _ _ hm
  obtain ⟨p, rfl, hP, lP, fP⟩ := open_plan (hval 0 25 v0 rfl rfl) h0
  obtain ⟨e0, e1, e2, e3, e4, hS⟩ := sents hL
  clear hA0
  refine (walk W p hP lP fP e0 e1 e2 e3 e4 hS).mono fun e W' ⟨he, bel⟩ => ?_
  subst he
  exact ⟨_, rfl, _, _, _, [], _, _, hW', trodAll_mk1 (shut_bool Tryd.underlying4 _), (trodAll_cons_mk (Below.trod laidOut (by kernel_rfl) (of_decide_eq_true (by kernel_rfl)) t0 bel lt0) trodAll_mk0), Below.trodVars laidOut bel (by kernel_rfl) hV, bel.frame _, fun h => by cases h⟩

theorem laid_met (os : Os) : laidMet Tryd.prog Rows.fnExactBootOkRow.laid ((World.laidAll Tryd.prog os Rows.fnExactBootOkRow.laid).forCall (fun _ _ => 0) ⟨#[], #[.agg #[.int .i64 0, .slice none 0 0, .slice none 0 0]], []⟩).memory :=
  laidMet_laidAll _ (by kernel_rfl) (by kernel_rfl)
theorem reads_some (os : Os) {H : Type} (enc : TypeId × Value → H) : (DataW.whole enc Tryd.prog ((World.laidAll Tryd.prog os Rows.fnExactBootOkRow.laid).forCall (fun _ _ => 0) ⟨#[], #[.agg #[.int .i64 0, .slice none 0 0, .slice none 0 0]], []⟩).memory Tryd.f3.params.toList Rows.fnExactBootOkSpec.vars false #[Value.agg #[.int .i64 0, .slice none 0 0, .slice none 0 0]].toList 8).isSome = true := by kernel_rfl
theorem reads (os : Os) {H : Type} (enc : TypeId × Value → H) : ∃ x, DataW.whole enc Tryd.prog ((World.laidAll Tryd.prog os Rows.fnExactBootOkRow.laid).forCall (fun _ _ => 0) ⟨#[], #[.agg #[.int .i64 0, .slice none 0 0, .slice none 0 0]], []⟩).memory Tryd.f3.params.toList Rows.fnExactBootOkSpec.vars false #[Value.agg #[.int .i64 0, .slice none 0 0, .slice none 0 0]].toList 8 = some x :=
  Option.isSome_iff_exists.1 (reads_some os enc)

set_option maxRecDepth 100000 in
theorem lifted (os : Os) (started : os.Started) (H : Type) (enc : TypeId × Value → H) (F : Stop.Interp) :
    ReturnsInHanded {} Tryd.checked os 3 .any ((OpenSpec.ofChange Rows.fnExactBootOkSpec).preRow enc Tryd.prog Tryd.f3 Rows.fnExactBootOkRow.domain false Rows.fnExactBootOkRow.laid) (((OpenSpec.ofChange Rows.fnExactBootOkSpec).at F).post enc Tryd.prog Tryd.f3 false true false false) := by
  obtain ⟨places, hx⟩ := reads os enc
  refine returnsInHanded_of_row (C := Tryd.checked) (s := OpenSpec.ofChange Rows.fnExactBootOkSpec) own started (by kernel_rfl) Tryd.func3
    (witness_row_at (enc := enc) (C := Tryd.checked) false (World.laidAll Tryd.prog os Rows.fnExactBootOkRow.laid) #[.agg #[.int .i64 0, .slice none 0 0, .slice none 0 0]] (World.laidAll_os _ _ _) (by kernel_rfl) (by kernel_rfl) (by kernel_rfl)
      (OpenSpec.preRow_of_cond 8 hx (by kernel_rfl) (fun k hk => by cases hk) (by kernel_rfl) (laid_met os))) ?_
  intro W base args ds gs before hval hW _ _ _ hL _ _
  exact contract H enc W base args ds gs before hval hW hL

theorem said : Rows.FnExactBootOkSaid :=
  OpenClaim.holds_of_cond 3 Tryd.f3 rfl rfl rfl rfl rfl rfl rfl ⟨rfl, rfl, rfl, rfl, rfl⟩ rfl rfl rfl rfl rfl (by kernel_rfl) Tryd.func3 (by kernel_rfl)
    (of_decide_eq_true (by kernel_rfl)) (by unfold Func.isWrapper; first | (rw [if_pos (by decide +kernel)]; kernel_rfl) | (rw [if_neg (by decide +kernel)]; exact ⟨rfl, rfl⟩))
    (fun os started H enc _ F => by rw [OpenClaim.pre_eq_preRow]; exact lifted os started H enc F)

theorem plain (f : FuncId) (fn : Func) (hf : Tryd.pinned.checked.prog.funcNamed "loop.example/donjon/laws.FnExactBootOk" = some f) (hfn : Tryd.pinned.checked.prog.funcs[f]? = some fn) :
    true = Tryd.pinned.checked.prog.looks [] ∧ ∀ (j : Nat) t, fn.params[j]? = some t → Tryd.pinned.checked.prog.wantsStandIn t = false := by
  obtain rfl : f = 3 := Option.some.inj ((show Tryd.prog.funcNamed "loop.example/donjon/laws.FnExactBootOk" = some 3 by kernel_rfl).symm.trans hf) |>.symm
  obtain rfl : fn = Tryd.f3 := (Option.some.inj (Tryd.func3.symm.trans hfn)).symm
  refine ⟨by kernel_rfl, fun j t ht => ?_⟩
  rw [Tryd.params3] at ht
  obtain rfl : t = 25 := by simpa using Array.mem_of_getElem? ht
  exact (show Tryd.prog.wantsStandIn 25 = false by kernel_rfl)

/-- The card. -/
theorem proved : Rows.FnExactBootOkCardSaid :=
  Claim7.holds_tied_plain_at .later [] _ _ _ _ said (fun _ h => by cases h) (by kernel_rfl) (fun _ h => by cases h) fnExactBootOk_row_tie rfl ⟨rfl, rfl⟩ (by kernel_rfl) rfl plain (by kernel_rfl)
#print axioms proved
end Go.Proofs.YtjiignkappabpaaDoor.fnExactBootOk
